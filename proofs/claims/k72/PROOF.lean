import PyProof.Rows.All
import Wide.All
import OpenK.AllK
import Wide.FinOn
import Lean
import PyProof.EqAt
import PyProof.EqKinds
import PyProof.TupleCall
import KE.KMinKey
import KE.KLam
import PyProof.Rows.CallKwBuiltin
import PyProof.Rows.Range3
import PyProof.Rows.SeqMore2
import PyProof.SeqI3
import KE.KSortTup
import PyProof.ZipIter
import KE.KItemsList
import KE.KDictList
import KE.KRevIter
import PyProof.Rows.SetFrom
import PyProof.EnumMake
import PyProof.EnumStmt
import PyProof.EnumFor
import KE.KTryMore
import KE.KTryOn
import KE.KSortKey
import PyProof.ListRange
import PyProof.Rows.SumAny
import KE.KxPart
import KE.KIntText
import KE.IntTextLaws
import PyProof.StrWalks
import PyProof.Rows.StrJoin2
import PyProof.StrBlockI
import PyProof.StrOps2
import PyProof.Rows.FStr
import PyProof.Rows.StrMul
import KE.KDictMeth
import KE.KTabLook
import PyProof.StrLawsIn
import PyProof.StrLawsChain
import PyProof.StrLawsTight
import PyProof.Rows.StrItems
import KE.IntTextText
import PyProof.Rows.StrIntSpec
import PyProof.Rows.StrFromFirst
import KE.KTops
import PySem.Challenge.RW_tiewood_k72_rows_refused
set_option Elab.async false
set_option linter.all false
set_option maxRecDepth 100000
set_option maxHeartbeats 0
open PySem.Str renaming ofString->aa,join->lS,empty->tR,length_append->vE,length->EV,cps_append->O4
open PySem.W renaming Frag->ae,findIn->aJ,mg_of->aW,kitOne->bp,nsIn->bq,keepIn->bV,mg_none_of->bW,hideAll->cG,kia_one->dY,emptyDict->fH,plainGet->gx,fnOf->gI,hasDictIn->gW,hideAll_get->hV,instObj->iU,makesIn->iV,plainOver->i5,specialIn->i6,callWith_K->jN,mroIn->j8,codeIn->nN,takesIn->qJ,CodeHd->qM,of_hideAll->rT,OpenLaw->vC,isFn->vP,cellsFrom_some->vQ,methodCall_KW->xE,hideAll_none->yA,lookIn->yE,InstAt->yF,looks_findIn->yG,exmOne->yL,plainGet_of->zX,kla_obj->Bw,methodObj->Dj,takerIn->Hz,kitCls->Jy,nsMap_none_of_in->MG,kat_cons->MH,kat_yes->MI,tabObj->OZ,callWith_K0->Sb,kas_rev->Sh,codeRec_of->Ud,isNs_of_in->Uo,katRev->Uq,kitx_list->UD,kitx_dict->UE,handedIn->WT,WalkO->WU,findObj->Xn,readsIn->Xp,findCls->Xq,nsOkIn->YN,notCls->YQ,clsIn->Zq
open List renaming mem_cons_of_mem->ag,mem_cons_self->ak,length_map->ao,mem_cons->az,mem_singleton->aK,getElem?_eq_some_iff->aP,mem_append_right->aU,getElem?_eq_getElem->bc,length_cons->bo,size_toArray->bu,map_cons->bx,length_append->bN,getElem?_map->bO,take_of_length_le->bS,mem_append->bX,map_append->bY,mem_of_getElem?->b8,replicate->cm,length_take->cE,mem_map_of_mem->cF,mem_map->cQ,mem_append_left->c6,length_drop->c8,lookup_cons->c9,map_map->dj,lookup->du,not_mem_nil->dG,mem_iff_getElem?->eC,append_assoc->eD,getElem?_append_right->eM,nodup_cons->eO,range->fT,filterMap_cons->fX,map_congr_left->fY,getElem?_append_left->gA,length_eq_zero_iff->hZ,take_add_one->jb,getLast?_append->jc,nodup_append->jd,getElem_mem->jH,getElem?_set_self->j6,append_nil->ke,getElem?_eq_none->kQ,all_eq_true->mh,find?_cons->nI,mem_filterMap->nK,zip_cons_cons->nM,drop_of_length_le->oP,getElem?_set_ne->qQ,length->qR,mapM_cons->tS,getElem?_cons_zero->vR,of_mem_zip->yH,length_nil->yI,length_replicate->zb,mem_of_mem_head?->ze,mem_of_mem_drop->z9,filter_append->DP,getLast?_cons->DQ,map_singleton->DR,take_sublist->Fn,ext_getElem?->Fo,cons_append->HJ,mem_range->MN,nodup_nil->MP,nodup_iff_pairwise_ne->MS,takeWhile_cons_of_pos->MT,getElem?_eq_none_iff->O0,any_cons->Pa,idxOf_lt_length_iff->Pc,map_take->Pd,sum_cons->Ph,getElem?_replicate->QY,pairwise_singleton->Q3,map_nil->Se,takeWhile_sublist->Sl,dropWhile_sublist->Sm,length_filter_le->Uh,countP_mono_left->Uk,eq_nil_or_concat->Us,concat_eq_append->Ut,perm_append_comm->Uu,map_eq_nil_iff->WZ,perm_singleton->W4,forIn_toArray->Xo,filterMap_map->Xr,all_eq_false->YS,length_range->YT,any_eq_true->Zk,countP_cons->Zm,map_snd_zip->Zo,take_append->Zs,perm_middle->Zu,take_length->Zv
open PySem renaming Addr->ah,Value->aj,wpAny_bind->ar,Shared->ax,Str->aL,wpAny_pure->aQ,sizeLine->aT,mainGlobals->aX,wpAny->aY,model->bg,starEach->bw,Program->bC,World->cW,Heap->dt,Stmt->dw,Around->dC,wpAny_mono->dF,compareOp->dP,FuncData->fv,bootBuiltins->fF,eval->fR,wpAny_holding->gf,wpAny_Call_Name_kw->gZ,backTo->iS,rawInt->iT,Obj->jo,cLine->jq,sysModules->jM,wpAny_typeNameOfWhole_keyiter->kR,wpAny_passesOwn->lJ,wpAny_truthy_bool->ma,foldedSetIterable->md,wpAny_newObj_type->mf,mem_of_lookup->mx,binaryOp->oi,wpAny_typeNameOf_keyiter->om,tupleKind_room_in1->pC,keywordEach->pE,NameKind->qH,holding->qI,recursionLimit->qK,codeAny_mono->qL,assignEach->rV,noteFrame->rW,codeAny->sO,attributeBase->sP,wpAny_loadName_local->tL,sliceBounds->tM,wpAny_execs_nil->uz,letOwnedTupleGo->uA,Scope->uE,Arguments->vB,Env->xC,standAt->yc,sizeLine_eq->yd,Pos->yz,wpAny_standAt->yC,wpAny_attempt->yK,getMethod->zY,backToKw->zZ,wpAny_call_entry->z5,wpAny_Name->Bt,wpAny_call->Bu,frameOf->Bz,compPost->ER,wpAny_newFunctionEnv->ES,wpAny_pyIter_keyiter->ET,wpAny_setField->EU,swapsWith->Fj,BindsTo->Fk,behindInMarks->HG,wpAny_newList->HH,assign->Ju,bindArgs->Mx,Keyword->My,valueAt->Mz,callerA->MA,wpAny_dictEntries->MF,intText?->MJ,Sem->MM,tupleKind->OW,inplaceOp->OX,pyNext->OY,setFlight->O2,onTheHeap->O3,atKey->Pb,wpAny_field->Pg,Within->QX,wpAny_dictEpoch->Q1,Tok->T8,callWith->Uc,wpAny_newFunctionEnv_cells->Ue,compEnvC->Ug,setField->Ul,quietNames->Um,call->WV,comprehension->WW,wpAny_comprehension_free->WX,bindL->Xg,bindC->Xh,cellsFrom->Xi,wpAny_callSpecial?_slot->Xl,getItem->YF,leaving->YG,Builtin->YH,wpAny_Call_method_late->YJ,codeAny_compStart_list->YK,entryPlaceOf->YM,codeAny_call_function->Zj,wpAny_isOneOf_keyiter->Zp
open PySem.Heap renaming get?_push_of_some->aA,lt_size->aS,get?_push_size->aZ,get?_update_other->j9,get?_update_self->qb,SameBut->yb,size_push->z8,get?_none_of_le->UC
open PySem.Value renaming ref->aB,none->dE,int->jE,builtin->kg,type->lI,str->sN,bool->xD,float->T9
open Option.some renaming inj->aD,injEq->rQ
open Nat renaming le_refl->aE,lt_of_le_of_lt->aV,ne_of_lt->bb,lt_of_lt_of_le->bG,le_trans->bU,zero_le->dm,lt_irrefl->iE,succ_le_succ->qN,le_succ_of_le->vD,le_of_lt->yB,ne_of_gt->yD,min_eq_left->zd,le_succ->Bv,lt_succ_self->Jv,min_eq_right->Jw,le_of_eq->Ub,sub_self->Ui,succ_pos->Ux,pow_le_pow_right->WY,le_zero->W2,add_le_add_left->Xk,lt_succ_of_lt->Zl
open PySem.NameKind renaming free->bE,cell->ij
open Bool renaming false_ne_true->bF,and_eq_true->cq,false_eq_true->iJ,false_and->jF,true_and->kP,eq_iff_iff->nH,or_eq_true->yJ,false_or->Dp,decide_and->Kh,and_false->MQ,and_self->Pi,true_or->Sg,and_eq_false_iff->Uv
open Sum renaming inl->bK,inr->Hy
open PyProof.Rows renaming seqObj->b9,envOfC->lz,IntsAre->oO,AllBare->ve,IsTup->vO,callWith_type1->Dm,News->EO,StrTab->HC,listUpdate_at->HI,listItems_at->ME,get?_update_seq->Q0,Subscript_->Ua,joinParts_cons->Ur,lt_int->Xd,subscriptTail_builtinR->YI,iadd_int->Zi,formatField_int_small->Zr
open PySem.Obj renaming mapSeq->cD,mapFields->nJ,data_mapFields->uC,isFreed_of_fields->UF
open PySem.F renaming plainAttrs_list->cR,slot_list_append->dA,type_list_append->dB,plainAttrs_str->fI,slot_str_partition->lA,type_str_partition->lB,slot_list_index->mL,slot_dict_getitem->Ke,args_list_index_2->Kg,entry_list_index->MB,type_list_index->MU,slot_str_split->O5,type_str_split->O6
open False renaming elim->dh
open List.cons renaming inj->dZ
open Array renaming length_toList->eA,getElem?_toList->kO,getElem?_eq_some_iff->tO,getElem?_eq_getElem->uB,toList_append->By,append_assoc->Dl,toList_inj->HA,getD->MC,perm_iff_toList_perm->MD,getElem?_eq_none->Q2,all_toList->YO
open ForInStep renaming yield->iI
open PySem.Spec renaming lookup->iK,same->DT
open PySem.SeqAt.EqAt renaming int_int->jy
open Prod.mk renaming inj->jG
open PySem.PassesOwn renaming never->jO
open Option renaming map_eq_some_iff->jS,isSome_map->DO,isSome_iff_exists->MO,getD_none->Xj,none_or->Zw
open True renaming intro->j7
open PySem.PyData renaming depthAll->ka,canLayAll0->kN,eqv->pF,canLay0->zc,depth->Pk
open Int renaming toNat_natCast->pB,emod_lt_of_pos->uD,emod_nonneg->zf,le_of_lt->Uj,pow_succ->Uw,natAbs_natCast->YR
open PySem.Heap.SameBut renaming update->pD
open List.Perm renaming cons->xF,refl->HB,append_left->MR
open PySem.Builtin.Dict_items renaming ownsTuple->ye
open PySem.EntryCells renaming newEntry->yf
open PySem.Calls renaming evalArgs_plain->z4,spliced_cons->Do,Name_function_global->Mw,callWith_builtin->QZ,spliced_nil->Xe
open PySem.Builtin.ObjectAttr renaming bindTo->z6
open PySem.Paired renaming length->Bs
open PySem.W.UpdF renaming head->Bx
open PySem.StrLaws renaming subAt_one->Dq,strSub_toList->Pj
open PySem.Builtin.Str renaming occurrences->HF
open PySem.Builtin.Dict renaming showsAll->Jx
open Nat.succ renaming inj->MV
open PySem.readyFrames renaming eq_def->O1
open PySem.Around renaming under->O9,frames_deeper->Sd,under_plainId->Sj
open PySem.W.KasFin renaming intro->Pe
open Sum.inl renaming inj->QW
open PySem.Code renaming isFrame->Sa
open PySem.Builtin.ObjectAttr.Found renaming bind->Sk
open PySem.Heap.Ns renaming of_isNs->Xm
open StateT renaming run_pure->YL
section
open PySem PySem.Spec PyProof.Rows
namespace L2
variable {s s':ax}{pos p pos' apos:yz}{x m qual name:aL}{A:dC}{pins:List (ah×jo)}{u v:aj}{h h' g base:dt}{a C b dx f L it:ah}{K:ae}{w:cW}{E Q:aj->ax->Prop}{e tg c:Expr}{P prog:bC}{us:List aj}{k t' i n:Nat}{es:List Expr}{o:jo}{M:Model}{pl:MM Bool}{ps N:List aL}{kindOf:aL->Option qH}{ch fp:List ah}{op:Operator}{body:List dw}{mA mg:aL->Option aj}{kw:List (aL×aj)}{fd:fv}{g':Array GenState}{d':Drawn}{outer:List xC}{scope:uE}
abbrev ig:=Sum Int aL
def Fp:ig->aj->Bool
 | .inl k,v=>Value.isInt k v
 | .inr x,v=>Value.isStrOf x v
def keyH (w:cW):ig->Int
 | .inl k=>hashInt k
 | .inr x=>hashStr w x
theorem h8:∀ {k:ig}{v:aj},Fp k v=true->(∃ i t,k=bK i/\v=jE i t)\/(∃ x t,k=Hy x/\v=sN x t)
 | .inl i,v,h=>by
  obtain ⟨t,e⟩:=Value.isInt_shape (k:=i) (v:=v) h
  exact .inl ⟨i,t,rfl,e⟩
 | .inr x,v,h=>by
  obtain ⟨t,e⟩:=Value.isStrOf_shape (x:=x) (v:=v) h;exact .inr ⟨x,t,rfl,e⟩
theorem Sn (i:Int) (t:T8):Fp (.inl i) (.int i t)=true:=by simp [Fp,Value.isInt]
theorem So (x:aL) (t:T8):Fp (.inr x) (.str x t)=true:=by simp [Fp,Value.isStrOf]
theorem Zx (a b:Int):decide ((bK a:ig)=bK b)=(a == b):=by
 by_cases e:a=b
 .subst e;simp
 .have h:¬ (bK a:ig)=bK b:=λq=>e (QW q);rw [decide_eq_false h];exact (beq_eq_false_iff_ne.mpr e).symm
theorem Zy (a b:aL):decide ((Hy a:ig)=Hy b)=decide (a=b):=by
 by_cases e:a=b
 .subst e;simp
 .have h:¬ (Hy a:ig)=Hy b:=λq=>e (Sum.inr.inj q);rw [decide_eq_false h,decide_eq_false e]
theorem Zz (a:Int) (b:aL):decide ((bK a:ig)=Hy b)=false:=decide_eq_false nofun
theorem ZA (a:aL) (b:Int):decide ((Hy a:ig)=bK b)=false:=decide_eq_false nofun
def i8 (prog:bC) (w:cW):PySem.KeyKind prog w ig where
 is:=Fp
 hash:=keyH w
 inj:=λv a b ha hb=>by
  rcases h8 ha with ⟨i,t,rfl,rfl⟩|⟨x,t,rfl,rfl⟩
  .rcases h8 hb with ⟨j,u,rfl,e⟩|⟨y,u,rfl,e⟩
   .injection e with e1 _;rw [e1]
   .exact nomatch e
  .rcases h8 hb with ⟨j,u,rfl,e⟩|⟨y,u,rfl,e⟩
   .exact nomatch e
   .injection e with e1 _;rw [e1]
 byValue:=λk v h=>by
  rcases h8 h with ⟨i,t,rfl,rfl⟩|⟨x,t,rfl,rfl⟩<;>rfl
 pyHash:=λhv h=>by
  rcases h8 hv with ⟨i,t,rfl,rfl⟩|⟨x,t,rfl,rfl⟩
  .exact wpAny_pyHash_int h
  .exact wpAny_pyHash_str h
 eqBool:=λhu hv h=>by
  rcases h8 hu with ⟨i,t,rfl,rfl⟩|⟨x,t,rfl,rfl⟩
  .rcases h8 hv with ⟨j,u,rfl,rfl⟩|⟨y,u,rfl,rfl⟩
   .rw [Zx] at h;exact wpAny_eqBool_int h
   .rw [Zz] at h;exact SeqAt.EqAt.int_str i t y u _ _ _ _ h
  .rcases h8 hv with ⟨j,u,rfl,rfl⟩|⟨y,u,rfl,rfl⟩
   .rw [ZA] at h;exact SeqAt.EqAt.str_int x t j u _ _ _ _ h
   .rw [Zy] at h;exact wpAny_eqBool_str h
 «strs»:=λk x t v h=>by
  rcases h8 h with ⟨i,u,rfl,e⟩|⟨y,u,rfl,e⟩
  .exact nomatch e
  .injection e with e1 _
   subst e1;cases v<;>rfl
theorem MW (prog:bC) (w:cW) (i:Int) (t:T8):(i8 prog w).is (.inl i) (.int i t)=true:=Sn i t
theorem MX (prog:bC) (w:cW) (x:aL) (t:T8):(i8 prog w).is (.inr x) (.str x t)=true:=So x t
inductive V where
 | non|bl (b:Bool)|int (i:Int)|str (x:aL)|byt (b:Array UInt8)|flt (b:UInt64)|ref (a:ah)|ty (n:String)
 deriving DecidableEq
def RelV:V->aj->Prop
 | .non,u=>u=dE
 | .bl b,u=>u=xD b
 | .int i,u=>∃ t,u=jE i t
 | .str x,u=>∃ t,u=sN x t
 | .byt b,u=>∃ t,u=Value.bytes b t
 | .flt b,u=>∃ t,u=T9 b t
 | .ref a,u=>u=aB a
 | .ty n,u=>u=lI n
abbrev Vals:List V->List aj->Prop:=Paired RelV
theorem Vals.length {xs:List V}(r:Vals xs us):xs.length=us.length:=Bs r
theorem Vals.get:∀ {xs:List V}{us:List aj}{i:Nat}{x:V},Vals xs us->xs[i]?=some x->∃ u,us[i]?=some u/\RelV x u
 | _,_,_,_,.nil,e=>by simp at e
 | _,_,0,_,.cons r _,e=>by simp at e;subst e;exact ⟨_,rfl,r⟩
 | _,_,i+1,x,.cons _ t,e=>by
  obtain ⟨u,h1,h2⟩:=Vals.get (i:=i) (x:=x) t (by simpa using e);exact ⟨u,by simpa using h1,h2⟩
theorem Vals.set {x:V}(r:RelV x u):∀ {xs:List V}{us:List aj}(i:Nat),Vals xs us->Vals (xs.set i x) (us.set i u)
 | _,_,_,.nil=>.nil
 | _,_,0,.cons _ t=>.cons r t
 | _,_,i+1,.cons q t=>.cons q (Vals.set r i t)
theorem Vals.append:∀ {xs ys:List V}{us ws:List aj},Vals xs us->Vals ys ws->Vals (xs++ys) (us++ws)
 | _,_,_,_,.nil,s=>s
 | _,_,_,_,.cons r t,s=>.cons r (Vals.append t s)
theorem Vals.take:∀ {xs:List V}{us:List aj}(n:Nat),Vals xs us->Vals (xs.take n) (us.take n)
 | _,_,0,_=>.nil
 | _,_,_+1,.nil=>.nil
 | _,_,n+1,.cons r t=>.cons r (Vals.take n t)
theorem Vals.drop:∀ {xs:List V}{us:List aj}(n:Nat),Vals xs us->Vals (xs.drop n) (us.drop n)
 | _,_,0,r=>r
 | _,_,_+1,.nil=>.nil
 | _,_,n+1,.cons _ t=>Vals.drop n t
def xA:Option V->Option aj->Prop
 | some v,some u=>RelV v u
 | none,none=>True
 | _,_=>False
def KV {κ:Type}:List (κ×V)->List (κ×aj)->Prop:=Paired λ(p:κ×V) (q:κ×aj)=>p.1=q.1/\RelV p.2 q.2
def kV:ig->V
 | .inl i=>.int i
 | .inr x=>.str x
inductive HO where
  | lst (xs:List V)
  | tup (xs:List V)
  | dK (kvs:List (ig×V))|dT (kvs:List (List ig×V))
  | set (S:Int->Bool) (n:Nat)
  | ins (C dx:ah) (fs:List (aL×V))
  | own (x:ah)
  | xd (fs:List (aL×V))
  | met (f x:ah)
  | rng (lo hi:Int)
  | frz (o:jo) (u:HO)
  | tbl (ps:Array aj)
  | ext (φ:dt->Prop)
abbrev Hp:=ah->Option HO
def upd (H:Hp) (a:ah) (o:HO):Hp:=λb=>if b=a then some o else H b
theorem aH {H:Hp}{o:HO}:upd H a o a=some o:=by unfold upd;rw [if_pos rfl]
theorem aI {H:Hp}{o:HO}(h:b≠a):upd H a o b=H b:=by unfold upd;rw [if_neg h]
theorem mM {H:Hp}{o u:HO}(h:H a=some o) (h':H b=some u) (d:o≠u:=by intro z;cases z):a≠b:=by
 intro e;subst e;rw [h] at h';exact d (aD h')
theorem aG {H:Hp}{o:HO}(h:H a=some o) (h':H b=none):a≠b:=by
 intro e;subst e;rw [h] at h';cases h'
section
variable (P:bC) (w:cW)
def fq (H:Hp) (h:dt) (a:ah):HO->Prop
 | .lst xs=>xs.length<=aT/\∃ (its:List aj) (n:Nat),Vals xs its/\h.get? a=some { cls:=.type "list",data:=.seq its.toArray n }
 | .tup xs=>xs.length<=aT/\∃ its:List aj,Vals xs its/\vO h a its.toArray
 | .dK kvs=>kvs.length<=aT/\(a == jM)=false/\∃ vs,KV kvs vs/\h.DictOf (i8 P w) a vs
 | .dT kvs=>kvs.length<=aT/\(a == jM)=false/\∃ xs:List (List ig×ah×aj),
   Paired (λ(p:List ig×V) (q:List ig×ah×aj)=>p.1=q.1/\H q.2.1=some (.tup (p.1.map kV))/\RelV p.2 q.2.2) kvs xs /\
   ∃ o es ep,h.get? a=some o/\o.ExactDict/\o.data=.dict es ep/\es.toList=xs.map (entryOfKey (OW (i8 P w)))/\(xs.map (·.1)).Nodup
 | .set S n=>h.SetOf (intKind P w) a S n
 | .ins C dx fs=>H dx=some (.own a)/\fs.length<=1000/\dx≠a/\h.get? a=some (iU C dx) /\
   ∃ mA,h.Ns1 dx mA/\(∀ f,xA (fs.lookup f) (mA f))/\QX mA (fs.map (·.1))
 | .own _=>∃ o,h.get? a=some o
 | .xd fs=>∃ mA,h.Ns1 a mA/\∀ f,xA (fs.lookup f) (mA f)
 | .rng lo hi=>∃ t u v,h.get? a=some { cls:=.type "range",data:=.fields #[.int lo t,.int hi u,.int 1 v] }
 | .frz o u=>h.get? a=some o/\fq H h a u
 | .tbl ps=>h.get? a=some { cls:=.none,data:=.fields ps }
 | .met f x=>h.get? a=some (Dj (.ref f) (.ref x))
 | .ext φ=>φ h/\(∃ o,h.get? a=some o)/\∀ h1 h2:dt,φ h1->(∀ o,h1.get? a=some o->h2.get? a=some o)->φ h2
def vN (H:Hp) (h:dt):Prop:=∀ a o,H a=some o->fq P w H h a o
end
section
variable {H H':Hp}{o:HO}
theorem fq.lt (x:fq P w H h a o):a<h.objs.size:=by
 cases o with
 | lst xs=>obtain ⟨_,_,_,_,e⟩:=x;exact aS e
 | tup xs=>obtain ⟨_,_,_,p⟩:=x;exact p.lt
 | dK kvs=>obtain ⟨_,_,_,_,o,_,_,e,_⟩:=x;exact aS e
 | dT kvs=>obtain ⟨_,_,_,_,o,_,_,e,_⟩:=x;exact aS e
 | set S n=>obtain ⟨o,_,_,_,e,_⟩:=x;exact aS e
 | ins C dx fs=>obtain ⟨_,_,_,e,_⟩:=x;exact aS e
 | own y=>obtain ⟨_,e⟩:=x;exact aS e
 | xd fs=>obtain ⟨_,⟨_,_,_,e,_⟩,_⟩:=x;exact aS e
 | rng lo hi=>obtain ⟨_,_,_,e⟩:=x;exact aS e
 | frz ob u=>obtain ⟨e,_⟩:=x;exact aS e
 | tbl ps=>exact aS (show h.get? a=some _ from x)
 | met f y=>exact aS (show h.get? a=some _ from x)
 | ext φ=>obtain ⟨_,⟨_,e⟩,_⟩:=x;exact aS e
theorem Paired.TY {α β:Type} {F G:α->β->Prop}:∀ {l₁:List α} {l₂:List β},Paired F l₁ l₂->(∀ a b,F a b->G a b)->Paired G l₁ l₂
 | _,_,.nil,_=>.nil
 | _,_,.cons r t,f=>.cons (f _ _ r) (Paired.TY t f)
theorem fq.yx (x:fq P w H h a o) (k:∀ b u,(b=a\/H b=some (.own a))->h.get? b=some u->h'.get? b=some u)
  (ho:∀ b,H b=some (.own a)->H' b=some (.own a)) (ht:∀ b xs,H b=some (.tup xs)->H' b=some (.tup xs)):fq P w H' h' a o:=by
 induction o with
 | lst xs=>obtain ⟨z,its,n,r,e⟩:=x;exact ⟨z,its,n,r,k _ _ (.inl rfl) e⟩
 | tup xs=>obtain ⟨z,its,r,ob,e,c⟩:=x;exact ⟨z,its,r,ob,k _ _ (.inl rfl) e,c⟩
 | dK kvs=>obtain ⟨z,y,vs,r,ob,es,ep,e,c⟩:=x;exact ⟨z,y,vs,r,ob,es,ep,k _ _ (.inl rfl) e,c⟩
 | dT kvs =>
  obtain ⟨z,y,xs,r,ob,es,ep,e,c⟩:=x
  exact ⟨z,y,xs,Paired.TY r λp q z=>⟨z.1,ht _ _ z.2.1,z.2.2⟩,ob,es,ep,k _ _ (.inl rfl) e,c⟩
 | set S n=>obtain ⟨ob,es,ep,t,e,c⟩:=x;exact ⟨ob,es,ep,t,k _ _ (.inl rfl) e,c⟩
 | ins C dx fs =>
  obtain ⟨d,z,ne,e,mA,⟨od,es,ep,e2,c⟩,r⟩:=x
  exact ⟨ho _ d,z,ne,k _ _ (.inl rfl) e,mA,⟨od,es,ep,k _ _ (.inr d) e2,c⟩,r⟩
 | own y=>obtain ⟨ob,e⟩:=x;exact ⟨ob,k _ _ (.inl rfl) e⟩
 | xd fs=>obtain ⟨mA,⟨od,es,ep,e,c⟩,r⟩:=x;exact ⟨mA,⟨od,es,ep,k _ _ (.inl rfl) e,c⟩,r⟩
 | rng lo hi=>obtain ⟨t,u,v,e⟩:=x;exact ⟨t,u,v,k _ _ (.inl rfl) e⟩
 | frz ob u ih=>obtain ⟨e,q⟩:=x;exact ⟨k _ _ (.inl rfl) e,ih q⟩
 | tbl ps =>
  have e:h.get? a=some { cls:=.none,data:=.fields ps }:=x
  show h'.get? a=some { cls:=.none,data:=.fields ps }
  exact k a _ (.inl rfl) e
 | met f y =>
  have e:h.get? a=some (Dj (.ref f) (.ref y)):=x
  show h'.get? a=some (Dj (.ref f) (.ref y))
  exact k a _ (.inl rfl) e
 | ext φ=>obtain ⟨p,⟨o,e⟩,st⟩:=x;exact ⟨st _ _ p λo q=>k _ _ (.inl rfl) q,⟨o,k _ _ (.inl rfl) e⟩,st⟩
theorem vN.lt (x:vN P w H h) (e:H a=some o):a<h.objs.size:=(x a o e).lt
theorem vN.fresh (x:vN P w H h) (e:h.objs.size<=a):H a=none:=by
 cases q:H a with
 | none=>rfl
 | some u=>exact absurd (bG (x.lt q) e) (iE _)
theorem vN.kept (x:vN P w H h) (k:∀ b u,h.get? b=some u->h'.get? b=some u):vN P w H h':=λa o e =>
 (x a o e).yx (λb u _ q=>k b u q) (λ_ q=>q) λ_ _ q=>q
theorem vN.laid (x:vN P w H h) (k:∀ b u,h.get? b=some u->h'.get? b=some u) (hp:h.objs.size<=a) (new:fq P w (upd H a o) h' a o):vN P w (upd H a o) h':=λb u e=>by
 have hn:=x.fresh hp
 by_cases hb:b=a
 .subst hb;rw [aH] at e;cases e;exact new
 .rw [aI hb] at e
  exact (x b u e).yx (λc v _ q=>k c v q) (λc q=>by rw [aI (aG q hn)];exact q) λc xs q=>by rw [aI (aG q hn)];exact q
end
def Rd (H:Hp) (a:ah) (u:HO):Prop:=H a=some u\/∃ o,H a=some (.frz o u)
theorem Rd.ok {H:Hp}{u:HO}(r:Rd H a u) (x:vN P w H h):fq P w H h a u:=by
 rcases r with r|⟨o,r⟩
 .exact x a u r
 .obtain ⟨_,q⟩:=x a _ r;exact q
def Mut:Option HO->Prop
 | some (.lst _)=>True
 | some (.dK _)=>True
 | some (.dT _)=>True
 | some (.set _ _)=>True
 | some (.ins _ _ _)=>True
 | some (.ext _)=>True
 | _=>False
section
variable {H:Hp}{x e:ah}{o':HO}
theorem vN.write (ok:vN P w H h) (mu:Mut (H x)) (he:e=x\/H e=some (.own x)) (k:∀ b u,b≠e->h.get? b=some u->h'.get? b=some u) (heo:∃ u,h'.get? e=some u)
  (new:fq P w (upd H x o') h' x o'):vN P w (upd H x o') h':=λb u q=>by
 have nown:∀ c y,H c=some (.own y)->c≠x:=λc y r z=>by subst z;rw [r] at mu;exact mu
 have ntup:∀ c xs,H c=some (.tup xs)->c≠x:=λc xs r z=>by subst z;rw [r] at mu;exact mu
 by_cases hb:b=x
 .subst hb;rw [aH] at q;cases q;exact new
 .rw [aI hb] at q
  by_cases hbe:b=e
  .have q':H b=some (.own x):=by
    rcases he with z|z
    .exact absurd (hbe.trans z) hb
    .rw [hbe];exact z
   rw [q] at q';cases q';obtain ⟨v,hv⟩:=heo;exact ⟨v,by rw [hbe];exact hv⟩
  .refine (ok b u q).yx (λc v hc r=>k c v ?_ r) (λc r=>by rw [aI (nown c b r)];exact r) λc xs r=>by rw [aI (ntup c xs r)];exact r
   rcases hc with rfl|hc
   .exact hbe
   .rintro rfl
    rcases he with z|z
    .exact nown c b hc z
    .rw [hc] at z;cases z;exact hb rfl
end
structure Un (fs ex:List ah) (H H':Hp) (h h':dt):Prop where
 keep:∀ b o,h.get? b=some o->H b=none->b∉fs->b∉ex->h'.get? b=some o
 slot:∀ b o,h.get? b=some o->H b=none->b∈fs->b∉ex->∃ sl,h'.get? b=some { o with slots:=sl }
 free:∀ b o,h.get? b=some o->H b=none->b∉ex->H' b=none
 there:∀ b o,h.get? b=some o->b∉ex->∃ o',h'.get? b=some o'
 vd:∀ b xs,H b=some (.tup xs)->H' b=some (.tup xs)
 uv:∀ b o u,H b=some (.frz o u)->H' b=some (.frz o u)
 ux:∀ b ps,H b=some (.tbl ps)->∃ more,H' b=some (.tbl (ps++more))
section
variable {fs fs' ex ex':List ah}{H H1 H2:Hp}{h1 h2:dt}{x e:ah}{o:HO}
theorem Un.any (u:Un fs ex H H1 h h1) {b:ah}{ob:jo}(q:h.get? b=some ob) (n:H b=none) (hx:b∉ex):∃ sl,h1.get? b=some { ob with slots:=sl }:=by
 by_cases hb:b∈fs
 .exact u.slot b ob q n hb hx
 .exact ⟨ob.slots,u.keep b ob q n hb hx⟩
theorem Un.kept (k:∀ b u,h.get? b=some u->h'.get? b=some u):Un fs ex H H h h' :=
 ⟨λb ob q _ _ _=>k b ob q,λb ob q _ _ _=>⟨ob.slots,k b ob q⟩,λ_ _ _ n _=>n,λb ob q _=>⟨ob,k b ob q⟩,λ_ _ q=>q,λ_ _ _ q=>q,λ_ ps q=>⟨#[],by rw [q];simp⟩⟩
theorem Un.refl:Un fs ex H H h h:=Un.kept λ_ _ q=>q
theorem Un.laid (k:∀ b u,h.get? b=some u->h'.get? b=some u) (hp:h.objs.size<=a) (hn:H a=none):Un fs ex H (upd H a o) h h' where
 keep:=λb u q _ _ _=>k b u q
 slot:=λb u q _ _ _=>⟨u.slots,k b u q⟩
 free:=λb u q n _=>by rw [aI (bb (bG (aS q) hp))];exact n
 there:=λb u q _=>⟨u,k b u q⟩
 vd:=λb xs q=>by rw [aI (aG q hn)];exact q
 uv:=λb u xs q=>by rw [aI (aG q hn)];exact q
 ux:=λb ps q=>⟨#[],by rw [aI (aG q hn),q];simp⟩
theorem Un.write (mu:Mut (H x)) (he:e=x\/H e=some (.own x)) (k:∀ b u,b≠e->h.get? b=some u->h'.get? b=some u) (heo:∃ u,h'.get? e=some u):Un fs ex H (upd H x o) h h':=by
 have hx:∀ b,H b=none->b≠x:=λb n z=>by subst z;rw [n] at mu;exact mu
 have hb:∀ b,H b=none->b≠e:=λb n z=>by
  subst z
  rcases he with r|r
  .exact hx b n r
  .rw [n] at r;cases r
 have hm:∀ b u,H b=some u->¬ Mut (some u)->b≠x:=λb u q nm z=>by subst z;rw [q] at mu;exact nm mu
 refine ⟨λb u q n _ _=>k b u (hb b n) q,λb u q n _ _=>⟨u.slots,k b u (hb b n) q⟩,λb u q n _=>by rw [aI (hx b n)];exact n,λb u q _=>?_,
  λb xs q=>by rw [aI (hm b _ q λz=>z)];exact q,λb u xs q=>by rw [aI (hm b _ q λz=>z)];exact q,λb ps q=>⟨#[],by rw [aI (hm b _ q λz=>z),q];simp⟩⟩
 by_cases hbe:b=e
 .subst hbe;exact heo
 .exact ⟨u,k b u hbe q⟩
end
def YU (h:dt) (H:Hp):List ah:=(fT h.objs.size).filter λa=>(H a).isSome
def Fq (h:dt) (H:Hp):dt:=cG h (YU h H)
theorem Sq (h:dt) (H:Hp):(Fq h H).objs.size=h.objs.size:=PySem.W.hideAll_size _ _
theorem UG {H:Hp}(e:h.get? b=some o) (n:H b=none):(Fq h H).get? b=some o :=
 hV _ e λhm=>by
  have q:(H b).isSome=true:=(List.mem_filter.mp hm).2;rw [n] at q;simp at q
theorem Xs {H:Hp}(e:(Fq h H).get? b=some o):h.get? b=some o/\H b=none:=by
 have e':h.get? b=some o:=rT (YU h H) e;refine ⟨e',?_⟩
 cases q:H b with
 | none=>rfl
 | some x =>
  have hm:b∈YU h H:=List.mem_filter.mpr ⟨MN.mpr (aS e'),by simp [q]⟩;have z:(Fq h H).get? b=none:=yA (YU h H) hm;rw [z] at e;cases e
def mO (g h:dt) (L:ah):List (ah×jo):=(fT h.objs.size).filterMap λa=>if a=L\/(g.get? a).isSome=true then none else (h.get? a).map λo=>(a,o)
theorem oQ (h1:a≠L) (h2:g.get? a=none) (h3:h.get? a=some o):(a,o)∈mO g h L :=
 nK.mpr ⟨a,MN.mpr (aS h3),by simp [h1,h2,h3]⟩
theorem Fs {p:ah×jo}(hp:p∈mO g h L):p.1≠L/\g.get? p.1=none/\h.get? p.1=some p.2:=by
 obtain ⟨b,_,e⟩:=nK.mp hp
 split at e
 .cases e
 .rename_i hn
  cases q:h.get? b with
  | none=>rw [q] at e;simp at e
  | some u =>
   rw [q] at e;simp only [Option.map_some,rQ] at e;subst e;refine ⟨λz=>hn (.inl z),?_,q⟩
   show g.get? b=none
   cases r:g.get? b with
   | none=>rfl
   | some v=>exact (hn (.inr (by simp [r]))).elim
theorem UH:EO g L h (mO g h L):=λp hp=>let ⟨a,b,c⟩:=Fs hp;⟨c,a,b⟩
structure Mod (K:ae) (mg:aL->Option aj) (base:dt):Prop where
 Xc:K.In base
 glob:base.Ns aX mg
 blt:∃ mb,base.Ns builtinsNs mb/\∀ x:aL,x≠"__name__"->mb x=fF x
 nolimit:base.NoLimit
structure Cx where
 prog:bC
 w:cW
 K:ae
 mg:aL->Option aj
 base:dt
 A:dC
 N:List aL
 s₀:ax
 H₀:Hp
 env:xC
 outer:List xC
 stack:List xC
 ex:List ah
 fn:aL->Bool
 calm:Bool
 pn:List (ah×jo)
 xe:aj->ax->Prop
def sJ (l:List xC):List ah:=l.filterMap (·.frame)
abbrev Cx.fs (X:Cx):List ah:=sJ X.outer
def Vis (sc:uE) (x:aL):Prop:=sc.names.lookup x=some .local\/sc.names.lookup x=some .cell\/sc.names.lookup x=some .free
def Loc (sc:uE) (x:aL):Prop:=sc.names.lookup x=some .local\/sc.names.lookup x=some .cell
def Look (env:xC) (h:dt) (m:aL->Option aj) (x:aL) (u:aj):Prop :=
 (env.kindOf x=some .local/\m x=some u)\/((env.kindOf x=some .cell\/env.kindOf x=some .free)/\∃ c,env.cells.lookup x=some c/\h.IsCell c (some u))
structure Cx.Ok (X:Cx):Prop where
 mod:Mod X.K X.mg X.base
 kind:X.env.scope.kind=.function
 glob:X.env.globals=aX
 blt:X.env.builtins=builtinsNs
 above:X.s₀.heap.objs.size<=X.env.locals
 inj:∀ x y c,X.env.cells.lookup x=some c->X.env.cells.lookup y=some c->x=y
 has:∀ x,(X.env.kindOf x=some .cell\/X.env.kindOf x=some .free)->∃ c,X.env.cells.lookup x=some c
 Xa:∀ x c,X.fn x=true->X.env.cells.lookup x=some c->X.s₀.heap.objs.size<=c
 hd:X.calm=true->X.A.handled=none
 frames:X.A.frames=some X.stack
 YA:X.stack=X.outer\/(X.stack=X.env::X.outer/\X.env.frame=some X.env.locals)
 YB:∀ b∈X.ex,b≠X.env.locals/\∀ x c,X.env.cells.lookup x=some c->c≠b
 bs:∀ b o,X.base.get? b=some o->X.s₀.heap.get? b=some o/\X.H₀ b=none
 O8:X.base.objs.size<=X.s₀.heap.objs.size
 Js:∀ b o,X.base.get? b=some o->b∉X.ex
 Hu:∀ b∈X.ex,b∉X.fs
 vc:X.s₀.heap.FunFrames X.base X.outer
 RY:∀ b∈X.fs,X.H₀ b=none
structure Inv (X:Cx) (pins:List (ah×jo)) (Z:List (Option V)) (H:Hp) (s:ax):Prop where
 ok:X.Ok
 os:s.os=X.s₀.os
 bare:ve s.gens
 base:Un X.fs X.ex X.H₀ H X.s₀.heap s.heap
 loc:∃ m,s.heap.Ns X.env.locals m/\∀ (i:Nat) (x:aL) (v:V),X.N[i]?=some x->Z[i]?=some (some v)->Vis X.env.scope x->∃ u,RelV v u/\Look X.env s.heap m x u
 cell:∀ x c,X.env.cells.lookup x=some c->∃ v,s.heap.IsCell c v
 free:H X.env.locals=none
 nF:∀ x c,X.env.cells.lookup x=some c->H c=none
 pin:∀ p∈X.pn++pins,s.heap.get? p.1=some p.2/\H p.1=none/\p.1≠X.env.locals/\p.1∉X.fs/\∀ v,p.2.data≠.cell v
 eY:vN X.prog X.w H s.heap
 len:Z.length=X.N.length
section
variable {X:Cx}{Z:List (Option V)}{H H':Hp}
theorem Cx.Ok.nofr (ok:X.Ok) {b:ah}{o:jo}(e:X.base.get? b=some o):b∉X.fs:=λhb=>by
 have:=(ok.vc.mem hb).1;rw [e] at this;cases this
theorem Inv.bs (I:Inv X pins Z H s):∀ b o,X.base.get? b=some o->s.heap.get? b=some o/\H b=none:=λb o e =>
 ⟨I.base.keep b o (I.ok.bs b o e).1 (I.ok.bs b o e).2 (I.ok.nofr e) (I.ok.Js b o e),I.base.free b o (I.ok.bs b o e).1 (I.ok.bs b o e).2 (I.ok.Js b o e)⟩
theorem Inv.bk (I:Inv X pins Z H s):∀ b o,X.base.get? b=some o->s.heap.get? b=some o:=λb o e=>(I.bs b o e).1
theorem Inv.mod (I:Inv X pins Z H s):Mod X.K X.mg X.base:=I.ok.mod
theorem Inv.vM (I:Inv X pins Z H s):X.K.In s.heap:=I.ok.mod.Xc.keeps I.bk
theorem Inv.fr (I:Inv X pins Z H s):∃ m,Fr X.base X.env.locals s.heap m :=
 let ⟨m,hn,_⟩:=I.loc
 ⟨m,hn,I.bk,bU I.ok.O8 I.ok.above⟩
theorem Inv.lt (I:Inv X pins Z H s):X.env.locals<s.heap.objs.size:=let ⟨_,hn,_⟩:=I.loc;hn.lt
theorem Inv.sz (I:Inv X pins Z H s):X.s₀.heap.objs.size<=s.heap.objs.size:=bU I.ok.above (yB I.lt)
theorem Inv.nofs (I:Inv X pins Z H s) {a:ah}(h:s.heap.objs.size<=a):a∉X.fs:=λhb=>by
 obtain ⟨_,o,ho,_⟩:=I.ok.vc.mem hb;exact absurd (bG (aS ho) (bU I.sz h)) (iE _)
theorem Inv.UA (I:Inv X pins Z H s):∀ x c,X.env.cells.lookup x=some c->c≠X.env.locals:=λx c e z=>by
 obtain ⟨v,o,ho,hd⟩:=I.cell x c e;obtain ⟨m,⟨o',es,ep,ho',hd',_⟩,_⟩:=I.loc;rw [z,ho'] at ho;cases ho;rw [hd'] at hd;cases hd
theorem Inv.vc (I:Inv X pins Z H s):s.heap.FunFrames X.base X.outer:=by
 have all:∀ (l:List xC),(∀ b∈sJ l,b∈X.fs)->X.s₀.heap.FunFrames X.base l->s.heap.FunFrames X.base l:=by
  intro l
  induction l with
  | nil=>intro _ _;trivial
  | cons env r ih =>
   intro hs hl;obtain ⟨hk,⟨L,o,hf,hn,ho,hd⟩,hr⟩:=hl;have hL:L∈X.fs:=hs L (by unfold sJ;rw [fX,hf];exact ak);obtain ⟨sl,e⟩:=I.base.slot L o ho (I.ok.RY L hL) hL λz=>I.ok.Hu L z hL;exact ⟨hk,⟨L,_,hf,hn,e,hd⟩,ih (λb hb=>hs b (by unfold sJ;rw [fX,hf];exact ag _ hb)) hr⟩
 exact all X.outer (λ_ hb=>hb) I.ok.vc
theorem Inv.stack (I:Inv X pins Z H s):s.heap.FunFrames X.base X.stack:=by
 rcases I.ok.YA with e|⟨e,hf⟩
 .rw [e];exact I.vc
 .rw [e];obtain ⟨m,hn,_⟩:=I.loc;refine .cons (by rw [I.ok.kind];decide) hf hn ?_ I.vc;exact UC (bU I.ok.O8 I.ok.above)
theorem Inv.QS (I:Inv X pins Z H s):∀ b∈sJ X.stack,b∈X.env.locals::X.fs:=λb hb=>by
 rcases I.ok.YA with e|⟨e,hf⟩
 .rw [e] at hb;exact ag _ hb
 .rw [e] at hb;unfold sJ at hb;rw [fX,hf] at hb;exact hb
theorem Inv.Fe (I:Inv X pins Z H s):∀ b∈sJ X.stack,H b=none:=λb hb=>by
 rcases az.mp (I.QS b hb) with e|hb
 .rw [e];exact I.free
 .obtain ⟨_,o,ho,_⟩:=I.ok.vc.mem hb;exact I.base.free b o ho (I.ok.RY b hb) λz=>I.ok.Hu b z hb
theorem Inv.step (I:Inv X pins Z H s)
  (hch:∀ b∈ch,(b∈X.ex\/X.s₀.heap.objs.size<=b)/\b≠X.env.locals/\(∀ x c,X.env.cells.lookup x=some c->c≠b)/\∀ p∈X.pn++pins,p.1≠b)
  (keep:∀ b o,b≠X.env.locals->b∉X.fs->b∉ch->s.heap.get? b=some o->H b=none->h'.get? b=some o)
  (slot:∀ b o,b≠X.env.locals->b∈X.fs->b∉ch->s.heap.get? b=some o->H b=none->∃ sl,h'.get? b=some { o with slots:=sl }) (free:∀ b o,b∉ch->s.heap.get? b=some o->H b=none->H' b=none)
  (there:∀ b o,b∉ch->s.heap.get? b=some o->∃ o',h'.get? b=some o')
  (vd:∀ b xs,H b=some (.tup xs)->H' b=some (.tup xs)) (uv:∀ b o u,H b=some (.frz o u)->H' b=some (.frz o u)) (ux:∀ b ps,H b=some (.tbl ps)->∃ more,H' b=some (.tbl (ps++more)))
  (ns:∀ m,s.heap.Ns X.env.locals m->h'.Ns X.env.locals m) (eY:vN X.prog X.w H' h') (hg:ve g') :
  Inv X pins Z H' { s with heap:=h',gens:=g',drawn:=d',toks:=t' }:=by
 have neL:∀ b o,X.s₀.heap.get? b=some o->b≠X.env.locals:=λb o e=>bb (bG (aS e) I.ok.above)
 have neC:∀ b o,X.s₀.heap.get? b=some o->b∉X.ex->b∉ch:=λb o e hx hb=>by
  rcases (hch b hb).1 with z|z
  .exact hx z
  .exact absurd (bG (aS e) z) (iE _)
 have cellK:∀ x c,X.env.cells.lookup x=some c->∀ v,s.heap.IsCell c v->h'.IsCell c v:=λx c e v ⟨o,ho,hd⟩=>by
  have nch:c∉ch:=λz=>(hch c z).2.2.1 x c e rfl
  by_cases hc:c∈X.fs
  .obtain ⟨sl,q⟩:=slot c o (I.UA x c e) hc nch ho (I.nF x c e);exact ⟨_,q,hd⟩
  .exact ⟨o,keep c o (I.UA x c e) hc nch ho (I.nF x c e),hd⟩
 refine ⟨I.ok,I.os,hg,⟨λb o e n hb hx=>?_,λb o e n hb hx=>?_,λb o e n hx=>?_,λb o e hx=>?_,λb xs e=>vd b xs (I.base.vd b xs e),λb o xs e=>uv b o xs (I.base.uv b o xs e),λb ps e=>?_⟩,?_,λx c e=>?_,?_,λx c e=>?_,λp hp=>?_,eY,I.len⟩
 .exact keep b o (neL b o e) hb (neC b o e hx) (I.base.keep b o e n hb hx) (I.base.free b o e n hx)
 .obtain ⟨sl,e1⟩:=I.base.slot b o e n hb hx;obtain ⟨sl',e2⟩:=slot b _ (neL b o e) hb (neC b o e hx) e1 (I.base.free b o e n hx);exact ⟨sl',e2⟩
 .obtain ⟨o',e1⟩:=I.base.there b o e hx;exact free b o' (neC b o e hx) e1 (I.base.free b o e n hx)
 .obtain ⟨o',e1⟩:=I.base.there b o e hx;exact there b o' (neC b o e hx) e1
 .obtain ⟨m1,e1⟩:=I.base.ux b ps e;obtain ⟨m2,e2⟩:=ux b _ e1;exact ⟨m1++m2,by rw [e2,Dl]⟩
 .obtain ⟨m,hn,hl⟩:=I.loc;refine ⟨m,ns m hn,λi x v e1 e2 e3=>?_⟩;obtain ⟨u,r,l⟩:=hl i x v e1 e2 e3;refine ⟨u,r,?_⟩
  rcases l with l|⟨k,c,e,z⟩
  .exact .inl l
  .exact .inr ⟨k,c,e,cellK x c e _ z⟩
 .obtain ⟨v,z⟩:=I.cell x c e;exact ⟨v,cellK x c e v z⟩
 .obtain ⟨m,⟨o,_,_,ho,_⟩,_⟩:=I.loc;exact free _ o (λz=>(hch _ z).2.1 rfl) ho I.free
 .obtain ⟨v,o,ho,hd⟩:=I.cell x c e;exact free c o (λz=>(hch c z).2.2.1 x c e rfl) ho (I.nF x c e)
 .obtain ⟨e,n,ne,nf,d⟩:=I.pin p hp;have nch:p.1∉ch:=λz=>(hch p.1 z).2.2.2 p hp rfl;exact ⟨keep p.1 p.2 ne nf nch e n,free p.1 p.2 nch e n,ne,nf,d⟩
theorem Inv.un (I:Inv X pins Z H s) (u:Un X.fs [] H H' s.heap h') (eY:vN X.prog X.w H' h'):Inv X pins Z H' { s with heap:=h',toks:=t' }:=by
 obtain ⟨m,⟨o,es,ep,ho,r⟩,_⟩:=id I.loc;obtain ⟨sl,hL⟩:=u.any ho I.free (by simp)
 exact I.step (g':=s.gens) (d':=s.drawn) (ch:=[]) (λ_ z=>nomatch z) (λb o _ hb _ e n=>u.keep b o e n hb (by simp)) (λb o _ hb _ e n=>u.slot b o e n hb (by simp)) (λb o _ e n=>u.free b o e n (by simp)) (λb o _ e=>u.there b o e (by simp)) u.vd u.uv u.ux (λm' hm=>by
  obtain ⟨o',es',ep',ho',r'⟩:=hm;rw [ho] at ho';cases ho'
  exact ⟨_,es',ep',hL,r'⟩) eY I.bare
theorem Inv.call (I:Inv X pins Z H s) (u:Un (sJ X.stack) ch H H' s.heap h') (eY:vN X.prog X.w H' h') (hg:ve g')
  (hch:∀ b∈ch,(b∈X.ex\/X.s₀.heap.objs.size<=b)/\b≠X.env.locals/\(∀ x c,X.env.cells.lookup x=some c->c≠b)/\∀ p∈X.pn++pins,p.1≠b) :
  Inv X pins Z H' { s with heap:=h',gens:=g',drawn:=d',toks:=t' }:=by
 obtain ⟨m,⟨o,es,ep,ho,r⟩,_⟩:=id I.loc;obtain ⟨sl,hL⟩:=u.any ho I.free λz=>(hch _ z).2.1 rfl
 exact I.step (ch:=ch) hch (λb o hL hb hc e n=>u.keep b o e n (λz=>(az.mp (I.QS b z)).elim hL hb) hc) (λb o _ _ hc e n=>u.any e n hc) (λb o hc e n=>u.free b o e n hc) (λb o hc e=>u.there b o e hc) u.vd u.uv u.ux (λm' hm=>by
  obtain ⟨o',es',ep',ho',r'⟩:=hm;rw [ho] at ho';cases ho'
  exact ⟨_,es',ep',hL,r'⟩) eY hg
theorem Inv.turned (I:Inv X pins Z H s) (k:∀ b o,b≠it->s.heap.get? b=some o->h'.get? b=some o) (hn:H it=none) (hL:it≠X.env.locals)
  (h1:it∈X.ex\/X.s₀.heap.objs.size<=it) (h2:∀ x c,X.env.cells.lookup x=some c->c≠it) (h3:∀ p∈X.pn++pins,p.1≠it):Inv X pins Z H { s with heap:=h',toks:=t' }:=by
 have nit:∀ b u,H b=some u->b≠it:=λb u e z=>by rw [z,hn] at e;cases e
 refine I.step (g':=s.gens) (d':=s.drawn) (ch:=[it]) (λb hb=>?_) (λb o _ _ hc e _=>k b o (λz=>hc (by simp [z])) e) (λb o _ _ hc e _=>⟨o.slots,k b o (λz=>hc (by simp [z])) e⟩) (λ_ _ _ _ n=>n)
  (λb o hc e=>⟨o,k b o (λz=>hc (by simp [z])) e⟩) (λ_ _ e=>e) (λ_ _ _ e=>e) (λb ps e=>⟨#[],by rw [e];simp⟩) (λm hm=>?_) (λb u e=>?_) I.bare
 .have e:b=it:=by simpa using hb
  subst e;exact ⟨h1,hL,h2,h3⟩
 .obtain ⟨o,es,ep,ho,r⟩:=hm;exact ⟨o,es,ep,k _ o (Ne.symm hL) ho,r⟩
 .refine (I.eY b u e).yx (λc v hc q=>k c v ?_ q) (λ_ q=>q) λ_ _ q=>q
  rcases hc with z|z
  .rw [z];exact nit b u e
  .exact nit c _ z
theorem Inv.tok (I:Inv X pins Z H s) (t:Nat):Inv X pins Z H { s with toks:=t }:=I.un (h':=s.heap) (t':=t) Un.refl I.eY
theorem Inv.kept (I:Inv X pins Z H s) (k:∀ b u,s.heap.get? b=some u->h'.get? b=some u):Inv X pins Z H { s with heap:=h',toks:=t' }:=I.un (Un.kept k) (I.eY.kept k)
theorem Inv.laid {o:HO}(I:Inv X pins Z H s) (k:∀ b u,s.heap.get? b=some u->h'.get? b=some u) (hp:s.heap.objs.size<=a) (new:fq X.prog X.w (upd H a o) h' a o) :
  Inv X pins Z (upd H a o) { s with heap:=h',toks:=t' }:=I.un (Un.laid k hp (I.eY.fresh hp)) (I.eY.laid k hp new)
theorem Inv.write {x e:ah}{o:HO}(I:Inv X pins Z H s) (mu:Mut (H x)) (he:e=x\/H e=some (.own x)) (k:∀ b u,b≠e->s.heap.get? b=some u->h'.get? b=some u) (heo:∃ u,h'.get? e=some u)
  (new:fq X.prog X.w (upd H x o) h' x o):Inv X pins Z (upd H x o) { s with heap:=h',toks:=t' }:=I.un (Un.write mu he k heo) (I.eY.write mu he k heo new)
theorem Inv.R8 {pins':List (ah×jo)}(I:Inv X pins Z H s) (h:∀ p∈pins',s.heap.get? p.1=some p.2/\H p.1=none/\p.1≠X.env.locals/\p.1∉X.fs/\∀ v,p.2.data≠.cell v):Inv X pins' Z H s :=
 ⟨I.ok,I.os,I.bare,I.base,I.loc,I.cell,I.free,I.nF,λp hp=>(bX.mp hp).elim (λz=>I.pin p (c6 _ z)) (h p),I.eY,I.len⟩
theorem Ft (hN:N.Nodup) {i j:Nat}{x:aL}(a:N[i]?=some x) (b:N[j]?=some x):i=j:=by
 obtain ⟨h1,e1⟩:=aP.mp a;obtain ⟨h2,e2⟩:=aP.mp b;exact (List.getElem_inj hN).mp (e1.trans e2.symm)
theorem Jz {v:V}{Q:Unit->ax->Prop}(I:Inv X pins Z H s) (hN:X.N.Nodup) (hi:X.N[i]?=some x) (hx:Loc X.env.scope x) (r:RelV v u)
  (h:∀ s',Inv X pins (Z.set i (some v)) H s'->(∃ a,yb a s.heap s'.heap/\(a=X.env.locals\/X.env.cells.lookup x=some a))->Q () s') (hf:X.fn x=true\/X.env.scope.names.lookup x=some .local:=by first|exact .inl rfl|exact .inr rfl|assumption):aY M A (storeName X.env x u) Q E s:=by
 obtain ⟨m,hn,hl⟩:=id I.loc
 have hcls:(X.env.scope.kind == .class || (X.env.scope.kind == .module && X.env.locals != X.env.globals))=false:=by rw [I.ok.kind];rfl
 have hiσ:i<Z.length:=by rw [I.len];exact (aP.mp hi).1
 have UA:=I.UA
 have tracked:∀ {a:ah}{h':dt},(∃ o,s.heap.get? a=some o/\H a=none)->yb a s.heap h'->vN X.prog X.w H h':=λ{a h'} ha hs b ob e=>by
  obtain ⟨_,_,hfree⟩:=ha;refine (I.eY b ob e).yx (λc w' hc q=>(hs.2 c ?_).trans q) (λ_ q=>q) λ_ _ q=>q;rintro rfl
  rcases hc with rfl|hc
  .rw [hfree] at e;cases e
  .rw [hfree] at hc;cases hc
 rcases hx with hk|hk
 .refine wpAny_storeName_local hk hn (λh' hn' hs=>?_) hcls;obtain ⟨oL,_,_,hoL,_⟩:=id hn;refine h _ ⟨I.ok,I.os,I.bare,⟨λb o e n hb hx=>?_,λb o e n hb hx=>?_,I.base.free,λb o e hx=>?_,I.base.vd,I.base.uv,I.base.ux⟩,⟨_,hn',λj y v' e1 e2 e3=>?_⟩,λy c e=>?_,I.free,I.nF,λp hp=>?_,tracked ⟨oL,hoL,I.free⟩ hs,by simpa using I.len⟩ ⟨_,hs,.inl rfl⟩
  .exact (hs.2 b (bb (bG (aS e) I.ok.above))).trans (I.base.keep b o e n hb hx)
  .obtain ⟨sl,e1⟩:=I.base.slot b o e n hb hx;exact ⟨sl,(hs.2 b (bb (bG (aS e) I.ok.above))).trans e1⟩
  .obtain ⟨o',e1⟩:=I.base.there b o e hx;exact ⟨o',(hs.2 b (bb (bG (aS e) I.ok.above))).trans e1⟩
  .by_cases hj:j=i
   .subst hj;rw [hi] at e1;cases e1;rw [j6 hiσ] at e2;cases e2;exact ⟨u,r,.inl ⟨hk,by simp⟩⟩
   .rw [qQ (Ne.symm hj)] at e2;obtain ⟨u',r',q⟩:=hl j y v' e1 e2 e3;refine ⟨u',r',?_⟩
    rcases q with ⟨k,e⟩|⟨k,c,e,z⟩
    .refine .inl ⟨k,?_⟩;have:y≠x:=λe=>hj (Ft hN e1 (e▸hi));simp [this,e]
    .exact .inr ⟨k,c,e,z.sameBut hs (UA y c e)⟩
  .obtain ⟨w',z⟩:=I.cell y c e;exact ⟨w',z.sameBut hs (UA y c e)⟩
  .obtain ⟨e,n,ne,nf,d⟩:=I.pin p hp;exact ⟨(hs.2 p.1 ne).trans e,n,ne,nf,d⟩
 .have hfn:X.fn x=true:=by
   rcases hf with z|z
   .exact z
   .rw [z] at hk;cases hk
  obtain ⟨c,hc⟩:=I.ok.has x (.inl hk);obtain ⟨w',z⟩:=I.cell x c hc;refine wpAny_storeName_cell I.ok.kind hk hc z (λh' hc' hs=>?_);obtain ⟨oc,hoc,hocd⟩:=id z;refine h { s with heap:=h' } ⟨I.ok,I.os,I.bare,⟨λb o e n hb hx=>?_,λb o e n hb hx=>?_,I.base.free,λb o e hx=>?_,I.base.vd,I.base.uv,I.base.ux⟩,⟨m,hn.sameBut hs (Ne.symm (UA x c hc)),λj y v' e1 e2 e3=>?_⟩,λy c' e=>?_,I.free,I.nF,λp hp=>?_,tracked ⟨oc,hoc,I.nF x c hc⟩ hs,by simpa using I.len⟩ ⟨c,hs,.inr hc⟩
  .exact (hs.2 b (bb (bG (aS e) (I.ok.Xa x c hfn hc)))).trans (I.base.keep b o e n hb hx)
  .obtain ⟨sl,e1⟩:=I.base.slot b o e n hb hx;exact ⟨sl,(hs.2 b (bb (bG (aS e) (I.ok.Xa x c hfn hc)))).trans e1⟩
  .obtain ⟨o',e1⟩:=I.base.there b o e hx;exact ⟨o',(hs.2 b (bb (bG (aS e) (I.ok.Xa x c hfn hc)))).trans e1⟩
  .by_cases hj:j=i
   .subst hj;rw [hi] at e1;cases e1;rw [j6 hiσ] at e2;cases e2;exact ⟨u,r,.inr ⟨.inl hk,c,hc,hc'⟩⟩
   .rw [qQ (Ne.symm hj)] at e2;obtain ⟨u',r',q⟩:=hl j y v' e1 e2 e3;refine ⟨u',r',?_⟩
    rcases q with q|⟨k,c',e,z'⟩
    .exact .inl q
    .refine .inr ⟨k,c',e,z'.sameBut hs ?_⟩;rintro rfl;exact hj (Ft hN e1 (I.ok.inj _ _ _ e hc▸hi))
  .by_cases hcc:c'=c
   .subst hcc;exact ⟨_,hc'⟩
   .obtain ⟨w2,z2⟩:=I.cell y c' e;exact ⟨w2,z2.sameBut hs hcc⟩
  .obtain ⟨e,n,ne,nf,d⟩:=I.pin p hp;refine ⟨(hs.2 p.1 ?_).trans e,n,ne,nf,d⟩;intro q;rw [q,hoc] at e;have q':oc=p.2:=aD e;exact d w' (by rw [← q'];exact hocd)
theorem vS {v:V}{Q:Unit->ax->Prop}(I:Inv X pins Z H s) (hN:X.N.Nodup) (hi:X.N[i]?=some x) (hx:Loc X.env.scope x) (r:RelV v u)
  (h:∀ s',Inv X pins (Z.set i (some v)) H s'->Q () s') (hf:X.fn x=true\/X.env.scope.names.lookup x=some .local:=by first|exact .inl rfl|exact .inr rfl|assumption):aY M A (storeName X.env x u) Q E s :=
 Jz I hN hi hx r (λs' I' _=>h s' I') hf
theorem Inv.WJ (I:Inv X pins Z H s) (ho:s'.os=s.os) (u:Un (sJ X.stack) ch H H' s.heap s'.heap) (eY:vN X.prog X.w H' s'.heap) (hg:ve s'.gens)
  (hch:∀ b∈ch,(b∈X.ex\/X.s₀.heap.objs.size<=b)/\b≠X.env.locals/\(∀ x c,X.env.cells.lookup x=some c->c≠b)/\∀ p∈X.pn++pins,p.1≠b):Inv X pins Z H' s':=by
 obtain ⟨h',g',d',t',o'⟩:=s';have e:o'=s.os:=ho;subst e;exact I.call (g':=g') (t':=t') (d':=d') u eY hg hch
end
abbrev XK:=aj->Option ah->Hp->Prop
abbrev St:=List (Option V)
abbrev VK:=V->Hp->Prop
abbrev TE:=St->Hp->VK->Prop
abbrev TT:=St->Hp->(Bool->Hp->Prop)->Prop
abbrev TA:=St->Hp->(List V->Hp->Prop)->Prop
structure vT where
 nx:St->Hp->Prop
 rt:VK
 bk:St->Hp->Prop:=λ_ _=>False
 ct:St->Hp->Prop:=λ_ _=>False
abbrev TS:=vT->St->Hp->Prop
def EP (X:Cx) (pins:List (ah×jo)) (Z:St) (Q:VK) (u:aj) (s':ax):Prop:=∃ v H',Inv X pins Z H' s'/\RelV v u/\Q v H'
def TP (X:Cx) (pins:List (ah×jo)) (Z:St) (Q:Bool->Hp->Prop) (b:Bool) (s':ax):Prop:=∃ H',Inv X pins Z H' s'/\Q b H'
def AP (X:Cx) (pins:List (ah×jo)) (Z:St) (Q:List V->Hp->Prop) (us:List aj) (s':ax):Prop:=∃ vs H',Inv X pins Z H' s'/\Vals vs us/\Q vs H'
def SP (X:Cx) (pins:List (ah×jo)) (D:vT) (f:Flow) (s':ax):Prop :=
 match f with
 | .next=>∃ σ' H',Inv X pins σ' H' s'/\D.nx σ' H'
 | .brk=>∃ σ' H',Inv X pins σ' H' s'/\D.bk σ' H'
 | .cont=>∃ σ' H',Inv X pins σ' H' s'/\D.ct σ' H'
 | .ret u=>∃ v σ' H',Inv X pins σ' H' s'/\RelV v u/\D.rt v H'
def PE (X:Cx) (e:Expr) (t:TE):Prop :=
 ∀ (pins:List (ah×jo)) (s:ax) (Z:St) (H:Hp) (Q:VK),Inv X pins Z H s->t Z H Q->aY (bg X.prog X.w) X.A (fR e X.env) (EP X pins Z Q) X.xe s
def PT (X:Cx) (e:Expr) (t:TT):Prop :=
 ∀ (pins:List (ah×jo)) (s:ax) (Z:St) (H:Hp) (Q:Bool->Hp->Prop),Inv X pins Z H s->t Z H Q->aY (bg X.prog X.w) X.A (isTrue e X.env (fR e X.env)) (TP X pins Z Q) X.xe s
def PW (X:Cx) (e:Expr) (t:TT):Prop :=
 ∀ (whole:MM aj) (pins:List (ah×jo)) (s:ax) (Z:St) (H:Hp) (Q:Bool->Hp->Prop),Inv X pins Z H s->t Z H Q->aY (bg X.prog X.w) X.A (isTrue e X.env whole) (TP X pins Z Q) X.xe s
theorem PW.pt {X:Cx}{t:TT}(h:PW X e t):PT X e t:=h _
def PA (X:Cx) (es:List Expr) (t:TA):Prop :=
 ∀ (pos:yz) (pins:List (ah×jo)) (s:ax) (Z:St) (H:Hp) (Q:List V->Hp->Prop),Inv X pins Z H s->t Z H Q->aY (bg X.prog X.w) X.A (spliced (iS pos (bw es X.env))) (AP X pins Z Q) X.xe s
def PS (X:Cx) (st:dw) (t:TS):Prop :=
 ∀ (pins:List (ah×jo)) (s:ax) (Z:St) (H:Hp) (D:vT),Inv X pins Z H s->t D Z H->aY (bg X.prog X.w) X.A (exec st X.env) (SP X pins D) X.xe s
def Jr (X:Cx) (st:List dw) (t:TS):Prop :=
 ∀ (pins:List (ah×jo)) (s:ax) (Z:St) (H:Hp) (D:vT),Inv X pins Z H s->t D Z H->aY (bg X.prog X.w) X.A (execs st X.env) (SP X pins D) X.xe s
theorem gJ {α:Type} {t:MM α}{Q Q':α->ax->Prop}(h:aY M A t Q E s) (hQ:∀ a s,Q a s->Q' a s):aY M A t Q' E s:=dF h hQ λ_ _ x=>x
section
variable {X:Cx}
def aq (i:Nat):TE:=λZ H Q=>∃ v,Z[i]?=some (some v)/\Q v H
def tC (v:V):TE:=λ_ H Q=>Q v H
theorem ZC (hN:X.N[i]?=some x) (hv:Vis X.env.scope x) (hd:(x == ("__debug__":aL))=false:=by decide) (hcd:(x == ("__classdict__":aL))=false:=by decide):PE X (.Name x pos) (aq i):=by
 intro pins s Z H Q I h;obtain ⟨v,e,h⟩:=h;obtain ⟨m,hn,hl⟩:=I.loc;obtain ⟨u,r,l⟩:=hl i x v hN e hv
 have fin:EP X pins Z Q u s:=⟨v,H,I,r,h⟩
 rcases l with ⟨hk,hm⟩|⟨hk,c,hc,hcell⟩
 .exact Bt (tL I.ok.kind hk hn hm fin) hd
 .rcases hk with hk|hk
  .exact Bt (wpAny_loadName_cell I.ok.kind hk hc hcell fin) hd
  .exact Bt (wpAny_loadName_free I.ok.kind hk hc hcell fin hcd) hd
theorem aF {i j pos}:PE X (.Constant (.int i) j pos) (tC (.int i)):=λ_ _ _ H _ I h=>wpAny_Constant_int ⟨.int i,H,I.tok _,⟨_,rfl⟩,h⟩
theorem JA {b j pos}:PE X (.Constant (.bool b) j pos) (tC (.bl b)):=λ_ _ _ H _ I h=>Constant_bool ⟨.bl b,H,I,rfl,h⟩
theorem ZD {j pos}:PE X (.Constant .none j pos) (tC .non):=λ_ _ _ H _ I h=>Constant_none ⟨.non,H,I,rfl,h⟩
theorem aC {x j pos}:PE X (.Constant (.str x) j pos) (tC (.str x)):=λ_ _ _ H _ I h=>Calls.Constant_str ⟨.str x,H,I.tok _,⟨_,rfl⟩,h⟩
def Gl (X:Cx) (x:aL):Prop:=X.env.kindOf x=some .globalImplicit
theorem rX {Z:St}{H:Hp}(I:Inv X pins Z H s) (hg:Gl X x) (hm:X.mg x=some u) (h:Q u s)
  (hd:(x == ("__debug__":aL))=false:=by decide):aY (bg X.prog X.w) X.A (fR (.Name x pos) X.env) Q E s :=
 Mw I.ok.kind hg (Calls.loadGlobal_global (by rw [I.ok.glob];exact I.mod.glob.keeps I.bk) hm h) hd
theorem Fv {Z:St}{H:Hp}(I:Inv X pins Z H s) (hg:Gl X x) (hm:X.mg x=none) (hv:fF x=some u) (h:Q u s)
  (hn:x≠"__name__":=by decide) (hd:(x == ("__debug__":aL))=false:=by decide):aY (bg X.prog X.w) X.A (fR (.Name x pos) X.env) Q E s:=by
 obtain ⟨mb,h1,h2⟩:=I.mod.blt;exact Mw I.ok.kind hg (Calls.loadGlobal_builtin (by rw [I.ok.glob];exact I.mod.glob.keeps I.bk) hm (by rw [I.ok.blt];exact h1.keeps I.bk) ((h2 x hn).trans hv) h) hd
theorem iw {v:V}(hg:Gl X x) (hm:X.mg x=some u) (r:RelV v u) (hd:(x == ("__debug__":aL))=false:=by decide):PE X (.Name x pos) (tC v) :=
 λ_ _ _ H _ I h=>rX I hg hm ⟨v,H,I,r,h⟩ hd
theorem Ki {v:V}(hg:Gl X x) (hm:X.mg x=none) (hv:fF x=some u) (r:RelV v u) (hn:x≠"__name__":=by decide) (hd:(x == ("__debug__":aL))=false:=by decide):PE X (.Name x pos) (tC v) :=
 λ_ _ _ H _ I h=>Fv I hg hm hv ⟨v,H,I,r,h⟩ hn hd
variable {a b:Expr}{ta tb:TE}
variable {tA tB':TT}{rest:List Expr}
def Pl (t u:TT):TT:=λZ H Q=>t Z H λc H1=>if c=true then u Z H1 Q else Q false H1
def tOr (t u:TT):TT:=λZ H Q=>t Z H λc H1=>if c=true then Q true H1 else u Z H1 Q
def zg (t:TT):TT:=λZ H Q=>t Z H λc H1=>Q (!c) H1
theorem EW (ha:PT X a tA):PW X (.BoolOp .And [a] pos) tA:=by
 intro wh pins s Z H Q I h;refine isTrue_and (gJ (ha pins s Z H Q I h) λc s1 e=>?_)
 cases c with
 | true=>exact isTrue_and_nil e
 | false=>exact e
theorem UI (ha:PT X a tA):PW X (.BoolOp .Or [a] pos) tA:=by
 intro wh pins s Z H Q I h;refine isTrue_or (gJ (ha pins s Z H Q I h) λc s1 e=>?_)
 cases c with
 | false=>exact isTrue_or_nil e
 | true=>exact e
theorem Kj (ha:PT X a tA) (hb:PW X (.BoolOp .And (b::rest) pos) tB'):PW X (.BoolOp .And (a::b::rest) pos) (Pl tA tB'):=by
 intro wh pins s Z H Q I h;refine isTrue_and (gJ (ha pins s Z H _ I h) λc s1 ⟨H1,I1,q1⟩=>?_)
 cases c with
 | true=>exact hb wh pins s1 Z H1 Q I1 q1
 | false=>exact ⟨H1,I1,q1⟩
theorem YV (ha:PT X a tA) (hb:PW X (.BoolOp .Or (b::rest) pos) tB'):PW X (.BoolOp .Or (a::b::rest) pos) (tOr tA tB'):=by
 intro wh pins s Z H Q I h;refine isTrue_or (gJ (ha pins s Z H _ I h) λc s1 ⟨H1,I1,q1⟩=>?_)
 cases c with
 | true=>exact ⟨H1,I1,q1⟩
 | false=>exact hb wh pins s1 Z H1 Q I1 q1
theorem nR (ha:PT X a tA):PT X (.UnaryOp .Not a pos) (zg tA):=by
 intro pins s Z H Q I h;exact isTrue_not (ha pins s Z H (λc H1=>Q (!c) H1) I h)
def Aa (ta tb:TE):TE:=λZ H Q=>ta Z H λx H1=>∃ c,x=.bl c/\if c=true then tb Z H1 Q else Q (.bl false) H1
def Xt (ta tb:TE):TE:=λZ H Q=>ta Z H λx H1=>∃ c,x=.bl c/\if c=true then Q (.bl true) H1 else tb Z H1 Q
def UJ (ta:TE):TE:=λZ H Q=>ta Z H λx H1=>∃ c,x=.bl c/\Q (.bl (!c)) H1
theorem zh {op} {t:TE}(h:PE X a t):PE X (.BoolOp op [a] pos) t:=λpins s Z H Q I hw=>BoolOp_one (h pins s Z H Q I hw)
theorem zi (ha:PE X a ta) (hb:PE X (.BoolOp .And (b::rest) pos) tb):PE X (.BoolOp .And (a::b::rest) pos) (Aa ta tb):=by
 intro pins s Z H Q I h;refine BoolOp_and (gJ (ha pins s Z H _ I h) λv s1 ⟨x,H1,I1,r1,q1⟩=>?_);obtain ⟨c,rfl,q1⟩:=q1;cases r1;refine ma ?_
 cases c with
 | true=>exact hb pins s1 Z H1 Q I1 q1
 | false=>exact ⟨.bl false,H1,I1,rfl,q1⟩
theorem YW (ha:PE X a ta) (hb:PE X (.BoolOp .Or (b::rest) pos) tb):PE X (.BoolOp .Or (a::b::rest) pos) (Xt ta tb):=by
 intro pins s Z H Q I h;refine BoolOp_or (gJ (ha pins s Z H _ I h) λv s1 ⟨x,H1,I1,r1,q1⟩=>?_);obtain ⟨c,rfl,q1⟩:=q1;cases r1;refine ma ?_
 cases c with
 | false=>exact hb pins s1 Z H1 Q I1 q1
 | true=>exact ⟨.bl true,H1,I1,rfl,q1⟩
theorem ZE (ha:PE X a ta):PE X (.UnaryOp .Not a pos) (UJ ta):=by
 intro pins s Z H Q I h;refine UnaryOp_ (gJ (ha pins s Z H _ I h) λv s1 ⟨x,H1,I1,r1,q1⟩=>?_);obtain ⟨c,rfl,q1⟩:=q1;cases r1;exact not_of (ma ⟨.bl (!c),H1,I1,rfl,q1⟩)
def Xu (t:TT) (ta tb:TE):TE:=λZ H Q=>t Z H λc H1=>if c=true then ta Z H1 Q else tb Z H1 Q
theorem qS (hc:PT X c tA) (ha:PE X a ta) (hb:PE X b tb):PE X (.IfExp c a b pos) (Xu tA ta tb):=by
 intro pins s Z H Q I h;refine wpAny_IfExp (gJ (hc pins s Z H _ I h) λd s1 ⟨H1,I1,q1⟩=>?_)
 cases d with
 | true=>exact ha pins s1 Z H1 Q I1 q1
 | false=>exact hb pins s1 Z H1 Q I1 q1
end
def gb (K:ae) (H:Hp) (a:ah) (xs:List V):Prop :=
 Rd H a (.lst xs) \/
  ∃ (o:jo) (its:Array aj) (n:Nat),K.lookup a=some o/\o.cls=.type "list"/\o.dict=none/\o.data=.seq its n/\its.size<=aT/\Vals xs its.toList
def tK (K:ae) (H:Hp) (a:ah) (xs:List V):Prop :=
 Rd H a (.tup xs) \/
  ∃ (o:jo) (its:Array aj) (n:Nat),K.lookup a=some o/\o.cls=.type "tuple"/\o.data=.seq its n/\its.size<=aT/\Vals xs its.toList
def absV:aj->Option V
 | .none=>some .non
 | .bool b=>some (.bl b)
 | .int i _=>some (.int i)
 | .str x _=>some (.str x)
 | .bytes b _=>some (.byt b)
 | .float b _=>some (.flt b)
 | .ref a=>some (.ref a)
 | .type n=>some (.ty n)
 | _=>none
theorem RelV.abs {x:V}(r:RelV x u):absV u=some x:=by
 cases x with
 | non=>cases r;rfl
 | bl _=>cases r;rfl
 | int _=>obtain ⟨t,rfl⟩:=r;rfl
 | str _=>obtain ⟨t,rfl⟩:=r;rfl
 | byt _=>obtain ⟨t,rfl⟩:=r;rfl
 | flt _=>obtain ⟨t,rfl⟩:=r;rfl
 | ref _=>cases r;rfl
 | ty _=>cases r;rfl
theorem RelV.inj {x y:V}(r:RelV x u) (q:RelV y u):x=y:=aD (r.abs.symm.trans q.abs)
theorem Vals.inj {xs ys:List V}(h:Vals xs us):Vals ys us->xs=ys:=by
 induction h generalizing ys with
 | nil=>intro q;cases q;rfl
 | cons r _ ih =>
  intro q
  cases q with
  | cons r' t'=>rw [r.inj r',ih t']
section
variable {X:Cx}{Z:St}{H:Hp}{xs ys:List V}
theorem gb.of (h:H a=some (.lst xs)):gb K H a xs:=.inl (.inl h)
theorem tK.of (h:H a=some (.tup xs)):tK K H a xs:=.inl (.inl h)
theorem Inv.list (I:Inv X pins Z H s) (h:gb X.K H a xs):∃ its:List aj,Vals xs its/\PlainL s.heap a its.toArray/\xs.length<=aT:=by
 rcases h with h|⟨o,its,n,hk,hc,hd,hs,hz,r⟩
 .obtain ⟨z,its,n,r,e⟩:=h.ok I.eY;exact ⟨its,r,⟨_,n,e,rfl,rfl,rfl⟩,z⟩
 .refine ⟨its.toList,r,⟨o,n,I.vM a o hk,hc,hd,by simpa using hs⟩,?_⟩;have e:=r.length;simp only [eA] at e;lia
theorem Inv.tuple (I:Inv X pins Z H s) (h:tK X.K H a xs):∃ its:List aj,Vals xs its/\vO s.heap a its.toArray/\xs.length<=aT:=by
 rcases h with h|⟨o,its,n,hk,hc,hs,hz,r⟩
 .obtain ⟨z,its,r,p⟩:=h.ok I.eY;exact ⟨its,r,p,z⟩
 .refine ⟨its.toList,r,⟨o,I.vM a o hk,hc,n,by simpa using hs⟩,?_⟩;have e:=r.length;simp only [eA] at e;lia
theorem Inv.WS (I:Inv X pins Z H s) (h:gb X.K H a xs) (h':gb X.K H a ys):xs=ys:=by
 obtain ⟨its,r,⟨o,n,e,_,_,d⟩,_⟩:=I.list h;obtain ⟨its',r',⟨o',n',e',_,_,d'⟩,_⟩:=I.list h';rw [e] at e';cases e';rw [d] at d'
 injection d' with d1 _
 have:its=its':=by simpa using congrArg Array.toList d1
 subst this;exact r.inj r'
theorem Inv.TV (I:Inv X pins Z H s) (h:tK X.K H a xs) (h':tK X.K H a ys):xs=ys:=by
 obtain ⟨its,r,⟨o,e,_,n,d⟩,_⟩:=I.tuple h;obtain ⟨its',r',⟨o',e',_,n',d'⟩,_⟩:=I.tuple h';rw [e] at e';cases e';rw [d] at d'
 injection d' with d1 _
 have:its=its':=by simpa using congrArg Array.toList d1
 subst this;exact r.inj r'
end
abbrev Cx.Ht (X:Cx) (E:aj->ax->Prop):Cx:={ X with xe:=E }
abbrev Cx.WK (X:Cx):Cx:=X.Ht λ_ _=>False
theorem Cx.Ok.Ht {X:Cx}(ok:X.Ok) (E:aj->ax->Prop):(X.Ht E).Ok :=
 ⟨ok.mod,ok.kind,ok.glob,ok.blt,ok.above,ok.inj,ok.has,ok.Xa,ok.hd,ok.frames,ok.YA,ok.YB,ok.bs,ok.O8,ok.Js,ok.Hu,ok.vc,ok.RY⟩
theorem Cx.Ok.vb {X:Cx}(ok:(X.Ht E).Ok):X.Ok :=
 ⟨ok.mod,ok.kind,ok.glob,ok.blt,ok.above,ok.inj,ok.has,ok.Xa,ok.hd,ok.frames,ok.YA,ok.YB,ok.bs,ok.O8,ok.Js,ok.Hu,ok.vc,ok.RY⟩
section
variable {X:Cx}{Z:St}{H:Hp}
theorem Inv.Ht (I:Inv X pins Z H s) (E:aj->ax->Prop):Inv (X.Ht E) pins Z H s:=⟨I.ok.Ht E,I.os,I.bare,I.base,I.loc,I.cell,I.free,I.nF,I.pin,I.eY,I.len⟩
theorem Inv.vb (I:Inv (X.Ht E) pins Z H s):Inv X pins Z H s:=⟨I.ok.vb,I.os,I.bare,I.base,I.loc,I.cell,I.free,I.nF,I.pin,I.eY,I.len⟩
theorem SP.vb {D:vT}{f:Flow}(h:SP (X.Ht E) pins D f s'):SP X pins D f s':=by
 cases f with
 | next=>obtain ⟨σ',H',I,q⟩:=h;exact ⟨σ',H',I.vb,q⟩
 | brk=>obtain ⟨σ',H',I,q⟩:=h;exact ⟨σ',H',I.vb,q⟩
 | cont=>obtain ⟨σ',H',I,q⟩:=h;exact ⟨σ',H',I.vb,q⟩
 | ret u=>obtain ⟨v,σ',H',I,r,q⟩:=h;exact ⟨v,σ',H',I.vb,r,q⟩
theorem Jr.WK {st:List dw}{t:TS}(h:Jr X.WK st t):Jr X st t:=λpins s Z H D I hw =>
 dF (h pins s Z H D (I.Ht _) hw) (λ_ _ q=>q.vb) λ_ _ z=>dh z
end
section
variable {X:Cx}{st:dw}{rest:List dw}{t u:TS}{te:TE}
def cH:TS:=λD Z H=>D.nx Z H
def bz (t u:TS):TS:=λD Z H=>t { D with nx:=u D } Z H
theorem bh:Jr X [] cH:=λ_ _ Z H _ I h=>uz ⟨Z,H,I,h⟩
theorem aw (h1:PS X st t) (h2:Jr X rest u):Jr X (st::rest) (bz t u):=by
 intro pins s Z H D I h;refine wpAny_execs_cons (gJ (h1 pins s Z H { D with nx:=u D } I h) λf s1 q=>?_)
 cases f with
 | next =>
  obtain ⟨σ',H',I',q⟩:=q
  exact h2 pins s1 σ' H' D I' q
 | ret v=>exact q
 | brk=>exact q
 | cont=>exact q
theorem ay (h1:PS X st t):Jr X [st] t:=by
 intro pins s Z H D I h;refine wpAny_execs_cons (gJ (h1 pins s Z H D I h) λf s1 q=>?_)
 cases f with
 | next=>exact uz q
 | ret v=>exact q
 | brk=>exact q
 | cont=>exact q
theorem Inv.quiet {Z:St}{H:Hp}(I:Inv X pins Z H s):interactive X.env=false:=by simp [interactive,I.ok.kind]
def gX (te:TE):TS:=λD Z H=>te Z H λ_ H1=>D.nx Z H1
theorem dS (he:PE X e te) (hs:Fj e none pos.line X.env=pure false:=by rfl):PS X (.Expr e pos) (gX te):=by
 intro pins s Z H D I h;exact wpAny_Expr_any (gJ (he pins s Z H _ I h) λv s1 ⟨x,H1,I1,r1,q1⟩=>⟨Z,H1,I1,q1⟩) I.quiet hs
def cY (te:TE):TS:=λD Z H=>te Z H D.rt
theorem bf (he:PE X e te):PS X (.Return (some e) pos) (cY te):=by
 intro pins s Z H D I h;exact wpAny_Return_some (gJ (he pins s Z H _ I h) λv s1 ⟨x,H1,I1,r1,q1⟩=>⟨x,Z,H1,I1,r1,q1⟩)
def dQ (c:TT) (t u:TS):TS:=λD Z H=>c Z H λb H1=>if b=true then t D Z H1 else u D Z H1
theorem cN {a b:List dw}{tc:TT}(hc:PT X c tc) (ha:Jr X a t) (hb:Jr X b u):PS X (.If c a b pos) (dQ tc t u):=by
 intro pins s Z H D I h;refine wpAny_If (gJ (hc pins s Z H _ I h) λd s1 ⟨H1,I1,q1⟩=>?_)
 cases d with
 | true=>exact ha pins s1 Z H1 D I1 q1
 | false=>exact hb pins s1 Z H1 D I1 q1
def gP:TS:=λ_ _ _=>False
theorem d7:PS X st gP:=λ_ _ _ _ _ _ h=>h.elim
end
abbrev TG:=V->St->Hp->(St->Hp->Prop)->Prop
abbrev W5:=List V->St->Hp->(St->Hp->Prop)->Prop
def PG (X:Cx) (target:Expr) (t:TG):Prop :=
 ∀ (pins:List (ah×jo)) (s:ax) (Z:St) (H:Hp) (v:V) (u:aj) (Q:St->Hp->Prop),Inv X pins Z H s->RelV v u->t v Z H Q ->
  aY (bg X.prog X.w) X.A (Ju target X.env u) (λ_ s'=>∃ σ' H',Inv X pins σ' H' s'/\Q σ' H') X.xe s
def PGs (X:Cx) (ts:List Expr) (t:W5):Prop :=
 ∀ (pins:List (ah×jo)) (s:ax) (Z:St) (H:Hp) (vs:List V) (us:List aj) (Q:St->Hp->Prop),Inv X pins Z H s->Vals vs us->t vs Z H Q ->
  aY (bg X.prog X.w) X.A (assignInOrder ((rV ts X.env).map (·.2)) us) (λ_ s'=>∃ σ' H',Inv X pins σ' H' s'/\Q σ' H') X.xe s
abbrev Xv:=V->V->V->Hp->(Hp->Prop)->Prop
def Xw (X:Cx) (t:Xv):Prop :=
 ∀ (pins:List (ah×jo)) (s:ax) (Z:St) (H:Hp) (o i v:V) (ov iv u:aj) (Q:Hp->Prop),Inv X pins Z H s->RelV o ov->RelV i iv->RelV v u->t o i v H Q ->
  aY (bg X.prog X.w) X.A (setItem ov iv u) (λ_ s'=>∃ H',Inv X pins Z H' s'/\Q H') X.xe s
abbrev TIp:=V->V->Hp->VK->Prop
def PIp (X:Cx) (op:Operator) (t:TIp):Prop :=
 ∀ (pins:List (ah×jo)) (s:ax) (Z:St) (H:Hp) (x y:V) (v u:aj) (Q:VK),Inv X pins Z H s->RelV x v->RelV y u->t x y H Q ->
  aY (bg X.prog X.w) X.A (OX op v u) (EP X pins Z Q) X.xe s
section
variable {X:Cx}
def bZ (i:Nat):TG:=λv Z H Q=>Q (Z.set i (some v)) H
theorem Xx (hN:X.N.Nodup) (hi:X.N[i]?=some x) (hx:Loc X.env.scope x) (hf:X.fn x=true\/X.env.scope.names.lookup x=some .local:=by first|exact .inl rfl|exact .inr rfl|assumption):PG X (.Name x pos) (bZ i):=by
 intro pins s Z H v u Q I r h;exact wpAny_assign_Name (vS I hN hi hx r (λs' I'=>⟨_,H,I',h⟩) hf)
def Kk:W5:=λvs Z H Q=>vs=[]/\Q Z H
def lC (t:TG) (u:W5):W5:=λvs Z H Q=>∃ v r,vs=v::r/\t v Z H λσ' H'=>u r σ' H' Q
theorem xG:PGs X [] Kk:=by
 intro pins s Z H vs us Q I r h;obtain ⟨e,h⟩:=h;subst e;cases r;exact assignInOrder_nil ⟨Z,H,I,h⟩
theorem fU {t:TG}{u:W5}(h1:PG X e t) (h2:PGs X es u)
  (hs:(rV (e::es) X.env).map (·.2)=Ju e X.env::(rV es X.env).map (·.2):=by rfl):PGs X (e::es) (lC t u):=by
 intro pins s Z H vs us Q I r h;obtain ⟨v,vr,e1,h⟩:=h;subst e1
 cases r with
 | cons r rr =>
  rw [hs];refine assignInOrder_cons (gJ (h1 pins s Z H _ _ _ I r h) λ_ s1 ⟨σ1,H1,I1,q1⟩=>?_);exact h2 pins s1 σ1 H1 _ _ Q I1 rr q1
def HK (K:ae) (n:Nat) (t:W5):TG:=λv Z H Q=>∃ a xs,v=.ref a/\tK K H a xs/\xs.length=n/\t xs Z H Q
theorem zj {t:W5}(hc:X.calm=true) (h:PGs X es t)
  (hn:(rV es X.env).length=n:=by rfl) (hst:(rV es X.env).findIdx? (·.1)=none:=by rfl):PG X (.Tuple es k pos) (HK X.K n t):=by
 intro pins s Z H v u Q I r hw;obtain ⟨a,xs,e1,hq,hl,hw⟩:=hw;subst e1;cases r;obtain ⟨its,rv,ht,hz⟩:=I.tuple hq;refine assign_Tuple_tuple (I.ok.hd hc) ht (by simp [hn,← hl,rv.length]) hst λh' hx=>?_;have I1:Inv X pins Z H { s with heap:=h' }:=I.kept (t':=s.toks) λb o e=>hx b o (bb (aS e)) e;exact h pins _ Z H xs _ Q I1 (by simpa using rv) hw
def Kl (to ti:TE) (t:Xv):TG:=λv Z H Q=>to Z H λo H1=>ti Z H1 λi H2=>t o i v H2 λH3=>Q Z H3
theorem zk {o i:Expr}{to ti:TE}{t:Xv}(ho:PE X o to) (hi:PE X i ti) (hs:Xw X t)
  (ha:∀ v,Ju (.Subscript o i pos) X.env v=(do
   let ov ← qI [v] (fR o X.env)
   let iv ← qI [v,ov] (fR i X.env)
   yc pos
   qI [v,ov,iv] (setItem ov iv v)
   release [v,ov,iv] []):=by intro _;rfl):PG X (.Subscript o i pos) (Kl to ti t):=by
 intro pins s Z H v u Q I r h;rw [ha];refine ar (gf (gJ (ho pins s Z H _ I h) λov s1 ⟨x,H1,I1,r1,q1⟩=>?_));refine ar (gf (gJ (hi pins s1 Z H1 _ I1 q1) λiv s2 ⟨y,H2,I2,r2,q2⟩=>?_));refine ar (yC (ar (gf (gJ (hs pins s2 Z H2 x y v ov iv u _ I2 r1 r2 r q2) λ_ s3 ⟨H3,I3,q3⟩=>?_))));exact wpAny_release ⟨Z,H3,I3,q3⟩
def ft (te:TE) (g:TG):TS:=λD Z H=>te Z H λx H1=>g x Z H1 D.nx
theorem uF {te:TE}{g:TG}(he:PE X e te) (hg:PG X tg g) (hs:swapsWithSole [tg] e pos.line X.env=pure false:=by rfl) (hw:swappedStores [tg] e X.env=pure none:=by rfl)
  (h1:(rV [tg] X.env).map (·.2)=[Ju tg X.env]:=by rfl):PS X (.Assign [tg] e pos) (ft te g):=by
 intro pins s Z H D I h;refine wpAny_Assign_stores (gJ (he pins s Z H _ I h) λv s1 ⟨x,H1,I1,r1,q1⟩=>?_) hs hw;rw [h1];exact gJ (hg pins s1 Z H1 x v _ I1 r1 q1) λ_ s2 q=>q
theorem ZF {te:TE}(hN:X.N.Nodup) (hi:X.N[i]?=some x) (hx:Loc X.env.scope x) (he:PE X e te) (hs:Fj e (some (.Name x pos')) pos.line X.env=pure false:=by rfl) (hf:X.fn x=true\/X.env.scope.names.lookup x=some .local:=by first|exact .inl rfl|exact .inr rfl|assumption) :
  PS X (.Assign [.Name x pos'] e pos) (ft te (bZ i)):=by
 intro pins s Z H D I h;refine wpAny_Assign_Name (gJ (he pins s Z H _ I h) λv s1 ⟨y,H1,I1,r1,q1⟩=>?_) hs;exact vS I1 hN hi hx r1 (λs2 I2=>⟨_,H1,I2,q1⟩) hf
def Xy (i:Nat) (te:TE) (ti:TIp):TS:=λD Z H=>∃ x,Z[i]?=some (some x)/\te Z H λy H1=>ti x y H1 λz H2=>D.nx (Z.set i (some z)) H2
theorem UK {te:TE}{ti:TIp}(hN:X.N.Nodup) (hi:X.N[i]?=some x) (hx:Loc X.env.scope x) (he:PE X e te) (ho:PIp X op ti) (hf:X.fn x=true\/X.env.scope.names.lookup x=some .local:=by first|exact .inl rfl|exact .inr rfl|assumption) :
  PS X (.AugAssign (.Name x pos') op e pos) (Xy i te ti):=by
 intro pins s Z H D I h;obtain ⟨v,e1,h⟩:=h;obtain ⟨m,hn,hl⟩:=I.loc
 have vis:Vis X.env.scope x:=by rcases hx with k|k;exact .inl k;exact .inr (.inl k)
 obtain ⟨u,r,l⟩:=hl i x v hi e1 vis;refine wpAny_AugAssign_Name ?_
 have go:aY (bg X.prog X.w) X.A (fR e X.env) (λw s₂=>aY (bg X.prog X.w) X.A (OX op u w) (λr s₃=>aY (bg X.prog X.w) X.A (storeName X.env x r) (λ_=>SP X pins D .next) X.xe s₃) X.xe s₂) X.xe s:=by
  refine gJ (he pins s Z H _ I h) λw s1 ⟨y,H1,I1,r1,q1⟩=>?_;refine gJ (ho pins s1 Z H1 v y u w _ I1 r r1 q1) λz s2 ⟨zv,H2,I2,r2,q2⟩=>?_;exact vS I2 hN hi hx r2 (λs3 I3=>⟨_,H2,I3,q2⟩) hf
 rcases l with ⟨hk,hm⟩|⟨hk,c,hc,hcell⟩
 .exact tL I.ok.kind hk hn hm go
 .rcases hk with hk|hk
  .exact wpAny_loadName_cell I.ok.kind hk hc hcell go
  .rcases hx with k|k
   .have:X.env.scope.names.lookup x=some .free:=hk;rw [k] at this;cases this
   .have:X.env.scope.names.lookup x=some .free:=hk;rw [k] at this;cases this
end
section
variable {X:Cx}
def Pn (c:TT) (tb:TS):TS:=λD Z H=>∃ W:Nat->St->Hp->Prop,(∃ m,W m Z H)/\∀ m Z H,W m Z H ->
 c Z H λb H1=>if b=true then ∃ N:St->Hp->Prop,(∀ σ' H',N σ' H'->∃ m',m'<m/\W m' σ' H')/\tb { D with nx:=N,ct:=N,bk:=D.nx } Z H1 else D.nx Z H1
theorem UL {tc:TT}{tb:TS}(hp:PassesOwn (bg X.prog X.w) X.A X.env X.xe) (hc:PT X c tc) (hb:Jr X body tb):PS X (.While c body [] pos) (Pn tc tb):=by
 intro pins s Z H D I h;obtain ⟨W,⟨m0,w0⟩,turn⟩:=h;refine wpAny_While (codeAny_whileLoop (λn s'=>∃ σ' H',Inv X pins σ' H' s'/\W n σ' H') ?_ m0 ⟨Z,H,I,w0⟩);rintro n s1 ⟨σ1,H1,I1,w1⟩;refine lJ hp (gJ (hc pins s1 σ1 H1 _ I1 (turn n σ1 H1 w1)) λb s2 ⟨H2,I2,q2⟩=>?_)
 cases b with
 | true =>
  obtain ⟨N,hN,q2⟩:=q2;rw [if_pos rfl];refine lJ hp (gJ (hb pins s2 σ1 H2 _ I2 q2) λf s3 q3=>?_)
  cases f with
  | next =>
   obtain ⟨σ3,H3,I3,n3⟩:=q3;obtain ⟨m',hm,w3⟩:=hN σ3 H3 n3
   exact ⟨m',hm,σ3,H3,I3,w3⟩
  | cont =>
   obtain ⟨σ3,H3,I3,n3⟩:=q3;obtain ⟨m',hm,w3⟩:=hN σ3 H3 n3
   exact ⟨m',hm,σ3,H3,I3,w3⟩
  | brk=>exact q3
  | ret v=>exact q3
 | false =>
  rw [if_neg bF];exact uz ⟨σ1,H2,I2,q2⟩
end
structure It where
 go:Nat->Hp->Prop
 TX:Nat->Hp->V->Hp->Prop
 stop:Nat->Hp->Prop
def vF (X:Cx) (pins:List (ah×jo)) (H:Hp) (b:ah):Prop :=
 H b=none/\b≠X.env.locals/\b∉X.fs/\(b∈X.ex\/X.s₀.heap.objs.size<=b)/\(∀ x c,X.env.cells.lookup x=some c->c≠b)/\∀ p∈X.pn++pins,p.1≠b
theorem Inv.Jt {X:Cx}{Z:St}{H H':Hp}(I:Inv X pins Z H s) (hb:s.heap.objs.size<=b) (hn:H' b=none):vF X pins H' b:=by
 refine ⟨hn,yD (bG I.lt hb),I.nofs hb,.inr (bU I.sz hb),λx c e z=>?_,λp hp z=>?_⟩
 .obtain ⟨v,q⟩:=I.cell x c e;exact absurd (bG q.lt (by rw [z];exact hb)) (iE _)
 .exact absurd (bG (aS (I.pin p hp).1) (by rw [z];exact hb)) (iE _)
structure Po (P:bC) (w:cW) (K:ae) (tg:Expr) (J:It) (fp:List ah) (it:ah) (tn:Nat->dt->Prop):Prop where
 mem:it∈fp
 obj:∀ i h,tn i h->∀ b∈fp,∃ o,h.get? b=some o/\∀ v,o.data≠.cell v
 keep:∀ i h h',tn i h->(∀ b∈fp,∀ o,h.get? b=some o->h'.get? b=some o)->tn i h'
 item:∀ (X:Cx),X.prog=P->X.w=w->X.K=K->X.calm=true->∀ (i:Nat) (pins:List (ah×jo)) (s:ax) (Z:St) (H:Hp) (E:aj->ax->Prop),Inv X pins Z H s->(∀ b∈fp,vF X pins H b)->tn i s.heap->J.go i H ->
  aY (bg P w) X.A (OY (.ref it)) (λr s1=>∃ u,r=some u /\
   aY (bg P w) X.A (uA tg (.ref it) u) (λ_ s2=>∃ x H',Inv X pins Z H' s2/\RelV x u/\J.TX i H x H'/\tn (i+1) s2.heap/\∀ b∈fp,H' b=none) E s1) E s
 done:∀ (X:Cx),X.prog=P->X.w=w->X.K=K->X.calm=true->∀ (i:Nat) (pins:List (ah×jo)) (s:ax) (Z:St) (H:Hp) (E:aj->ax->Prop),Inv X pins Z H s->(∀ b∈fp,vF X pins H b)->tn i s.heap->J.stop i H ->
  aY (bg P w) X.A (OY (.ref it)) (λr s1=>r=none/\Inv X pins Z H s1) E s
 self:∀ (A:dC) (i:Nat) (s:ax) (Q:aj->ax->Prop) (E:aj->ax->Prop),tn i s.heap->Q (.ref it) s->aY (bg P w) A (pyIter (.ref it)) Q E s
abbrev TI:=St->Hp->(It->Hp->Prop)->Prop
def PIE (X:Cx) (pins:List (ah×jo)) (Z:St) (tg:Expr) (R:It->Hp->Prop) (itv:aj) (s2:ax):Prop :=
 ∃ (it:ah) (fp:List ah) (tn:Nat->dt->Prop) (J:It) (H':Hp),itv=.ref it/\Inv X pins Z H' s2/\Po X.prog X.w X.K tg J fp it tn/\tn 0 s2.heap/\(∀ b∈fp,vF X pins H' b)/\R J H'
def PI (X:Cx) (tg iter:Expr) (wi:TI):Prop :=
 ∀ (pins:List (ah×jo)) (s:ax) (Z:St) (H:Hp) (R:It->Hp->Prop),Inv X pins Z H s->wi Z H R ->
  aY (bg X.prog X.w) X.A (fR iter X.env) (λv s1=>aY (bg X.prog X.w) X.A (pyIter v) (PIE X pins Z tg R) X.xe s1) X.xe s
theorem JB {n:String}{vs:Array aj}{Q:Unit->ax->Prop}(ho:s.heap.get? it=some o) (hc:o.cls=.type n) (hd:o.data=.fields vs)
    (hn:["enumerate","zip","dict_itemiterator","dict_reverseitemiterator","odict_iterator","itertools.zip_longest","itertools.pairwise"].contains n=false) (hQ:Q () s):aY M A (uA tg (.ref it) u) Q E s:=by
  unfold uA
  cases tg<;>first
    | exact aQ hQ
    | (cases u<;>first
        | exact aQ hQ
        | (refine ar (wpAny_load ho ?_)
           rw [hc,hd]
           show aY M A (if (["enumerate","zip","dict_itemiterator","dict_reverseitemiterator","odict_iterator","itertools.zip_longest","itertools.pairwise"].contains n && vs[0]? == some (iT _))=true then _ else _) Q E s
           rw [if_neg (by intro h;rw [hn,jF] at h;cases h)]
           exact aQ hQ))
def Pp (K:ae) (a:ah):It :=
 ⟨λi H=>∃ xs x,gb K H a xs/\xs[i]?=some x,λi H x H'=>H'=H/\∀ xs,gb K H a xs->xs[i]?=some x,λi H=>∃ xs,gb K H a xs/\xs.length<=i⟩
def Itt (K:ae) (a:ah):It :=
 ⟨λi H=>∃ xs x,tK K H a xs/\xs[i]?=some x,λi H x H'=>H'=H/\∀ xs,tK K H a xs->xs[i]?=some x,λi H=>∃ xs,tK K H a xs/\xs.length<=i⟩
def Itr (lo:Int) (n:Nat):It:=⟨λi _=>i<n,λi H x H'=>H'=H/\x=.int (lo+i),λi _=>n<=i⟩
theorem Sr (a it:ah):Po P w K tg (Pp K a) [it] it (λi h=>h.IsListIter it a i) where
 mem:=by simp
 obj:=λi h st b hb=>by
  have e:b=it:=by simpa using hb
  subst e;obtain ⟨o,e,c,d⟩:=st;exact ⟨o,e,λv z=>by rw [d] at z;cases z⟩
 keep:=λi h h' st k=>st.at λo e=>k it (by simp) o e
 item:=by
  intro X hP hw hK hc i pins s Z H E I hf st hg;subst hP hw hK;obtain ⟨xs,x,hq,hx⟩:=hg;obtain ⟨its,rv,p,hz⟩:=I.list hq;obtain ⟨u,hu,ru⟩:=rv.get hx;obtain ⟨f0,f1,f2,f3,f4,f5⟩:=hf it (by simp);refine wpAny_pyNext_list_item st p.isList (x:=u) (by simpa using hu) λh' st' sb=>?_;have I1:Inv X pins Z H { s with heap:=h' }:=I.turned (t':=s.toks) (λb o hb e=>(sb.2 b hb).trans e) f0 f1 f3 f4 f5;obtain ⟨o,e,c,d⟩:=id st';exact ⟨u,rfl,JB (s:={ s with heap:=h' }) e c d (by decide) ⟨x,H,I1,ru,⟨rfl,λys hy=>by rw [I.WS hy hq];exact hx⟩,st',λb hb=>(hf b hb).1⟩⟩
 done:=by
  intro X hP hw hK hc i pins s Z H E I hf st hg;subst hP hw hK;obtain ⟨xs,hq,hx⟩:=hg;obtain ⟨its,rv,p,hz⟩:=I.list hq;obtain ⟨f0,f1,f2,f3,f4,f5⟩:=hf it (by simp);have hl:=rv.length
  exact wpAny_pyNext_list_end (I.ok.hd hc) st p.isList (by simp;lia) λh' eb=>⟨rfl,I.turned (t':=s.toks) (λb o hb e=>eb b o hb e) f0 f1 f3 f4 f5⟩
 self:=λ_ _ _ _ _ st h=>wpAny_pyIter_listiter st h
theorem Pq (a it:ah):Po P w K tg (Itt K a) [it] it (λi h=>h.IsTupleIter it a i) where
 mem:=by simp
 obj:=λi h st b hb=>by
  have e:b=it:=by simpa using hb
  subst e;obtain ⟨o,e,c,d⟩:=st;exact ⟨o,e,λv z=>by rw [d] at z;cases z⟩
 keep:=λi h h' st k=>st.at λo e=>k it (by simp) o e
 item:=by
  intro X hP hw hK hc i pins s Z H E I hf st hg;subst hP hw hK;obtain ⟨xs,x,hq,hx⟩:=hg;obtain ⟨its,rv,p,hz⟩:=I.tuple hq;obtain ⟨u,hu,ru⟩:=rv.get hx;obtain ⟨f0,f1,f2,f3,f4,f5⟩:=hf it (by simp);refine wpAny_pyNext_tuple_item st (show s.heap.IsTuple a its.toArray from p) (x:=u) (by simpa using hu) λh' st' sb=>?_;have I1:Inv X pins Z H { s with heap:=h' }:=I.turned (t':=s.toks) (λb o hb e=>(sb.2 b hb).trans e) f0 f1 f3 f4 f5;obtain ⟨o,e,c,d⟩:=id st';exact ⟨u,rfl,JB (s:={ s with heap:=h' }) e c d (by decide) ⟨x,H,I1,ru,⟨rfl,λys hy=>by rw [I.TV hy hq];exact hx⟩,st',λb hb=>(hf b hb).1⟩⟩
 done:=by
  intro X hP hw hK hc i pins s Z H E I hf st hg;subst hP hw hK;obtain ⟨xs,hq,hx⟩:=hg;obtain ⟨its,rv,p,hz⟩:=I.tuple hq;obtain ⟨f0,f1,f2,f3,f4,f5⟩:=hf it (by simp);have hl:=rv.length
  exact wpAny_pyNext_tuple_end (I.ok.hd hc) st (show s.heap.IsTuple a its.toArray from p) (by simp;lia) λh' eb=>⟨rfl,I.turned (t':=s.toks) (λb o hb e=>eb b o hb e) f0 f1 f3 f4 f5⟩
 self:=λ_ _ _ _ _ st h=>wpAny_pyIter_tupleiter st h
theorem Pr (it:ah) (lo:Int) (n:Nat):Po P w K tg (Itr lo n) [it] it (λi h=>IsRangeIter h it (lo+(i:Nat)*1) ((n:Int)-(i:Nat)) 1) where
 mem:=by simp
 obj:=λi h st b hb=>by
  have e:b=it:=by simpa using hb
  subst e
  exact ⟨_,st,λv z=>by
   have z':Data.fields _=Data.cell v:=z
   cases z'⟩
 keep:=λi h h' st k=>k it (by simp) _ st
 item:=by
  intro X hP hw hK hc i pins s Z H E I hf st hg;subst hP hw hK;obtain ⟨f0,f1,f2,f3,f4,f5⟩:=hf it (by simp);have W:=Walks.range (prog:=X.prog) (w:=X.w) (I.ok.hd hc) it lo 1 n;refine W.item i s _ _ hg st λv h' tk hv st' kk=>?_;obtain ⟨t,rfl⟩:=hv;have I1:Inv X pins Z H { s with heap:=h',toks:=tk }:=I.turned (λb o hb e=>kk b o (by simpa using hb) e) f0 f1 f3 f4 f5;refine ⟨_,rfl,JB (s:={ s with heap:=h',toks:=tk }) (n:="range_iterator") st' rfl rfl (by decide) ⟨.int (lo+i),H,I1,⟨t,?_⟩,⟨rfl,rfl⟩,st',λb hb=>(hf b hb).1⟩⟩;rw [Int.mul_one]
 done:=by
  intro X hP hw hK hc i pins s Z H E I hf st hg;subst hP hw hK;obtain ⟨f0,f1,f2,f3,f4,f5⟩:=hf it (by simp)
  exact wpAny_pyNext_range_end (I.ok.hd hc) st (by have:n<=i:=hg;lia) λh' eb=>⟨rfl,I.turned (t':=s.toks) (λb o hb e=>eb b o hb e) f0 f1 f3 f4 f5⟩
 self:=λ_ _ _ _ _ st h=>wpAny_pyIter_rangeiter st h
section
variable {X:Cx}
theorem UM {Z:St}{H:Hp}{R:It->Hp->Prop}{lo hi:Int}{t u v:T8}{tk:Nat}(I:Inv X pins Z H s) (h1:-(2^62)<=lo) (h2:lo<2^62) (h3:-(2^62)<=hi) (h4:hi<2^62)
  (q:R (Itr lo (hi-lo).toNat) H):aY (bg X.prog X.w) X.A (pyIter (.ref s.heap.objs.size)) (PIE X pins Z tg R) E { s with heap:=s.heap.push { cls:=.type "range",data:=.fields #[.int lo t,.int hi u,.int 1 v] },toks:=tk }:=by
 refine wpAny_pyIter_range (IsRange.new ..) (small_one h1 h2 h3 h4) ?_;have I1:Inv X pins Z H { s with heap:=s.heap.push { cls:=.type "range",data:=.fields #[.int lo t,.int hi u,.int 1 v] },toks:=tk }:=I.kept λb o e=>aA _ e
 refine ⟨(s.heap.push { cls:=.type "range",data:=.fields #[.int lo t,.int hi u,.int 1 v] }).objs.size,[(s.heap.push { cls:=.type "range",data:=.fields #[.int lo t,.int hi u,.int 1 v] }).objs.size],_,_,H,rfl,
  I1.kept (t':=tk) λb o e=>aA _ e,Pr _ lo (hi-lo).toNat,?_,λb hb=>?_,q⟩
 .have e1:lo+((0:Nat):Int)*1=lo:=by simp
  have e2:(((hi-lo).toNat:Nat):Int)-((0:Nat):Int)=Builtin.Range.rangeSize lo hi 1:=by rw [rangeSize_one];split<;>lia
  show IsRangeIter _ _ (lo+((0:Nat):Int)*1) ((((hi-lo).toNat:Nat):Int)-((0:Nat):Int)) 1
  rw [e1,e2];exact aZ _ rfl
 .have e:b=(s.heap.push { cls:=.type "range",data:=.fields #[.int lo t,.int hi u,.int 1 v] }).objs.size:=by simpa using hb
  subst e;exact I1.Jt (aE _) (I1.eY.fresh (aE _))
def Q4 (ta:TA):TI:=λZ H R=>ta Z H λvs H1=>∃ j:Int,vs=[.int j]/\-(2^62)<=j/\j<2^62/\R (Itr 0 j.toNat) H1
theorem JC {a:Expr}{ta:TA}(hg:Gl X "range") (hm:X.mg "range"=none) (ha:PA X [a] ta) (hs:bw [a] X.env=[(false,fR a X.env)]:=by rfl):PI X tg (.Call (.Name "range" p) [a] [] pos) (Q4 ta):=by
 intro pins s Z H R I h;refine Call_ (Fv I hg hm boot_range (Dm (gJ (ha pos pins s Z H _ I h) λus s1 ⟨vs,H1,I1,r1,q1⟩=>?_) hs rfl));obtain ⟨j,e,q1,q2,q⟩:=q1;subst e
 cases r1 with
 | cons r rr =>
  cases rr;obtain ⟨t,rfl⟩:=r;exact call_range_1 (UM I1 (by lia) (by lia) q1 q2 (by simpa using q))
def Km (wi:TI) (g:TG) (tb:TS):TS:=λD Z H=>wi Z H λJ H1=>∃ W:Nat->Nat->St->Hp->Prop,(∃ m,W 0 m Z H1)/\∀ i m Z H,W i m Z H ->
 (J.stop i H/\D.nx Z H)\/(J.go i H/\∃ N:St->Hp->Prop,(∀ σ' H',N σ' H'->∃ m',m'<m/\W (i+1) m' σ' H')/\∀ x H',J.TX i H x H'->g x Z H' λσ2 H2=>tb { D with nx:=N,ct:=N,bk:=D.nx } σ2 H2)
def BA (fp:List ah) (h:dt):List (ah×jo):=fp.filterMap λb=>(h.get? b).map λo=>(b,o)
theorem nS (hb:b∈fp) (e:h.get? b=some o):(b,o)∈BA fp h:=nK.mpr ⟨b,hb,by rw [e];rfl⟩
theorem Ss {p:ah×jo}(hp:p∈BA fp h):p.1∈fp/\h.get? p.1=some p.2:=by
 obtain ⟨b,hb,e⟩:=nK.mp hp
 cases q:h.get? b with
 | none=>rw [q] at e;cases e
 | some o =>
  rw [q] at e;have e':(b,o)=p:=aD e;subst e';exact ⟨hb,q⟩
theorem Inv.pinned {Z:St}{H:Hp}(I:Inv X pins Z H s) (hf:∀ b∈fp,vF X pins H b) (ho:∀ b∈fp,∃ o,s.heap.get? b=some o/\∀ v,o.data≠.cell v):Inv X (pins++BA fp s.heap) Z H s :=
 I.R8 λp hp=>(bX.mp hp).elim (λz=>I.pin p (aU _ z)) λz=>by
  obtain ⟨hb,e⟩:=Ss z;obtain ⟨f0,f1,f2,_⟩:=hf p.1 hb;obtain ⟨o,e',d⟩:=ho p.1 hb;rw [e] at e';cases e';exact ⟨e,f0,f1,f2,d⟩
theorem Inv.xy {pl:List (ah×jo)}{Z:St}{H:Hp}(I:Inv X (pins++pl) Z H s):Inv X pins Z H s:=I.R8 λp hp=>I.pin p (aU _ (c6 _ hp))
theorem zl {iter:Expr}{wi:TI}{g:TG}{tb:TS}(hp:PassesOwn (bg X.prog X.w) X.A X.env X.xe) (hc:X.calm=true) (hi:PI X tg iter wi) (hg:PG X tg g) (hb:Jr X body tb)
  (hs:∀ x,md iter X.env x=pure x:=by intro _;rfl):PS X (.For tg iter body [] pos) (Km wi g tb):=by
 intro pins s Z H D I h;refine wpAny_For (gJ (hi pins s Z H _ I h) λv s1 h1=>gJ h1 λitv s2 h2=>?_) hs;obtain ⟨it,fp,tn,J,H2,e,I2,T,st2,f2,W,⟨m0,w0⟩,turn⟩:=h2;subst e
 -- what stays true of the iterator's objects through the loop
 have stat:∀ {H':Hp},(∀ b∈fp,H' b=none)->∀ b∈fp,vF X pins H' b:=λhn b hb=>⟨hn b hb,(f2 b hb).2⟩
 refine codeAny_forLoop_any (λn s'=>∃ i σ' H',Inv X pins σ' H' s'/\tn i s'.heap/\(∀ b∈fp,H' b=none)/\W i n σ' H') ?_ m0 ⟨0,Z,H2,I2,st2,λb hb=>(f2 b hb).1,w0⟩;rintro n s3 ⟨i,σ3,H3,I3,st3,fr3,w3⟩
 rcases turn i n σ3 H3 w3 with ⟨stop,qn⟩|⟨go,N,hN,step⟩
 .refine lJ hp (gJ (T.done X rfl rfl rfl hc i pins s3 σ3 H3 X.xe I3 (stat fr3) st3 stop) λr s4 ⟨hr,I4⟩=>?_);subst hr;exact uz ⟨σ3,H3,I4,qn⟩
 .refine lJ hp (gJ (T.item X rfl rfl rfl hc i pins s3 σ3 H3 X.xe I3 (stat fr3) st3 go) λr s4 ⟨u,hr,h4⟩=>?_);subst hr;refine lJ hp (gJ h4 λ_ s5 ⟨x,H5,I5,r5,y5,st5,fr5⟩=>?_);have I5':=I5.pinned (stat fr5) (T.obj _ _ st5);refine lJ hp (gJ (hg _ s5 σ3 H5 x u _ I5' r5 (step x H5 y5)) λ_ s6 ⟨σ6,H6,I6,q6⟩=>?_);refine lJ hp (gJ (hb _ s6 σ6 H6 _ I6 q6) λf s7 q7=>?_)
  have again:∀ {σ7:St}{H7:Hp},Inv X (pins++BA fp s5.heap) σ7 H7 s7->N σ7 H7->∃ m,m<n/\∃ i σ' H',Inv X pins σ' H' s7/\tn i s7.heap/\(∀ b∈fp,H' b=none)/\W i m σ' H':=λ{σ7 H7} I7 n7=>by
   obtain ⟨m',hm,w7⟩:=hN σ7 H7 n7;refine ⟨m',hm,i+1,σ7,H7,I7.xy,T.keep _ _ _ st5 λb hb o e=>(I7.pin (b,o) (aU _ (aU _ (nS hb e)))).1,λb hb=>?_,w7⟩;obtain ⟨o,e,d⟩:=T.obj _ _ st5 b hb;exact (I7.pin (b,o) (aU _ (aU _ (nS hb e)))).2.1
  cases f with
  | next=>obtain ⟨σ7,H7,I7,n7⟩:=q7;exact again I7 n7
  | cont=>obtain ⟨σ7,H7,I7,n7⟩:=q7;exact again I7 n7
  | brk=>obtain ⟨σ7,H7,I7,q7⟩:=q7;exact ⟨σ7,H7,I7.xy,q7⟩
  | ret v=>obtain ⟨x7,σ7,H7,I7,r7,q7⟩:=q7;exact ⟨x7,σ7,H7,I7.xy,r7,q7⟩
end
theorem tT {xs:List V}{g:TG}{tb:TS}{D:vT}{Z:St}{H:Hp}(Pv:Nat->St->Hp->Prop) (h0:Pv 0 Z H) (hl:∀ i Z H,i<=xs.length->Pv i Z H->gb K H a xs)
  (hs:∀ i x Z H,xs[i]?=some x->Pv i Z H->g x Z H λσ2 H2=>tb { D with nx:=Pv (i+1),ct:=Pv (i+1),bk:=D.nx } σ2 H2) (hd:∀ Z H,Pv xs.length Z H->D.nx Z H) :
  ∃ W:Nat->Nat->St->Hp->Prop,(∃ m,W 0 m Z H)/\∀ i m Z H,W i m Z H ->
   ((Pp K a).stop i H/\D.nx Z H)\/((Pp K a).go i H/\∃ N:St->Hp->Prop,(∀ σ' H',N σ' H'->∃ m',m'<m/\W (i+1) m' σ' H')/\∀ x H',(Pp K a).TX i H x H'->g x Z H' λσ2 H2=>tb { D with nx:=N,ct:=N,bk:=D.nx } σ2 H2):=by
 refine ⟨λi m Z H=>m=xs.length-i/\i<=xs.length/\Pv i Z H,⟨xs.length,by simp,dm _,h0⟩,?_⟩;rintro i m Z H ⟨rfl,hi,p⟩;have q:=hl i Z H hi p
 by_cases hlt:i<xs.length
 .refine .inr ⟨⟨xs,xs[i],q,by simp [hlt]⟩,Pv (i+1),λσ' H' p'=>⟨xs.length-(i+1),by lia,rfl,hlt,p'⟩,λx H' y=>?_⟩;obtain ⟨e,y⟩:=y;subst e;exact hs i x Z _ (y xs q) p
 .have e:i=xs.length:=by lia
  subst e;exact .inl ⟨⟨xs,q,aE _⟩,hd Z H p⟩
abbrev R2:=V->V->Hp->VK->Prop
def tP (X:Cx) (f:aj->aj->MM aj) (r:R2):Prop :=
 ∀ (pins:List (ah×jo)) (s:ax) (Z:St) (H:Hp) (x y:V) (v u:aj) (Q:VK),Inv X pins Z H s->RelV x v->RelV y u->r x y H Q ->
  aY (bg X.prog X.w) X.A (f v u) (EP X pins Z Q) X.xe s
def UnR (X:Cx) (f:aj->MM aj) (r:V->Hp->VK->Prop):Prop :=
 ∀ (pins:List (ah×jo)) (s:ax) (Z:St) (H:Hp) (x:V) (v:aj) (Q:VK),Inv X pins Z H s->RelV x v->r x H Q ->
  aY (bg X.prog X.w) X.A (f v) (EP X pins Z Q) X.xe s
def mK (X:Cx) (f:aj) (r:List V->Hp->VK->Prop):Prop :=
 ∀ (pins:List (ah×jo)) (s:ax) (Z:St) (H:Hp) (xs:List V) (us:List aj) (Q:VK),Inv X pins Z H s->Vals xs us->r xs H Q ->
  aY (bg X.prog X.w) X.A (call f us) (EP X pins Z Q) X.xe s
def TruR (X:Cx) (r:V->Hp->(Bool->Hp->Prop)->Prop):Prop :=
 ∀ (pins:List (ah×jo)) (s:ax) (Z:St) (H:Hp) (x:V) (v:aj) (Q:Bool->Hp->Prop),Inv X pins Z H s->RelV x v->r x H Q ->
  aY (bg X.prog X.w) X.A (truthy v) (TP X pins Z Q) X.xe s
def bT (r:R2) (ta tb:TE):TE:=λZ H Q=>ta Z H λx H1=>tb Z H1 λy H2=>r x y H2 Q
def tUn (r:V->Hp->VK->Prop) (ta:TE):TE:=λZ H Q=>ta Z H λx H1=>r x H1 Q
def rI (C:Int->Int->Prop) (g:Int->Int->V):R2:=λx y H Q=>∃ i j,x=.int i/\y=.int j/\C i j/\Q (g i j) H
def yM (g:Int->Int->V):R2:=λx y H Q=>∃ i j,x=.int i/\y=.int j/\Q (g i j) H
def rU (g:Int->V):V->Hp->VK->Prop:=λx H Q=>∃ i,x=.int i/\Q (g i) H
section
variable {X:Cx}{a b:Expr}{ta tb tc:TE}
theorem Xz (ha:PE X a ta) (hb:PE X b tb) {pins:List (ah×jo)}{s:ax}{Z:St}{H:Hp}{R:V->V->Hp->Prop}(I:Inv X pins Z H s)
  (h:ta Z H λx H1=>tb Z H1 λy H2=>R x y H2) {Q:aj->ax->Prop}{f:aj->aj->MM aj}
  (hf:∀ v u s2 x y H2,Inv X pins Z H2 s2->RelV x v->RelV y u->R x y H2->aY (bg X.prog X.w) X.A (f v u) Q X.xe s2) :
  aY (bg X.prog X.w) X.A (fR a X.env) (λv s₁=>aY (bg X.prog X.w) X.A (fR b X.env) (λu s₂=>aY (bg X.prog X.w) X.A (f v u) Q X.xe s₂) X.xe s₁) X.xe s:=by
 refine gJ (ha pins s Z H _ I h) λv s1 ⟨x,H1,I1,r1,q1⟩=>?_;refine gJ (hb pins s1 Z H1 _ I1 q1) λu s2 ⟨y,H2,I2,r2,q2⟩=>?_;exact hf v u s2 x y H2 I2 r1 r2 q2
theorem a9 {r:R2}(ho:tP X (oi op) r) (ha:PE X a ta) (hb:PE X b tb):PE X (.BinOp a op b pos) (bT r ta tb):=by
 intro pins s Z H Q I h;exact wpAny_BinOp (Xz ha hb I h λv u s2 x y H2 I2 rx ry q=>ho pins s2 Z H2 x y v u Q I2 rx ry q)
theorem YX {op:UnaryOp}{r:V->Hp->VK->Prop}(ho:UnR X (unaryOp op) r) (ha:PE X a ta):PE X (.UnaryOp op a pos) (tUn r ta):=by
 intro pins s Z H Q I h;exact UnaryOp_ (gJ (ha pins s Z H _ I h) λv s1 ⟨x,H1,I1,r1,q1⟩=>ho pins s1 Z H1 x v Q I1 r1 q1)
theorem opI {f:aj->aj->MM aj}{C:Int->Int->Prop}{g:Int->Int->Int}
  (rule:∀ (i j:Int) (t u:T8) (s:ax) (Q:aj->ax->Prop) (E:aj->ax->Prop),C i j->Q (.int (g i j) s.toks) { s with toks:=s.toks+1 }->aY (bg X.prog X.w) X.A (f (.int i t) (.int j u)) Q E s) :
  tP X f (rI C λi j=>.int (g i j)):=by
 intro pins s Z H x y v u Q I rx ry h;obtain ⟨i,j,rfl,rfl,hc,q⟩:=h;obtain ⟨t,rfl⟩:=rx;obtain ⟨t',rfl⟩:=ry;exact rule i j t t' s _ _ hc ⟨.int (g i j),H,I.tok _,⟨_,rfl⟩,q⟩
theorem ZG {f:aj->aj->MM aj}{g:Int->Int->Int}
  (rule:∀ (i j:Int) (t u:T8) (s:ax) (Q:aj->ax->Prop) (E:aj->ax->Prop),Q (.int (g i j) s.toks) { s with toks:=s.toks+1 }->aY (bg X.prog X.w) X.A (f (.int i t) (.int j u)) Q E s) :
  tP X f (yM λi j=>.int (g i j)):=by
 intro pins s Z H x y v u Q I rx ry h;obtain ⟨i,j,rfl,rfl,q⟩:=h;obtain ⟨t,rfl⟩:=rx;obtain ⟨t',rfl⟩:=ry;exact rule i j t t' s _ _ ⟨.int (g i j),H,I.tok _,⟨_,rfl⟩,q⟩
theorem ZH {f:aj->aj->MM aj}{g:Int->Int->Bool}
  (rule:∀ (i j:Int) (t u:T8) (s:ax) (Q:aj->ax->Prop) (E:aj->ax->Prop),Q (.bool (g i j)) s->aY (bg X.prog X.w) X.A (f (.int i t) (.int j u)) Q E s) :
  tP X f (yM λi j=>.bl (g i j)):=by
 intro pins s Z H x y v u Q I rx ry h;obtain ⟨i,j,rfl,rfl,q⟩:=h;obtain ⟨t,rfl⟩:=rx;obtain ⟨t',rfl⟩:=ry;exact rule i j t t' s _ _ ⟨.bl (g i j),H,I,rfl,q⟩
def vG (i j:Int):Prop:=0<j/\j<1073741824
def Su (i j:Int):Prop:=0<=j/\j<=1000000/\i.natAbs<2^64
def TZ (i j:Int):Prop:=(-(2^64)<i/\i<2^64)\/(-(2^64)<j/\j<2^64)
theorem TZ.ok {i j:Int}(h:TZ i j):IntMulOk i j:=by
 rcases h with ⟨h1,h2⟩|⟨h1,h2⟩
 .exact .of_left (intBits_le_64 h1 h2)
 .exact .of_right (intBits_le_64 h1 h2)
theorem ZI:tP X (oi .Add) (yM λi j=>.int (i+j)):=ZG λ_ _ _ _ _ _ _ q=>add_int q
theorem Fw:tP X (oi .Sub) (yM λi j=>.int (i-j)):=ZG λ_ _ _ _ _ _ _ q=>sub_int q
theorem ZJ:tP X (oi .Mult) (rI TZ λi j=>.int (i*j)):=opI λ_ _ _ _ _ _ _ hc q=>mul_int q hc.ok
theorem i9:tP X (oi .FloorDiv) (rI vG λi j=>.int (i/j)):=opI λi j _ _ _ _ _ hc q=>by
 have h1:(0:Int)<j:=hc.1;have h2:j<1073741824:=hc.2;exact floordiv_int (by lia) (by rw [Int.fdiv_eq_ediv_of_nonneg i (by lia)];exact q) (.inl (PyProof.noPylong_small (by lia)))
theorem iW:tP X (oi .Mod) (rI (λ_ j=>0<j) λi j=>.int (i%j)):=opI λi j _ _ _ _ _ hc q=>by
 have h1:(0:Int)<j:=hc;exact mod_int' (by lia) (by rw [Int.fmod_eq_emod_of_nonneg i (by lia)];exact q)
theorem Fx:tP X (oi .Pow) (rI Su λi j=>.int (i^j.toNat)):=opI λ_ _ _ _ _ _ _ hc q=>pow_int_small hc.1 hc.2.1 hc.2.2 q
theorem XA:tP X (OX .Add) (yM λi j=>.int (i+j)):=ZG λ_ _ _ _ _ _ _ q=>Zi q
theorem XB:tP X (OX .Mult) (rI TZ λi j=>.int (i*j)):=opI λ_ _ _ _ _ _ _ hc q=>imul_int q hc.ok
theorem unI {f:aj->MM aj}{g:Int->Int}
  (rule:∀ (i:Int) (t:T8) (s:ax) (Q:aj->ax->Prop) (E:aj->ax->Prop),Q (.int (g i) s.toks) { s with toks:=s.toks+1 }->aY (bg X.prog X.w) X.A (f (.int i t)) Q E s) :
  UnR X f (rU λi=>.int (g i)):=by
 intro pins s Z H x v Q I rx h;obtain ⟨i,rfl,q⟩:=h;obtain ⟨t,rfl⟩:=rx;exact rule i t s _ _ ⟨.int (g i),H,I.tok _,⟨_,rfl⟩,q⟩
theorem UN:UnR X (unaryOp .USub) (rU λi=>.int (-i)):=unI λ_ _ _ _ _ q=>neg_int q
end
def scal:V->V->Bool
 | .non,.non=>true | .non,.int _=>true | .int _,.non=>true | .non,.bl _=>true | .bl _,.non=>true | .non,.str _=>true | .str _,.non=>true
 | .int _,.int _=>true | .bl _,.bl _=>true | .str _,.str _=>true | .byt _,.byt _=>true
 | .int _,.str _=>true | .str _,.int _=>true | .bl _,.str _=>true | .str _,.bl _=>true
 | _,_=>false
def rEq:R2:=λx y H Q=>scal x y=true/\Q (.bl (decide (x=y))) H
def rNe:R2:=λx y H Q=>scal x y=true/\Q (.bl (!decide (x=y))) H
theorem Q5 {i j:Int}:decide (V.int i=V.int j)=(i == j):=by
 rw [nH];simp
theorem UO {i j:Bool}:decide (V.bl i=V.bl j)=(i == j):=by
 rw [nH];simp
theorem Q6 {i j:aL}:decide (V.str i=V.str j)=(i == j):=by
 rw [nH];simp
theorem Q7 {i j:Array UInt8}:decide (V.byt i=V.byt j)=(i.toList == j.toList):=by
 rw [nH];cases i;cases j;simp
section
variable {X:Cx}{a b:Expr}{ta tb tc:TE}
theorem eZ {Z:St}{H:Hp}{Q:VK}{k k':Bool}(I:Inv X pins Z H s) (q:Q (.bl k) H) (e:k=k'):EP X pins Z Q (.bool k') s:=by
 subst e;exact ⟨.bl k,H,I,rfl,q⟩
theorem abx:tP X (dP .Eq) rEq:=by
 intro pins s Z H x y v u Q I rx ry h;obtain ⟨hs,q⟩:=h
 cases x with
 | non =>
  cases rx
  cases y with
  | non=>cases ry;exact PySem.EqNone.eq_none_none (eZ I q (by simp))
  | bl j=>cases ry;exact PySem.EqNone.eq_none_bool (eZ I q (by simp))
  | int j=>obtain ⟨t',rfl⟩:=ry;exact PySem.EqNone.eq_none_int (eZ I q (by simp))
  | str j=>obtain ⟨t',rfl⟩:=ry;exact PySem.EqNone.eq_none_str (eZ I q (by simp))
  | _=>exact absurd (show false=true from hs) bF
 | bl i =>
  cases rx
  cases y with
  | non=>cases ry;exact PySem.EqNone.eq_bool_none (eZ I q (by simp))
  | bl j=>cases ry;exact eq_bool (eZ I q UO)
  | str j=>obtain ⟨t',rfl⟩:=ry;exact PySem.EqMixed.eq_bool_str (eZ I q (by simp))
  | _=>exact absurd (show false=true from hs) bF
 | int i =>
  obtain ⟨t,rfl⟩:=rx
  cases y with
  | non=>cases ry;exact PySem.EqNone.eq_int_none (eZ I q (by simp))
  | int j=>obtain ⟨t',rfl⟩:=ry;exact eq_int (eZ I q Q5)
  | str j=>obtain ⟨t',rfl⟩:=ry;exact PySem.EqMixed.eq_int_str (eZ I q (by simp))
  | _=>exact absurd (show false=true from hs) bF
 | str i =>
  obtain ⟨t,rfl⟩:=rx
  cases y with
  | non=>cases ry;exact PySem.EqNone.eq_str_none (eZ I q (by simp))
  | bl j=>cases ry;exact PySem.EqMixed.eq_str_bool (eZ I q (by simp))
  | int j=>obtain ⟨t',rfl⟩:=ry;exact PySem.EqMixed.eq_str_int (eZ I q (by simp))
  | str j=>obtain ⟨t',rfl⟩:=ry;exact eq_str (eZ I q Q6)
  | _=>exact absurd (show false=true from hs) bF
 | byt i =>
  obtain ⟨t,rfl⟩:=rx
  cases y with
  | byt j=>obtain ⟨t',rfl⟩:=ry;exact PySem.W.eq_bytes (eZ I q Q7)
  | _=>exact absurd (show false=true from hs) bF
 | _=>cases y<;>exact absurd (show false=true from hs) bF
theorem aby:tP X (dP .NotEq) rNe:=by
 intro pins s Z H x y v u Q I rx ry h;obtain ⟨hs,q⟩:=h
 cases x with
 | non =>
  cases rx
  cases y with
  | non=>cases ry;exact PySem.EqNone.ne_none_none (eZ I q (by simp))
  | bl j=>cases ry;exact PySem.EqNone.ne_none_bool (eZ I q (by simp))
  | int j=>obtain ⟨t',rfl⟩:=ry;exact PySem.EqNone.ne_none_int (eZ I q (by simp))
  | str j=>obtain ⟨t',rfl⟩:=ry;exact PySem.EqNone.ne_none_str (eZ I q (by simp))
  | _=>exact absurd (show false=true from hs) bF
 | bl i =>
  cases rx
  cases y with
  | non=>cases ry;exact PySem.EqNone.ne_bool_none (eZ I q (by simp))
  | bl j=>cases ry;exact ne_bool (eZ I q (congrArg not UO))
  | str j=>obtain ⟨t',rfl⟩:=ry;exact PySem.EqMixed.ne_bool_str (eZ I q (by simp))
  | _=>exact absurd (show false=true from hs) bF
 | int i =>
  obtain ⟨t,rfl⟩:=rx
  cases y with
  | non=>cases ry;exact PySem.EqNone.ne_int_none (eZ I q (by simp))
  | int j=>obtain ⟨t',rfl⟩:=ry;exact ne_int (eZ I q (congrArg not Q5))
  | str j=>obtain ⟨t',rfl⟩:=ry;exact PySem.EqMixed.ne_int_str (eZ I q (by simp))
  | _=>exact absurd (show false=true from hs) bF
 | str i =>
  obtain ⟨t,rfl⟩:=rx
  cases y with
  | non=>cases ry;exact PySem.EqNone.ne_str_none (eZ I q (by simp))
  | bl j=>cases ry;exact PySem.EqMixed.ne_str_bool (eZ I q (by simp))
  | int j=>obtain ⟨t',rfl⟩:=ry;exact PySem.EqMixed.ne_str_int (eZ I q (by simp))
  | str j=>obtain ⟨t',rfl⟩:=ry;exact ne_str (eZ I q (congrArg not Q6))
  | _=>exact absurd (show false=true from hs) bF
 | byt i =>
  obtain ⟨t,rfl⟩:=rx
  cases y with
  | byt j=>obtain ⟨t',rfl⟩:=ry;exact PySem.W.ne_bytes (eZ I q (congrArg not Q7))
  | _=>exact absurd (show false=true from hs) bF
 | _=>cases y<;>exact absurd (show false=true from hs) bF
theorem JD:tP X (dP .Lt) (yM λi j=>.bl (decide (i<j))):=ZH λ_ _ _ _ _ _ _ q=>Xd q
theorem JE:tP X (dP .LtE) (yM λi j=>.bl (decide (i<=j))):=ZH λ_ _ _ _ _ _ _ q=>le_int q
theorem YY:tP X (dP .Gt) (yM λi j=>.bl (decide (j<i))):=ZH λ_ _ _ _ _ _ _ q=>gt_int q
theorem Sv:tP X (dP .In) (λx y H Q=>∃ i j,x=.str i/\y=.str j/\Q (.bl (!(HF j i 0 j.length 1).isEmpty)) H):=by
 intro pins s Z H x y v u Q I rx ry h;obtain ⟨i,j,rfl,rfl,q⟩:=h;obtain ⟨t,rfl⟩:=rx;obtain ⟨t',rfl⟩:=ry;exact in_str (eZ I q rfl)
theorem tP.or {f:aj->aj->MM aj}{r r':R2}(h:tP X f r) (h':tP X f r'):tP X f (λx y H Q=>r x y H Q\/r' x y H Q):=by
 intro pins s Z H x y v u Q I rx ry q
 rcases q with q|q
 .exact h pins s Z H x y v u Q I rx ry q
 .exact h' pins s Z H x y v u Q I rx ry q
theorem cB (b:Expr) {op:CmpOp}(h:op≠.In:=by decide) (h2:op≠.NotIn:=by decide):HG op b=false:=by
 have e1:(op == CmpOp.In)=false:=by cases op<;>first|rfl|exact absurd rfl h
 have e2:(op == CmpOp.NotIn)=false:=by cases op<;>first|rfl|exact absurd rfl h2
 cases b<;>simp [HG,e1,e2]
theorem rY {op:CmpOp}{r:R2}(ho:tP X (dP op) r) (ha:PE X a ta) (hb:PE X b tb) (hm:HG op b=false):PE X (.Compare a [op] [b] pos) (bT r ta tb):=by
 intro pins s Z H Q I h;exact wpAny_Compare1 (Xz ha hb I h λv u s2 x y H2 I2 rx ry q=>ho pins s2 Z H2 x y v u Q I2 rx ry q) hm
def di (t:TE):TT:=λZ H Q=>t Z H λx H'=>∃ k,x=.bl k/\Q k H'
theorem bR {op:CmpOp}{r:R2}(ho:tP X (dP op) r) (ha:PE X a ta) (hb:PE X b tb) (hm:HG op b=false):PT X (.Compare a [op] [b] pos) (di (bT r ta tb)):=by
 intro pins s Z H Q I h
 refine wpAny_isTrue_Compare1 (gJ (ha pins s Z H _ I h) λv s1 ⟨x,H1,I1,r1,q1⟩=>gJ (hb pins s1 Z H1 _ I1 q1) λu s2 ⟨y,H2,I2,r2,q2⟩ =>
  gJ (ho pins s2 Z H2 x y v u _ I2 r1 r2 q2) λc s3 ⟨z,H3,I3,r3,k,e,q3⟩=>?_) hm
 subst e;cases r3;exact ma ⟨H3,I3,q3⟩
def Fy (r r':R2) (ta tb tc:TE):TE:=λZ H Q=>ta Z H λx H1=>tb Z H1 λy H2=>r x y H2 λz H3=>∃ k,z=.bl k /\
 (if k=true then tc Z H3 λw' H4=>r' y w' H4 Q else Q (.bl false) H3)
theorem Fz {op op':CmpOp}{r r':R2}(ho:tP X (dP op) r) (ho':tP X (dP op') r') (ha:PE X a ta) (hb:PE X b tb) (hc:PE X c tc)
  (hm:lastMarks [op,op'] [b,c]=false:=by with_unfolding_all rfl):PE X (.Compare a [op,op'] [b,c] pos) (Fy r r' ta tb tc):=by
 intro pins s Z H Q I h
 refine Compare_chain (gJ (ha pins s Z H _ I h) λv s1 ⟨x,H1,I1,r1,q1⟩=>chain_link (gJ (hb pins s1 Z H1 _ I1 q1) λu s2 ⟨y,H2,I2,r2,q2⟩ =>
  gJ (ho pins s2 Z H2 x y v u _ I2 r1 r2 q2) λd s3 ⟨z,H3,I3,r3,k,e,q3⟩=>?_)) hm
 subst e;cases r3;refine ma ?_
 cases k with
 | false=>exact ite_ff ⟨.bl false,H3,I3,rfl,q3⟩
 | true=>exact ite_tt (chain_last (gJ (hc pins s3 Z H3 _ I3 q3) λw' s4 ⟨z',H4,I4,r4,q4⟩=>ho' pins s4 Z H4 y z' u w' Q I4 r2 r4 q4))
def XC (K:ae) (x:V) (H:Hp) (k:Bool):Prop :=
 match x with
 | .non=>k=false
 | .bl b=>k=b
 | .int i=>k=(i != 0)
 | .str y=>y.length<=aT/\k=((y.length:Int) != 0)
 | .byt y=>y.size<=aT/\k=((y.size:Int) != 0)
 | .ref p=>(∃ xs,gb K H p xs/\k=!xs.isEmpty)\/(∃ xs,tK K H p xs/\k=!xs.isEmpty)\/∃ kvs,H p=some (.dK kvs)/\k=!kvs.isEmpty
 | _=>False
theorem Pu {κ:Type} {kvs:List (κ×V)}{vs:List (κ×aj)}(r:KV kvs vs):(!vs.isEmpty)=!kvs.isEmpty:=by
 cases r<;>rfl
theorem FA {xs:List V}{its:List aj}(r:Vals xs its):(!its.toArray.isEmpty)=!xs.isEmpty:=by
 cases r<;>simp
theorem vU:(aT:Nat)<2^63:=by rw [yd];decide
theorem ZK:TruR X (λx H Q=>∃ k,XC X.K x H k/\Q k H):=by
 intro pins s Z H x v Q I rx h;obtain ⟨k,e,q⟩:=h;have hl:=vU;have hs:aT=16777216:=yd
 cases x with
 | non =>
  cases rx;have e':k=false:=e;subst e'
  exact truthy_none ⟨H,I,q⟩
 | bl b =>
  cases rx;have e':k=b:=e;subst e'
  exact ma ⟨H,I,q⟩
 | int i =>
  obtain ⟨t,rfl⟩:=rx;have e':k=(i != 0):=e;subst e'
  exact PySem.P.truthy_int ⟨H,I,q⟩
 | str y =>
  obtain ⟨t,rfl⟩:=rx;obtain ⟨hy,e'⟩:y.length<=aT/\k=((y.length:Int) != 0):=e;subst e'
  exact PySem.P.truthy_str (by lia) ⟨H,I.tok _,q⟩
 | byt y =>
  obtain ⟨t,rfl⟩:=rx;obtain ⟨hy,e'⟩:y.size<=aT/\k=((y.size:Int) != 0):=e;subst e'
  exact PySem.W.truthy_bytes (by lia) ⟨H,I.tok _,q⟩
 | ref p =>
  cases rx;have e':(∃ xs,gb X.K H p xs/\k=!xs.isEmpty)\/(∃ xs,tK X.K H p xs/\k=!xs.isEmpty)\/∃ kvs,H p=some (.dK kvs)/\k=!kvs.isEmpty:=e
  rcases e' with ⟨xs,hx,e'⟩|⟨xs,hx,e'⟩|⟨kvs,hx,e'⟩
  .subst e';obtain ⟨its,r,pl,hz⟩:=I.list hx;have hlen:=r.length;exact wpAny_truthy_list pl.isList (by simp only [bu];lia) ⟨H,I.tok _,by rw [FA r];exact q⟩
  .subst e';obtain ⟨its,r,pl,hz⟩:=I.tuple hx;have hlen:=r.length;exact truthy_tuple pl (by simp only [bu];lia) ⟨H,I.tok _,by rw [FA r];exact q⟩
  .subst e';obtain ⟨hz,hS,vs,r,m⟩:kvs.length<=aT/\(p == jM)=false/\∃ vs,KV kvs vs/\s.heap.DictOf (i8 X.prog X.w) p vs:=I.eY p _ hx;have hlen:kvs.length=vs.length:=Bs r
   exact wpAny_truthy_dict hS m (by lia) ⟨H,I.tok _,by rw [Pu r];exact q⟩
 | _=>exact (show False from e).elim
theorem UP (ha:PE X a ta) (he:∀ whole,isTrue a X.env whole=(do let v ← whole;yc a.pos;qI [v] (truthy v))) :
  PT X a (λZ H Q=>ta Z H λx H'=>∃ k,XC X.K x H' k/\Q k H'):=by
 intro pins s Z H Q I h;exact isTrue_plain (gJ (ha pins s Z H _ I h) λv s1 ⟨x,H1,I1,r1,q1⟩=>ZK pins s1 Z H1 x v Q I1 r1 q1) (he _)
theorem Pw:tP X (oi .Add) (λx y H Q=>∃ i j,x=.str i/\y=.str j/\i.length+j.length<=aT/\Q (.str (i++j)) H):=by
 intro pins s Z H x y v u Q I rx ry h;obtain ⟨i,j,rfl,rfl,hz,q⟩:=h;obtain ⟨t,rfl⟩:=rx;obtain ⟨t',rfl⟩:=ry;exact add_str (λt' tk=>⟨.str (i++j),H,I.tok _,⟨_,rfl⟩,q⟩) hz
def MY (b:Expr):Prop:=∀ o i,subscripted b false o i=operate [o,i] (YF o i)
theorem MZ (ha:PE X a ta) (hb:PE X b tb) (hs:MY b) :
  PE X (.Subscript a b pos) (bT (λx y H Q=>∃ z i c,x=.str z/\y=.int i/\0<=i/\i<2^63/\i<z.length/\z.cps[i.toNat]?=some c/\Q (.str ⟨#[c]⟩) H) ta tb):=by
 intro pins s Z H Q I h;refine Ua (Xz ha hb I h λv u s2 x y H2 I2 rx ry q=>?_);obtain ⟨z,i,c,rfl,rfl,h0,h63,h1,hc,q⟩:=q;obtain ⟨t,rfl⟩:=rx;obtain ⟨t',rfl⟩:=ry;have e:seqIndex? i z.length=some i.toNat:=PySem.StrLaws.seqIndex_nonneg h0 h1
 exact tail_any (typeIs_str s2 z t) slot_str_getitem.lookup (getItem_str (c:=c) (by
  have e1:decide (i < -(2^63:Int))=false:=decide_eq_false (by lia);have e2:decide (i>=2^63)=false:=decide_eq_false (by lia)
  rw [e1,e2]<;>rfl) (by rw [e];exact hc) ⟨.str ⟨#[c]⟩,H2,I2.tok _,⟨_,rfl⟩,q⟩) (hs _ _)
theorem vals1 {x:V}(r:Vals [x] us):∃ u,us=[u]/\RelV x u:=by
 cases r with
 | cons r1 r2=>cases r2;exact ⟨_,rfl,r1⟩
theorem vals2 {x y:V}(r:Vals [x,y] us):∃ u w',us=[u,w']/\RelV x u/\RelV y w':=by
 cases r with
 | cons r1 r2 =>
  cases r2 with
  | cons r3 r4=>cases r4;exact ⟨_,_,rfl,r1,r3⟩
theorem cM:mK X (.type "str") (λxs H Q=>∃ i,xs=[.int i]/\i.natAbs.log2<1920/\Q (.str (toString i)) H):=by
 intro pins s Z H xs us Q I r h;obtain ⟨i,rfl,hz,q⟩:=h;obtain ⟨u,rfl,t,rfl⟩:=vals1 r;exact PySem.P.str_of_int hz ⟨.str _,H,I.tok _,⟨_,rfl⟩,q⟩
end
structure QV (h:dt) (x dx C:ah) (mA:aL->Option aj):Prop where
 obj:h.get? x=some (iU C dx)
 ns:h.Ns1 dx mA
 ne:dx≠x
theorem Sw (n:h.Ns1 dx mA):∃ od,h.get? dx=some od/\∀ name,yE name od=some (mA name):=by
 obtain ⟨o,es,ep,ho,hd,hk,_,hm⟩:=n;refine ⟨o,ho,λname=>?_⟩;have e:=hm name;unfold nsFind findBy at e;rw [← Array.find?_toList] at e;unfold yE;rw [hd];dsimp only
 split
 .rename_i y q
  rw [q] at e;exact congrArg some e
 .rename_i q
  rw [q] at e
  have a:es.toList.any (·.refKey)=false:=by
   rw [List.any_eq_false];intro y hy;obtain ⟨z,t,hkey⟩:=hk y (Array.mem_toList_iff.mp hy);simp [DictEntry.refKey,hkey]
  have a':¬ es.toList.any (·.refKey)=true:=by rw [a];exact bF
  rw [if_neg a'];exact congrArg some e
theorem QV.look {x:ah}(I:QV h x dx C mA):∃ od,yF h x (iU C dx) C (some od)/\∀ name,yE name od=some (mA name) :=
 let ⟨od,ho,hl⟩:=Sw I.ns
 ⟨od,⟨I.obj,rfl,rfl,ho⟩,hl⟩
section
variable {x:ah}
theorem XD {expr:Bool}(X:K.In s.heap) (I:QV s.heap x dx C mA) (hg:gx K C name=true) (hh:gW K C=true)
  (ha:aJ K (.ref C) name=some none) (hv:mA name=some v) (hv':WT v=true) (h:Q v { s with toks:=s.toks+1 }) :
  aY (bg prog w) A (getAttr (.ref x) name expr) Q E s:=by
 obtain ⟨od,J,hl⟩:=I.look;exact PySem.W.get_value X J (zX hg).1 (PySem.W.findObj_own hh ha rfl (by rw [hl,hv])) hv' h
theorem UQ {Q:aj×List aj->ax->Prop}(X:K.In s.heap) (I:QV s.heap x dx C mA) (hg:gx K C name=true)
  (hf:aJ K (.ref C) name=some (some (.ref f))) (ht:vP K (.ref f)=true) (hv:mA name=none) (h:Q (.ref f,[.ref x]) s) :
  aY (bg prog w) A (zY (.ref x) name pl) Q E s:=by
 obtain ⟨od,J,hl⟩:=I.look;exact PySem.W.method_fn X J (zX hg).1 (zX hg).2 hf (beq_iff_eq.mp ht) (by show (yE name od).map (·.isSome)=some false;rw [hl,hv];rfl) h
theorem XE {ns:List aL}{Q:Unit->ax->Prop}(X:K.In s.heap) (I:QV s.heap x dx C mA)
  (hs:aJ K (.ref C) "__setattr__"=some (some (.builtin "object.__setattr__"))) (hp:i5 K C=true) (ht:Hz K C name=some none) (hh:gW K C=true)
  (hw:QX mA ns) (hsz:ns.length<=aT)
  (h:∀ h',QV h' x dx C (λy=>if y=name then some v else mA y)->yb dx s.heap h'->Q () { s with heap:=h',toks:=s.toks+2 }) :
  aY (bg prog w) A (setAttr (.ref x) name v) Q E s:=by
 obtain ⟨od,J,hl⟩:=I.look;refine PySem.W.set_plain X J hs (PySem.W.osa_open (s:={ s with toks:=s.toks+1 }) (r:=none) X J hp ht λb=>?_);obtain ⟨cd,hc,hd'⟩:=PySem.W.any_some hh;have hx:s.heap.get? x=some ⟨.ref C,some dx,.plain,#[]⟩:=I.obj;refine ar (aQ (ar (ar (wpAny_loadPart hx (ar (PySem.W.Looks.here (s:={ s with toks:=s.toks+1 }) (PySem.W.looks_clsIn X hc) ?_))))));rw [hd'];refine aQ (a:=some dx) (ar (aQ (ar ?_)));refine wpAny_nsSet1 (s:={ s with toks:=s.toks+1 }) I.ns λh' hn2 hs2=>?_;obtain ⟨oD,esD,epD,hoD,hdD,hcD⟩:=hn2.count (PySem.Within.cons name v hw);refine ar (wpAny_lookBehind hoD (by rw [hdD];exact pastItsLine_dict (bU hcD (by rw [bo];lia))) ?_);exact aQ (h _ ⟨(hs2.2 _ (Ne.symm I.ne)).trans I.obj,hn2,I.ne⟩ hs2)
theorem UR {R:Result->ax->Prop}{vs:List aj}(X:K.In s.heap) (hm:iV K C=true)
  (hi:aJ K (.ref C) "__init__"=some (some (.ref f))) (hf:PySem.W.typeIn K (.ref f)=some (.type "function"))
  (h:sO (bg prog w) (A.under (.builtin "type.__call__" ⟨.ref C::vs,kw⟩)) (.call (.ref f) ⟨.ref (s.heap.objs.size+1)::vs,kw⟩) (PySem.W.InitBack (s.heap.objs.size+1) R)
   { s with heap:=(s.heap.push fH).push (iU C s.heap.objs.size) }) :
  sO (bg prog w) A (.call (.ref C) ⟨vs,kw⟩) R s:=by
 obtain ⟨hh,g,d,t,os⟩:=s;exact PySem.W.make_core (PySem.W.makes_of X hm) (yG X hi) (λself=>PySem.W.bind_fn X self hf) (.inl rfl) h
end
def eP (f:aL) (v:V):List (aL×V)->List (aL×V)
 | []=>[(f,v)]
 | (g,x)::r=>if g=f then (g,v)::r else (g,x)::eP f v r
theorem fJ (f g:aL) (v:V):∀ fs:List (aL×V),(eP f v fs).lookup g=if g=f then some v else fs.lookup g
 | []=>by
  show du g [(f,v)]=_
  by_cases h:g=f
  .have hb:(g == f)=true:=beq_iff_eq.mpr h;simp only [du,hb,if_pos h]
  .have hb:(g == f)=false:=beq_eq_false_iff_ne.mpr h
   simp only [du,hb,if_neg h]
 | (k,x)::r=>by
  have ih:=fJ f g v r;rw [show eP f v ((k,x)::r)=(if k=f then (k,v)::r else (k,x)::eP f v r) from rfl]
  by_cases hk:k=f
  .rw [if_pos hk]
   by_cases h:g=k
   .have hb:(g == k)=true:=beq_iff_eq.mpr h;simp only [du,hb,if_pos (h.trans hk)]
   .have hb:(g == k)=false:=beq_eq_false_iff_ne.mpr h;simp only [du,hb,if_neg (λe:g=f=>h (e.trans hk.symm))]
  .rw [if_neg hk]
   by_cases h:g=k
   .have hb:(g == k)=true:=beq_iff_eq.mpr h;simp only [du,hb,if_neg (λe:g=f=>hk (h.symm.trans e))]
   .have hb:(g == k)=false:=beq_eq_false_iff_ne.mpr h;simp only [du,hb];exact ih
theorem BB (f:aL) (v:V):∀ fs:List (aL×V),f∈(eP f v fs).map (·.1)/\∀ g,g∈fs.map (·.1)->g∈(eP f v fs).map (·.1)
 | []=>⟨by simp [eP],λg h=>by simp at h⟩
 | (k,x)::r=>by
  obtain ⟨i1,i2⟩:=BB f v r;rw [show eP f v ((k,x)::r)=(if k=f then (k,v)::r else (k,x)::eP f v r) from rfl]
  by_cases hk:k=f
  .rw [if_pos hk];subst hk;exact ⟨by simp,λg h=>by simpa using h⟩
  .rw [if_neg hk];refine ⟨?_,λg h=>?_⟩
   .rw [bx];exact ag _ i1
   .rw [bx] at h ⊢
    rcases az.mp h with e|e
    .exact az.mpr (.inl e)
    .exact ag _ (i2 g e)
theorem Dr (f:aL) (v:V):∀ fs:List (aL×V),(eP f v fs).length<=fs.length+1
 | []=>by simp [eP]
 | (k,x)::r=>by
  have ih:=Dr f v r;rw [show eP f v ((k,x)::r)=(if k=f then (k,v)::r else (k,x)::eP f v r) from rfl]
  by_cases hk:k=f
  .rw [if_pos hk,bo,bo];lia
  .rw [if_neg hk,bo,bo];lia
theorem xA.some_of {v:V}{o:Option aj}(r:xA (some v) o):∃ u,o=some u/\RelV v u:=by
 cases o with
 | none=>exact (show False from r).elim
 | some u=>exact ⟨u,rfl,r⟩
theorem xA.none_of {o:Option aj}(r:xA none o):o=none:=by
 cases o with
 | none=>rfl
 | some u=>exact (show False from r).elim
theorem Sy {v:V}(r:RelV v u):WT u=true:=by
 cases v with
 | non=>cases (show u=dE from r);rfl
 | bl b=>cases (show u=xD b from r);rfl
 | int i=>obtain ⟨t,e⟩:=(show ∃ t,u=jE i t from r);cases e;rfl
 | str x=>obtain ⟨t,e⟩:=(show ∃ t,u=sN x t from r);cases e;rfl
 | byt b=>obtain ⟨t,e⟩:=(show ∃ t,u=Value.bytes b t from r);cases e;rfl
 | flt b=>obtain ⟨t,e⟩:=(show ∃ t,u=T9 b t from r);cases e;rfl
 | ref a=>cases (show u=aB a from r);rfl
 | ty n=>cases (show u=lI n from r);rfl
section
variable {H H':Hp}{fs fs':List (aL×V)}
theorem EX (eY:vN P w H h) (e:H a=some (.ins C dx fs)):∃ mA,QV h a dx C mA/\(∀ f,xA (fs.lookup f) (mA f))/\QX mA (fs.map (·.1))/\fs.length<=1000/\H dx=some (.own a):=by
 obtain ⟨d,z,ne,ob,mA,n,r,q⟩:=(show fq P w H h a (.ins C dx fs) from eY a _ e)
 exact ⟨mA,⟨ob,n,ne⟩,r,q,z,d⟩
end
structure Fg (K:ae) (C:ah):Prop where
 pg:gx K C tR=true
 hd:gW K C=true
 po:i5 K C=true
 sa:aJ K (.ref C) "__setattr__"=some (some (.builtin "object.__setattr__"))
theorem Fg.get (c:Fg K C) (f:aL):gx K C f=true:=c.pg
def dR (K:ae) (C:ah) (f:aL):Prop:=aJ K (.ref C) f=some none
theorem dR.aco {f:aL}(n:dR K C f):Hz K C f=some none:=by
 unfold Hz;rw [show aJ K (.ref C) f=some none from n]
 rfl
structure XG (K:ae) (C:ah) (m:aL) (f:ah):Prop where
 at_:aJ K (.ref C) m=some (some (.ref f))
 fn:vP K (.ref f)=true
 kp:bV K (.ref f)=true
section
variable {X:Cx}{Z:St}{H:Hp}{fs:List (aL×V)}{f:aL}{v:V}
theorem FB {b:Bool}(I:Inv X pins Z H s) (e:H a=some (.ins C dx fs)) (c:Fg X.K C) (n:dR X.K C f) (l:fs.lookup f=some v)
  (h:∀ u s',Inv X pins Z H s'->RelV v u->Q u s'):aY (bg X.prog X.w) A (getAttr (.ref a) f b) Q E s:=by
 obtain ⟨mA,O,r,_,_,_⟩:=EX I.eY e;obtain ⟨u,hu,ru⟩:=xA.some_of (v:=v) (o:=mA f) (by rw [← l];exact r f);exact XD I.vM O (c.get f) c.hd n hu (Sy ru) (h u _ (I.tok _) ru)
theorem FC {g:ah}{Q:aj×List aj->ax->Prop}(I:Inv X pins Z H s) (e:H a=some (.ins C dx fs)) (c:Fg X.K C) (k:XG X.K C m g) (l:fs.lookup m=none)
  (h:Q (.ref g,[.ref a]) s):aY (bg X.prog X.w) A (zY (.ref a) m pl) Q E s:=by
 obtain ⟨mA,O,r,_,_,_⟩:=EX I.eY e;have hn:mA m=none:=xA.none_of (by rw [← l];exact r m);exact UQ I.vM O (c.get m) k.at_ k.fn hn h
theorem FD {y:V}{Q:Unit->ax->Prop}(I:Inv X pins Z H s) (e:H a=some (.ins C dx fs)) (c:Fg X.K C) (n:dR X.K C f) (hl:fs.length<1000) (ry:RelV y u)
  (h:∀ s',Inv X pins Z (upd H a (.ins C dx (eP f y fs))) s'->Q () s'):aY (bg X.prog X.w) A (setAttr (.ref a) f u) Q E s:=by
 obtain ⟨mA,O,r,wi,_,ho⟩:=EX I.eY e
 have hz:(fs.map (·.1)).length<=aT:=by rw [ao,yd];lia
 refine XE I.vM O c.sa c.po n.aco c.hd wi hz λh' O' sb=>h _ ?_
 have hd:∃ o,h'.get? dx=some o:=let ⟨o,_,_,e',_⟩:=O'.ns;⟨o,e'⟩
 refine I.write (x:=a) (e:=dx) (by rw [e];exact j7) (.inr ho) (λb q hb z=>(sb.2 b hb).trans z) hd ?_;refine ⟨by rw [aI O.ne];exact ho,?_,O.ne,O'.obj,_,O'.ns,λg=>?_,λg hg=>?_⟩
 .have:=Dr f y fs;lia
 .show xA ((eP f y fs).lookup g) (if g=f then some u else mA g)
  rw [fJ]
  by_cases q:g=f
  .rw [if_pos q,if_pos q];exact ry
  .rw [if_neg q,if_neg q];exact r g
 .by_cases q:g=f
  .rw [q];exact (BB f y fs).1
  .refine (BB f y fs).2 g (wi g λz=>hg ?_)
   show (if g=f then some u else mA g)=none
   rw [if_neg q];exact z
theorem Inv.made (I:Inv X pins Z H s):Inv X pins Z (upd (upd H s.heap.objs.size (.own (s.heap.objs.size+1))) (s.heap.objs.size+1) (.ins C s.heap.objs.size []))
  { s with heap:=(s.heap.push fH).push (iU C s.heap.objs.size) }:=by
 have e1:(s.heap.push fH).get? s.heap.objs.size=some fH:=aZ s.heap rfl
 have e2:((s.heap.push fH).push (iU C s.heap.objs.size)).get? (s.heap.objs.size+1)=some (iU C s.heap.objs.size):=by
  have:=aZ (s.heap.push fH) (o:=iU C s.heap.objs.size) rfl
  rwa [z8] at this
 have e3:(s.heap.push fH).Ns s.heap.objs.size (λ_=>none):=⟨fH,#[],_,e1,rfl,(λe he=>absurd he (by simp)),λ_=>rfl⟩
 have I1:=I.laid (a:=s.heap.objs.size) (o:=.own (s.heap.objs.size+1)) (h':=s.heap.push fH) (t':=s.toks) (λb u q=>aA _ q) (aE _) ⟨_,e1⟩;refine I1.laid (a:=s.heap.objs.size+1) (o:=.ins C s.heap.objs.size []) (t':=s.toks) (λb u q=>aA _ q) (Ub (z8 _ _)) ?_;have ne:s.heap.objs.size≠s.heap.objs.size+1:=bb (Jv _);refine ⟨by rw [aI ne,aH],dm _,ne,e2,λ_=>none,(Heap.Ns1.of_empty e3).at λo q=>aA _ q,λ_=>j7,λy hy=>absurd rfl hy⟩
theorem XH {env:xC}{f:aL}(hb:sP e f env (fR e env)=fR e env)
  (h:aY (bg prog w) A (fR e env) (λo s₁=>aY (bg prog w) A (getAttr o f true) Q E s₁) E s):aY (bg prog w) A (fR (.Attribute e f pos) env) Q E s :=
 Attribute_any_ h (by rw [arm_eval_Attribute,hb])
end
def eQ (K:ae) (ta:TE) (f:aL):TE:=λZ H Q=>ta Z H λx H1=>∃ a C dx fs v,x=.ref a/\H1 a=some (.ins C dx fs)/\Fg K C/\dR K C f/\fs.lookup f=some v/\Q v H1
def pG (K:ae) (ta tv:TE) (f:aL):TS:=λD Z H=>tv Z H λy H1=>ta Z H1 λx H2=>∃ a C dx fs,x=.ref a/\H2 a=some (.ins C dx fs)/\Fg K C/\dR K C f/\fs.length<1000 /\
 D.nx Z (upd H2 a (.ins C dx (eP f y fs)))
def InOp (X:Cx) (op:Operator) (rd:V->V->Hp->VK->Prop):Prop :=
 ∀ (pins:List (ah×jo)) (s:ax) (Z:St) (H:Hp) (x y:V) (u v:aj) (Q:VK),Inv X pins Z H s->RelV x u->RelV y v->rd x y H Q->aY (bg X.prog X.w) X.A (OX op u v) (EP X pins Z Q) X.xe s
def Kn (K:ae) (ta tv:TE) (rd:V->V->Hp->VK->Prop) (f:aL):TS:=λD Z H=>ta Z H λx H1=>∃ a C dx fs v,x=.ref a/\H1 a=some (.ins C dx fs)/\Fg K C/\dR K C f/\fs.lookup f=some v /\
 tv Z H1 λy H2=>rd v y H2 λz H3=>∃ dx' fs',H3 a=some (.ins C dx' fs')/\fs'.length<1000/\D.nx Z (upd H3 a (.ins C dx' (eP f z fs')))
section
variable {X:Cx}{o value:Expr}{f:aL}{tpos:yz}{ta tv:TE}
theorem cf (he:PE X e ta) (hb:sP e f X.env (fR e X.env)=fR e X.env):PE X (.Attribute e f pos) (eQ X.K ta f):=by
 intro pins s Z H Q I h;refine XH hb (gJ (he pins s Z H _ I h) λu s1 ⟨x,H1,I1,rx,a,C,dx,fs,v,ex,ea,c,n,l,q⟩=>?_);subst ex;obtain rfl:u=aB a:=rx
 exact FB I1 ea c n l λu' s2 I2 ru=>⟨v,H1,I2,ru,q⟩
theorem ik (ha:PE X o ta) (hv:PE X value tv) (hs:Fj value (some (.Attribute o f pos')) pos.line X.env=pure false):PS X (.Assign [.Attribute o f pos'] value pos) (pG X.K ta tv f):=by
 intro pins s Z H D I h;refine plainObj_wpAny_Assign_Attribute (gJ (hv pins s Z H _ I h) λu s1 ⟨y,H1,I1,ry,q⟩=>gJ (ha pins s1 Z H1 _ I1 q) λov s2 ⟨x,H2,I2,rx,a,C,dx,fs,ex,ea,c,n,l,q2⟩=>?_) hs;subst ex;obtain rfl:ov=aB a:=rx
 exact FD I2 ea c n l ry λs3 I3=>⟨Z,_,I3,q2⟩
theorem Sz {rd:V->V->Hp->VK->Prop}(ha:PE X o ta) (hv:PE X value tv) (hop:InOp X op rd):PS X (.AugAssign (.Attribute o f tpos) op value pos) (Kn X.K ta tv rd f):=by
 intro pins s Z H D I h;refine wpAny_AugAssign_AttributeAny (gJ (ha pins s Z H _ I h) λov s1 ⟨x,H1,I1,rx,a,C,dx,fs,v,ex,ea,c,n,l,q⟩=>?_);subst ex;obtain rfl:ov=aB a:=rx;refine FB I1 ea c n l λu s2 I2 ru=>gJ (hv pins s2 Z H1 _ I2 q) λw3 s3 ⟨y,H2,I3,ry,q3⟩=>gJ (hop pins s3 Z H2 v y u w3 _ I3 ru ry q3) λw4 s4 ⟨z,H3,I4,rz,dx',fs',ea',l',q4⟩=>?_
 exact FD I4 ea' c n l' rz λs5 I5=>⟨Z,_,I5,q4⟩
def rAdd:V->V->Hp->VK->Prop:=λx y H Q=>∃ i j,x=.int i/\y=.int j/\Q (.int (i+j)) H
theorem ZL:InOp X .Add rAdd:=by
 rintro pins s Z H x y u v Q I rx ry ⟨i,j,rfl,rfl,q⟩
 obtain ⟨t,rfl⟩:=(show ∃ t,u=jE i t from rx)
 obtain ⟨t',rfl⟩:=(show ∃ t',v=jE j t' from ry)
 exact Zi ⟨.int (i+j),H,I.tok _,⟨_,rfl⟩,q⟩
end
section
variable {X:Cx}{Z:St}{H:Hp}{c:aj}{b:Bool}
inductive zm (K:ae) (H:Hp):V->aj->Prop where
 | non:zm K H .non (.type "NoneType")
 | bl (x:Bool):zm K H (.bl x) (.type "bool")
 | int (i:Int):zm K H (.int i) (.type "int")
 | str (x:aL):zm K H (.str x) (.type "str")
 | flt (x:UInt64):zm K H (.flt x) (.type "float")
 | lst {a:ah}{xs:List V}(e:H a=some (.lst xs)):zm K H (.ref a) (.type "list")
 | frz {a:ah}{o:jo}{xs:List V}(e:H a=some (.frz o (.lst xs))):zm K H (.ref a) (.type "list")
 | tup {a:ah}{xs:List V}(e:H a=some (.tup xs)):zm K H (.ref a) (.type "tuple")
 | dK {a:ah}{kvs:List (ig×V)}(e:H a=some (.dK kvs)):zm K H (.ref a) (.type "dict")
 | dT {a:ah}{kvs:List (List ig×V)}(e:H a=some (.dT kvs)):zm K H (.ref a) (.type "dict")
 | ins {a C dx:ah}{fs:List (aL×V)}(e:H a=some (.ins C dx fs)) (cl:Fg K C) (ha:aJ K (.ref C) "__class__"=some (some (.builtin "object.__class__")))
   (hn:i6 K (.builtin "object.__class__") "__get__"=some (some (.builtin "getset_descriptor.__get__"))) (htk:qJ K (.builtin "object.__class__")=some true)
   (hm:j8 K C (.type "object")=some true):zm K H (.ref a) (.ref C)
theorem JF {x:V}{t:aj}(I:Inv X pins Z H s) (rx:RelV x u) (ty:zm X.K H x t) (e:bp X.K t c=some b) (h:∀ tk,Q (.bool b) { s with toks:=tk }) :
  aY (bg X.prog X.w) A (call (.builtin "isinstance") [u,c]) Q E s:=by
 cases ty with
 | non=>cases (show u=dE from rx);exact dY PySem.W.kitx_none I.vM j7 e nofun h
 | bl y=>cases (show u=xD y from rx);exact dY PySem.W.kitx_bool I.vM j7 e nofun h
 | int i=>obtain ⟨t,q⟩:=(show ∃ t,u=jE i t from rx);cases q;exact dY PySem.W.kitx_int I.vM j7 e nofun h
 | str y=>obtain ⟨t,q⟩:=(show ∃ t,u=sN y t from rx);cases q;exact dY PySem.W.kitx_str I.vM j7 e nofun h
 | flt y=>obtain ⟨t,q⟩:=(show ∃ t,u=T9 y t from rx);cases q;exact dY PySem.W.kitx_float I.vM j7 e nofun h
 | @lst a xs ea =>
  cases (show u=aB a from rx)
  obtain ⟨_,_,n,_,h1⟩:=(show fq X.prog X.w H s.heap a (.lst xs) from I.eY a _ ea)
  exact dY UD I.vM ⟨_,h1,rfl⟩ e nofun h
 | @frz a ob xs ea =>
  cases (show u=aB a from rx)
  obtain ⟨_,_,_,n,_,h1⟩:=(show fq X.prog X.w H s.heap a (.frz ob (.lst xs)) from I.eY a _ ea)
  exact dY UD I.vM ⟨_,h1,rfl⟩ e nofun h
 | @tup a xs ea =>
  cases (show u=aB a from rx)
  obtain ⟨_,_,_,p⟩:=(show fq X.prog X.w H s.heap a (.tup xs) from I.eY a _ ea)
  obtain ⟨o,h1,h2,_⟩:=p
  exact dY PySem.W.kitx_tuple I.vM ⟨o,h1,h2⟩ e nofun h
 | @dK a kvs ea =>
  cases (show u=aB a from rx)
  obtain ⟨_,_,vs,_,p⟩:=(show fq X.prog X.w H s.heap a (.dK kvs) from I.eY a _ ea)
  obtain ⟨o,es,ep,h1,h2,_⟩:=p
  exact dY UE I.vM ⟨o,h1,h2.1⟩ e nofun h
 | @dT a kvs ea =>
  cases (show u=aB a from rx)
  obtain ⟨_,_,xs,_,o,es,ep,h1,h2,_⟩:=(show fq X.prog X.w H s.heap a (.dT kvs) from I.eY a _ ea)
  exact dY UE I.vM ⟨o,h1,h2.1⟩ e nofun h
 | @ins a C dx fs ea cl ha hn htk hm =>
  cases (show u=aB a from rx);obtain ⟨mA,O,_⟩:=EX I.eY ea;obtain ⟨od,J,_⟩:=O.look;exact dY (PySem.W.kitx_own (cl.get _) cl.hd ha hn htk hm) I.vM J e nofun h
end
structure i7 (k:Nat) (A:dC):Prop where
 hd:A.handled=none
 dp:A.depth+3*k+5<qK
 un:A.units+16*k+200<jq
theorem i7.mono {j:Nat}(r:i7 k A) (h:j<=k):i7 j A:=⟨r.hd,by have:=r.dp;lia,by have:=r.un;lia⟩
theorem i7.deeper (r:i7 (k+1) A) (env:xC):i7 k (A.deeper env) :=
 ⟨r.hd,by have:=r.dp;show A.depth+1+3*k+5<_;lia,by have:=r.un;show A.units+3+16*k+200<_;lia⟩
theorem Px:(A.under (.builtin "type.__call__" ⟨.ref C::us,kw⟩)).depth=A.depth+1:=by
 first|rfl|simp [O9,Code.weight,Code.isCreation,Code.isGuard,Code.isCaller,Code.frames,Sa,guardIds]
theorem Py:(A.under (.builtin "type.__call__" ⟨.ref C::us,kw⟩)).units=A.units+1:=by
 first|rfl|simp [O9,Code.cUnits,Code.frames,Sa]
theorem i7.make (r:i7 (k+1) A) (C:ah) (us:List aj) (kw:List (aL×aj)):i7 k (A.under (.builtin "type.__call__" ⟨.ref C::us,kw⟩)) :=
 ⟨r.hd,by have:=r.dp;rw [Px];lia,by have:=r.un;rw [Py];lia⟩
theorem i7.depth (r:i7 k A):A.depth<qK:=by have:=r.dp;lia
theorem i7.units (r:i7 k A):A.units+64<jq:=by have:=r.un;lia
def aM:TA:=λ_ H Q=>Q [] H
def ai (ta:TE) (tr:TA):TA:=λZ H Q=>ta Z H λx H1=>tr Z H1 λxs H2=>Q (x::xs) H2
section
variable {X:Cx}{te:TE}{t:TA}
theorem au:PA X [] aM:=λ_ _ _ _ H Q I h=>Xe ⟨[],H,I,.nil,h⟩
theorem af (ha:PE X e te) (hr:PA X es t) (hs:bw (e::es) X.env=(false,fR e X.env)::bw es X.env:=by rfl):PA X (e::es) (ai te t):=by
 intro pos pins s Z H Q I h;rw [hs]
 show aY _ _ (spliced ((false,fR e X.env)::iS pos (bw es X.env))) _ _ s
 refine Do (gJ (ha pins s Z H _ I h) λu s1 ⟨x,H1,I1,r1,q1⟩=>?_)
 exact gJ (hr pos pins s1 Z H1 _ I1 q1) λus s2 ⟨xs,H2,I2,r2,q2⟩=>⟨x::xs,H2,I2,.cons r1 r2,q2⟩
def kb (t:TA):TE:=λZ H Q=>t Z H λxs H1=>xs.length<=aT/\∀ p,H1 p=none->Q (.ref p) (upd H1 p (.tup xs))
def vV (t:TA):TE:=λZ H Q=>t Z H λxs H1=>xs.length<=aT/\∀ p,H1 p=none->Q (.ref p) (upd H1 p (.lst xs))
theorem fo {x1} (h:PA X es t):PE X (.Tuple es x1 pos) (kb t):=by
 intro pins s Z H Q I hq;refine wpAny_Tuple_spliced (gJ (h pos pins s Z H _ I hq) λus s1 ⟨xs,H1,I1,r,z,q⟩=>⟨by rw [← r.length];exact z,?_⟩);have hf:H1 s1.heap.objs.size=none:=I1.eY.fresh (aE _);refine ⟨.ref s1.heap.objs.size,upd H1 s1.heap.objs.size (.tup xs),I1.laid (t':=s1.toks) (λb u e=>aA _ e) (aE _) ?_,rfl,q _ hf⟩;exact ⟨z,us,r,⟨_,aZ _ rfl,rfl,_,rfl⟩⟩
theorem mi (h:PA X es t):PE X (.List es pos) (vV t):=by
 intro pins s Z H Q I hq;refine wpAny_List_spliced (gJ (h pos pins s Z H _ I hq) λus s1 ⟨xs,H1,I1,r,z,q⟩=>⟨by rw [← r.length];exact z,?_⟩);have hf:H1 s1.heap.objs.size=none:=I1.eY.fresh (aE _);refine ⟨.ref s1.heap.objs.size,upd H1 s1.heap.objs.size (.lst xs),I1.laid (t':=s1.toks) (λb u e=>aA _ e) (aE _) ?_,rfl,q _ hf⟩;exact ⟨z,us,0,r,aZ _ rfl⟩
end
abbrev Sp:=List V->Hp->VK->XK->Prop
abbrev Ko:=List xC->Hp->ax->XK->aj->ax->Prop
structure OQ (P:bC) (w:cW) (K:ae) (mg:aL->Option aj) (base:dt) (A:dC) (outer:List xC) (s:ax) (H:Hp):Prop where
 frames:A.frames=some outer
 mod:Mod K mg base
 bs:∀ b o,base.get? b=some o->s.heap.get? b=some o/\H b=none
 O8:base.objs.size<=s.heap.objs.size
 vc:s.heap.FunFrames base outer
 RY:∀ b∈sJ outer,H b=none
 eY:vN P w H s.heap
 bare:ve s.gens
def CE (outer:List xC) (P:bC) (w:cW) (H:Hp) (s:ax) (Q:VK) (u:aj) (s':ax):Prop :=
 ∃ v H',s'.os=s.os/\ve s'.gens/\Un (sJ outer) [] H H' s.heap s'.heap/\vN P w H' s'.heap/\RelV v u/\Q v H'
def CR (CX:Ko) (outer:List xC) (P:bC) (w:cW) (H:Hp) (s:ax) (Q:VK) (E:XK) (r:Result) (s':ax):Prop :=
 match r with
 | .ok (.ret u)=>CE outer P w H s Q u s'
 | .ok _=>False
 | .error e=>CX outer H s E e s'
structure cI (P:bC) (w:cW) (K:ae) (mg:aL->Option aj) (base:dt) (CX:Ko) (k:Nat) (f:ah) (fd:fv) (ps:List aL) (sp:Sp):Prop where
 len:∀ vs H Q E,sp vs H Q E->vs.length=ps.length
 run:∀ (A:dC) (outer:List xC) (s:ax) (H:Hp) (args:Args) (us:List aj) (vs:List V) (Q:VK) (E:XK),i7 k A->OQ P w K mg base A outer s H->Fk s fd args (ps.zip us)->Vals vs us->sp vs H Q E ->
  sO (bg P w) A (.call (.ref f) args) (CR CX outer P w H s Q E) s
theorem OQ.make {H:Hp}(e:OQ P w K mg base A outer s H) (C:ah) (us:List aj) (kw:List (aL×aj)) :
  OQ P w K mg base (A.under (.builtin "type.__call__" ⟨.ref C::us,kw⟩)) outer s H:=⟨by first|exact e.frames|(simpa [O9,Code.envs,Sa,pushEnvs] using e.frames),e.mod,e.bs,e.O8,e.vc,e.RY,e.eY,e.bare⟩
section
variable {X:Cx}{Z:St}{H:Hp}
theorem Inv.aaV (I:Inv X pins Z H s):OQ X.prog X.w X.K X.mg X.base X.A X.stack s H :=
 ⟨I.ok.frames,I.ok.mod,I.bs,bU I.ok.O8 I.sz,I.stack,I.Fe,I.eY,I.bare⟩
theorem Inv.after {Q:VK}(I:Inv X pins Z H s) (h:CE X.stack X.prog X.w H s Q u s'):EP X pins Z Q u s':=by
 obtain ⟨v,H',os,bare,un,eY,r,q⟩:=h;obtain ⟨hh,g,d,t,os'⟩:=s';obtain rfl:os'=s.os:=os;exact ⟨v,H',I.call (h':=hh) (g':=g) (d':=d) (t':=t) (ch:=[]) un eY bare (λb z=>absurd z (by simp)),r,q⟩
end
def cu (sp:Sp) (dvs:List V) (E:XK) (t:TA):TE:=λZ H Q=>t Z H λvs H1=>sp (vs++dvs) H1 Q E
def dv (C:ah) (m:aL) (sp:Sp) (dvs:List V) (E:XK) (ta:TE) (t:TA):TE:=λZ H Q=>ta Z H λx H1=>∃ a dx fs,x=.ref a/\H1 a=some (.ins C dx fs)/\fs.lookup m=none /\
 t Z H1 λvs H2=>sp (x::(vs++dvs)) H2 Q E
def vf (C:ah) (sp:Sp) (dvs:List V) (E:XK) (t:TA):TE:=λZ H Q=>t Z H λvs H1=>∀ x dx,H1 x=none->H1 dx=none->dx≠x ->
 sp (.ref x::(vs++dvs)) (upd (upd H1 dx (.own x)) x (.ins C dx [])) (λv H2=>v=.non/\Q (.ref x) H2) E
def Binds (K:ae) (fd:fv) (ps:List aL) (ds:List aj):Prop :=
 ∀ (s:ax) (us:List aj),K.In s.heap->(us++ds).length=ps.length->Fk s fd ⟨us,[]⟩ (ps.zip (us++ds))
theorem Binds.all (h:∀ us:List aj,us.length=ps.length->Mx fd ⟨us,[]⟩=pure (ps.zip us)):Binds K fd ps []:=λs us _ hl=>by
 rw [ke] at hl ⊢;exact .of_eq (h us hl)
def mj (CX:Ko) (X:Cx) (E:XK):Prop:=∀ (pins:List (ah×jo)) (Z:St) (H:Hp) (s:ax) (e:aj) (s':ax),Inv X pins Z H s->CX X.stack H s E e s'->X.xe e s'
section
variable {X:Cx}{CX:Ko}{sp:Sp}{dvs:List V}{ds:List aj}{E:XK}{o:Expr}{ta:TE}{t:TA}
theorem Kq {Z:St}{H:Hp}{Q:VK}{vs:List V}(F:cI X.prog X.w X.K X.mg X.base CX k f fd ps sp) (hr:i7 k X.A) (hb:Binds X.K fd ps ds) (hd:Vals dvs ds) (hx:mj CX X E)
  (I:Inv X pins Z H s) (r:Vals vs us) (h:sp (vs++dvs) H Q E):aY (bg X.prog X.w) X.A (call (.ref f) us) (EP X pins Z Q) X.xe s:=by
 have r2:Vals (vs++dvs) (us++ds):=r.append hd
 have hl:(us++ds).length=ps.length:=by rw [← r2.length];exact F.len _ _ _ _ h
 refine Bu (qL (F.run X.A X.stack s H ⟨us,[]⟩ (us++ds) (vs++dvs) Q E hr I.aaV (hb s us I.vM hl) r2 h) λr s' hq=>?_)
 cases r with
 | error e=>exact hx pins Z H s e s' I hq
 | ok fl =>
  cases fl with
  | ret u=>exact I.after hq
  | next=>exact dh hq
  | brk=>exact dh hq
  | cont=>exact dh hq
theorem XI (F:cI X.prog X.w X.K X.mg X.base CX k f fd ps sp) (hr:i7 k X.A) (hg:Gl X x) (hm:X.mg x=some (.ref f)) (hk:bV X.K (.ref f)=true) (hb:Binds X.K fd ps ds) (hd:Vals dvs ds) (hx:mj CX X E)
  (ha:PA X (e::es) t) (hdb:(x == ("__debug__":aL))=false:=by decide) (he:bw (e::es) X.env=(false,fR e X.env)::bw es X.env:=by rfl) (hpl:(iS pos (bw es X.env)).any (·.1)=false:=by rfl) :
  PE X (.Call (.Name x p) (e::es) [] pos) (cu sp dvs E t):=by
 intro pins s Z H Q I h;refine gZ (rX I hg hm ?_ hdb);refine jN (h₀:=X.base) I.ok.mod.Xc hk (gJ (ha pos pins s Z H _ I h) λus s1 ⟨vs,H1,I1,r,q⟩=>⟨I1.vM,?_⟩) he hpl;exact Kq F hr hb hd hx I1 r q
theorem XJ (he:PE X o ta) (c:Fg X.K C) (hm:XG X.K C m f) (F:cI X.prog X.w X.K X.mg X.base CX k f fd ps sp) (hr:i7 k X.A) (hb:Binds X.K fd ps ds) (hd:Vals dvs ds) (hx:mj CX X E) (ha:PA X (e::es) t)
  (hst:bw (e::es) X.env=(false,fR e X.env)::bw es X.env:=by rfl) (hpl:(iS pos (bw es X.env)).any (·.1)=false:=by rfl)
  (ht:fR (.Call (.Attribute o m apos) (e::es) [] pos) X.env=(do
   let ov ← fR o X.env
   yc apos.atName
   let (f,first) ← qI [ov] (zY ov m pl)
   Uc pos f first (iS pos (bw (e::es) X.env)) (zZ pos (pE [] X.env))):=by rfl) :
  PE X (.Call (.Attribute o m apos) (e::es) [] pos) (dv C m sp dvs E ta t):=by
 intro pins s Z H Q I h;refine xE (pl:=pl) (gJ (he pins s Z H _ I h) λu s1 ⟨x,H1,I1,rx,a,dx,fs,ex,ea,l,q⟩=>?_) ht;subst ex;obtain rfl:u=aB a:=rx;refine FC I1 ea c hm l ?_;refine jN (first:=[.ref a]) (h₀:=X.base) I.ok.mod.Xc hm.kp (gJ (ha pos pins s1 Z H1 _ I1 q) λus s2 ⟨vs,H2,I2,r,q2⟩=>⟨I2.vM,?_⟩) hst hpl;exact Kq (us:=.ref a::us) (vs:=.ref a::vs) F hr hb hd hx I2 (.cons rfl r) q2
theorem US (he:PE X o ta) (c:Fg X.K C) (hm:XG X.K C m f) (F:cI X.prog X.w X.K X.mg X.base CX k f fd ps sp) (hr:i7 k X.A) (hb:Binds X.K fd ps ds) (hd:Vals dvs ds) (hx:mj CX X E)
  (ht:fR (.Call (.Attribute o m apos) [] [] pos) X.env=(do
   let ov ← fR o X.env
   yc apos.atName
   let (f,first) ← qI [ov] (zY ov m pl)
   Uc pos f first (iS pos (bw [] X.env)) (zZ pos (pE [] X.env))):=by rfl) :
  PE X (.Call (.Attribute o m apos) [] [] pos) (dv C m sp dvs E ta aM):=by
 intro pins s Z H Q I h;refine xE (pl:=pl) (gJ (he pins s Z H _ I h) λu s1 ⟨x,H1,I1,rx,a,dx,fs,ex,ea,l,q⟩=>?_) ht;subst ex;obtain rfl:u=aB a:=rx;refine FC I1 ea c hm l ?_;exact Sb (first:=[.ref a]) I1.vM hm.kp (Kq (us:=[.ref a]) (vs:=[.ref a]) F hr hb hd hx I1 (.cons rfl .nil) q)
structure Mk (K:ae) (C f:ah):Prop where
 makes:iV K C=true
 init:aJ K (.ref C) "__init__"=some (some (.ref f))
 fn:vP K (.ref f)=true
 kp:bV K (.ref C)=true
theorem M0 {Z:St}{H:Hp}{Q:VK}{vs:List V}(M:Mk X.K C f) (F:cI X.prog X.w X.K X.mg X.base CX k f fd ps sp) (hr:i7 (k+1) X.A) (hb:Binds X.K fd ps ds) (hd:Vals dvs ds)
  (hx:mj CX X E) (I:Inv X pins Z H s) (r:Vals vs us)
  (h:∀ x dx,H x=none->H dx=none->dx≠x->sp (.ref x::(vs++dvs)) (upd (upd H dx (.own x)) x (.ins C dx [])) (λv H2=>v=.non/\Q (.ref x) H2) E) :
  aY (bg X.prog X.w) X.A (call (.ref C) us) (EP X pins Z Q) X.xe s:=by
 have hq:=h (s.heap.objs.size+1) s.heap.objs.size (I.eY.fresh (Bv _)) (I.eY.fresh (aE _)) (bb (Jv _));have I2:=Inv.made (C:=C) I;have r2:Vals (V.ref (s.heap.objs.size+1)::(vs++dvs)) (aB (s.heap.objs.size+1)::(us++ds)):=.cons rfl (r.append hd)
 have hl:(aB (s.heap.objs.size+1)::us++ds).length=ps.length:=by
  have e:=r2.length;rw [F.len _ _ _ _ hq] at e;exact e.symm
 refine Bu (UR (f:=f) I.vM M.makes M.init (beq_iff_eq.mp M.fn) (qL (F.run _ X.stack _ _ ⟨aB (s.heap.objs.size+1)::us,[]⟩ (aB (s.heap.objs.size+1)::(us++ds)) _ _ E (hr.make C us [])
  (I2.aaV.make C us []) (hb _ (aB (s.heap.objs.size+1)::us) I2.vM hl) r2 hq) λr s' hq'=>?_))
 cases r with
 | error e=>exact hx pins Z _ _ e s' I2 hq'
 | ok fl =>
  cases fl with
  | ret u =>
   obtain ⟨v,H',I3,rv,ev,q3⟩:=I2.after hq';subst ev
   exact ⟨rv,⟨V.ref (s.heap.objs.size+1),H',I3,rfl,q3⟩⟩
  | next=>exact dh hq'
  | brk=>exact dh hq'
  | cont=>exact dh hq'
theorem rZ (M:Mk X.K C f) (F:cI X.prog X.w X.K X.mg X.base CX k f fd ps sp) (hr:i7 (k+1) X.A) (hg:Gl X x) (hm:X.mg x=some (.ref C)) (hb:Binds X.K fd ps ds) (hd:Vals dvs ds) (hx:mj CX X E)
  (ha:PA X (e::es) t) (hdb:(x == ("__debug__":aL))=false:=by decide) (he:bw (e::es) X.env=(false,fR e X.env)::bw es X.env:=by rfl) (hpl:(iS pos (bw es X.env)).any (·.1)=false:=by rfl) :
  PE X (.Call (.Name x p) (e::es) [] pos) (vf C sp dvs E t):=by
 intro pins s Z H Q I h;refine gZ (rX I hg hm ?_ hdb);refine jN (h₀:=X.base) I.ok.mod.Xc M.kp (gJ (ha pos pins s Z H _ I h) λus s1 ⟨vs,H1,I1,r,q⟩=>⟨I1.vM,?_⟩) he hpl;exact M0 M F hr hb hd hx I1 r q
theorem UT (M:Mk X.K C f) (F:cI X.prog X.w X.K X.mg X.base CX k f fd ps sp) (hr:i7 (k+1) X.A) (hg:Gl X x) (hm:X.mg x=some (.ref C)) (hb:Binds X.K fd ps ds) (hd:Vals dvs ds) (hx:mj CX X E)
  (hdb:(x == ("__debug__":aL))=false:=by decide):PE X (.Call (.Name x p) [] [] pos) (vf C sp dvs E aM):=by
 intro pins s Z H Q I h;refine gZ (rX I hg hm ?_ hdb);exact Sb I.vM M.kp (M0 (us:=[]) M F hr hb hd hx I .nil h)
end
section
variable {X:Cx}{CX:Ko}{ks:List aL}{sp:Sp}{E:XK}{kpos:yz}{o:Expr}{kws:List My}{te ta:TE}{t tk:TA}{nm:Option aL}
variable {g:List aj->List aj->List aj}{gV:List V->List V->List V}
end
structure bj (N P:List aL) (sc:uE):Prop where
 kind:sc.kind=.function
 co:sc.isCoroutine=false
 gen:sc.isGenerator=false
 nd:N.Nodup
 pre:N.take P.length=P
 par:∀ x∈P,sc.names.lookup x=some .local\/sc.names.lookup x=some .cell
 aaN:∀ y∈sc.names,y.2≠.free
theorem JG:∀ {binds:List (aL×aj)}{m:aL->Option aj},(∀ v,(x,v)∉binds)->Xg kindOf binds m x=m x
 | [],_,_=>rfl
 | (n,v)::r,m,h=>by
  unfold Xg;rw [JG λw hw=>h w (ag _ hw)]
  split
  .have:x≠n:=by rintro rfl;exact h v ak
   simp [this]
  .rfl
theorem JH:∀ {binds:List (aL×aj)}{m:aL->Option aj},(∀ v,(x,v)∉binds)->Xh kindOf binds m x=m x
 | [],_,_=>rfl
 | (n,v)::r,m,h=>by
  unfold Xh;rw [JH λw hw=>h w (ag _ hw)]
  split
  .rfl
  .have:x≠n:=by rintro rfl;exact h v ak
   simp [this]
theorem JI:∀ {P:List aL}{vs:List aj}{i:Nat}{m:aL->Option aj},P.Nodup->P[i]?=some x->vs[i]?=some v->kindOf x=some .local ->
  Xg kindOf (P.zip vs) m x=some v
 | [],_,_,_,_,h,_,_=>by simp at h
 | _::_,[],_,_,_,_,h,_=>by simp at h
 | p::P,w::vs,0,m,nd,h1,h2,hk=>by
  simp at h1 h2;subst h1;subst h2
  show Xg kindOf ((p,w)::P.zip vs) m p=_
  unfold Xg;rw [JG λv hv=>(eO.mp nd).1 (yH hv).1,if_pos hk]
  simp
 | p::P,w::vs,i+1,m,nd,h1,h2,hk=>by
  show Xg kindOf ((p,w)::P.zip vs) m x=_
  unfold Xg;exact JI (i:=i) (eO.mp nd).2 (by simpa using h1) (by simpa using h2) hk
theorem JJ:∀ {P:List aL}{vs:List aj}{i:Nat}{m:aL->Option aj},P.Nodup->P[i]?=some x->vs[i]?=some v->kindOf x≠some .local ->
  Xh kindOf (P.zip vs) m x=some v
 | [],_,_,_,_,h,_,_=>by simp at h
 | _::_,[],_,_,_,_,h,_=>by simp at h
 | p::P,w::vs,0,m,nd,h1,h2,hk=>by
  simp at h1 h2;subst h1;subst h2
  show Xh kindOf ((p,w)::P.zip vs) m p=_
  unfold Xh;rw [JH λv hv=>(eO.mp nd).1 (yH hv).1,if_neg hk]
  simp
 | p::P,w::vs,i+1,m,nd,h1,h2,hk=>by
  show Xh kindOf ((p,w)::P.zip vs) m x=_
  unfold Xh;exact JJ (i:=i) (eO.mp nd).2 (by simpa using h1) (by simpa using h2) hk
def start (N:List aL) (vs:List V):St:=vs.map some++cm (N.length-vs.length) none
def jz (CX:Ko) (P:bC) (w:cW) (K:ae) (mg:aL->Option aj) (base:dt) (N:List aL) (qual:aL) (scope:uE) (f:ah) (cd:aj) (A:dC) (outer:List xC) (s:ax) (H:Hp) (E:XK):Cx where
 prog:=P
 w:=w
 K:=K
 mg:=mg
 base:=base
 A:=A.deeper (lz qual scope s.heap.objs.size f cd)
 N:=N
 s₀:=s
 H₀:=H
 env:=lz qual scope s.heap.objs.size f cd
 outer:=outer
 stack:=lz qual scope s.heap.objs.size f cd::outer
 ex:=[]
 calm:=true
 fn:=λ_=>true
 pn:=[]
 xe:=λe s'=>aY (bg P w) (A.deeper (lz qual scope s.heap.objs.size f cd)) (YG (lz qual scope s.heap.objs.size f cd) e) (λ_ s''=>CX outer H s E e s'') (λe' s''=>CX outer H s E e' s'') s'
theorem M1 {sc:uE}(h:sc.names.lookup x=some .cell):∃ c,(Xi n sc.names []).lookup x=some c:=by
 have q:=vQ sc.names n [] (.inl h);exact MO.mp q
theorem JK {CX:Ko}{cd:aj}{s1:ax}{H:Hp}{E:XK}{vs:List V}
  (S:bj N ps scope) (hd:A.handled=none) (e0:OQ P w K mg base A outer s H) (hl:vs.length=ps.length) (r:Vals vs us)
  (x:InCallC s s.heap.objs.size (Xg (lz qual scope s.heap.objs.size f cd).kindOf (ps.zip us) λ_=>none) (Xi (s.heap.objs.size+1) scope.names []) (Xh (lz qual scope s.heap.objs.size f cd).kindOf (ps.zip us) λ_=>none) s1) :
  Inv (jz CX P w K mg base N qual scope f cd A outer s H E) [] (start N vs) H s1:=by
 have hpl:ps.length<=N.length:=by have:=congrArg qR S.pre;rw [cE] at this;lia
 obtain ⟨h1,tk,rfl,hk⟩:=x.done;have noA:∀ b:ah,b∉(jz CX P w K mg base N qual scope f cd A outer s H E).ex:=λb z=>absurd (show b∈([]:List ah) from z) (by simp)
 refine ⟨⟨e0.mod,S.kind,rfl,rfl,aE _,λy z c h1 h2=>?_,λy hy=>?_,λy c _ h=>?_,λ_=>hd,Sd e0.frames,.inr ⟨rfl,rfl⟩,λb z=>absurd z (noA b),e0.bs,e0.O8,λb _ _=>noA b,λb z=>absurd z (noA b),e0.vc,e0.RY⟩,
  rfl,e0.bare,Un.kept hk,⟨_,x.toInCall.ns,λi y v h1 h2 h3=>?_⟩,λy c h=>⟨_,x.cell y c h⟩,e0.eY.fresh (aE _),λy c h=>?_,λp hp=>absurd (show p∈([]:List (ah×jo)) from hp) (by simp),e0.eY.kept hk,?_⟩
 .exact name_of_addr x.apart (mx h1) (mx h2)
 .have hy:scope.names.lookup y=some .cell\/scope.names.lookup y=some .free:=hy
  rcases hy with hy|hy
  .exact M1 hy
  .exact absurd rfl (S.aaN _ (mx hy))
 .exact yB (x.above y c (mx h))
 .have hi:i<vs.length:=by
   unfold start at h2
   by_cases hi:i<vs.length
   .exact hi
   .rw [eM (by simpa using hi)] at h2;rw [QY] at h2
    split at h2<;>cases h2
  have ha:vs[i]?=some v:=by
   unfold start at h2;rw [gA (by simpa using hi),bO] at h2
   cases e:vs[i]? with
   | none=>rw [e] at h2;cases h2
   | some a=>rw [e] at h2;cases h2;rfl
  obtain ⟨u,hu,rv⟩:=r.get ha
  have hp:ps[i]?=some y:=by
   rw [← S.pre,List.getElem?_take_of_lt (by lia)];exact h1
  have ndP:ps.Nodup:=by rw [← S.pre];exact S.nd.sublist (Fn _ _)
  refine ⟨u,rv,?_⟩
  rcases S.par y (b8 hp) with k|k
  .exact .inl ⟨k,JI ndP hp hu k⟩
  .obtain ⟨c,e⟩:=M1 (n:=s.heap.objs.size+1) k;refine .inr ⟨.inl k,c,e,?_⟩;have q:=x.cell y c e;rw [JJ ndP hp hu (by show scope.names.lookup y≠_;rw [k];decide)] at q;exact q
 .exact e0.eY.fresh (yB (x.above y c (mx h)))
 .unfold start
  show _=N.length
  rw [bN,ao,zb];lia
theorem UU {CX:Ko}{params:vB}{dV kV doc pm i4 ct oc:aj}{an od:Option ah}
  {osl:Array (Option aj)}{N ps:List aL}{sp:Sp}(lk:K.lookup f=some ⟨oc,od,.func (gI name qual params body scope dV kV doc pm an i4 ct),osl⟩) (hcd:nN K i4 qual=true) (S:bj N ps scope)
  (len:∀ vs H Q E,sp vs H Q E->vs.length=ps.length)
  (hbody:∀ (A:dC) (outer:List xC) (s:ax) (H:Hp) (vs:List V) (Q:VK) (E:XK),i7 k (A.deeper (lz qual scope s.heap.objs.size f i4))->sp vs H Q E ->
   ∃ t,Jr (jz CX P w K mg base N qual scope f i4 A outer s H E) body t/\t { nx:=λ_ H'=>Q .non H',rt:=Q } (start N vs) H) :
  cI P w K mg base CX (k+1) f (gI name qual params body scope dV kV doc pm an i4 ct) ps sp:=by
 refine ⟨len,λA outer s H args us vs Q E hr e0 hb r hsp=>?_⟩;have hl:=len _ _ _ _ hsp;have KX:K.In s.heap:=e0.mod.Xc.keeps λb o e=>(e0.bs b o e).1;have lim:s.heap.NoLimit:=e0.mod.nolimit.keeps λb o e=>(e0.bs b o e).1
 have hkind:∀ y∈ps.zip us,scope.names.lookup y.1=some .local\/(scope.names.lookup y.1=some .cell/\((Xi (s.heap.objs.size+1) scope.names []).lookup y.1).isSome=true):=λ⟨n,v⟩ hy=>by
  rcases S.par n (yH hy).1 with q|q
  .exact .inl q
  .exact .inr ⟨q,vQ _ _ _ (.inl q)⟩
 refine Zj hr.depth (KX _ _ lk) rfl S.co S.gen rfl (Ud KX hcd) (hb _ _ _ _ ?_);refine Ue S.kind hkind λenv he s1 x=>?_;subst he;refine ⟨lim.keeps x.toInCall.keep,codeAny_func ?_⟩;obtain ⟨t,ht,hq⟩:=hbody A outer s H vs Q E (hr.deeper _) hsp;have I:Inv (jz CX P w K mg base N qual scope f i4 A outer s H E) [] (start N vs) H s1:=JK S hr.hd e0 hl r x;refine dF (ht [] s1 (start N vs) H _ I hq) (λfl s' hs=>?_) λe s' hs=>hs
 have fin:∀ {σ':St}{H':Hp}{v:V}{u:aj},Inv (jz CX P w K mg base N qual scope f i4 A outer s H E) [] σ' H' s'->RelV v u->Q v H'->CE outer P w H s Q u s' :=
  λ{σ' H' v u} J rv q=>⟨v,H',J.os,J.bare,J.base,J.eY,rv,q⟩
 cases fl with
 | ret u =>
  obtain ⟨v,σ',H',J,rv,q⟩:=hs
  exact fin J rv q
 | next =>
  obtain ⟨σ',H',J,q⟩:=hs
  exact fin (v:=V.non) (u:=dE) J rfl q
 | brk =>
  obtain ⟨_,_,_,q⟩:=hs
  exact dh q
 | cont =>
  obtain ⟨_,_,_,q⟩:=hs;exact dh q
section
variable {X:Cx}{t:TA}{id T:String}{r:List V->Hp->VK->Prop}
def nO (r:List V->Hp->VK->Prop) (t:TA):TE:=λZ H Q=>t Z H λvs H1=>r vs H1 Q
theorem d8 (hc:mK X (.builtin id) r) (hg:Gl X x) (hm:X.mg x=none) (hv:fF x=some (.builtin id)) (ha:PA X (e::es) t) (hn:x≠"__name__":=by decide) (hdb:(x == ("__debug__":aL))=false:=by decide)
  (he:bw (e::es) X.env=(false,fR e X.env)::bw es X.env:=by rfl) (hpl:(iS pos (bw es X.env)).any (·.1)=false:=by rfl):PE X (.Call (.Name x p) (e::es) [] pos) (nO r t):=by
 intro pins s Z H Q I h;refine gZ (Fv I hg hm hv ?_ hn hdb);exact PyProof.Rows.callWith_builtin1 (gJ (ha pos pins s Z H _ I h) λus s1 ⟨vs,H1,I1,r1,q1⟩=>hc pins s1 Z H1 vs us Q I1 r1 q1) he hpl
theorem dr (hc:mK X (.type T) r) (hg:Gl X x) (hm:X.mg x=none) (hv:fF x=some (.type T)) (ha:PA X (e::es) t) (hn:x≠"__name__":=by decide) (hdb:(x == ("__debug__":aL))=false:=by decide)
  (he:bw (e::es) X.env=(false,fR e X.env)::bw es X.env:=by rfl) (hpl:(iS pos (bw es X.env)).any (·.1)=false:=by rfl):PE X (.Call (.Name x p) (e::es) [] pos) (nO r t):=by
 intro pins s Z H Q I h;refine gZ (Fv I hg hm hv ?_ hn hdb);exact Dm (gJ (ha pos pins s Z H _ I h) λus s1 ⟨vs,H1,I1,r1,q1⟩=>hc pins s1 Z H1 vs us Q I1 r1 q1) he hpl
end
end L2
namespace HT
open PySem PyProof.Rows
def lexLt:List Int->List Int->Bool
 | [],[]=>false
 | [],_::_=>true
 | _::_,[]=>false
 | x::xs,y::ys=>if x=y then lexLt xs ys else decide (x<y)
theorem FE (x y:Int) (xs ys:List Int):lexLt (x::xs) (y::ys)=if x=y then lexLt xs ys else decide (x<y):=rfl
theorem HL:lexLt [] []=false:=rfl
theorem FF (y:Int) (ys:List Int):lexLt [] (y::ys)=true:=rfl
theorem FG (x:Int) (xs:List Int):lexLt (x::xs) []=false:=rfl
theorem UV (A:dC) (s:ax) (a:Int) (t:T8) (c:Int) (u:T8):∃ e,SeqAt.EqAt A s (.int a t) (.int c u) e/\(e=true↔a=c) :=
 ⟨(a == c),jy a t c u,by simp⟩
theorem UW (A:dC) (s:ax) (a:Int) (t:T8) (c:Int) (u:T8) (prog:bC) (w:cW) (E:aj->ax->Prop) (Q:aj->ax->Prop) (h:Q (.bool (decide (a<c))) s) :
  aY (bg prog w) A (richCompare .Lt (.int a t) (.int c u)) Q E s :=
 (Xd h:aY (bg prog w) A (dP .Lt (.int a t) (.int c u)) Q E s)
section
open PySem.SeqAt
open PySem.AutoSeq1 (wpAny_loadPart')
open PySem.MeetsSeq PySem.MeetsSeq2 PySem.MeetsSeq3
theorem HM (l b:ah) (items items2:Array aj) (n n2:Nat) (dd dd2:Option ah) (sl sl2:Array (Option aj)) (ns ms:List Int) (hi:oO items.toList ns) (hj:oO items2.toList ms) :
  Meets (YH.«tuple.__lt__» ⟨[.ref l,.ref b],[]⟩)
   (λ_ R s=>s.heap.get? l=some { cls:=.type "tuple",dict:=dd,data:=.seq items n,slots:=sl }/\s.heap.get? b=some { cls:=.type "tuple",dict:=dd2,data:=.seq items2 n2,slots:=sl2 } /\
    R (.ok (.ret (.bool (lexLt ns ms)))) s) :=
 .of_wp λprog w A R s h=>by
  obtain ⟨hp,g,d,tk,os⟩:=s;obtain ⟨hl,hb,h⟩:=h;have f2:=AutoSeq1.sub_tuple_tuple
  have z1:items.size=ns.length:=by rw [← hi.length];simp
  have z2:items2.size=ms.length:=by rw [← hj.length];simp
  wp_walk using wpAny_loadPart' hl,wpAny_loadPart' hb,wpAny_forIn_list _ (λrest b s'=>b.1=none/\s'=⟨hp,g,d,tk,os⟩/\∃ (vs ws:List aj) (ns' ms':List Int),rest=vs.zip ws /\
   oO vs ns'/\oO ws ms'/\ns'.length+items2.size=ms'.length+items.size/\R (.ok (.ret (.bool (lexLt ns' ms')))) ⟨hp,g,d,tk,os⟩) _
  case turn =>
   rintro ⟨y,x⟩ rest b s' ⟨hb',rfl,vs,ws,ns',ms',hz,hvi,hwi,hlen,hR⟩
   cases hvi with
   | nil=>rw [List.zip_nil_left] at hz;cases hz
   | cons a t hvi' =>
    cases hwi with
    | nil=>rw [List.zip_nil_right] at hz;cases hz
    | cons c u hwi' =>
     rw [nM] at hz
     injection hz with hyx hrest
     injection hyx with hy hx
     subst hy hx;rw [FE] at hR;simp only [bo] at hlen;obtain ⟨e,he,hiff⟩:=UV A.in1 ⟨hp,g,d,tk,os⟩ a t c u;refine ar (he prog w _ _ ?_)
     cases e with
     | true =>
      rw [if_pos (hiff.mp rfl)] at hR
      wp_walk
      exact ⟨rfl,rfl,_,_,_,_,hrest,hvi',hwi',by lia,hR⟩
     | false =>
      rw [if_neg (λq=>absurd (hiff.mpr q) bF)] at hR;have hri:=UW A.in1 ⟨hp,g,d,tk,os⟩ a t c u prog w
      wp_walk using hri
      exact ⟨_,rfl,by simpa using hR⟩
  case fin =>
   rintro ⟨b1,b2⟩ s' ⟨hb',rfl,vs,ws,ns',ms',hz,hvi,hwi,hlen,hR⟩;simp only at hb';subst hb'
   have hv:lexLt ns' ms'=decide (items.size<items2.size):=by
    cases hvi with
    | nil =>
     cases hwi with
     | nil =>
      simp only [yI] at hlen;rw [HL]
      exact (decide_eq_false (by lia)).symm
     | cons c u hw =>
      simp only [yI,bo] at hlen;rw [FF]
      exact (decide_eq_true (by lia)).symm
    | cons a t hv =>
     cases hwi with
     | nil =>
      simp only [yI,bo] at hlen;rw [FG]
      exact (decide_eq_false (by lia)).symm
     | cons c u hw =>
      rw [nM] at hz;cases hz
   rw [hv] at hR
   wp_walk
   exact ⟨_,rfl,by simpa [Builtin.Tuple.tupleCompareSizes] using hR⟩
  case h =>
   exact ⟨rfl,rfl,items.toList,items2.toList,ns,ms,rfl,hi,hj,by lia,h⟩
end
section
variable {prog:bC}{w:cW}{A:dC}{E:aj->ax->Prop}{s:ax}
theorem Pz {l b:ah}{items items2:Array aj}{ns ms:List Int}{Q:aj->ax->Prop}(hl:vO s.heap l items) (hb:vO s.heap b items2) (hi:oO items.toList ns) (hj:oO items2.toList ms)
  (hu:A.units<jq) (h:Q (.bool (lexLt ns ms)) s):aY (bg prog w) A (dP .Lt (.ref l) (.ref b)) Q E s:=by
 obtain ⟨⟨cls,dd,data,sl⟩,ho,hc,n,hd⟩:=id hl;obtain ⟨⟨cls2,dd2,data2,sl2⟩,ho2,hc2,n2,hd2⟩:=id hb;simp only at hc hd hc2 hd2;subst hc hd hc2 hd2
 exact richCompare_meets_room (op:=.Lt) ⟨_,ho,rfl⟩ ⟨_,ho2,rfl⟩ PySem.F.slot_tuple_lt PySem.F.entry_tuple_lt (PySem.F.args_tuple_lt_2 _ _) (HM l b items items2 n n2 dd dd2 sl sl2 ns ms hi hj)
  ⟨ho,ho2,show xD (lexLt ns ms)≠Value.notImplemented/\Q (.bool (lexLt ns ms)) s from ⟨nofun,h⟩⟩ hu
def MK (n d:Nat):Option Int->Nat
 | none=>d
 | some v=>if v<0 then (v+(n:Int)).toNat else min v.toNat n
theorem M3 (n d:Nat):MK n d none=d:=rfl
theorem XM (n d k:Nat):MK n d (some (k:Int))=min k n:=by
 show (if (k:Int)<0 then ((k:Int)+(n:Int)).toNat else min (k:Int).toNat n)=min k n
 rw [if_neg (by lia),pB]
end
end HT
namespace L2
variable {H H':Hp}{X:Cx}{s:ax}{pins:List (ah×jo)}{Z:St}{a b p:ah}{w:cW}{A:dC}{E Q:aj->ax->Prop}{P:bC}{u:aj}{o:Option V}{y x v:V}{e:Expr}{pos apos cpos:yz}{n t' j:Nat}{xs ys:List V}{its its':List aj}{i:Int}{r:R2}{T:String}{h':dt}
abbrev TO:=St->Hp->(Option Int->Hp->Prop)->Prop
def PO (X:Cx) (e:Option Expr) (t:TO):Prop :=
 ∀ (pins:List (ah×jo)) (s:ax) (Z:St) (H:Hp) (Q:Option Int->Hp->Prop),Inv X pins Z H s->t Z H Q ->
  aY (bg X.prog X.w) X.A (evalPart e X.env) (λu s'=>∃ o H',Inv X pins Z H' s'/\IsPart u o/\Q o H') X.xe s
def lT:TO:=λ_ H Q=>Q none H
def qc (t:TE):TO:=λZ H Q=>t Z H λx H1=>∃ i,x=.int i/\Q (some i) H1
theorem intsAre_of {ns:List Int}:∀ {us:List aj},Vals (ns.map V.int) us->oO us ns:=by
 induction ns with
 | nil=>intro us r;rw [Se] at r;cases r;exact .nil
 | cons n ns ih =>
  intro us r;rw [bx] at r
  cases r with
  | cons r1 r2 =>
   obtain ⟨t,e⟩:=r1;subst e;exact .cons n t (ih r2)
section
variable {te:TE}{lo hi:Option Expr}{tl th:TO}{p2:yz}
theorem oo:PO X none lT:=by
 intro pins s Z H Q I h;rw [evalPart_none];exact aQ ⟨none,H,I,.none,h⟩
theorem jW (h:PE X e te):PO X (some e) (qc te):=by
 intro pins s Z H Q I hw;rw [evalPart_some];refine gJ (h pins s Z H _ I hw) λu s1 ⟨x,H1,I1,r1,q1⟩=>?_;obtain ⟨i,rfl,q⟩:=q1;obtain ⟨t,rfl⟩:=r1;exact ⟨some i,H1,I1,.int i t,q⟩
def SlR (X:Cx) (r:V->Option Int->Option Int->Hp->VK->Prop):Prop :=
 ∀ (pins:List (ah×jo)) (s:ax) (Z:St) (H:Hp) (x:V) (v vl vu:aj) (lo hi:Option Int) (sl:ah) (Q:VK),Inv X pins Z H s->RelV x v->s.heap.IsSliceOf sl vl vu .none->IsPart vl lo->IsPart vu hi->r x lo hi H Q ->
  ∃ T id,typeLookup (.type T) "__getitem__"=pure (some (.builtin id))/\s.TypeIs v T/\aY (bg X.prog X.w) X.A (YF v (.ref sl)) (EP X pins Z Q) X.xe s
def Q8 (r:V->Option Int->Option Int->Hp->VK->Prop) (te:TE) (tl th:TO):TE:=λZ H Q=>te Z H λx H1=>tl Z H1 λl H2=>th Z H2 λu H3=>r x l u H3 Q
theorem jI {r:V->Option Int->Option Int->Hp->VK->Prop}(hr:SlR X r) (he:PE X e te) (hl:PO X lo tl) (hu:PO X hi th):PE X (.Subscript e (.Slice lo hi none p2) pos) (Q8 r te tl th):=by
 intro pins s Z H Q I h;refine Ua (gJ (he pins s Z H _ I h) λv s1 ⟨x,H1,I1,r1,q1⟩=>?_);refine wpAny_Slice (gJ (hl pins s1 Z H1 _ I1 q1) λvl s2 ⟨l,H2,I2,pl,q2⟩=>gJ (hu pins s2 Z H2 _ I2 q2) λvu s3 ⟨u,H3,I3,pu,q3⟩=>?_);rw [evalPart_none];refine aQ ?_;have I4:Inv X pins Z H3 { s3 with heap:=s3.heap.push { cls:=.type "slice",data:=.fields #[vl,vu,.none] } }:=I3.kept (t':=s3.toks) λb ob q=>aA _ q;obtain ⟨T,id,hT,ht,hg⟩:=hr pins { s3 with heap:=s3.heap.push { cls:=.type "slice",data:=.fields #[vl,vu,.none] } } Z H3 x v vl vu l u s3.heap.objs.size Q I4 r1 (Heap.IsSliceOf.new ..) pl pu q3
 show aY (bg X.prog X.w) X.A (subscriptTail e (.Slice lo hi none p2) v (.ref s3.heap.objs.size)) (EP X pins Z Q) X.xe { s3 with heap:=s3.heap.push { cls:=.type "slice",data:=.fields #[vl,vu,.none] } }
 exact tail_any (ops:=[.ref s3.heap.objs.size,v]) ht hT hg (by with_unfolding_all rfl)
def zo (xs:List V) (lo hi:Option Int):List V:=(xs.drop (HT.MK xs.length 0 lo)).take (HT.MK xs.length xs.length hi-HT.MK xs.length 0 lo)
theorem M4 (xs:List V) (lo hi:Option Int):(zo xs lo hi).length<=xs.length:=by
 unfold zo;rw [cE,c8];lia
end
def W6 (n:Nat) (i:Int):Option Nat:=if 0<=i then (if i<n then some i.toNat else none) else if -(n:Int)<=i then some (i+n).toNat else none
def XN {α:Type} (xs:List α) (i:Int):Option α:=(W6 xs.length i).bind λj=>xs[j]?
theorem Q9 (h:W6 n i=some j):seqIndex? i n=some j/\j<n/\-(n:Int)<=i/\i<n:=by
 unfold W6 at h
 by_cases h0:0<=i
 .rw [if_pos h0] at h
  by_cases h1:i<n
  .rw [if_pos h1] at h;have e:i.toNat=j:=aD h;exact ⟨by rw [seqIndex_of h0 h1,e],by lia,by lia,h1⟩
  .rw [if_neg h1] at h;cases h
 .rw [if_neg h0] at h
  by_cases h1:-(n:Int)<=i
  .rw [if_pos h1] at h;have e:(i+n).toNat=j:=aD h;exact ⟨by rw [seqIndex_neg (by lia) h1,e],by lia,h1,by lia⟩
  .rw [if_neg h1] at h;cases h
theorem Ra {α:Type} {xs:List α}{v:α}(h:XN xs i=some v):∃ j,seqIndex? i xs.length=some j/\xs[j]?=some v/\j<xs.length/\-(xs.length:Int)<=i/\i<xs.length:=by
 unfold XN at h
 cases e:W6 xs.length i with
 | none=>rw [e] at h;cases h
 | some j =>
  rw [e] at h;obtain ⟨h1,h2,h3,h4⟩:=Q9 e;exact ⟨j,h1,h,h2,h3,h4⟩
theorem XO {α:Type} {xs:List α}{v:α}(h:xs[j]?=some v):XN xs (j:Int)=some v:=by
 have hj:j<xs.length:=(aP.mp h).1
 have e:W6 xs.length (j:Int)=some j:=by
  unfold W6;rw [if_pos (by lia),if_pos (by lia)];simp
 unfold XN;rw [e];exact h
def XQ (b:Expr):Prop:=∀ o i,subscripted b false o i=operate [o,i] (YF o i)
def Yz (X:Cx) (r:R2):Prop :=
 ∀ (value slice:Expr) (pins:List (ah×jo)) (s:ax) (Z:St) (H:Hp) (x y:V) (v u:aj) (Q:VK),Inv X pins Z H s->RelV x v->RelV y u->r x y H Q ->
  subscripted slice false v u=operate [v,u] (YF v u)->aY (bg X.prog X.w) X.A (subscriptTail value slice v u) (EP X pins Z Q) X.xe s
def MtR (X:Cx) (id:String) (r:V->List V->Hp->VK->Prop):Prop :=
 ∀ (pins:List (ah×jo)) (s:ax) (Z:St) (H:Hp) (x:V) (xs:List V) (v:aj) (us:List aj) (Q:VK),Inv X pins Z H s->RelV x v->Vals xs us->r x xs H Q ->
  aY (bg X.prog X.w) X.A (call (.builtin id) (v::us)) (EP X pins Z Q) X.xe s
section
variable {a b:Expr}{ta tb:TE}
theorem Yz.or {r':R2}(h:Yz X r) (h':Yz X r'):Yz X (λx y H Q=>r x y H Q\/r' x y H Q):=by
 intro value slice pins s Z H x y v u Q I rx ry q hs
 rcases q with q|q
 .exact h value slice pins s Z H x y v u Q I rx ry q hs
 .exact h' value slice pins s Z H x y v u Q I rx ry q hs
theorem de (hr:Yz X r) (ha:PE X a ta) (hb:PE X b tb) (hs:XQ b):PE X (.Subscript a b pos) (bT r ta tb):=by
 intro pins s Z H Q I h;exact Ua (Xz ha hb I h λv u s2 x y H2 I2 rx ry q=>hr a b pins s2 Z H2 x y v u Q I2 rx ry q (hs _ _))
def rIxL (K:ae):R2:=λx y H Q=>∃ p xs i v,x=.ref p/\y=.int i/\gb K H p xs/\XN xs i=some v/\Q v H
def rIxT (K:ae):R2:=λx y H Q=>∃ p xs i v,x=.ref p/\y=.int i/\tK K H p xs/\XN xs i=some v/\Q v H
theorem XR:Yz X (rIxL X.K):=by
 intro value slice pins s Z H x y v u Q I rx ry h hs;obtain ⟨p,xs,i,z,rfl,rfl,hq,he,q⟩:=h;cases rx;obtain ⟨t,rfl⟩:=ry;obtain ⟨its,r,pl,hz⟩:=I.list hq;obtain ⟨j,h1,h2,h3,h4,h5⟩:=Ra he;obtain ⟨w,ew,rw'⟩:=r.get h2;have hl:=r.length;have hn:=vU
 have fin:EP X pins Z Q w s:=⟨z,H,I,rw',q⟩
 by_cases h0:0<=i
 .have hj:i.toNat=j:=by
   rw [seqIndex_of h0 h5] at h1;exact aD h1
  exact item_listR pl.isList h0 (by lia) (by rw [hj];simpa using ew) fin hs
 .have hj:(i+(its.toArray.size:Int)).toNat=j:=by
   rw [seqIndex_neg (by lia) h4] at h1;rw [bu,← hl];exact aD h1
  exact YI (x:=w) pl.isList.typeIs slot_list_getitem.lookup
   (wpAny_getItem_list_neg (Q:=λr s'=>r=w/\EP X pins Z Q r s') pl.isList (by lia) (by rw [bu]<;>lia) (by lia) (by rw [hj];simpa using ew) ⟨rfl,fin⟩) hs
theorem ZM:Yz X (rIxT X.K):=by
 intro value slice pins s Z H x y v u Q I rx ry h hs;obtain ⟨p,xs,i,z,rfl,rfl,hq,he,q⟩:=h;cases rx;obtain ⟨t,rfl⟩:=ry;obtain ⟨its,r,pl,hz⟩:=I.tuple hq;obtain ⟨j,h1,h2,h3,h4,h5⟩:=Ra he;obtain ⟨w,ew,rw'⟩:=r.get h2;have hl:=r.length;have hn:=vU
 have fin:EP X pins Z Q w s:=⟨z,H,I,rw',q⟩
 exact YI (x:=w) pl.typeIs slot_tuple_getitem.lookup
  (getItem_tuple (j:=j) (Q:=λr s'=>r=w/\EP X pins Z Q r s') pl (by lia) (by lia) (by rw [bu,← hl];exact h1) (by simpa using ew) ⟨rfl,fin⟩) hs
theorem PB (its:List aj) (n j:Nat) (u:aj):cD (·.setIfInBounds j u) { cls:=.type "list",data:=.seq its.toArray n }={ cls:=.type "list",data:=.seq (its.set j u).toArray n }:=by
 simp [cD]
theorem Inv.lst (I:Inv X pins Z H s) (h:H p=some (.lst xs)) :
  ∃ (its:List aj) (n:Nat),Vals xs its/\s.heap.get? p=some { cls:=.type "list",data:=.seq its.toArray n }/\xs.length<=aT:=by
 obtain ⟨z,its,n,r,e⟩:=I.eY p _ h;exact ⟨its,n,r,e,z⟩
theorem Inv.aaS {n':Nat}{f:jo->jo}(I:Inv X pins Z H s) (h:H p=some (.lst xs))
  (ho:s.heap.get? p=some { cls:=.type "list",data:=.seq its.toArray n }) (hf:f { cls:=.type "list",data:=.seq its.toArray n }={ cls:=.type "list",data:=.seq its'.toArray n' }) (r:Vals ys its') (hz:ys.length<=aT) (t:Nat) :
  Inv X pins Z (upd H p (.lst ys)) { s with heap:=s.heap.update p f,toks:=t }:=by
 have e:(s.heap.update p f).get? p=some { cls:=.type "list",data:=.seq its'.toArray n' }:=by
  rw [qb f ho (by rw [hf]<;>rfl),hf]
 refine I.write (x:=p) (e:=p) (by rw [h];trivial) (.inl rfl) (λb u hb q=>(j9 _ _ (Ne.symm hb)).trans q) ⟨_,e⟩ ?_;exact ⟨hz,its',n',r,e⟩
def YZ:V->V->V->Hp->(Hp->Prop)->Prop:=λo i v H Q=>∃ p xs k j,o=.ref p/\i=.int k/\H p=some (.lst xs)/\W6 xs.length k=some j/\Q (upd H p (.lst (xs.set j v)))
theorem UX:Xw X YZ:=by
 intro pins s Z H o i v ov iv u Q I ro ri rv h;obtain ⟨p,xs,k,j,rfl,rfl,hp,hj,q⟩:=h;cases ro;obtain ⟨t,rfl⟩:=ri;obtain ⟨its,n,r,ho,hz⟩:=I.lst hp;obtain ⟨h1,h2,h3,h4⟩:=Q9 hj;have hl:=r.length;have hn:=vU
 have I':Inv X pins Z (upd H p (.lst (xs.set j v))) { s with heap:=s.heap.update p (cD (·.setIfInBounds j u)) } :=
  I.aaS hp ho (PB its n j u) (r.set rv j) (by rw [List.length_set];exact hz) s.toks
 by_cases h0:0<=k
 .have hk:k.toNat=j:=by
   rw [seqIndex_of h0 h4] at h1;exact aD h1
  exact PySem.W.ki_setAt ho h0 (by lia) (by rw [bu,← hl];exact h4) (by rw [hk];exact ⟨_,I',q⟩)
 .have hk:(k+(its.toArray.size:Int)).toNat=j:=by
   rw [seqIndex_neg (by lia) h3] at h1;rw [bu,← hl];exact aD h1
  exact PySem.W.ki_setBack ho (by lia) (by rw [bu,← hl];exact h3) (by lia) (by rw [hk];exact ⟨_,I',q⟩)
theorem Kr (lo hi:Option Int) (n:Nat):(tM lo hi none n).1=((HT.MK n 0 lo:Nat):Int)/\(tM lo hi none n).2.1=((HT.MK n n hi:Nat):Int)/\(tM lo hi none n).2.2=1:=by
 refine ⟨?_,?_,rfl⟩
 .cases lo with
  | none=>simp [tM,HT.MK]
  | some i =>
   simp only [tM,HT.MK,Xj,show (1:Int)>0 by decide,if_true]
   by_cases h:i<0
   .simp only [h,if_true]<;>lia
   .simp only [h,if_false]<;>lia
 .cases hi with
  | none=>simp [tM,HT.MK]
  | some i =>
   simp only [tM,HT.MK,Xj,show (1:Int)>0 by decide,if_true]
   by_cases h:i<0
   .simp only [h,if_true]<;>lia
   .simp only [h,if_false]<;>lia
theorem HN (its:List aj) (lo hi:Option Int):slicePick its.toArray lo hi none=((its.drop (HT.MK its.length 0 lo)).take (HT.MK its.length its.length hi-HT.MK its.length 0 lo)).toArray:=by
 obtain ⟨h1,h2,h3⟩:=Kr lo hi its.toArray.size;unfold slicePick;rw [h1,h2,h3];simp only [sliceRange_one,pick_run,bu]<;>rfl
def zq (K:ae):V->Option Int->Option Int->Hp->VK->Prop:=λx lo hi H Q=>∃ a xs,x=.ref a/\gb K H a xs/\∀ p,H p=none->Q (.ref p) (upd H p (.lst (zo xs lo hi)))
theorem oq:SlR X (zq X.K):=by
 intro pins s Z H x v vl vu lo hi sl Q I rx hs pl pu h;obtain ⟨a,xs,rfl,hx,q⟩:=h;cases rx;obtain ⟨its,r,ht,hz⟩:=I.list hx;have hlen:=r.length;refine ⟨"list",_,slot_list_getitem.lookup,ht.isList.typeIs,?_⟩;refine wpAny_getItem_list_slice ht.isList hs pl pu .none (by simp) ?_ (by rw [bu]<;>lia);rw [HN,← hlen];refine ⟨.ref s.heap.objs.size,_,I.laid (t':=s.toks) (o:=.lst (zo xs lo hi)) (λb ob q=>aA _ q) (aE _) ?_,rfl,q _ (I.eY.fresh (aE _))⟩;exact ⟨bU (M4 xs lo hi) hz,_,0,(r.drop (HT.MK xs.length 0 lo)).take (HT.MK xs.length xs.length hi-HT.MK xs.length 0 lo),aZ _ rfl⟩
theorem Ks:mK X (.builtin "len") (λxs H Q=>∃ p ys,xs=[.ref p]/\(gb X.K H p ys\/tK X.K H p ys)/\Q (.int ys.length) H):=by
 intro pins s Z H xs us Q I r h;obtain ⟨p,ys,rfl,hq,q⟩:=h;obtain ⟨u,rfl,rx⟩:=vals1 r;cases rx;have hn:=vU
 rcases hq with hq|hq
 .obtain ⟨its,r',pl,hz⟩:=I.list hq;have hlen:=r'.length;exact Calls.call_len_list pl.isList (by simp only [bu]<;>lia) ⟨.int ys.length,H,I.tok _,⟨s.toks+1,by rw [bu,hlen]⟩,q⟩
 .obtain ⟨its,r',pl,hz⟩:=I.tuple hq;have hlen:=r'.length;exact len_tuple pl (by simp only [bu]<;>lia) ⟨.int ys.length,H,I.tok _,⟨s.toks+1,by rw [bu,hlen]⟩,q⟩
theorem Kt:mK X (.builtin "len") (λxs H Q=>∃ z,xs=[.str z]/\z.length<=aT/\Q (.int z.length) H):=by
 intro pins s Z H xs us Q I r h;obtain ⟨z,rfl,hz,q⟩:=h;obtain ⟨u,rfl,t,rfl⟩:=vals1 r;have hn:=vU;exact len_str (by lia) ⟨.int z.length,H,I.tok _,⟨_,rfl⟩,q⟩
theorem mK.or {f:aj}{r r':List V->Hp->VK->Prop}(h:mK X f r) (h':mK X f r'):mK X f (λxs H Q=>r xs H Q\/r' xs H Q):=by
 intro pins s Z H xs us Q I rs q
 rcases q with q|q
 .exact h pins s Z H xs us Q I rs q
 .exact h' pins s Z H xs us Q I rs q
def tyV (K:ae) (T:String) (x:V) (H:Hp):Prop:=match x with
 | .str _=>T="str"
 | .int _=>T="int"
 | .ref p=>(T="list"/\∃ xs,gb K H p xs)\/(T="tuple"/\∃ o,K.lookup p=some o/\o.cls=.type "tuple"/\o.dict=none) \/
   (T="dict"/\((∃ kvs,H p=some (.dK kvs))\/∃ kvs,H p=some (.dT kvs)))\/(T="set"/\∃ S n,H p=some (.set S n))
 | _=>False
theorem ZN {v:aj}(I:Inv X pins Z H s) (r:RelV x v) (ty:tyV X.K T x H) :
  s.TypeIs v T/\∀ a,v=.ref a->∃ ob,s.heap.get? a=some ob/\ob.dict=none:=by
 cases x with
 | str z =>
  obtain ⟨t,rfl⟩:=r;cases (show T="str" from ty)
  exact ⟨typeIs_str s z t,λ_ e=>nomatch e⟩
 | int i =>
  obtain ⟨t,rfl⟩:=r;cases (show T="int" from ty)
  exact ⟨typeIs_int s i t,λ_ e=>nomatch e⟩
 | ref p =>
  cases r
  rcases ty with ⟨rfl,xs,hq⟩|⟨rfl,o,hk,hc,hd⟩|⟨rfl,hk⟩|⟨rfl,S,n,hk⟩
  .obtain ⟨its,_,pl,_⟩:=I.list hq;refine ⟨pl.isList.typeIs,λa e=>?_⟩;cases e;obtain ⟨o,n,e,c,hd,_⟩:=pl;exact ⟨o,e,hd⟩
  .refine ⟨⟨o,I.vM p o hk,hc⟩,λa e=>?_⟩;cases e;exact ⟨o,I.vM _ o hk,hd⟩
  .have z:∃ o,s.heap.get? p=some o/\o.ExactDict:=by
    rcases hk with ⟨kvs,hk⟩|⟨kvs,hk⟩
    .obtain ⟨_,_,_,_,o,_,_,e,ex,_⟩:=I.eY p _ hk;exact ⟨o,e,ex⟩
    .obtain ⟨_,_,_,_,o,_,_,e,ex,_⟩:=I.eY p _ hk;exact ⟨o,e,ex⟩
   obtain ⟨o,e,ex⟩:=z;refine ⟨⟨o,e,ex.1⟩,λa e2=>?_⟩;cases e2;exact ⟨o,e,ex.2.1⟩
  .obtain ⟨o,_,_,_,e,ex,_⟩:=I.eY p _ hk;refine ⟨⟨o,e,ex.1⟩,λa e2=>?_⟩;cases e2
   exact ⟨o,e,ex.2.1⟩
 | _=>exact dh ty
def HD (K:ae) (T:String) (r:V->List V->Hp->VK->Prop) (to:TE) (t:TA):TE:=λZ H Q=>to Z H λx H1=>tyV K T x H1/\t Z H1 λxs H2=>r x xs H2 Q
variable {o:Expr}{es:List Expr}{to:TE}{t:TA}{name:aL}{id:String}{r:V->List V->Hp->VK->Prop}
theorem mP (pa:PlainAttrs T) (slot:Slot T name id) (hty:typeOf (.builtin id)=pure (.type "method_descriptor")) (hm:MtR X id r) (ho:PE X o to) (ha:PA X (e::es) t)
  (hbase:sP o name X.env (fR o X.env)=fR o X.env:=by rfl)
  (hfew:((iS cpos (bw (e::es) X.env)).all (λx=>!x.1) && (zZ cpos (pE [] X.env)).all (λx=>x.1.isSome)
   && decide ((e::es).length+([]:List My).length+(if ([]:List My).isEmpty then 0 else 1)<30))=true:=by rfl)
  (hline:(apos.endLine == cpos.line)=true:=by rfl) (hs:bw (e::es) X.env=(false,fR e X.env)::bw es X.env:=by rfl) (hplain:(iS cpos (bw es X.env)).any (·.1)=false:=by rfl) :
  PE X (.Call (.Attribute o name apos) (e::es) [] cpos) (HD X.K T r to t):=by
 intro pins s Z H Q I h;refine YJ hbase hfew hline rfl (gJ (ho pins s Z H _ I h) λv s1 ⟨x,H1,I1,r1,ty,q1⟩=>?_);obtain ⟨h1,h2⟩:=ZN I1 r1 ty;refine ⟨T,id,pa,slot,hty,h1,h2,?_⟩;have hA:=ha cpos pins s1 Z H1 _ I1 q1;rw [hs] at hA ⊢;refine QZ (by show (false || (iS cpos (bw es X.env)).any (·.1))=false;rw [hplain]<;>rfl) (z4 ?_);exact gJ hA λus s2 ⟨vs,H2,I2,r2,q2⟩=>hm pins s2 Z H2 x vs v us Q I2 r1 r2 q2
end
def WM (X:Cx) (id:String) (r:V->List V->Hp->VK->Prop):Prop :=
 ∀ (pins:List (ah×jo)) (s:ax) (Z:St) (H:Hp) (x:V) (xs:List V) (v:aj) (us:List aj) (Q:VK),Inv X pins Z H s->RelV x v->Vals xs us->r x xs H Q ->
  aY (bg X.prog X.w) X.A (call (.builtin id) (v::us)) (EP X pins Z Q) X.xe s
theorem Vals.one {us:List aj}(h:Vals [x] us):∃ u,us=[u]/\RelV x u:=by
 cases h with
 | cons r t=>cases t;exact ⟨_,rfl,r⟩
section
variable {l:ah}{zs:List V}
theorem Inv.lset {f:Array aj->Array aj}(I:Inv X pins Z H s) (hH:H l=some (.lst xs))
  (e:s.heap.get? l=some { cls:=.type "list",data:=.seq its.toArray n }) (hf:f its.toArray=its'.toArray) (hv:Vals ys its') (hz:ys.length<=aT) :
  Inv X pins Z (upd H l (.lst ys)) { s with heap:=s.heap.update l (cD f),toks:=t' }:=by
 have q:=PySem.IsL.update e f;rw [hf] at q;refine I.write (x:=l) (e:=l) (by rw [hH];exact trivial) (.inl rfl) (λb' u hb hu=>(j9 s.heap (cD f) (Ne.symm hb)).trans hu) ⟨_,q⟩ ?_;exact ⟨hz,its',_,hv,q⟩
theorem Inv.aaX (I:Inv X pins Z H s) (hv:Vals ys its) (hz:ys.length<=aT) :
  Inv X pins Z (upd H s.heap.objs.size (.lst ys)) { s with heap:=s.heap.push { cls:=.type "list",data:=.seq its.toArray },toks:=t' } :=
 I.laid (λ_ _ q=>aA _ q) (aE _) ⟨hz,its,0,hv,aZ _ rfl⟩
theorem Inv.fresh (I:Inv X pins Z H s):H s.heap.objs.size=none:=I.eY.fresh (aE _)
theorem Inv.aaZ (I:Inv X pins Z H s) (hH:H l=some (.lst xs)):xs.length<=aT/\∃ (its:List aj) (n:Nat),Vals xs its/\xs.length=its.length/\s.heap.get? l=some { cls:=.type "list",data:=.seq its.toArray n }:=by
 obtain ⟨z,its,n,r,e⟩:=I.eY l _ hH;exact ⟨z,its,n,r,r.length,e⟩
end
def lU:V->List V->Hp->VK->Prop:=λx vs H Q=>∃ l xs y,x=.ref l/\vs=[y]/\H l=some (.lst xs)/\xs.length<aT/\Q .non (upd H l (.lst (xs++[y])))
theorem je:WM X "list.append" lU:=by
 intro pins s Z H x vs v us Q I rx rv h;obtain ⟨l,xs,y,rfl,rfl,hH,hz,q⟩:=h;cases rx;obtain ⟨u,rfl,ru⟩:=rv.one;obtain ⟨z,its,n,r,hl,e⟩:=I.aaZ hH;refine call_meets F.slot_list_append ⟨_,e,rfl⟩ F.entry_list_append (F.args_list_append_2 _ _) (PySem.list_append l its.toArray n u (by rw [bu];lia)) ⟨e,?_⟩;refine ⟨.non,_,I.lset (its':=its++[u]) hH e (by simp) (r.append (.cons ru .nil)) ?_,rfl,q⟩;rw [bN,List.length_singleton];lia
def rCat:R2:=λx y H Q=>∃ l b xs zs,x=.ref l/\y=.ref b/\H l=some (.lst xs)/\H b=some (.lst zs)/\xs.length+zs.length<=aT/\∀ p,H p=none->Q (.ref p) (upd H p (.lst (xs++zs)))
theorem ZO:tP X (oi .Add) rCat:=by
 intro pins s Z H x y v u Q I rx ry h;obtain ⟨l,b,xs,zs,rfl,rfl,hH,hB,hz,q⟩:=h;cases rx;cases ry;obtain ⟨z,its,n,r,hl,e⟩:=I.aaZ hH;obtain ⟨z2,its2,n2,r2,hl2,e2⟩:=I.aaZ hB;refine PySem.P.add_list e e2 ?_ (by rw [bu,bu];lia)
 have ea:its.toArray++its2.toArray=(its++its2).toArray:=by simp
 rw [ea];exact ⟨.ref _,_,I.aaX (t':=s.toks) (r.append r2) (by rw [bN];lia),rfl,q _ I.fresh⟩
section
variable {prog:bC}
end
section
variable {κ:Type} [DecidableEq κ]
def iL (kvs:List (κ×V)) (k:κ):Option V:=(kvs.find? λkv=>decide (kv.1=k)).map (·.2)
def yg (kvs:List (κ×V)) (k:κ) (v:V):List (κ×V) :=
 if (kvs.any λkv=>decide (kv.1=k))=true then kvs.map (λkv=>if kv.1=k then (kv.1,v) else kv) else kvs++[(k,v)]
theorem vW {p:κ×V}{r:List (κ×V)}{k:κ}(e:p.1=k):iL (p::r) k=some p.2:=by simp [iL,nI,e]
theorem tU {p:κ×V}{r:List (κ×V)}{k:κ}(e:¬ p.1=k):iL (p::r) k=iL r k:=by simp [iL,nI,e]
theorem tV (k:κ):∀ kvs:List (κ×V),(kvs.any λkv=>decide (kv.1=k))=(iL kvs k).isSome
 | []=>rfl
 | p::r=>by
  rw [Pa]
  by_cases e:p.1=k
  .simp only [vW e,decide_eq_true e,Sg,Option.isSome_some]
  .rw [tU e,decide_eq_false e,Dp];exact tV k r
theorem Ds (kvs:List (κ×V)) (k:κ) (v:V):(yg kvs k v).length<=kvs.length+1:=by
 unfold yg
 split
 .rw [ao];lia
 .rw [bN,bo,yI];lia
theorem FH {kvs:List (κ×V)}{k:κ}(v:V) (h:iL kvs k=none):yg kvs k v=kvs++[(k,v)]:=by
 unfold yg;rw [tV,h];exact if_neg (by decide)
theorem xA.uw {u:Option aj}(r:xA o u):o.isSome=u.isSome:=by
 cases o with
 | none=>cases u with
  | none=>rfl
  | some _=>exact (show False from r).elim
 | some _=>cases u with
  | none=>exact (show False from r).elim
  | some _=>rfl
theorem KV.val {kvs:List (κ×V)}{vs:List (κ×aj)}(r:KV kvs vs) (k:κ):xA (iL kvs k) (Mz vs k):=by
 unfold KV at r
 induction r with
 | nil=>exact j7
 | @cons p q ps qs h t ih =>
  obtain ⟨h1,h2⟩:=h
  by_cases e:p.1=k
  .have e':q.1=k:=h1.symm.trans e
   have b:Mz (q::qs) k=some q.2:=by simp [Mz,nI,e']
   rw [vW e,b];exact h2
  .have e':¬ q.1=k:=λz=>e (h1.trans z)
   have b:Mz (q::qs) k=Mz qs k:=by simp [Mz,nI,e']
   rw [tU e,b];exact ih
theorem KV.any {kvs:List (κ×V)}{vs:List (κ×aj)}(r:KV kvs vs) (k:κ):(kvs.any λkv=>decide (kv.1=k))=vs.any λkv=>decide (kv.1=k):=by
 unfold KV at r
 induction r with
 | nil=>rfl
 | cons h t ih=>rw [Pa,Pa,ih,h.1]
theorem KV.aaQ {kvs:List (κ×V)}{vs:List (κ×aj)}(r:KV kvs vs) (k:κ) {y:V}{u:aj}(ry:RelV y u) :
  KV (kvs.map λkv=>if kv.1=k then (kv.1,y) else kv) (vs.map λkv=>if kv.1=k then (kv.1,u) else kv):=by
 unfold KV at r ⊢
 induction r with
 | nil=>exact .nil
 | @cons p q ps qs h t ih =>
  rw [bx,bx];refine .cons ?_ ih;obtain ⟨h1,h2⟩:=h
  by_cases e:p.1=k
  .rw [if_pos e,if_pos (h1.symm.trans e)];exact ⟨h1,ry⟩
  .rw [if_neg e,if_neg (λz=>e (h1.trans z))];exact ⟨h1,h2⟩
theorem KV.put {kvs:List (κ×V)}{vs:List (κ×aj)}(r:KV kvs vs) (k:κ) {y:V}{u:aj}(ry:RelV y u):KV (yg kvs k y) (stored vs k u):=by
 unfold yg stored;rw [r.any k]
 by_cases e:(vs.any λkv=>decide (kv.1=k))=true
 .rw [if_pos e,if_pos e];exact r.aaQ k ry
 .rw [if_neg e,if_neg e];exact Paired.snoc r ⟨rfl,ry⟩
theorem KV.length {kvs:List (κ×V)}{vs:List (κ×aj)}(r:KV kvs vs):kvs.length=vs.length:=Bs r
end
theorem M5 {k:ig}(r:RelV (kV k) u):(i8 P w).is k u=true:=by
 cases k with
 | inl i=>obtain ⟨t,e⟩:=(show ∃ t,u=jE i t from r);subst e;exact MW P w i t
 | inr x=>obtain ⟨t,e⟩:=(show ∃ t,u=sN x t from r);subst e;exact MX P w x t
theorem JL:∀ {ks:List ig}{us:List aj},Vals (ks.map kV) us->ItemsAre (i8 P w) ks us
 | [],_,r=>by rw [Se] at r;cases r;exact .nil
 | k::ks,_,r=>by
  rw [bx] at r
  cases r with
  | cons h t=>exact .cons (M5 h) (JL t)
abbrev KT (H:Hp):List (List ig×V)->List (List ig×ah×aj)->Prop:=Paired λp q=>p.1=q.1/\H q.2.1=some (.tup (p.1.map kV))/\RelV p.2 q.2.2
theorem KT.val {kvs:List (List ig×V)}{xs:List (List ig×ah×aj)}(r:KT H kvs xs) (k:List ig):xA (iL kvs k) ((Pb xs k).map (·.2)):=by
 induction r with
 | nil=>exact j7
 | @cons p q ps qs h t ih =>
  obtain ⟨h1,_,h2⟩:=h
  by_cases e:p.1=k
  .have e':q.1=k:=h1.symm.trans e
   have b:Pb (q::qs) k=some q.2:=by simp [Pb,nI,e']
   rw [vW e,b];exact h2
  .have e':¬ q.1=k:=λz=>e (h1.trans z)
   have b:Pb (q::qs) k=Pb qs k:=by simp [Pb,nI,e']
   rw [tU e,b];exact ih
theorem KT.aaQ {kvs:List (List ig×V)}{xs:List (List ig×ah×aj)}(r:KT H kvs xs) (k:List ig) {y:V}{u:aj}(ry:RelV y u) :
  KT H (kvs.map λkv=>if kv.1=k then (kv.1,y) else kv) (xs.map (putAt k u)):=by
 induction r with
 | nil=>exact .nil
 | @cons p q ps qs h t ih =>
  rw [bx,bx];refine .cons ?_ ih;obtain ⟨h1,h2,h3⟩:=h;unfold putAt
  by_cases e:p.1=k
  .rw [if_pos e,if_pos (h1.symm.trans e)];exact ⟨h1,h2,ry⟩
  .rw [if_neg e,if_neg (λz=>e (h1.trans z))];exact ⟨h1,h2,h3⟩
theorem KT.put {kvs:List (List ig×V)}{xs:List (List ig×ah×aj)}(r:KT H kvs xs) (k:List ig) {b:ah}{y:V}{u:aj}(hb:H b=some (.tup (k.map kV))) (ry:RelV y u) :
  KT H (yg kvs k y) (storedH xs k b u):=by
 have e:(kvs.any λkv=>decide (kv.1=k))=(Pb xs k).isSome:=by
  rw [tV,(r.val k).uw,DO]
 unfold yg storedH;rw [e]
 by_cases q:(Pb xs k).isSome=true
 .rw [if_pos q,if_pos q];exact r.aaQ k ry
 .rw [if_neg q,if_neg q];exact Paired.snoc r ⟨rfl,hb,ry⟩
theorem KT.keeps {kvs:List (List ig×V)}{xs:List (List ig×ah×aj)}(r:KT H kvs xs) (ht:∀ b ys,H b=some (.tup ys)->H' b=some (.tup ys)):KT H' kvs xs :=
 Paired.TY r λ_ _ z=>⟨z.1,ht _ _ z.2.1,z.2.2⟩
section
variable {h:dt}
theorem Y0 {u:HO}(ok:vN P w H h) (e:Rd H a u):fq P w H h a u:=e.ok ok
theorem JM {kvs:List (ig×V)}(ok:vN P w H h) (e:Rd H a (.dK kvs)):kvs.length<=aT/\(a == jM)=false/\∃ vs,KV kvs vs/\h.DictOf (i8 P w) a vs :=
 show fq P w H h a (.dK kvs) from Y0 ok e
theorem Y1 {kvs:List (ig×V)}(ok:vN P w H h) (e:H a=some (.dK kvs)):kvs.length<=aT/\(a == jM)=false/\∃ vs,KV kvs vs/\h.DictOf (i8 P w) a vs:=JM ok (.inl e)
theorem BC {ks:List ig}(ok:vN P w H h) (e:H a=some (.tup (ks.map kV))):(OW (i8 P w)).is h ks a:=by
 obtain ⟨_,its,r,o,h1,h2,n,h3⟩:=(show fq P w H h a (.tup (ks.map kV)) from ok a _ e)
 exact ⟨o,its.toArray,n,h1,h2,h3,by simpa using JL r⟩
theorem JN {kvs:List (List ig×V)}(ok:vN P w H h) (e:Rd H a (.dT kvs)):kvs.length<=aT/\(a == jM)=false /\
  ∃ xs,KT H kvs xs/\h.DictOfH (OW (i8 P w)) a xs:=by
 obtain ⟨z,y,xs,r,o,es,ep,h1,h2,h3,h4,h5⟩:=(show fq P w H h a (.dT kvs) from Y0 ok e)
 refine ⟨z,y,xs,r,o,es,ep,h1,h2,h3,h4,λx hx=>?_,h5⟩
 have all:∀ {l:List (List ig×V)}{m:List (List ig×ah×aj)},KT H l m->∀ x∈m,(OW (i8 P w)).is h x.1 x.2.1:=by
  intro l m q
  induction q with
  | nil=>intro x hx;exact nomatch hx
  | @cons p q ps qs hq t ih =>
   intro x hx
   rcases az.mp hx with e|hx
   .subst e;exact BC ok (by rw [← hq.1];exact hq.2.1)
   .exact ih x hx
 exact all r x hx
theorem abE {kvs:List (List ig×V)}(ok:vN P w H h) (e:H a=some (.dT kvs)):kvs.length<=aT/\(a == jM)=false /\
  ∃ xs,KT H kvs xs/\h.DictOfH (OW (i8 P w)) a xs:=JN ok (.inl e)
end
def Hw (H:Hp) (a:ah) (y:V) (r:Option V):Prop :=
 (∃ kvs k,Rd H a (.dK kvs)/\y=kV k/\r=iL kvs k)\/∃ kvs k b,Rd H a (.dT kvs)/\y=.ref b/\H b=some (.tup (k.map kV))/\r=iL kvs k
def Jq (H:Hp) (a:ah) (y v:V) (H':Hp):Prop :=
 (∃ kvs k,H a=some (.dK kvs)/\y=kV k/\kvs.length<aT/\H'=upd H a (.dK (yg kvs k v))) \/
 ∃ kvs k b,H a=some (.dT kvs)/\y=.ref b/\H b=some (.tup (k.map kV))/\kvs.length<aT/\H'=upd H a (.dT (yg kvs k v))
theorem Hw.t {kvs:List (List ig×V)}{k:List ig}(e:H a=some (.dT kvs)) (eb:H b=some (.tup (k.map kV))):Hw H a (.ref b) (iL kvs k):=.inr ⟨kvs,k,b,.inl e,rfl,eb,rfl⟩
theorem Jq.t {kvs:List (List ig×V)}{k:List ig}(e:H a=some (.dT kvs)) (eb:H b=some (.tup (k.map kV))) (hl:kvs.length<aT) :
  Jq H a (.ref b) v (upd H a (.dT (yg kvs k v))):=.inr ⟨kvs,k,b,e,rfl,eb,hl,rfl⟩
section
variable {r:aj}
theorem Inv.big (I:Inv X pins Z H s):jM<s.heap.objs.size:=by
 have h:aX<s.heap.objs.size:=(I.mod.glob.keeps I.bk).lt;exact Nat.lt_trans (by decide) h
theorem SB (hu:A.units+1<jq) (I:Inv X pins Z H s) (g:Hw H a y (some v)) (ry:RelV y u) (h:∀ w' s',Inv X pins Z H s'->RelV v w'->Q w' s') :
  aY (bg X.prog X.w) A (YF (.ref a) u) Q E s:=by
 rcases g with ⟨kvs,k,e,ey,l⟩|⟨kvs,k,b,e,ey,eb,l⟩
 .subst ey;obtain ⟨z,hd,vs,rel,dd⟩:=JM I.eY e;obtain ⟨w',hw,rw'⟩:=xA.some_of (v:=v) (o:=Mz vs k) (by rw [l];exact rel.val k);exact wpAny_getItem_of (M5 ry) dd.mapOf hw (h w' _ (I.tok _) rw')
 .subst ey;cases (show u=aB b from ry);obtain ⟨z,hd,xs,rel,dd⟩:=JN I.eY e;obtain ⟨w',hw,rw'⟩:=xA.some_of (v:=v) (o:=(Pb xs k).map (·.2)) (by rw [l];exact rel.val k);obtain ⟨p,hp,hp2⟩:=jS.mp hw;refine wpAny_getItem_heap (pC hu) (BC I.eY eb) dd hp ?_;rw [hp2];exact h w' _ (I.tok _) rw'
theorem d_in (hu:A.units+1<jq) (I:Inv X pins Z H s) (g:Hw H a y o) (ry:RelV y u) (h:∀ s',Inv X pins Z H s'->Q (.bool o.isSome) s') :
  aY (bg X.prog X.w) A (dP .In u (.ref a)) Q E s:=by
 rcases g with ⟨kvs,k,e,ey,l⟩|⟨kvs,k,b,e,ey,eb,l⟩
 .subst ey;obtain ⟨z,hd,vs,rel,dd⟩:=JM I.eY e;refine wpAny_in_of (M5 ry) hd dd.mapOf ?_;rw [← (rel.val k).uw,← l];exact h _ (I.tok _)
 .subst ey;cases (show u=aB b from ry);obtain ⟨z,hd,xs,rel,dd⟩:=JN I.eY e;refine wpAny_in_heap (pC hu) (BC I.eY eb) hd dd ?_;have q:=(rel.val k).uw;rw [DO] at q;rw [← q,← l];exact h _ (I.tok _)
theorem XS (hu:A.units+1<jq) (I:Inv X pins Z H s) (g:Hw H a y o) (ry:RelV y u) (h:∀ s',Inv X pins Z H s'->Q (.bool (!o.isSome)) s') :
  aY (bg X.prog X.w) A (dP .NotIn u (.ref a)) Q E s:=by
 rcases g with ⟨kvs,k,e,ey,l⟩|⟨kvs,k,b,e,ey,eb,l⟩
 .subst ey;obtain ⟨z,hd,vs,rel,dd⟩:=JM I.eY e;refine wpAny_notIn_of (M5 ry) hd dd.mapOf ?_;rw [← (rel.val k).uw,← l];exact h _ (I.tok _)
 .subst ey;cases (show u=aB b from ry);obtain ⟨z,hd,xs,rel,dd⟩:=JN I.eY e;refine wpAny_notIn_heap (pC hu) (BC I.eY eb) hd dd ?_;have q:=(rel.val k).uw;rw [DO] at q;rw [← q,← l];exact h _ (I.tok _)
theorem Rb {ob:HO}(I:Inv X pins Z H s) (mu:Mut (H a)) (hs:yb a s.heap h') (he:∃ q,h'.get? a=some q) (new:fq X.prog X.w (upd H a ob) h' a ob) :
  Inv X pins Z (upd H a ob) { s with heap:=h',toks:=t' } :=
 I.write (x:=a) (e:=a) mu (.inl rfl) (λb q hb z=>(hs.2 b hb).trans z) he new
theorem ZP {kvs:List (ig×V)}{vs:List (ig×aj)}(z:kvs.length<=aT) (hd:(a == jM)=false) (rel:KV kvs vs) (dd:h'.DictOf (i8 P w) a vs) :
  fq P w H' h' a (.dK kvs):=⟨z,hd,vs,rel,dd⟩
theorem SC {Q:Unit->ax->Prop}(hu:A.units+1<jq) (I:Inv X pins Z H s) (g:Jq H a y v H') (ry:RelV y u) (rv:RelV v r) (h:∀ s',Inv X pins Z H' s'->Q () s') :
  aY (bg X.prog X.w) A (setItem (.ref a) u r) Q E s:=by
 rcases g with ⟨kvs,k,e,ey,l,eH⟩|⟨kvs,k,b,e,ey,eb,l,eH⟩
 .subst ey eH;obtain ⟨z,hd,vs,rel,dd⟩:=Y1 I.eY e
  have hz:vs.length<=aT:=by rw [← rel.length];exact z
  have hl:(yg kvs k v).length<=aT:=by have:=Ds kvs k v;lia
  refine wpAny_setItem_pairs (hsz:=hz) (M5 ry) dd λh' dd' hs=>h _ ?_
  have he:∃ q,h'.get? a=some q:=let ⟨q,_,_,hq,_⟩:=dd';⟨q,hq⟩
  exact Rb I (by rw [e];exact j7) hs he (ZP hl hd (rel.put k rv) dd')
 .subst ey eH;cases (show u=aB b from ry);obtain ⟨z,hd,xs,rel,dd⟩:=abE I.eY e
  have hz:xs.length<=aT:=by rw [← Bs rel];exact z
  have hl:(yg kvs k v).length<=aT:=by have:=Ds kvs k v;lia
  refine wpAny_setItem_heap (hsz:=hz) (pC hu) (BC I.eY eb) dd λh' dd' hs=>h _ ?_;obtain ⟨q,es,ep,hq,h2,h3,h4,_,h5⟩:=dd';refine Rb I (by rw [e];exact j7) hs ⟨q,hq⟩ ⟨hl,hd,_,(rel.put k eb rv).keeps λc ys ec=>?_,q,es,ep,hq,h2,h3,h4,h5⟩;rw [aI (mM ec e nofun)];exact ec
end
section
variable {kvs:List (ig×V)}{k:ig}
theorem abF (I:Inv X pins Z H s) (e:Rd H a (.dK kvs)) (h:∀ t s',Inv X pins Z H s'->Q (.int kvs.length t) s'):aY (bg X.prog X.w) A (call (.builtin "len") [.ref a]) Q E s:=by
 obtain ⟨z,hd,vs,rel,dd⟩:=JM I.eY e;refine call_len_dict hd dd (by rw [← rel.length];rw [yd] at z;lia) ?_;rw [← rel.length];exact h _ _ (I.tok _)
end
theorem M6 (I:Inv X pins Z H s) (g:Hw H a y o):s.TypeIs (.ref a) "dict":=by
 rcases g with ⟨kvs,k,e,_,_⟩|⟨kvs,k,b,e,_,_,_⟩
 .obtain ⟨_,_,vs,_,dd⟩:=JM I.eY e;exact dd.typeIs
 .obtain ⟨_,_,xs,_,dd⟩:=JN I.eY e;exact dd.typeIs
section
variable {o i value:Expr}{pos' tpos:yz}{td ty tv:TE}
end
theorem UY (h:dt) (hb:jM<h.objs.size):fq P w H (h.push { cls:=.type "dict",data:=.dict #[] }) h.objs.size (.dT []) :=
 ⟨dm _,beq_eq_false_iff_ne.mpr (Ne.symm (bb hb)),[],.nil,_,#[],0,aZ _ rfl,⟨rfl,rfl,rfl⟩,rfl,rfl,MP⟩
def zr:TE:=λ_ H Q=>∀ p,H p=none->Q (.ref p) (upd H p (.dT []))
theorem vX:PE X (.Dict [] [] pos) zr:=λpins s Z H Q I h =>
 wpAny_Dict_empty ⟨.ref s.heap.objs.size,_,I.laid (a:=s.heap.objs.size) (o:=.dT []) (t':=s.toks) (λ_ _ q=>aA _ q) (aE _) (UY s.heap I.big),rfl,h _ (I.eY.fresh (aE _))⟩
section
variable {d:V}{r:aj}
end
section
variable {o f:Expr}{td ty tx:TE}
end
section
variable {kvs:List (ig×V)}
end
end L2
namespace Att
open PySem PySem.W PySem.Calls PyProof.Rows
theorem DU {P:Params}{h:dt}:∀ (ns:List Int) (vs:List aj),WellAll P h vs (ns.map WData.int)->oO vs ns:=by
 intro ns
 induction ns with
 | nil =>
  intro vs w;rw [Se] at w;cases w
  exact .nil
 | cons n ns ih =>
  intro vs w;rw [bx] at w
  cases w with
  | cons a b =>
   cases a;exact .cons _ _ (ih _ b)
theorem SD {l:vC}{n:Nat}(hn:l.most=some n) {P:Params}{h:dt}{args:List WData}{vals:List aj}
  (hpre:l.row.toRowW.claim.pre args=true) (hwl:WellAll P h vals args) :
  ∃ a vs ns,vals=[aB a]/\args=[WData.list (ns.map WData.int)]/\h.get? a=some { cls:=.type "list",data:=.seq vs.toArray }/\oO vs ns/\ns.length<=n:=by
 have hsh:WShape.hasAll [] args [.list .int]=true:=(pre_splitW hpre).1;have hc:l.pre.holds [] { args:=args }=true:=(pre_splitW hpre).2;obtain ⟨d,r,rfl,h1,h2⟩:=hasAllW_cons hsh;obtain rfl:=hasAllW_nil h2;obtain ⟨xs,rfl,h3⟩:=hasW_list h1;obtain ⟨ns,rfl⟩:=items_int h3
 have hlen:ns.length<=n:=by
  unfold OpenLaw.pre at hc
  have h4:(WTm.not (.lt (.lit (.int (n:Int))) (.len (.arg 0)))).holds [] { args:=[.list (ns.map .int)] }=true:=by
   have h4:=(holds_andW hc).1;rw [hn] at h4;exact h4
  have h5:=condW_of h4 (w_not (w_lt w_lit (w_len_list (w_arg rfl))));rw [ao] at h5;refine Nat.le_of_not_lt λq=>?_
  have q':(n:Int)<((ns.length:Nat):Int):=by lia
  first
   | (rw [decide_eq_true q'] at h5;exact absurd h5 (by decide))
   | (simp at h5;lia)
 cases hwl with
 | cons w1 w2 =>
  cases w2
  cases w1 with
  | list ho hall=>exact ⟨_,_,ns,rfl,rfl,ho,DU ns _ hall,hlen⟩
theorem SE (l:vC) (args:List WData):l.row.toRowW.claim.post args (.bool true) args=true :=
 postW_of (r:=l.row.toRowW) (X:=(true == true))
  (show WShape.has [] (.bool true) .bool=true by first|rfl|decide|simp [WShape.has,WShape.arms,WShape.armsAll])
  (show (WTm.eq .res (.lit (.bool true))).value [] { args:=args,res:=some (.bool true),after:=args }=some (.bool (true == true)) from w_eq_bool (w_res rfl) w_lit) rfl
theorem M7 {l:vC}{n:Nat}{q:bC}{loose:List aL}{XP:(aL->Option aj)->dt->Prop}{YP:cW->dt->Prop}{d:DefRec}
  (hn:l.most=some n) (hdf:d.params.defaults=[])
  (call:∀ (w:cW) (s₀ s₁:ax) (mg mb:aL->Option aj) (fa:ah) (o:jo) (pm cd doc:aj) (a:ah) (vs:List aj) (ns:List Int),
   Ground q loose [] XP w s₀ mg mb s₁.heap->YP w s₁.heap ->
   s₁.heap.get? fa=some o->o.data=.func (docDef d.name d.params d.body d.scope pm cd doc)->s₁.heap.CodeRec cd d.name->mg d.name=some (.ref fa) ->
   s₁.heap.get? a=some { cls:=.type "list",data:=.seq vs.toArray }->oO vs ns->ns.length<=n->s₁.gens=#[] ->
   sO (bg l.prog w) MA (.call (.ref fa) ⟨[.ref a],[]⟩) (λr s'=>r=.ok (.ret (.bool true))/\OldK s₁.heap s'.heap/\s'.os=s₁.os/\ve s'.gens) s₁) :
  WU q loose XP YP l.row.toRowW d [] (λf vs=>WV f vs):=by
 intro w s₀ s₁ mg mb G Y fa o pm cd doc dV kV ho hd hcd hD hmg hg args vals as hpre hlay hrd hwl hlo;obtain rfl:dV=.none:=Dflts.none hD hdf;obtain rfl:kV=.none:=Dflts.noKw hD;obtain ⟨a,vs,ns,rfl,rfl,hobj,hints,hlen⟩:=SD hn hpre hwl;refine enter_call (qL (call w s₀ s₁ mg mb fa o pm cd doc a vs ns G Y ho (fd_plain hd) hcd hmg hobj hints hlen hg) λr s' hq=>?_);obtain ⟨rfl,h2,h3,h4⟩:=hq;exact ⟨.inl ⟨.bool true,.bool true,[],rfl,λ_=>rfl,.bool true,SE l _,λ_=>⟨List.Pairwise.nil,λ_ hm=>(nomatch hm)⟩⟩,h2,h3,h4⟩
section
variable {prog:bC}{w:cW}{A:dC}{E:aj->ax->Prop}{s:ax}{K:ae}
end
end Att
namespace L2
variable {H H':Hp}{X:Cx}{K:ae}{v:V}{scope:uE}{xs:List V}{i j:Int}{Z:St}{x qual y:aL}{s:ax}{pins:List (ah×jo)}{elt iter tg:Expr}{ifs:List Expr}{pos:yz}{p f a:ah}{st:dw}{N ps own ys:List aL}{env:xC}{fd:fv}{sp:Sp}{cells:List (aL×ah)}{js:List Nat}{g:TG}{te to:TE}{Q:VK}{R:St->Hp->Prop}{w:cW}
theorem JO:∀ {vs:List aj}{ns:List Int},oO vs ns->Vals (ns.map V.int) vs
 | _,_,.nil=>.nil
 | _,_,.cons n t h=>.cons ⟨t,rfl⟩ (JO h)
def eJ (s:dw) (j:Nat):dw:=match s with
 | .ClassDef _ _ _ body _ _ _ _ _ _ _=>body.getD j (.Pass ⟨0,0,0,0⟩)
 | _=>.Pass ⟨0,0,0,0⟩
def r0 (s:dw):vB:=match s with
 | .FunctionDef _ a _ _ _ _ _ _ _ _=>a
 | _=>{ posonlyargs:=[],args:=[],vararg:=none,kwonlyargs:=[],kw_defaults:=[],kwarg:=none,defaults:=[] }
def jX (s:dw):List dw:=match s with
 | .FunctionDef _ _ b _ _ _ _ _ _ _=>b
 | _=>[]
def aO (s:dw):uE:=match s with
 | .FunctionDef _ _ _ _ _ _ sc _ _ _=>sc
 | _=>{ kind:=.function,names:=[],isGenerator:=false,isCoroutine:=false }
abbrev dU:Ko:=λ_ _ _ _ _ _=>False
abbrev E0:XK:=λ_ _ _=>False
theorem bP:mj dU X E0:=λ_ _ _ _ _ _ _ h=>h.elim
structure iy (K:ae) (x qual:aL) (st:dw) (f:ah) (fd:fv):Prop where
 ex:∃ (oc:aj) (od:Option ah) (kV doc pm:aj) (an:Option ah) (i4 ct:aj) (osl:Array (Option aj)),
  fd=gI x qual (r0 st) (jX st) (aO st) .none kV doc pm an i4 ct/\K.lookup f=some ⟨oc,od,.func fd,osl⟩/\nN K i4 qual=true
 kp:bV K (.ref f)=true
section
variable {P:bC}{mg:aL->Option aj}{base:dt}
theorem iy.ok {k:Nat}(F:iy K x qual st f fd) (S:bj N ps (aO st)) (len:∀ vs H Q E,sp vs H Q E->vs.length=ps.length)
  (hbody:∀ (i4:aj) (A:dC) (outer:List xC) (s:ax) (H:Hp) (vs:List V) (Q:VK) (E:XK),i7 k (A.deeper (lz qual (aO st) s.heap.objs.size f i4))->sp vs H Q E ->
   ∃ t,Jr (jz dU P w K mg base N qual (aO st) f i4 A outer s H E).WK (jX st) t/\t { nx:=λ_ H'=>Q .non H',rt:=Q } (start N vs) H):cI P w K mg base dU (k+1) f fd ps sp:=by
 obtain ⟨oc,od,kV,doc,pm,an,i4,ct,osl,rfl,lk,hcd⟩:=F.ex;refine UU lk hcd S len λA outer s H vs Q E hr hsp=>?_;obtain ⟨t,h,q⟩:=hbody i4 A outer s H vs Q E hr hsp;exact ⟨t,h.WK,q⟩
theorem iy.binds (F:iy K x qual st f fd)
  (h:∀ (kV doc pm:aj) (an:Option ah) (i4 ct:aj) (us:List aj),us.length=ps.length->Mx (gI x qual (r0 st) (jX st) (aO st) .none kV doc pm an i4 ct) ⟨us,[]⟩=pure (ps.zip us)):Binds K fd ps []:=by
 obtain ⟨oc,od,kV,doc,pm,an,i4,ct,osl,rfl,lk,hcd⟩:=F.ex;exact .all (h kV doc pm an i4 ct)
theorem Ku {oc:aj}{od an:Option ah}{osl:Array (Option aj)}{kV doc pm i4 ct:aj}(l:K.lookup f=some ⟨oc,od,.func (gI x qual (r0 st) (jX st) (aO st) .none kV doc pm an i4 ct),osl⟩)
  (c:nN K i4 qual=true) (k:bV K (.ref f)=true):iy K x qual st f (gI x qual (r0 st) (jX st) (aO st) .none kV doc pm an i4 ct):=⟨⟨oc,od,kV,doc,pm,an,i4,ct,osl,rfl,l,c⟩,k⟩
end
theorem pv (i:Nat) {x:aL}{pos:yz}(hN:X.N[i]?=some x:=by rfl) (hv:Vis X.env.scope x:=by first|exact Or.inl rfl|exact Or.inr (Or.inl rfl)|exact Or.inr (Or.inr rfl)) (hd:(x == ("__debug__":aL))=false:=by decide)
  (hcd:(x == ("__classdict__":aL))=false:=by decide):PE X (.Name x pos) (aq i):=ZC hN hv hd hcd
theorem jA {A B:Prop}(h:B):if false=true then A else B:=by
 rw [if_neg bF];exact h
theorem kT {A B:Prop}(h:A):if true=true then A else B:=by
 rw [if_pos rfl];exact h
def bI (H H':Hp):Prop:=∀ b o,H b=some o->H' b=some o
theorem bI.refl (H:Hp):bI H H:=λ_ _ h=>h
theorem bI.trans {H1 H2:Hp}(a:bI H H1) (b:bI H1 H2):bI H H2:=λc o h=>b c o (a c o h)
theorem bI.free (e:bI H H') {l:ah}(h:H' l=Option.none):H l=Option.none:=by
 cases q:H l with
 | none=>rfl
 | some o =>
  rw [e l o q] at h;cases h
theorem bI.seq (e:bI H H') (h:gb K H a xs):gb K H' a xs:=by
 rcases h with (h|⟨o,h⟩)|h
 .exact .inl (.inl (e _ _ h))
 .exact .inl (.inr ⟨o,e _ _ h⟩)
 .exact .inr h
theorem SF:mK X (.builtin "len") (λxs H Q=>∃ a kvs,xs=[V.ref a]/\H a=some (.dK kvs)/\Q (.int kvs.length) H):=by
 intro pins s Z H xs us Q I r h;obtain ⟨a,kvs,rfl,ha,q⟩:=h;obtain ⟨u,rfl,ru⟩:=vals1 r;cases ru
 exact abF I (.inl ha) λt s' I'=>⟨.int kvs.length,H,I',⟨t,rfl⟩,q⟩
section
variable {κ:Type} [DecidableEq κ]
theorem XT {kvs:List (κ×V)}{k:κ}(h:iL kvs k=some v):k∈kvs.map (·.1):=by
 have q:(kvs.any λkv=>decide (kv.1=k))=true:=by
  rw [tV,h]
  all_goals rfl
 obtain ⟨p,hp,e⟩:=Zk.mp q;exact cQ.mpr ⟨p,hp,of_decide_eq_true e⟩
end
def pH (cells:List (aL×ah)):List (aL×qH)->List (aL×ah)->List (aL×ah)
 | [],acc=>acc
 | (n,k)::r,acc=>pH cells r (if k == .free then (n,(cells.lookup n).getD 0)::acc else acc)
theorem zt:∀ (names:List (aL×qH)) (acc:List (aL×ah)),(∀ n,(n,bE)∈names->∃ c,env.cells.lookup n=some c) ->
  (forIn names acc λ(x:aL×qH) (r:List (aL×ah))=>(if x.2 == .free then (cellOf env x.1 >>= λc=>pure (iI ((x.1,c)::r))) else pure (iI r):MM (ForInStep (List (aL×ah)))))=pure (pH env.cells names acc)
 | [],acc,_=>rfl
 | (n,k)::r,acc,h=>by
  rw [List.forIn_cons];have hr:∀ n,(n,bE)∈r->∃ c,env.cells.lookup n=some c:=λn hn=>h n (ag _ hn)
  cases hk:k == bE with
  | false =>
   simp only [hk,iJ,if_false,pure_bind];rw [zt r acc hr]
   show _=pure (pH env.cells r (if k == bE then _ else acc))
   rw [hk];rfl
  | true =>
   have e:k=.free:=by simpa using hk
   subst e;obtain ⟨c,hc⟩:=h n ak
   have e2:cellOf env n=pure c:=by unfold cellOf;rw [hc]
   simp only [hk,if_true,e2,pure_bind];rw [zt r _ hr]
   show _=pure (pH env.cells r (if bE == bE then (n,(env.cells.lookup n).getD 0)::acc else acc))
   rw [hc];rfl
theorem uG (h:∀ n,(n,bE)∈scope.names->∃ c,env.cells.lookup n=some c):closureFor scope env=pure (pH env.cells scope.names []):=by
 have e:=zt (env:=env) scope.names [] h;unfold closureFor;rw [← bind_pure (pure (pH env.cells scope.names []):MM _),← e]
theorem mC {c:ah}:∀ (names:List (aL×qH)) (acc:List (aL×ah)),(∀ n,(n,bE)∈names->∃ c,cells.lookup n=some c) ->
  (pH cells names acc).lookup x=some c->cells.lookup x=some c\/acc.lookup x=some c
 | [],acc,_,h=>.inr h
 | (n,k)::r,acc,hf,h=>by
  have hr:∀ n,(n,bE)∈r->∃ c,cells.lookup n=some c:=λn hn=>hf n (ag _ hn);unfold pH at h
  rcases mC r _ hr h with z|z
  .exact .inl z
  .cases hk:k == bE with
   | false=>rw [hk] at z;exact .inr z
   | true =>
    have e:k=.free:=by simpa using hk
    subst e;obtain ⟨d,hd⟩:=hf n ak;rw [hk,if_pos rfl,hd] at z
    by_cases hx:x=n
    .subst hx;rw [c9,beq_self_eq_true] at z;exact .inl (by rw [hd];exact z)
    .rw [c9,beq_false_of_ne hx] at z;exact .inr z
theorem Ab:∀ (names:List (aL×qH)) (acc:List (aL×ah)),((x,bE)∈names\/∃ c,acc.lookup x=some c)->∃ c,(pH cells names acc).lookup x=some c
 | [],acc,h=>h.elim nofun λz=>z
 | (n,k)::r,acc,h=>by
  unfold pH;refine Ab r _ ?_
  rcases h with z|⟨c,z⟩
  .rcases az.mp z with e|z
   .have e1:n=x:=(jG e).1.symm;have e2:k=.free:=(jG e).2.symm;subst e1 e2;exact .inr ⟨_,by rw [if_pos (by rfl),c9,beq_self_eq_true]⟩
   .exact .inl z
  .refine .inr ?_
   split
   .rw [c9];cases x == n
    .exact ⟨c,z⟩
    .exact ⟨_,rfl⟩
   .exact ⟨c,z⟩
theorem Ac {env:xC}{x:aL}{k:qH}:∀ {names:List (aL×qH)},
  (names.map λ(n,k)=>if (k == bE && env.scope.kind == .function && env.kindOf n == some .cell) then (n,ij) else (n,k)).lookup x=some k ->
   ∃ k0,names.lookup x=some k0/\(k=k0\/(k0=.free/\k=.cell))
 | [],h=>by simp at h
 | (n,k1)::r,h=>by
  have ih:=@Ac env x k r;have h:du x ((if (k1 == bE && env.scope.kind == .function && env.kindOf n == some .cell)=true then (n,ij) else (n,k1))::r.map λ(n,k)=>if (k == bE && env.scope.kind == .function && env.kindOf n == some .cell) then (n,ij) else (n,k))=some k:=h
  by_cases hc:(k1 == bE && env.scope.kind == .function && env.kindOf n == some .cell)=true
  .rw [if_pos hc,c9] at h;rw [c9]
   have e:k1=.free:=by
    rw [cq,cq] at hc
    simpa using hc.1.1
   cases hx:x == n with
   | true=>rw [hx] at h;exact ⟨k1,rfl,.inr ⟨e,(aD h).symm⟩⟩
   | false=>rw [hx] at h;exact ih h
  .rw [if_neg hc,c9] at h;rw [c9]
   cases hx:x == n with
   | true=>rw [hx] at h;exact ⟨k1,rfl,.inl (aD h).symm⟩
   | false=>rw [hx] at h;exact ih h
theorem Dt {env:xC}{x:aL}:∀ {names:List (aL×qH)},names.lookup x=some .free ->
  (names.map λ(n,k)=>if (k == bE && env.scope.kind == .function && env.kindOf n == some .cell) then (n,ij) else (n,k)).lookup x=some .free \/
  (names.map λ(n,k)=>if (k == bE && env.scope.kind == .function && env.kindOf n == some .cell) then (n,ij) else (n,k)).lookup x=some .cell
 | [],h=>by simp at h
 | (n,k1)::r,h=>by
  have ih:=@Dt env x r
  show du x ((if (k1 == bE && env.scope.kind == .function && env.kindOf n == some .cell)=true then (n,ij) else (n,k1))::r.map λ(n,k)=>if (k == bE && env.scope.kind == .function && env.kindOf n == some .cell) then (n,ij) else (n,k))=some .free \/
   du x ((if (k1 == bE && env.scope.kind == .function && env.kindOf n == some .cell)=true then (n,ij) else (n,k1))::r.map λ(n,k)=>if (k == bE && env.scope.kind == .function && env.kindOf n == some .cell) then (n,ij) else (n,k))=some .cell
  rw [c9] at h
  by_cases hc:(k1 == bE && env.scope.kind == .function && env.kindOf n == some .cell)=true
  .rw [if_pos hc,c9]
   cases hx:x == n with
   | true=>exact .inr rfl
   | false=>rw [hx] at h;exact ih h
  .rw [if_neg hc,c9]
   cases hx:x == n with
   | true=>rw [hx] at h;exact .inl h
   | false=>rw [hx] at h;exact ih h
theorem mem_of_lookup {k:qH}:∀ {names:List (aL×qH)},names.lookup x=some k->(x,k)∈names
 | [],h=>by simp at h
 | (n,k1)::r,h=>by
  rw [c9] at h
  cases hx:x == n with
  | true =>
   rw [hx] at h
   have e:x=n:=by simpa using hx
   rw [e,aD h];exact ak
  | false=>rw [hx] at h;exact ag _ (mem_of_lookup h)
def yh (X:Cx) (N:List aL) (scope:uE) (s:ax) (H:Hp) (fp:List ah):Cx where
 prog:=X.prog
 w:=X.w
 K:=X.K
 mg:=X.mg
 base:=X.base
 A:=X.A
 N:=N
 s₀:=s
 H₀:=H
 env:=Ug scope (pH X.env.cells scope.names []) s.heap.objs.size X.env
 outer:=X.stack
 stack:=X.stack
 ex:=fp
 fn:=λ_=>false
 calm:=X.calm
 pn:=[]
 xe:=λ_ _=>False
def Dh (X:Cx) (scope:uE):List Nat->List aL->Prop
 | [],[]=>True
 | j::js,y::ys=>X.N[j]?=some y/\(X.env.kindOf y=some .cell\/X.env.kindOf y=some .free)/\scope.names.lookup y=some .free/\Dh X scope js ys
 | _,_=>False
def M8 (Z:St) (js:List Nat):St:=js.map λj=>(Z[j]?).join
theorem Dh.len:∀ {js:List Nat}{ys:List aL},Dh X scope js ys->js.length=ys.length
 | [],[],_=>rfl
 | _::_,_::_,h=>by rw [bo,bo,Dh.len h.2.2.2]
 | [],_::_,h=>h.elim
 | _::_,[],h=>h.elim
theorem Dh.get:∀ {js:List Nat}{ys:List aL}{i:Nat},Dh X scope js ys->ys[i]?=some y->(M8 Z js)[i]?=some (some v) ->
  ∃ j:Nat,X.N[j]?=some y/\Z[j]?=some (some v)/\(X.env.kindOf y=some .cell\/X.env.kindOf y=some .free)/\scope.names.lookup y=some .free
 | [],[],i,_,e,_=>by simp at e
 | j::js,z::ys,0,h,e,q=>by
  simp only [vR,rQ] at e;subst e;refine ⟨j,h.1,?_,h.2.1,h.2.2.1⟩
  have q':(Z[j]?).join=some v:=by simpa [M8] using q
  cases hj:Z[j]? with
  | none=>rw [hj] at q';simp at q'
  | some o=>rw [hj] at q';rw [← q'];rfl
 | j::js,z::ys,i+1,h,e,q=>Dh.get (i:=i) h.2.2.2 (by simpa using e) (by simpa [M8] using q)
 | [],_::_,_,h,_,_=>h.elim
 | _::_,[],_,h,_,_=>h.elim
section
variable {s':ax}{fp:List ah}
theorem FI (I:Inv X pins Z H s) (hf:∀ b∈fp,vF X pins H b) (hlt:∀ b∈fp,b<s.heap.objs.size) (hkind:scope.kind=.function) (hcell:∀ y∈scope.names,y.2≠.cell)
  (hfr:∀ n,(n,bE)∈scope.names->∃ c,X.env.cells.lookup n=some c):(yh X N scope s H fp).Ok where
 mod:=I.mod
 kind:=hkind
 glob:=I.ok.glob
 blt:=I.ok.blt
 above:=aE _
 inj:=λx y c h1 h2=>I.ok.inj x y c ((mC _ _ hfr h1).resolve_right (by simp)) ((mC _ _ hfr h2).resolve_right (by simp))
 has:=λx hx=>by
  refine Ab _ _ (.inl ?_)
  have key:∀ k,(k=ij\/k=bE)->(relabel scope X.env).names.lookup x=some k->(x,bE)∈scope.names:=λk hk e=>by
   obtain ⟨k0,e0,z⟩:=Ac e
   rcases z with z|⟨z,_⟩
   .subst z
    rcases hk with hk|hk
    .subst hk;exact absurd rfl (hcell _ (mem_of_lookup e0))
    .subst hk;exact mem_of_lookup e0
   .subst z;exact mem_of_lookup e0
  rcases hx with hx|hx
  .exact key _ (.inl rfl) hx
  .exact key _ (.inr rfl) hx
 Xa:=λx c h=>by cases h
 hd:=I.ok.hd
 frames:=I.ok.frames
 YA:=.inl rfl
 YB:=λb hb=>⟨bb (hlt b hb),λx c e=>(hf b hb).2.2.2.2.1 x c ((mC _ _ hfr e).resolve_right (by simp))⟩
 bs:=I.bs
 O8:=bU I.ok.O8 I.sz
 Js:=λb o e hb=>by
  rcases (hf b hb).2.2.2.1 with z|z
  .exact I.ok.Js b o e z
  .exact absurd (bG (aS e) (bU I.ok.O8 z)) (iE _)
 Hu:=λb hb hs=>by
  rcases az.mp (I.QS b hs) with z|z
  .exact (hf b hb).2.1 z
  .exact (hf b hb).2.2.1 z
 vc:=I.stack
 RY:=I.Fe
theorem Rc {h1:dt}{tk:Nat}{m:aL->Option aj}(I:Inv X pins Z H s) (hf:∀ b∈fp,vF X pins H b) (hlt:∀ b∈fp,b<s.heap.objs.size) (hkind:scope.kind=.function)
  (hcell:∀ y∈scope.names,y.2≠.cell) (hfr:∀ n,(n,bE)∈scope.names->∃ c,X.env.cells.lookup n=some c) (hc:Dh X scope js ys)
  (hn:h1.Ns s.heap.objs.size m) (hk:∀ b o,s.heap.get? b=some o->h1.get? b=some o) :
  Inv (yh X (own++ys) scope s H fp) [] (cm own.length none++M8 Z js) H { s with heap:=h1,toks:=tk }:=by
 have hcl:∀ x c,(pH X.env.cells scope.names []).lookup x=some c->X.env.cells.lookup x=some c:=λx c e=>(mC _ _ hfr e).resolve_right (by simp);refine ⟨FI I hf hlt hkind hcell hfr,rfl,I.bare,Un.kept hk,⟨m,hn,λi x v e1 e2 e3=>?_⟩,λx c e=>?_,I.fresh,λx c e=>I.nF x c (hcl x c e),(λp hp=>nomatch hp),I.eY.kept hk,?_⟩
 .have e1':(own++ys)[i]?=some x:=e1
  by_cases hi:i<own.length
  .rw [gA (by simpa using hi)] at e2;rw [QY] at e2
   split at e2
   .cases aD e2
   .cases e2
  .have hi':own.length<=i:=Nat.le_of_not_lt hi;rw [eM hi'] at e1';rw [eM (by simpa using hi'),zb] at e2;obtain ⟨j,q1,q2,q3,q4⟩:=hc.get e1' e2;obtain ⟨m0,_,hl⟩:=I.loc
   obtain ⟨u,r,l⟩:=hl j x v q1 q2 (by
    rcases q3 with q3|q3
    .exact .inr (.inl q3)
    .exact .inr (.inr q3))
   refine ⟨u,r,.inr ⟨?_,?_⟩⟩
   .rcases Dt (env:=X.env) q4 with z|z
    .exact .inr z
    .exact .inl z
   .rcases l with ⟨k,_⟩|⟨_,c,hc1,hc2⟩
    .rcases q3 with q3|q3<;>rw [k] at q3<;>cases aD q3
    .obtain ⟨d,hd⟩:=Ab (cells:=X.env.cells) (x:=x) scope.names [] (.inl (mem_of_lookup q4));have hd':=hcl x d hd;rw [hc1] at hd';cases aD hd';obtain ⟨o,ho,hod⟩:=hc2;exact ⟨c,hd,o,hk c o ho,hod⟩
 .obtain ⟨v,o,ho,hod⟩:=I.cell x c (hcl x c e);exact ⟨v,o,hk c o ho,hod⟩
 .show (cm own.length none++M8 Z js).length=(own++ys).length
  rw [bN,bN,zb,M8,ao,hc.len]
theorem FJ {σ':St}(I:Inv X pins Z H s) (hf:∀ b∈fp,vF X pins H b) (J:Inv (yh X N scope s H fp) [] σ' H' s'):Inv X pins Z H' s' :=
 I.WJ (ch:=fp) J.os J.base J.eY J.bare λb hb=>⟨(hf b hb).2.2.2.1,(hf b hb).2.1,(hf b hb).2.2.2.2.1,(hf b hb).2.2.2.2.2⟩
end
section
variable {prog:bC}{A:dC}{R:Result->ax->Prop}
theorem Kv {target:Expr}{it acc:aj}(I:Nat->ax->Prop)
  (turn:∀ n s,I n s->aY (bg prog w) A (OY it) (λr s₁=>match r with
   | none=>R (.ok .next) s₁
   | some v=>aY (bg prog w) A (uA target it v) (λ_ s₁'=>aY (bg prog w) A (Ju target env v) (λ_ s₂ =>
     aY (bg prog w) A (forIn ifs true λc r=>if r=true then do let ok ← isTrue c env (fR c env);pure (iI ok) else pure (iI r)) (λok s₃ =>
      if ok=true then aY (bg prog w) A (fR elt env) (λx s₄ =>
       aY (bg prog w) A (call (.builtin "list.append") [acc,x]) (λ_ s₅=>∃ m,m<n/\I m s₅) (λ_ _=>False) s₄) (λ_ _=>False) s₃
      else ∃ m,m<n/\I m s₃) (λ_ _=>False) s₂) (λ_ _=>False) s₁') (λ_ _=>False) s₁) (λ_ _=>False) s)
  (n:Nat) (h:I n s) :
  sO (bg prog w) A (.compLoop (.ListComp elt [⟨target,iter,ifs,0⟩] scope pos) 0 it acc env) R s:=by
 refine codeAny_loop rfl I (λn s hI=>?_) n h
 show aY _ A ((compTurn (.ListComp elt [⟨target,iter,ifs,0⟩] scope pos) 0 it acc env).onRaise (λx=>do rW x env;theTreesLotGoes x)) _ _ s
 refine wpAny_noted ?_;rw [compTurn_list];refine ar (yC (ar (dF (turn n s hI) (λr s₁ h₁=>?_) λ_ _ h'=>h'.elim)))
 cases r with
 | none=>exact aQ h₁
 | some v =>
  refine ar (dF h₁ (λ_ s₁' h₁'=>?_) λ_ _ h'=>h'.elim);refine ar (dF h₁' (λ_ s₂ h₂=>ar (dF h₂ (λok s₃ h₃=>?_) λ_ _ h'=>h'.elim)) λ_ _ h'=>h'.elim)
  cases ok with
  | false=>exact aQ ⟨rfl,h₃⟩
  | true =>
   exact ar (ar (dF h₃ (λx s₄ h₄=>ar (dF h₄ (λ_ s₅ h₅=>aQ (aQ ⟨rfl,h₅⟩)) λ_ _ h'=>h'.elim)) λ_ _ h'=>h'.elim))
end
def PC (X:Cx) (ifs:List Expr) (t:TT):Prop :=
 ∀ (pins:List (ah×jo)) (s:ax) (Z:St) (H:Hp) (Q:Bool->Hp->Prop),Inv X pins Z H s->t Z H Q ->
  aY (bg X.prog X.w) X.A (forIn ifs true λc r=>if r=true then do let ok ← isTrue c X.env (fR c X.env);pure (iI ok) else pure (iI r)) (TP X pins Z Q) X.xe s
def yi:TT:=λ_ H Q=>Q true H
theorem lK:PC X [] yi:=λ_ _ _ H _ I h=>wpAny_tests_nil ⟨H,I,h⟩
theorem UZ {c:Expr}{t:TT}(h:PT X c t):PC X [c] t:=λpins s Z H Q I q=>wpAny_tests_one (h pins s Z H Q I q)
def oR (own:Nat) (js:List Nat) (wi:TI) (g:TG) (tt:TT) (te:TE):TE:=λZ H Q=>wi Z H λJ H1=>∀ acc,H1 acc=none ->
 ∃ W:Nat->Nat->List V->St->Hp->Prop,(∃ m,W 0 m [] (cm own none++M8 Z js) (upd H1 acc (.lst [])))/\∀ i m ys σ' H',W i m ys σ' H'->H' acc=some (.lst ys) /\
  ((J.stop i H'/\Q (.ref acc) H')\/(J.go i H'/\∀ x H2,J.TX i H' x H2->g x σ' H2 λσ2 H3=>tt σ2 H3 λb H4 =>
   if b=true then te σ2 H4 λy H5=>H5 acc=some (.lst ys)/\ys.length<aT/\∃ m',m'<m/\W (i+1) m' (ys++[y]) σ2 (upd H5 acc (.lst (ys++[y]))) else ∃ m',m'<m/\W (i+1) m' ys σ2 H4))
theorem M9 {wi:TI}{tt:TT}
  {use:Option (aj->MM Unit)}{Q':aj->ax->Prop}{p:yz}(hcalm:X.calm=true)
  (hi:PI X tg iter wi) (hkind:scope.kind=.function) (hcell:∀ y∈scope.names,y.2≠.cell) (hnames:∀ y∈scope.names,y.2=.local->scope.names.lookup y.1=some .local)
  (hfr:∀ n,(n,bE)∈scope.names->∃ c,X.env.cells.lookup n=some c) (hc:Dh X scope js ys)
  (hg:∀ s0 H0 fp,PG (yh X (own++ys) scope s0 H0 fp) tg g) (ht:∀ s0 H0 fp,PC (yh X (own++ys) scope s0 H0 fp) ifs tt) (he:∀ s0 H0 fp,PE (yh X (own++ys) scope s0 H0 fp) elt te)
  (I:Inv X pins Z H s) (h:oR own.length js wi g tt te Z H Q)
  (hu:∀ (D C:ah) (H':Hp) (s':ax),Inv X pins Z H' s'->Q (.ref D) H'->vF X pins H' C->(∃ m,s'.heap.Ns C m)->ER (bg X.prog X.w) X.A X.xe use Q' (.ref D) C (.ok .next) s')
  (hs:∀ x,md iter X.env x=pure x) :
  aY (bg X.prog X.w) X.A (WW (.ListComp elt [⟨tg,iter,ifs,0⟩] scope pos) scope X.env p (newList []) false (fR iter X.env) use) Q' X.xe s:=by
 refine WX (g:=⟨tg,iter,ifs,0⟩) (gs:=[]) rfl hs (uG hfr) hkind hnames (gJ (hi pins s Z H _ I h) λv s1 h1=>gJ h1 λitv s2 h2=>?_);obtain ⟨it,fp,tn,J,H2,e,I2,T,st2,f2,q⟩:=h2;subst e;refine mf (ES hcell (by intro y hy;simp at hy) (λh₁ hns₁ hsb₁=>?_) hkind);dsimp only at hns₁ hsb₁ ⊢;have nD:H2 s2.heap.objs.size=none:=I2.fresh;have I3:Inv X pins Z (upd H2 s2.heap.objs.size (.lst [])) { s2 with heap:=s2.heap.push { cls:=.type "list",data:=.seq ([]:List aj).toArray },toks:=s2.toks }:=I2.aaX (its:=[]) .nil (dm _)
 have hlt2:∀ b∈fp,b<s2.heap.objs.size:=λb hb=>let ⟨o,e,_⟩:=T.obj _ _ st2 b hb;aS e
 obtain ⟨W,⟨m0,w0⟩,turn⟩:=q _ nD;generalize hs3:({ s2 with heap:=s2.heap.push { cls:=.type "list",data:=.seq ([]:List aj).toArray },toks:=s2.toks }:ax)=s3 at I3
 have hh3:s2.heap.push { cls:=.type "list",dict:=none,data:=.seq ([]:List aj).toArray }=s3.heap:=by rw [← hs3]
 have hsz3:s3.heap.objs.size=s2.heap.objs.size+1:=by rw [← hh3,z8]
 have hlt3:∀ b∈fp,b<s3.heap.objs.size:=λb hb=>by rw [hsz3];exact Zl (hlt2 b hb)
 have f3:∀ b∈fp,vF X pins (upd H2 s2.heap.objs.size (.lst [])) b:=λb hb=>⟨by rw [aI (bb (hlt2 b hb))];exact (f2 b hb).1,(f2 b hb).2⟩
 have fC:vF X pins (upd H2 s2.heap.objs.size (.lst [])) s3.heap.objs.size:=I3.Jt (aE _) I3.fresh;rw [hh3] at hns₁ hsb₁ ⊢;have hk3:∀ b o,s3.heap.get? b=some o->h₁.get? b=some o:=λb o e=>hsb₁.extBut b o (bb (aS e)) (aA _ e)
 have es4:({ s2 with heap:=h₁,toks:=s2.toks+([]:List (aL×aj)).length }:ax)={ s3 with heap:=h₁,toks:=s2.toks+([]:List (aL×aj)).length }:=by rw [← hs3]
 have I4:=Rc (own:=own) (h1:=h₁) (tk:=s2.toks+([]:List (aL×aj)).length) I3 f3 hlt3 hkind hcell hfr hc hns₁ hk3;have st4:tn 0 h₁:=T.keep _ _ _ st2 λb hb o e=>hk3 b o (by rw [← hh3];exact aA _ e)
 have stat:∀ {H':Hp},(∀ b∈fp,H' b=none)->∀ b∈fp,vF (yh X (own++ys) scope s3 (upd H2 s2.heap.objs.size (.lst [])) fp) [] H' b:=λhn b hb =>
  ⟨hn b hb,bb (hlt3 b hb),(FI (N:=own++ys) I3 f3 hlt3 hkind hcell hfr).Hu b hb,.inl hb,λx c e=>((FI (N:=own++ys) I3 f3 hlt3 hkind hcell hfr).YB b hb).2 x c e,λp hp=>nomatch hp⟩
 have loop:∀ s4:ax,s4={ s3 with heap:=h₁,toks:=s2.toks+([]:List (aL×aj)).length } ->
   sO (bg X.prog X.w) X.A (.compLoop (.ListComp elt [⟨tg,iter,ifs,0⟩] scope pos) 0 (.ref it) (.ref s2.heap.objs.size) (Ug scope (pH X.env.cells scope.names []) s3.heap.objs.size X.env))
    (ER (bg X.prog X.w) X.A X.xe use Q' (.ref s2.heap.objs.size) s3.heap.objs.size) s4:=by
  rintro s4 rfl
  refine Kv (λn s'=>∃ i ys' σ' H',Inv (yh X (own++ys) scope s3 (upd H2 s2.heap.objs.size (.lst [])) fp) [] σ' H' s'/\tn i s'.heap/\(∀ b∈fp,H' b=none)/\W i n ys' σ' H') ?_ m0
   ⟨0,[],_,_,I4,st4,λb hb=>(f3 b hb).1,w0⟩
  rintro n s5 ⟨i,ys',σ5,H5,I5,st5,fr5,w5⟩;obtain ⟨hacc,rest⟩:=turn i n ys' σ5 H5 w5
  rcases rest with ⟨stop,qn⟩|⟨go,step⟩
  .refine gJ (T.done (yh X (own++ys) scope s3 (upd H2 s2.heap.objs.size (.lst [])) fp) rfl rfl rfl hcalm i [] s5 σ5 H5 _ I5 (stat fr5) st5 stop) λr s6 ⟨hr,I6⟩=>?_;subst hr;exact hu _ _ H5 s6 (FJ I3 f3 I6) qn ⟨I6.free,fC.2⟩ (let ⟨m,hn,_⟩:=I6.loc;⟨m,hn⟩)
  .refine gJ (T.item (yh X (own++ys) scope s3 (upd H2 s2.heap.objs.size (.lst [])) fp) rfl rfl rfl hcalm i [] s5 σ5 H5 _ I5 (stat fr5) st5 go) λr s6 ⟨u,hr,h6⟩=>?_;subst hr;refine gJ h6 λ_ s7 ⟨x,H7,I7,r7,y7,st7,fr7⟩=>?_;have I7':=I7.pinned (stat fr7) (T.obj _ _ st7);refine gJ (hg _ _ _ _ s7 σ5 H7 x u _ I7' r7 (step x H7 y7)) λ_ s8 ⟨σ8,H8,I8,q8⟩=>?_;refine gJ (ht _ _ _ _ s8 σ8 H8 _ I8 q8) λok s9 ⟨H9,I9,q9⟩=>?_
   have kept:∀ {s10:ax}{σ10:St}{H10:Hp},Inv (yh X (own++ys) scope s3 (upd H2 s2.heap.objs.size (.lst [])) fp) ([]++BA fp s7.heap) σ10 H10 s10 ->
     Inv (yh X (own++ys) scope s3 (upd H2 s2.heap.objs.size (.lst [])) fp) [] σ10 H10 s10/\tn (i+1) s10.heap/\∀ b∈fp,H10 b=none:=λ{s10 σ10 H10} I10=>by
    refine ⟨I10.xy,T.keep _ _ _ st7 λb hb o e=>(I10.pin (b,o) (aU _ (aU _ (nS hb e)))).1,λb hb=>?_⟩;obtain ⟨o,e,d⟩:=T.obj _ _ st7 b hb;exact (I10.pin (b,o) (aU _ (aU _ (nS hb e)))).2.1
   cases ok with
   | false =>
    simp only [iJ,if_false] at q9 ⊢;obtain ⟨m',hm,w9⟩:=q9;obtain ⟨k1,k2,k3⟩:=kept I9
    exact ⟨m',hm,i+1,ys',σ8,H9,k1,k2,k3,w9⟩
   | true =>
    simp only [if_true] at q9 ⊢;refine gJ (he _ _ _ _ s9 σ8 H9 _ I9 q9) λyv s10 ⟨y,H10,I10,r10,a10,l10,m',hm,w10⟩=>?_;refine gJ (je (X:=yh X (own++ys) scope s3 (upd H2 s2.heap.objs.size (.lst [])) fp) _ s10 σ8 H10 (.ref s2.heap.objs.size) [y] (.ref s2.heap.objs.size) [yv] (λv H'=>v=.non/\H'=upd H10 s2.heap.objs.size (.lst (ys'++[y]))) I10 rfl (.cons r10 .nil) ⟨_,_,_,rfl,rfl,a10,l10,rfl,rfl⟩) λ_ s11 ⟨_,H11,I11,_,_,e11⟩=>?_;subst e11;obtain ⟨k1,k2,k3⟩:=kept I11;exact ⟨m',hm,i+1,_,σ8,_,k1,k2,k3,w10⟩
 have fin:=YK (R:=ER (bg X.prog X.w) X.A X.xe use Q' (.ref s2.heap.objs.size) s3.heap.objs.size) (loop _ rfl) (T.self X.A 0 { s3 with heap:=h₁,toks:=s2.toks+([]:List (aL×aj)).length } _ _ st4 (loop _ rfl));rw [← hs3] at fin ⊢;exact fin
theorem vY (I:Inv X pins Z H s) (h:(scope.names.all λy=>y.2 != .free || X.env.kindOf y.1 == some .cell || X.env.kindOf y.1 == some .free)=true) :
  ∀ n,(n,bE)∈scope.names->∃ c,X.env.cells.lookup n=some c:=λn hn=>by
 have q:=mh.mp h _ hn;simp only [bne_self_eq_false,Dp,yJ,beq_iff_eq] at q;exact I.ok.has n q
theorem r9 (own:List aL) {ys:List aL}(js:List Nat) {wi:TI}{g:TG}{tt:TT}{te:TE}(hcalm:X.calm=true)
  (hi:PI X tg iter wi) (hc:Dh X scope js ys)
  (hg:∀ s0 H0 fp,PG (yh X (own++ys) scope s0 H0 fp) tg g) (ht:∀ s0 H0 fp,PC (yh X (own++ys) scope s0 H0 fp) ifs tt) (he:∀ s0 H0 fp,PE (yh X (own++ys) scope s0 H0 fp) elt te)
  (hfr:(scope.names.all λy=>y.2 != .free || X.env.kindOf y.1 == some .cell || X.env.kindOf y.1 == some .free)=true:=by rfl)
  (hkind:scope.kind=.function:=by rfl) (hcell:∀ y∈scope.names,y.2≠.cell:=by decide +kernel) (hnames:∀ y∈scope.names,y.2=.local->scope.names.lookup y.1=some .local:=by decide +kernel)
  (hs:∀ x,md iter X.env x=pure x:=by intro _;rfl):PE X (.ListComp elt [⟨tg,iter,ifs,0⟩] scope pos) (oR own.length js wi g tt te):=by
 intro pins s Z H Q I h;rw [eval_ListComp];refine M9 (use:=none) hcalm hi hkind hcell hnames (vY I hfr) hc hg ht he I h (λD C H' s' I' q fC ⟨m,hn⟩=>⟨m,hn,λh' hs'=>⟨.ref D,H',?_,rfl,q⟩⟩) hs;exact I'.turned (t':=s'.toks) (λb o hb e=>(hs'.2 b hb).trans e) fC.1 fC.2.1 fC.2.2.2.1 fC.2.2.2.2.1 fC.2.2.2.2.2
theorem XU {spos py:yz}{i:Nat}(own:List aL) {ys:List aL}(js:List Nat) {wi:TI}{g:TG}{tt:TT}{te:TE}(hcalm:X.calm=true)
  (hN:X.N.Nodup) (hy:X.N[i]?=some y) (hl:X.env.scope.names.lookup y=some .local)
  (hi:PI X tg iter wi) (hc:Dh X scope js ys)
  (hg:∀ s0 H0 fp,PG (yh X (own++ys) scope s0 H0 fp) tg g) (ht:∀ s0 H0 fp,PC (yh X (own++ys) scope s0 H0 fp) ifs tt) (he:∀ s0 H0 fp,PE (yh X (own++ys) scope s0 H0 fp) elt te)
  (hfr:(scope.names.all λy=>y.2 != .free || X.env.kindOf y.1 == some .cell || X.env.kindOf y.1 == some .free)=true:=by rfl)
  (hsw:Fj (.ListComp elt [⟨tg,iter,ifs,0⟩] scope pos) (some (.Name y py)) spos.line X.env=pure true:=by rfl)
  (hkind:scope.kind=.function:=by rfl) (hcell:∀ y∈scope.names,y.2≠.cell:=by decide +kernel) (hnames:∀ y∈scope.names,y.2=.local->scope.names.lookup y.1=some .local:=by decide +kernel)
  (hs:∀ x,md iter X.env x=pure x:=by intro _;rfl) :
  PS X (.Assign [.Name y py] (.ListComp elt [⟨tg,iter,ifs,0⟩] scope pos) spos) (ft (oR own.length js wi g tt te) (bZ i)):=by
 intro pins s Z H D I h;rw [exec_Assign_Name_used _ _ _ _ hsw];refine ar (yC (ar ?_))
 show aY _ X.A (do let _ ← WW (.ListComp elt [⟨tg,iter,ifs,0⟩] scope pos) scope X.env _ (newList []) false (fR iter X.env) (some (Ju (.Name y py) X.env))) _ _ s
 refine ar (dF (M9 (Q:=λx H1=>bZ i x Z H1 D.nx) (Q':=λ_ s'=>SP X pins D .next s') (use:=some (Ju (.Name y py) X.env)) hcalm hi hkind hcell hnames (vY I hfr) hc hg ht he I h (λDd C H' s' I' q fC ⟨m,hn⟩=>?_) hs) (λ_ s' hq=>aQ (aQ hq)) λ_ _ e=>e)
 show aY _ X.A (Ju (.Name y py) X.env (.ref Dd)) _ _ _
 refine wpAny_assign_Name (Jz (v:=.ref Dd) I' hN hy (.inl hl) rfl (λs'' I'' ⟨a,sb,ha⟩=>?_) (.inr hl))
 have hCa:C≠a:=by
  rcases ha with z|z
  .rw [z];exact fC.2.1
  .exact Ne.symm (fC.2.2.2.2.1 _ _ z)
 refine ⟨m,hn.sameBut sb hCa,λh' hs'=>?_⟩;exact ⟨_,H',I''.turned (t':=s''.toks) (λb o hb e=>(hs'.2 b hb).trans e) fC.1 fC.2.1 fC.2.2.2.1 fC.2.2.2.2.1 fC.2.2.2.2.2,q⟩
mutual
def Rep (K:ae) (H:Hp):PyData->V->Prop
 | .none,v=>v=.non
 | .bool b,v=>v=.bl b
 | .int i,v=>v=.int i
 | .str x,v=>v=.str x
 | .list ds,v=>∃ a xs,v=.ref a/\gb K H a xs/\jV K H ds xs
 | .tuple ds,v=>∃ a xs,v=.ref a/\tK K H a xs/\jV K H ds xs
 | .dict _,_=>False
def jV (K:ae) (H:Hp):List PyData->List V->Prop
 | [],vs=>vs=[]
 | d::ds,vs=>∃ v r,vs=v::r/\Rep K H d v/\jV K H ds r
end
mutual
theorem Rep.reads (I:Inv X pins Z H s):∀ (d:PyData) (v:V) (u:aj),Rep X.K H d v->RelV v u->∃ as,Reads s.heap u d as
 | .none,v,u,h,r=>by
  cases (show v=.non by simpa only [Rep] using h)
  cases (show u=dE from r);exact ⟨_,.none⟩
 | .bool b,v,u,h,r=>by
  cases (show v=.bl b by simpa only [Rep] using h)
  cases (show u=xD b from r);exact ⟨_,.bool b⟩
 | .int i,v,u,h,r=>by
  cases (show v=.int i by simpa only [Rep] using h)
  obtain ⟨t,rfl⟩:=(show ∃ t,u=jE i t from r);exact ⟨_,.int i t⟩
 | .str x,v,u,h,r=>by
  cases (show v=.str x by simpa only [Rep] using h)
  obtain ⟨t,rfl⟩:=(show ∃ t,u=sN x t from r);exact ⟨_,.str x t⟩
 | .list ds,v,u,h,r=>by
  obtain ⟨a,xs,rfl,hq,ha⟩:=(show ∃ a xs,v=.ref a/\gb X.K H a xs/\jV X.K H ds xs by simpa only [Rep] using h)
  cases (show u=aB a from r);obtain ⟨its,rv,⟨o,n,e1,e2,_,e3⟩,_⟩:=I.list hq;obtain ⟨as,ra⟩:=jV.reads I ds xs its ha rv
  exact ⟨_,.list e1 e2 e3 (by simpa using ra)⟩
 | .tuple ds,v,u,h,r=>by
  obtain ⟨a,xs,rfl,hq,ha⟩:=(show ∃ a xs,v=.ref a/\tK X.K H a xs/\jV X.K H ds xs by simpa only [Rep] using h)
  cases (show u=aB a from r);obtain ⟨its,rv,⟨o,e1,e2,n,e3⟩,_⟩:=I.tuple hq;obtain ⟨as,ra⟩:=jV.reads I ds xs its ha rv
  exact ⟨_,.tuple e1 e2 e3 (by simpa using ra)⟩
 | .dict _,v,u,h,r=>absurd h (by simp only [Rep];exact λz=>z)
theorem jV.reads (I:Inv X pins Z H s):∀ (ds:List PyData) (vs:List V) (us:List aj),jV X.K H ds vs->Vals vs us->∃ as,ReadsAll s.heap us ds as
 | [],vs,us,h,r=>by
  cases (show vs=[] by simpa only [jV] using h)
  cases r;exact ⟨_,.nil⟩
 | d::ds,vs,us,h,r=>by
  obtain ⟨v,rr,rfl,h1,h2⟩:=(show ∃ v r,vs=v::r/\Rep X.K H d v/\jV X.K H ds r by simpa only [jV] using h)
  cases r with
  | cons ru rs =>
   obtain ⟨as,r1⟩:=Rep.reads I d v _ h1 ru;obtain ⟨bs,r2⟩:=jV.reads I ds rr _ h2 rs;exact ⟨_,.cons r1 r2⟩
end
theorem bI.aaU (e:bI H H') (h:tK K H a xs):tK K H' a xs:=by
 rcases h with (h|⟨o,h⟩)|h
 .exact .inl (.inl (e _ _ h))
 .exact .inl (.inr ⟨o,e _ _ h⟩)
 .exact .inr h
theorem jV.nil:jV K H [] []:=by simp only [jV]
theorem Rep.lst {ds:List PyData}(h:gb K H a xs) (r:jV K H ds xs):Rep K H (.list ds) (.ref a):=by
 simp only [Rep];exact ⟨a,xs,rfl,h,r⟩
structure Na (d:PyData):Prop where
 lay:d.canLay0=true
 dep:d.depth<=60
def XX (K:ae) (neg:Bool):R2:=λx y H Q=>∃ dx dy,Rep K H dx x/\Rep K H dy y/\Na dx/\Na dy/\Q (.bl (if neg then !PyData.eqv dx dy else pF dx dy)) H
theorem ZQ (hu:X.A.units+64<jq):tP X (dP .Eq) (XX X.K false):=by
 intro pins s Z H x y v u Q I rx ry h;obtain ⟨dx,dy,h1,h2,f1,f2,q⟩:=h;obtain ⟨as,r1⟩:=Rep.reads I dx x v h1 rx;obtain ⟨bs,r2⟩:=Rep.reads I dy y u h2 ry;have:=f1.dep;exact SeqAt.compareEq_reads r1 r2 f1.lay f2.lay (aV (Xk (bU (Nat.min_le_left _ _) (bU f1.dep (by decide))) _) hu) ⟨.bl _,H,I,rfl,q⟩
theorem ZR (hu:X.A.units+64<jq):tP X (dP .NotEq) (XX X.K true):=by
 intro pins s Z H x y v u Q I rx ry h;obtain ⟨dx,dy,h1,h2,f1,f2,q⟩:=h;obtain ⟨as,r1⟩:=Rep.reads I dx x v h1 rx;obtain ⟨bs,r2⟩:=Rep.reads I dy y u h2 ry;exact SeqAt.compareNe_reads r1 r2 f1.lay f2.lay (aV (Xk (bU (Nat.min_le_left _ _) (bU f1.dep (by decide))) _) hu) ⟨.bl _,H,I,rfl,q⟩
def iz (K:ae):R2:=λx y H Q=>rEq x y H Q\/XX K false x y H Q
def yj (K:ae):R2:=λx y H Q=>rNe x y H Q\/XX K true x y H Q
theorem dD (hu:X.A.units+64<jq):tP X (dP .Eq) (iz X.K):=abx.or (ZQ hu)
theorem sQ (hu:X.A.units+64<jq):tP X (dP .NotEq) (yj X.K):=aby.or (ZR hu)
def ZS (K:ae) (neg:Bool):R2:=λx y H Q=>∃ d ds,Rep K H d x/\(Rep K H (.list ds) y\/Rep K H (.tuple ds) y)/\Na d/\kN ds=true/\Q (.bl (if neg then !(ds.any λe=>pF e d) else ds.any λe=>pF e d)) H
theorem ZT (hu:X.A.units+64<jq):tP X (dP .In) (ZS X.K false):=by
 intro pins s Z H x y v u Q I rx ry h;obtain ⟨d,ds,h1,h2,f1,f2,q⟩:=h;obtain ⟨as,r1⟩:=Rep.reads I d x v h1 rx;have hb:X.A.units+1+min (ka ds) d.depth<jq:=aV (by have:=f1.dep;lia) hu
 rcases h2 with h2|h2
 .obtain ⟨bs,r2⟩:=Rep.reads I _ y u h2 ry;exact SeqAt.in_list_reads r2 r1 f2 f1.lay hb ⟨.bl _,H,I,rfl,q⟩
 .obtain ⟨bs,r2⟩:=Rep.reads I _ y u h2 ry;exact SeqAt.in_tuple_reads r2 r1 f2 f1.lay hb ⟨.bl _,H,I,rfl,q⟩
theorem SG (hu:X.A.units+64<jq):tP X (dP .NotIn) (ZS X.K true):=by
 intro pins s Z H x y v u Q I rx ry h;obtain ⟨d,ds,h1,h2,f1,f2,q⟩:=h;obtain ⟨as,r1⟩:=Rep.reads I d x v h1 rx;have hb:X.A.units+1+min (ka ds) d.depth<jq:=aV (by have:=f1.dep;lia) hu
 rcases h2 with h2|h2
 .obtain ⟨bs,r2⟩:=Rep.reads I _ y u h2 ry;exact SeqAt.notIn_list_reads r2 r1 f2 f1.lay hb ⟨.bl _,H,I,rfl,q⟩
 .obtain ⟨bs,r2⟩:=Rep.reads I _ y u h2 ry;exact SeqAt.notIn_tuple_reads r2 r1 f2 f1.lay hb ⟨.bl _,H,I,rfl,q⟩
def ZU (neg:Bool):R2:=λy x H Q=>∃ a o,x=.ref a/\Hw H a y o/\Q (.bl (if neg then !o.isSome else o.isSome)) H
theorem ZV (hu:X.A.units+64<jq):tP X (dP .In) (ZU false):=by
 intro pins s Z H y x iv u Q I ry rx h;obtain ⟨a,o,rfl,g,q⟩:=h;cases rx
 exact d_in (aV (by lia) hu) I g ry λs' I'=>⟨.bl _,H,I',rfl,q⟩
theorem SH (hu:X.A.units+64<jq):tP X (dP .NotIn) (ZU true):=by
 intro pins s Z H y x iv u Q I ry rx h;obtain ⟨a,o,rfl,g,q⟩:=h;cases rx
 exact XS (aV (by lia) hu) I g ry λs' I'=>⟨.bl _,H,I',rfl,q⟩
def U0 (K:ae) (neg:Bool):R2:=λx y H Q=>ZS K neg x y H Q\/ZU neg x y H Q
theorem U1 (hu:X.A.units+64<jq):tP X (dP .In) (U0 X.K false):=(ZT hu).or (ZV hu)
theorem SI (hu:X.A.units+64<jq):tP X (dP .NotIn) (U0 X.K true):=(SG hu).or (SH hu)
def lD:R2:=λx y H Q=>yM (λi j=>.int (i+j)) x y H Q\/rCat x y H Q
theorem ix:tP X (oi .Add) lD:=ZI.or ZO
def rIxD:R2:=λx y H Q=>∃ a v,x=.ref a/\Hw H a y (some v)/\Q v H
theorem XY (hu:X.A.units+64<jq):Yz X rIxD:=by
 intro value slice pins s Z H x y v u Q I rx ry h hs;obtain ⟨a,z,rfl,g,q⟩:=h;cases rx;exact tail_any (M6 I g) Ke.lookup (SB (aV (by lia) hu) I g ry λw' s' I' r'=>⟨z,H,I',r',q⟩) hs
def d9 (K:ae):R2:=λx y H Q=>(rIxL K x y H Q\/rIxT K x y H Q)\/rIxD x y H Q
theorem fb (hu:X.A.units+64<jq):Yz X (d9 X.K):=(XR.or ZM).or (XY hu)
def Y2:V->V->V->Hp->(Hp->Prop)->Prop:=λo i v H Q=>∃ a H',o=.ref a/\Jq H a i v H'/\Q H'
theorem set_dict (hu:X.A.units+64<jq):Xw X Y2:=by
 intro pins s Z H o i v ov iv u Q I ro ri rv h;obtain ⟨a,H',rfl,g,q⟩:=h;cases ro
 exact SC (aV (by lia) hu) I g ri rv λs' I'=>⟨H',I',q⟩
def Ad:V->V->V->Hp->(Hp->Prop)->Prop:=λo i v H Q=>YZ o i v H Q\/Y2 o i v H Q
theorem FK (hu:X.A.units+64<jq):Xw X Ad:=by
 intro pins s Z H o i v ov iv u Q I ro ri rv h
 rcases h with h|h
 .exact UX pins s Z H o i v ov iv u Q I ro ri rv h
 .exact set_dict hu pins s Z H o i v ov iv u Q I ro ri rv h
def FL (K:ae):List V->Hp->VK->Prop:=λxs H Q=>(∃ p ys,xs=[.ref p]/\(gb K H p ys\/tK K H p ys)/\Q (.int ys.length) H)\/(∃ a kvs,xs=[V.ref a]/\H a=some (.dK kvs)/\Q (.int kvs.length) H)
theorem qO:mK X (.builtin "len") (FL X.K):=Ks.or SF
def XZ (K:ae):List V->Hp->VK->Prop:=λxs H Q=>∃ x T t b,xs=[x,.ty T]/\zm K H x t/\bp K t (.type T)=some b/\Q (.bl b) H
theorem Nb:mK X (.builtin "isinstance") (XZ X.K):=by
 intro pins s Z H xs us Q I r h;obtain ⟨x,T,t,b,rfl,ty,e,q⟩:=h;obtain ⟨u,w',rfl,ru,rw'⟩:=vals2 r;cases (show w'=lI T from rw')
 exact JF I ru ty e λtk=>⟨.bl b,H,I.tok tk,rfl,q⟩
theorem Inv.sJ (I:Inv X pins Z H s):∃ m,Fr X.base X.env.locals s.heap m/\EO X.base X.env.locals s.heap (mO X.base s.heap X.env.locals) :=
 let ⟨m,F⟩:=I.fr
 ⟨m,F,UH⟩
section
variable {D:vT}{ta tb:TE}{t u:TS}{c c':TT}{tA:TA}{QT:Bool->Hp->Prop}{QA:List V->Hp->Prop}
theorem tW (h:t { D with nx:=u D } Z H):bz t u D Z H:=h
theorem U2 (h:te Z H λx H1=>g x Z H1 D.nx):ft te g D Z H:=h
theorem Re {i:Nat}(h:R (Z.set i (some v)) H):bZ i v Z H R:=h
theorem ZW {ti:TE}{ts:Xv}(h:to Z H λo H1=>ti Z H1 λi H2=>ts o i v H2 λH3=>R Z H3):Kl to ti ts v Z H R:=h
theorem il {i:Nat}(h:Z[i]?=some (some v)) (k:Q v H):aq i Z H Q:=⟨v,h,k⟩
theorem Uy (k:Q v H):tC v Z H Q:=k
theorem Ae {r:R2}(h:ta Z H λx H1=>tb Z H1 λy H2=>r x y H2 Q):bT r ta tb Z H Q:=h
theorem x_un {r:V->Hp->VK->Prop}(h:ta Z H λx H1=>r x H1 Q):tUn r ta Z H Q:=h
theorem nQ (h:te Z H D.rt):cY te D Z H:=h
theorem ZX (h:te Z H λ_ H1=>D.nx Z H1):gX te D Z H:=h
theorem vZ (h:D.nx Z H):cH D Z H:=h
theorem qT (h:c Z H λb H1=>if b=true then t D Z H1 else u D Z H1):dQ c t u D Z H:=h
theorem x_if (h:c Z H λb H1=>if b=true then ta Z H1 Q else tb Z H1 Q):Xu c ta tb Z H Q:=h
theorem sR (h:te Z H λx H'=>∃ k,x=.bl k/\QT k H'):di te Z H QT:=h
theorem Y3 (h:c Z H λb H1=>if b=true then c' Z H1 QT else QT false H1):Pl c c' Z H QT:=h
theorem ZY (h:c Z H λb H1=>if b=true then QT true H1 else c' Z H1 QT):tOr c c' Z H QT:=h
theorem Y4 (h:c Z H λb H1=>QT (!b) H1):zg c Z H QT:=h
theorem ZZ (h:ta Z H λx H1=>∃ c,x=.bl c/\if c=true then tb Z H1 Q else Q (.bl false) H1):Aa ta tb Z H Q:=h
theorem abI (h:ta Z H λx H1=>∃ c,x=.bl c/\if c=true then Q (.bl true) H1 else tb Z H1 Q):Xt ta tb Z H Q:=h
theorem Z0 (h:ta Z H λx H1=>∃ c,x=.bl c/\Q (.bl (!c)) H1):UJ ta Z H Q:=h
theorem Y5 (h:QT true H):yi Z H QT:=h
theorem qd (h:QA [] H):aM Z H QA:=h
theorem iF (h:te Z H λx H1=>tA Z H1 λxs H2=>QA (x::xs) H2):ai te tA Z H QA:=h
theorem abJ (h:tA Z H λxs H1=>xs.length<=aT/\∀ p,H1 p=none->Q (.ref p) (upd H1 p (.tup xs))):kb tA Z H Q:=h
theorem abK (h:tA Z H λxs H1=>xs.length<=aT/\∀ p,H1 p=none->Q (.ref p) (upd H1 p (.lst xs))):vV tA Z H Q:=h
theorem Kw {dvs:List V}{E:XK}(h:tA Z H λvs H1=>sp (vs++dvs) H1 Q E):cu sp dvs E tA Z H Q:=h
theorem PD {r:List V->Hp->VK->Prop}(h:tA Z H λvs H1=>r vs H1 Q):nO r tA Z H Q:=h
theorem x_bm {T:String}{r:V->List V->Hp->VK->Prop}(h:to Z H λx H1=>tyV K T x H1/\tA Z H1 λxs H2=>r x xs H2 Q):HD K T r to tA Z H Q:=h
theorem x_sl {r:V->Option Int->Option Int->Hp->VK->Prop}{tl th:TO}(h:te Z H λx H1=>tl Z H1 λl H2=>th Z H2 λu H3=>r x l u H3 Q):Q8 r te tl th Z H Q:=h
theorem U3 {R:Option Int->Hp->Prop}(h:R none H):lT Z H R:=h
theorem Z1 {R:Option Int->Hp->Prop}(h:te Z H λx H1=>∃ i,x=.int i/\R (some i) H1):qc te Z H R:=h
theorem Rg {g:Int->Int->V}(h:Q (g i j) H):yM g (.int i) (.int j) H Q:=⟨i,j,rfl,rfl,h⟩
theorem x_rI {C:Int->Int->Prop}{g:Int->Int->V}(hc:C i j) (h:Q (g i j) H):rI C g (.int i) (.int j) H Q:=⟨i,j,rfl,rfl,hc,h⟩
theorem Z2 (h:Q (.int (i+j)) H):lD (.int i) (.int j) H Q:=.inl ⟨i,j,rfl,rfl,h⟩
theorem abL (h:Q (.bl (decide (V.int i=V.int j))) H):iz K (.int i) (.int j) H Q:=.inl ⟨rfl,h⟩
theorem Y6 (h:Q (.bl (!decide (V.int i=V.int j))) H):yj K (.int i) (.int j) H Q:=.inl ⟨rfl,h⟩
theorem sd (h:gb K H p xs) (e:XN xs i=some v) (k:Q v H):d9 K (.ref p) (.int i) H Q:=.inl (.inl ⟨p,xs,i,v,rfl,rfl,h,e,k⟩)
theorem tX (h:tK K H p xs) (e:XN xs i=some v) (k:Q v H):d9 K (.ref p) (.int i) H Q:=.inl (.inr ⟨p,xs,i,v,rfl,rfl,h,e,k⟩)
theorem Kx (h:gb K H p xs) (k:Q (.int xs.length) H):FL K [.ref p] H Q:=.inl ⟨p,xs,rfl,.inl h,k⟩
theorem U4 {l:ah}{y:V}(h:H l=some (.lst xs)) (hl:xs.length<aT) (k:Q .non (upd H l (.lst (xs++[y])))):lU (.ref l) [y] H Q:=⟨l,xs,y,rfl,rfl,h,hl,k⟩
theorem Z3 {k:Int}{j:Nat}{R:Hp->Prop}(h:H p=some (.lst xs)) (e:W6 xs.length k=some j) (q:R (upd H p (.lst (xs.set j v)))):Ad (.ref p) (.int k) v H R:=.inl ⟨p,xs,k,j,rfl,rfl,h,e,q⟩
theorem yk {p A B:Prop} [Decidable p] (h1:p->A) (h2:¬ p->B):if decide p=true then A else B:=by
 by_cases h:p
 .rw [if_pos (decide_eq_true h)];exact h1 h
 .rw [if_neg (by rw [decide_eq_false h];decide)];exact h2 h
theorem ml:(V.int i=V.int j)↔i=j:=⟨λh=>by injection h,λh=>by rw [h]⟩
end
end L2
namespace BootT
open PySem
theorem len:fF "len"=some (.builtin "len"):=by decide +kernel
theorem fw:fF "isinstance"=some (.builtin "isinstance"):=by decide +kernel
theorem U5:fF "sorted"=some (.builtin "sorted"):=by decide +kernel
theorem int:fF "int"=some (.type "int"):=by decide +kernel
theorem bool:fF "bool"=some (.type "bool"):=by decide +kernel
theorem str:fF "str"=some (.type "str"):=by decide +kernel
end BootT
namespace L2
variable {H:Hp}{K:ae}{Z:St}{n j m:Nat}{g:TG}{i:Int}{ta tl te:TE}{x:V}{xs:List V}{R:St->Hp->Prop}{c a l:ah}{Q:VK}{tg:Expr}{tt:TT}{D:vT}{wi:TI}{o:HO}{X:Cx}
def rR:List V->Hp->VK->Prop:=λxs H Q=>∃ i:Int,xs=[.int i]/\i.natAbs.log2<1920/\Q (.str (toString i)) H
def jT (K:ae) (ta:TE):TT:=λZ H Q=>ta Z H λx H'=>∃ k,XC K x H' k/\Q k H'
theorem FM {Q:Bool->Hp->Prop}(h:ta Z H λx H'=>∃ k,XC K x H' k/\Q k H'):jT K ta Z H Q:=h
section
variable {a:Expr}
theorem eK (ha:PE X a ta) (he:∀ whole,isTrue a X.env whole=(do let v ← whole;yc a.pos;qI [v] (truthy v))):PT X a (jT X.K ta):=UP ha he
end
def Itd (a:ah) (kvs:List (ig×V)) (o:jo):It :=
 ⟨λi H=>i<kvs.length/\H a=some (.frz o (.dK kvs)),λi H x H'=>H'=H/\∃ k v,kvs[i]?=some (k,v)/\x=kV k,λi H=>kvs.length<=i/\H a=some (.frz o (.dK kvs))⟩
theorem Z4 {k:ig}{u:aj}(h:Fp k u=true):RelV (kV k) u:=by
 rcases h8 h with ⟨i,t,rfl,rfl⟩|⟨x,t,rfl,rfl⟩
 .exact ⟨t,rfl⟩
 .exact ⟨t,rfl⟩
theorem KV.get {kvs:List (ig×V)}{vs:List (ig×aj)}(r:KV kvs vs) {i:Nat}{k:ig}{v:V}(e:kvs[i]?=some (k,v)):∃ u,vs[i]?=some (k,u)/\RelV v u:=by
 unfold KV at r
 induction r generalizing i with
 | nil=>simp at e
 | @cons p q ps qs h t ih =>
  cases i with
  | zero =>
   simp at e;subst e;obtain ⟨q1,q2⟩:=q;obtain ⟨h1,h2⟩:=h;simp only at h1 h2;subst h1
   exact ⟨q2,rfl,h2⟩
  | succ i =>
   obtain ⟨u,e1,e2⟩:=ih (by simpa using e);exact ⟨u,by simpa using e1,e2⟩
theorem SJ {P:bC}{w:cW}(a it:ah) (o:jo) (kvs:List (ig×V)) (vs:List (ig×aj)) (ep:Nat) (rel:KV kvs vs)
  (od:∀ h:dt,h.get? a=some o->h.DictAt (i8 P w) a vs ep):Po P w K tg (Itd a kvs o) [it] it (λi h=>h.IsKeyIter it a i vs.length ep) where
 mem:=by simp
 obj:=λi h st b hb=>by
  have e:b=it:=by simpa using hb
  subst e;obtain ⟨o,e,c,d⟩:=st;exact ⟨o,e,λv z=>by rw [d] at z;cases z⟩
 keep:=λi h h' st k=>st.at λo e=>k it (by simp) o e
 item:=by
  intro X hP hw hK hc i pins s Z H E I hf st hg;subst hP hw hK;obtain ⟨hlt,hq⟩:=hg
  obtain ⟨e0,_⟩:=(show fq X.prog X.w H s.heap a (.frz o (.dK kvs)) from I.eY a _ hq)
  obtain ⟨⟨k,v⟩,hx⟩:∃ p,kvs[i]?=some p:=⟨kvs[i],by simp [hlt]⟩
  obtain ⟨u,hu,ru⟩:=rel.get hx;obtain ⟨f0,f1,f2,f3,f4,f5⟩:=hf it (by simp);refine wpAny_pyNext_dict_item st (od _ e0) hu λkey h' hkey st' sb=>?_;have I1:Inv X pins Z H { s with heap:=h' }:=I.turned (t':=s.toks) (λb o hb e=>(sb.2 b hb).trans e) f0 f1 f3 f4 f5;obtain ⟨o',e,c,d⟩:=id st';exact ⟨key,rfl,JB (s:={ s with heap:=h' }) e c d (by decide) ⟨kV k,H,I1,Z4 hkey,⟨rfl,k,v,hx,rfl⟩,st',λb hb=>(hf b hb).1⟩⟩
 done:=by
  intro X hP hw hK hc i pins s Z H E I hf st hg;subst hP hw hK;obtain ⟨hle,hq⟩:=hg
  obtain ⟨e0,_⟩:=(show fq X.prog X.w H s.heap a (.frz o (.dK kvs)) from I.eY a _ hq)
  obtain ⟨f0,f1,f2,f3,f4,f5⟩:=hf it (by simp);have hl:=rel.length
  exact wpAny_pyNext_dict_end (I.ok.hd hc) st (od _ e0) (by simp;lia) λh' eb=>⟨rfl,I.turned (t':=s.toks) (λb o hb e=>eb b o hb e) f0 f1 f3 f4 f5⟩
 self:=λ_ _ _ _ _ st h=>ET st h
def v3 (K:ae) (tl:TE):TI:=λZ H R=>tl Z H λx H1=>∃ a,x=.ref a/\(((∃ xs,gb K H1 a xs)/\R (Pp K a) H1)\/((∃ xs,tK K H1 a xs)/\R (Itt K a) H1) \/
 ∃ kvs,H1 a=some (.dK kvs)/\∀ o,R (Itd a kvs o) (upd H1 a (.frz o (.dK kvs))))
theorem Z5 {R:It->Hp->Prop}(h:tl Z H λx H1=>∃ a,x=.ref a/\(((∃ xs,gb K H1 a xs)/\R (Pp K a) H1)\/((∃ xs,tK K H1 a xs)/\R (Itt K a) H1) \/
 ∃ kvs,H1 a=some (.dK kvs)/\∀ o,R (Itd a kvs o) (upd H1 a (.frz o (.dK kvs))))):v3 K tl Z H R:=h
theorem mn {l:Expr}(hl:PE X l tl):PI X tg l (v3 X.K tl):=by
 intro pins s Z H R I h;refine gJ (hl pins s Z H _ I h) λv s1 ⟨x,H1,I1,r1,q1⟩=>?_;obtain ⟨a,e,q1⟩:=q1;subst e;cases r1
 rcases q1 with ⟨⟨xs,hq⟩,q⟩|⟨⟨xs,hq⟩,q⟩|⟨kvs,hq,q⟩
 .obtain ⟨its,rv,p,hz⟩:=I1.list hq;refine wpAny_pyIter_list p.isList ?_;refine ⟨s1.heap.objs.size,[s1.heap.objs.size],_,_,H1,rfl,I1.kept (t':=s1.toks) λb o e=>aA _ e,Sr a _,⟨_,aZ _ rfl,rfl,rfl⟩,λb hb=>?_,q⟩
  have e:b=s1.heap.objs.size:=by simpa using hb
  subst e;exact I1.Jt (aE _) (I1.eY.fresh (aE _))
 .obtain ⟨its,rv,p,hz⟩:=I1.tuple hq;refine wpAny_pyIter_tuple (show s1.heap.IsTuple a its.toArray from p) ?_;refine ⟨s1.heap.objs.size,[s1.heap.objs.size],_,_,H1,rfl,I1.kept (t':=s1.toks) λb o e=>aA _ e,Pq a _,⟨_,aZ _ rfl,rfl,rfl⟩,λb hb=>?_,q⟩
  have e:b=s1.heap.objs.size:=by simpa using hb
  subst e;exact I1.Jt (aE _) (I1.eY.fresh (aE _))
 .obtain ⟨hz,hsys,vs,rel,dd⟩:=Y1 I1.eY hq;obtain ⟨ep,da⟩:=dd.dictAt;obtain ⟨ob,es,ho,rr⟩:=id da
  have od:∀ h:dt,h.get? a=some ob->h.DictAt (i8 X.prog X.w) a vs ep:=λh e=>⟨ob,es,e,rr⟩
  have un:Un X.fs [] H1 (upd H1 a (.frz ob (.dK kvs))) s1.heap s1.heap:=by
   have hne:∀ b u,H1 b=some u->u≠.dK kvs->b≠a:=λb u e n z=>by subst z;rw [hq] at e;exact n (aD e).symm
   refine ⟨λb o e _ _ _=>e,λb o e _ _ _=>⟨o.slots,e⟩,λb o e n _=>?_,λb o e _=>⟨o,e⟩,λb ys e=>?_,λb o u e=>?_,λb ps e=>?_⟩
   .rw [aI (λz=>by subst z;rw [hq] at n;cases n)];exact n
   .rw [aI (hne b _ e (by intro z;cases z))];exact e
   .rw [aI (hne b _ e (by intro z;cases z))];exact e
   .exact ⟨#[],by rw [aI (hne b _ e (by intro z;cases z)),e];simp⟩
  have eY:vN X.prog X.w (upd H1 a (.frz ob (.dK kvs))) s1.heap:=λb u e=>by
   by_cases hb:b=a
   .subst hb;rw [aH] at e;cases e;exact ⟨ho,hz,hsys,vs,rel,dd⟩
   .rw [aI hb] at e;refine (I1.eY b u e).yx (λc v _ q=>q) (λc q0=>?_) λc ys q0=>?_
    .rw [aI (λz=>by rw [z,hq] at q0;cases q0)];exact q0
    .rw [aI (λz=>by rw [z,hq] at q0;cases q0)];exact q0
  have I2:Inv X pins Z (upd H1 a (.frz ob (.dK kvs))) { s1 with heap:=s1.heap,toks:=s1.toks }:=I1.un un eY;refine wpAny_pyIter_dict hsys da ?_;refine ⟨s1.heap.objs.size,[s1.heap.objs.size],_,_,_,rfl,I2.kept (t':=s1.toks) λb o e=>aA _ e,SJ a _ ob kvs vs ep rel od,⟨_,aZ _ rfl,rfl,rfl⟩,λb hb=>?_,q ob⟩
  have e:b=s1.heap.objs.size:=by simpa using hb
  subst e;exact I2.Jt (aE _) (I2.eY.fresh (aE _))
structure qp (n i:Nat) (S:St->Prop) (Pv:List V->Hp->Prop) (m:Nat) (ys:List V) (Z:St) (H:Hp):Prop where
 m:m=n-i
 le:i<=n
 s:S Z
 p:Pv ys H
theorem qp.mk' {i:Nat}{S:St->Prop}{Pv:List V->Hp->Prop}{ys:List V}(hi:i<n) (s:S Z) (p:Pv ys H):∃ m',m'<n-i/\qp n (i+1) S Pv m' ys Z H:=⟨n-(i+1),by lia,rfl,hi,s,p⟩
theorem se {σ0:St}{J:It}{acc:ah}{R:Hp->Prop}(Pv:Nat->List V->Hp->Prop) (S:St->Prop) (h0:Pv 0 [] (upd H acc (.lst []))) (s0:S σ0)
  (ha:∀ i ys H,Pv i ys H->H acc=some (.lst ys)) (hst:∀ ys H,Pv n ys H->J.stop n H/\R H) (hgo:∀ i ys H,i<n->Pv i ys H->J.go i H)
  (hs:∀ i ys σ' H x H2,i<n->Pv i ys H->S σ'->J.TX i H x H2->g x σ' H2 λσ2 H3=>tt σ2 H3 λb H4=>if b=true then te σ2 H4 λy H5=>H5 acc=some (.lst ys)/\ys.length<aT/\∃ m',m'<n-i/\qp n (i+1) S (Pv (i+1)) m' (ys++[y]) σ2 (upd H5 acc (.lst (ys++[y]))) else ∃ m',m'<n-i/\qp n (i+1) S (Pv (i+1)) m' ys σ2 H4) :
  ∃ W:Nat->Nat->List V->St->Hp->Prop,(∃ m,W 0 m [] σ0 (upd H acc (.lst [])))/\∀ i m ys σ' H',W i m ys σ' H'->H' acc=some (.lst ys) /\
  ((J.stop i H'/\R H')\/(J.go i H'/\∀ x H2,J.TX i H' x H2->g x σ' H2 λσ2 H3=>tt σ2 H3 λb H4 =>
   if b=true then te σ2 H4 λy H5=>H5 acc=some (.lst ys)/\ys.length<aT/\∃ m',m'<m/\W (i+1) m' (ys++[y]) σ2 (upd H5 acc (.lst (ys++[y]))) else ∃ m',m'<m/\W (i+1) m' ys σ2 H4)):=by
 refine ⟨λi m ys σ' H'=>qp n i S (Pv i) m ys σ' H',⟨n,by simp,dm _,s0,h0⟩,?_⟩;rintro i m ys σ' H' ⟨rfl,hi,hS,p⟩;refine ⟨ha i ys H' p,?_⟩
 by_cases hlt:i<n
 .exact .inr ⟨hgo i ys H' hlt p,λx H2 y=>hs i ys σ' H' x H2 hlt p hS y⟩
 .have e:i=n:=by lia
  subst e;exact .inl (hst ys H' p)
structure U6 (Pv:St->Hp->Prop) (μ:St->Hp->Nat) (m:Nat) (Z:St) (H:Hp):Prop where
 m:m=μ Z H
 p:Pv Z H
theorem U7 {c:TT}{tb:TS}(Pv:St->Hp->Prop) (μ:St->Hp->Nat) (h0:Pv Z H)
  (hs:∀ Z H,Pv Z H->c Z H λb H1=>if b=true then ∃ N:St->Hp->Prop,(∀ σ' H',N σ' H'->∃ m',m' < μ Z H/\U6 Pv μ m' σ' H')/\tb { D with nx:=N,ct:=N,bk:=D.nx } Z H1 else D.nx Z H1):Pn c tb D Z H:=by
 refine ⟨U6 Pv μ,⟨_,rfl,h0⟩,?_⟩;rintro m Z H ⟨rfl,p⟩;exact hs Z H p
def wN (Pv:St->Hp->Prop) (μ:St->Hp->Nat) (b:Nat):St->Hp->Prop:=λZ H=>Pv Z H/\μ Z H<b
theorem abM {Pv:St->Hp->Prop}{μ:St->Hp->Nat} {b:Nat}:∀ σ' H',wN Pv μ b σ' H'->∃ m',m'<b/\U6 Pv μ m' σ' H':=λσ' H' ⟨p,l⟩=>⟨_,l,rfl,p⟩
section
variable {tb:TE}{t u:TS}{tA:TA}{QT:Bool->Hp->Prop}{QA:List V->Hp->Prop}
theorem X0 {r r':R2}{tc:TE}(h:ta Z H λx H1=>tb Z H1 λy H2=>r x y H2 λz H3=>∃ k,z=.bl k/\(if k=true then tc Z H3 λw' H4=>r' y w' H4 Q else Q (.bl false) H3)):Fy r r' ta tb tc Z H Q:=h
theorem x_rU {g:Int->V}(h:Q (g i) H):rU g (.int i) H Q:=⟨i,rfl,h⟩
theorem lL (hi:i.natAbs.log2<1920) (h:Q (.str (toString i)) H):rR [.int i] H Q:=⟨i,rfl,hi,h⟩
theorem Z6 {R:It->Hp->Prop}(h:tA Z H λvs H1=>∃ j:Int,vs=[.int j]/\-(2^62)<=j/\j<2^62/\R (Itr 0 j.toNat) H1):Q4 tA Z H R:=h
theorem abN {tb:TS}(h:wi Z H λJ H1=>∃ W:Nat->Nat->St->Hp->Prop,(∃ m,W 0 m Z H1)/\∀ i m Z H,W i m Z H ->
 (J.stop i H/\D.nx Z H)\/(J.go i H/\∃ N:St->Hp->Prop,(∀ σ' H',N σ' H'->∃ m',m'<m/\W (i+1) m' σ' H')/\∀ x H',J.TX i H x H'->g x Z H' λσ2 H2=>tb { D with nx:=N,ct:=N,bk:=D.nx } σ2 H2)):Km wi g tb D Z H:=h
theorem Z7 {own:Nat}{js:List Nat}(h:wi Z H λJ H1=>∀ acc,H1 acc=none ->
 ∃ W:Nat->Nat->List V->St->Hp->Prop,(∃ m,W 0 m [] (cm own none++M8 Z js) (upd H1 acc (.lst [])))/\∀ i m ys σ' H',W i m ys σ' H'->H' acc=some (.lst ys) /\
  ((J.stop i H'/\Q (.ref acc) H')\/(J.go i H'/\∀ x H2,J.TX i H' x H2->g x σ' H2 λσ2 H3=>tt σ2 H3 λb H4 =>
   if b=true then te σ2 H4 λy H5=>H5 acc=some (.lst ys)/\ys.length<aT/\∃ m',m'<m/\W (i+1) m' (ys++[y]) σ2 (upd H5 acc (.lst (ys++[y]))) else ∃ m',m'<m/\W (i+1) m' ys σ2 H4))):oR own js wi g tt te Z H Q:=h
theorem abO {i:Nat}{ti:TIp}(hx:Z[i]?=some (some x)) (h:te Z H λy H1=>ti x y H1 λz H2=>D.nx (Z.set i (some z)) H2):Xy i te ti D Z H:=⟨x,hx,h⟩
theorem Kz {ts:W5}(h:tK K H a xs) (hn:xs.length=n) (k:ts xs Z H R):HK K n ts (.ref a) Z H R:=⟨a,xs,rfl,h,hn,k⟩
theorem X1 {gs:W5}{v:V}{r:List V}(h:g v Z H λσ' H'=>gs r σ' H' R):lC g gs (v::r) Z H R:=⟨v,r,rfl,h⟩
theorem Z8 (h:R Z H):Kk [] Z H R:=⟨rfl,h⟩
theorem FN {b:ah}{zs:List V}(h:H l=some (.lst xs)) (h':H b=some (.lst zs)) (hl:xs.length+zs.length<=aT) (k:∀ p,H p=none->Q (.ref p) (upd H p (.lst (xs++zs)))):lD (.ref l) (.ref b) H Q:=.inr ⟨l,b,xs,zs,rfl,rfl,h,h',hl,k⟩
theorem FO {T:String}{t:aj}{b:Bool}(ty:zm K H x t) (e:bp K t (.type T)=some b) (k:Q (.bl b) H):XZ K [x,.ty T] H Q:=⟨x,T,t,b,rfl,ty,e,k⟩
theorem Du {lo hi:Option Int}(h:gb K H a xs) (k:∀ p,H p=none->Q (.ref p) (upd H p (.lst (zo xs lo hi)))):zq K (.ref a) lo hi H Q:=⟨a,xs,rfl,h,k⟩
theorem abP {y:V}{dx dy:PyData}(h1:Rep K H dx x) (h2:Rep K H dy y) (f1:Na dx) (f2:Na dy) (k:Q (.bl (!PyData.eqv dx dy)) H):yj K x y H Q:=.inr ⟨dx,dy,h1,h2,f1,f2,k⟩
end
theorem Z9:bp K (.type "int") (.type "int")=some true:=by rfl
theorem aaa:bp K (.type "int") (.type "bool")=some false:=by rfl
theorem aab:bp K (.type "bool") (.type "int")=some true:=by rfl
theorem aac:bp K (.type "bool") (.type "bool")=some true:=by rfl
theorem aad:bp K (.type "NoneType") (.type "int")=some false:=by rfl
theorem aae:bp K (.type "str") (.type "int")=some false:=by rfl
theorem aaf:bp K (.type "list") (.type "int")=some false:=by rfl
theorem bI.cV (h:H l=none):bI H (upd H l o):=λb u e=>by rw [aI (aG e h)];exact e
def bD (c:ah) (H H':Hp):Prop:=∀ b o,H b=some o->b≠c->H' b=some o
theorem bD.refl (c:ah) (H:Hp):bD c H H:=λ_ _ h _=>h
theorem bD.trans {H1 H2:Hp}(a:bD c H H1) (b:bD c H1 H2):bD c H H2:=λx o h n=>b x o (a x o h n) n
theorem bD.same {H':Hp}(e:bI H H'):bD c H H':=λb o h _=>e b o h
theorem bD.upd:bD c H (upd H c o):=λb u e n=>by rw [aI n];exact e
theorem jf {α:Type} {xs:List α}{v:α}(hi:i=(j:Int)) (h:xs[j]?=some v):XN xs i=some v:=by subst hi;exact XO h
theorem aag (hi:i=(j:Int)) (h:j<n):W6 n i=some j:=by
 subst hi;unfold W6;rw [if_pos (by lia),if_pos (by lia)]
 rfl
theorem gB (h:n<=m) (hm:m<=100000:=by decide):n<=aT:=bU h (bU hm (by rw [yd];decide))
theorem iM (h:n<m) (hm:m<=100000:=by decide):n<aT:=bG h (bU hm (by rw [yd];decide))
mutual
def sT:PyData->Bool
 | .int _=>true
 | .list xs=>oS xs
 | .tuple xs=>oS xs
 | _=>false
def oS:List PyData->Bool
 | []=>true
 | x::xs=>sT x && oS xs
end
mutual
theorem JP:∀ d:PyData,sT d=true->d.canLay0=true
 | .int _,_=>by simp [zc]
 | .list xs,h=>by simp only [sT] at h;simp only [zc];exact uH xs h
 | .tuple xs,h=>by simp only [sT] at h;simp only [zc];exact uH xs h
 | .none,h=>by simp [sT] at h
 | .bool _,h=>by simp [sT] at h
 | .str _,h=>by simp [sT] at h
 | .dict _,h=>by simp [sT] at h
theorem uH:∀ ds:List PyData,oS ds=true->kN ds=true
 | [],_=>by simp [kN]
 | d::ds,h=>by
  simp only [oS,cq] at h;simp only [kN,cq];exact ⟨JP d h.1,uH ds h.2⟩
end
end L2
namespace L2
open PySem.Calls
open PySem.W (kla_fn kla_obj tabObj CodeHd)
variable {X:Cx}{H:Hp}{Pt c:ah}{pos:yz}{m:aL->Option aj}{pins:List (ah×jo)}{Z:St}{s:ax}{params:vB}{scope:uE}
theorem abQ {h:dt}{a:ah}{m':aL->Option aj}(x:h.Ns a m) (y:h.Ns a m'):m=m':=by
 obtain ⟨o,es,ep,e,d,_,r⟩:=x;obtain ⟨o',es',ep',e',d',_,r'⟩:=y;rw [e] at e';cases e';rw [d] at d';cases d'
 funext n
 rw [← r n,← r' n]
theorem Inv.news {h':dt}{t':Nat}(I:Inv X pins Z H s) (hm:s.heap.Ns X.env.locals m) (F:Fr X.base X.env.locals h' m)
  (N:EO X.base X.env.locals h' (mO X.base s.heap X.env.locals)):Inv X pins Z H { s with heap:=h',toks:=t' }:=by
 have k:∀ b o,b≠X.env.locals->s.heap.get? b=some o->h'.get? b=some o:=λb o h1 e=>by
  cases q:X.base.get? b with
  | some u =>
   have:=I.bk b u q;rw [e] at this;cases this
   exact F.keep b _ q
  | none=>exact (N (b,o) (oQ h1 q e)).1
 refine I.step (g':=s.gens) (d':=s.drawn) (ch:=[]) (λ_ z=>nomatch z) (λb o h1 _ _ e _=>k b o h1 e) (λb o h1 _ _ e _=>⟨o.slots,k b o h1 e⟩) (λ_ _ _ _ n=>n) (λb o _ e=>?_) (λ_ _ e=>e) (λ_ _ _ e=>e)
  (λb ps e=>⟨#[],by rw [e];simp⟩) (λm' hm'=>by rw [← abQ hm hm'];exact F.ns) (λb u e=>?_) I.bare
 .by_cases hb:b=X.env.locals
  .subst hb;obtain ⟨o',_,_,e',_⟩:=F.ns;exact ⟨o',e'⟩
  .exact ⟨o,k b o hb e⟩
 .refine (I.eY b u e).yx (λc v hc q=>k c v ?_ q) (λ_ q=>q) λ_ _ q=>q;rintro rfl
  rcases hc with hc|hc
  .rw [← hc,I.free] at e;cases e
  .rw [I.free] at hc;cases hc
def JQ (Pt:ah) (H H':Hp):Prop:=∀ b o,b≠Pt->H b=some o->H' b=some o
def OT (Pt:ah) (pos:yz) (qual:aL) (H:Hp):Prop :=
 H Pt=some (.tbl #[])\/∃ c' oc vs t,H Pt=some (.tbl #[iT pos.line,iT pos.col,.ref c'])/\H c'=some (.frz oc (.ext λ_=>True))/\oc.data=.fields vs/\vs[1]?=some (sN qual t)
theorem OT.tbl {qual:aL}(h:OT Pt pos qual H):∃ ps,H Pt=some (.tbl ps):=by
 rcases h with h|⟨_,_,_,_,h,_⟩
 .exact ⟨_,h⟩
 .exact ⟨_,h⟩
theorem U8 {E:aj->ax->Prop}{Q:aj->ax->Prop}{body:Expr}(I:Inv X pins Z H s) (hcode:X.env.code=.ref c) (C:qM X.base c Pt) (B:X.base.BuiltinsAt X.mg Pt)
  (hdef:defaultsOf params X.env=([],[])) (hfr:∀ n,(n,bE)∈scope.names->∃ c,X.env.cells.lookup n=some c) (hT:OT Pt pos (X.env.qual++"<lambda>") H)
  (h:∀ f c' ctv h' tk H2,Inv X pins Z H2 { s with heap:=h',toks:=tk }->h'.get? f=some (Bw "<lambda>" (X.env.qual++"<lambda>") params body scope (pH X.env.cells scope.names []) ((X.mg "__name__").getD .none) c' ctv)->h'.CodeRec (.ref c') (X.env.qual++"<lambda>") ->
   JQ Pt H H2->OT Pt pos (X.env.qual++"<lambda>") H2->(∀ b o,b≠Pt->s.heap.get? b=some o->h'.get? b=some o)->Q (.ref f) { s with heap:=h',toks:=tk }) :
  aY (bg X.prog X.w) X.A (fR (.Lambda params body scope pos) X.env) Q E s:=by
 have hg:s.heap.Ns aX X.mg:=I.mod.glob.keeps I.bk;have C1:=C.keeps I.bk
 have B1:s.heap.BuiltinsAt X.mg Pt:=let ⟨bm,o,b1,b2,b3,b4,b5,b6⟩:=B;⟨bm,o,b1,b2,b3,b4,I.bk _ _ b5,b6⟩
 refine PySem.W.kla_eval hdef ?_
 rcases hT with hT|⟨c',oc,vs,t,hT,hc',hd,hv⟩
 .have hP:s.heap.get? Pt=some (OZ #[]):=I.eY Pt _ hT
  have hgP:aX≠Pt:=λq=>by
   obtain ⟨o,es,ep,e,hd,_⟩:=hg;rw [q,hP] at e;cases e;cases hd
  refine PySem.W.kla_makeFunction (mg:=X.mg) (uG hfr) I.ok.glob hg hcode C1 hP trivial rfl hgP B1 λc' ctv h' tk hx hge hlt hrec htb=>?_;obtain ⟨c₂,oc,vs,t,e2,hoc,hd,hv⟩:=id hrec;cases e2;have hn:H c'=none:=I.eY.fresh hge
  have ncP:c'≠Pt:=λq=>by rw [q,hT] at hn;cases hn
  have hL:X.env.locals≠Pt:=λq=>by have:=I.free;rw [q,hT] at this;cases this
  have k:∀ b o,b≠Pt->s.heap.get? b=some o->(h'.push (Bw "<lambda>" (X.env.qual++"<lambda>") params body scope (pH X.env.cells scope.names []) ((X.mg "__name__").getD .none) c' ctv)).get? b=some o:=λb o hb e=>aA _ (hx b o hb e);have hP':(h'.push (Bw "<lambda>" (X.env.qual++"<lambda>") params body scope (pH X.env.cells scope.names []) ((X.mg "__name__").getD .none) c' ctv)).get? Pt=some (OZ #[iT pos.line,iT pos.col,.ref c']):=aA _ htb;have hoc':(h'.push (Bw "<lambda>" (X.env.qual++"<lambda>") params body scope (pH X.env.cells scope.names []) ((X.mg "__name__").getD .none) c' ctv)).get? c'=some oc:=aA _ hoc;have hf:(h'.push (Bw "<lambda>" (X.env.qual++"<lambda>") params body scope (pH X.env.cells scope.names []) ((X.mg "__name__").getD .none) c' ctv)).get? h'.objs.size=some (Bw "<lambda>" (X.env.qual++"<lambda>") params body scope (pH X.env.cells scope.names []) ((X.mg "__name__").getD .none) c' ctv):=aZ _ rfl;generalize h'.push (Bw "<lambda>" (X.env.qual++"<lambda>") params body scope (pH X.env.cells scope.names []) ((X.mg "__name__").getD .none) c' ctv)=h2 at k hP' hoc' hf
  have st:∀ b o,b≠Pt->H b=some o->upd (upd H Pt (.tbl #[iT pos.line,iT pos.col,.ref c'])) c' (.frz oc (.ext λ_=>True)) b=some o:=λb o hb e=>by
   rw [aI (aG e hn),aI hb];exact e
  refine h _ c' ctv h2 tk (upd (upd H Pt (.tbl #[iT pos.line,iT pos.col,.ref c'])) c' (.frz oc (.ext λ_=>True))) ?_ hf ⟨c',oc,vs,t,rfl,hoc',hd,hv⟩ st (.inr ⟨c',oc,vs,t,by rw [aI (Ne.symm ncP)];exact aH,aH,hd,hv⟩) k
  have nP:∀ b,H b=none->b≠Pt:=λb e q=>by rw [q,hT] at e;cases e
  refine I.step (g':=s.gens) (d':=s.drawn) (ch:=[]) (λ_ z=>nomatch z) (λb o _ _ _ e n=>k b o (nP b n) e) (λb o _ _ _ e n=>⟨o.slots,k b o (nP b n) e⟩) (λb o _ e n=>?_) (λb o _ e=>?_) (λb xs e=>?_) (λb o u e=>?_)
   (λb ps e=>?_) (λm' hm'=>?_) (λb u e=>?_) I.bare
  .rw [aI (bb (bG (aS e) hge)),aI (nP b n)];exact n
  .by_cases hb:b=Pt
   .exact ⟨_,hb▸hP'⟩
   .exact ⟨o,k b o hb e⟩
  .exact st b _ (λq=>by rw [q,hT] at e;cases e) e
  .exact st b _ (λq=>by rw [q,hT] at e;cases e) e
  .by_cases hb:b=Pt
   .subst hb;rw [hT] at e;cases e;exact ⟨#[iT pos.line,iT pos.col,.ref c'],by rw [aI (Ne.symm ncP),aH];simp⟩
   .exact ⟨#[],by rw [st b _ hb e];simp⟩
  .obtain ⟨o,es,ep,e,r⟩:=hm';exact ⟨o,es,ep,k _ o hL e,r⟩
  .by_cases hb:b=c'
   .subst hb;rw [aH] at e;cases e;exact ⟨hoc',trivial,⟨oc,hoc'⟩,λ_ _ _ _=>trivial⟩
   .rw [aI hb] at e
    by_cases hb2:b=Pt
    .subst hb2;rw [aH] at e;cases e;exact hP'
    .rw [aI hb2] at e;refine (I.eY b u e).yx (λd v hc q=>k d v ?_ q) (λd q=>st d _ (λz=>by rw [z,hT] at q;cases q) q) λd xs q=>st d _ (λz=>by rw [z,hT] at q;cases q) q;rintro rfl
     rcases hc with hc|hc
     .exact hb2 hc.symm
     .rw [hT] at hc;cases hc
 .have hP:s.heap.get? Pt=some (OZ #[iT pos.line,iT pos.col,.ref c']):=I.eY Pt _ hT;refine PySem.W.kla_makeFunctionHit (mg:=X.mg) (cv:=.ref c') (uG hfr) I.ok.glob hg hcode C1 hP (by simp [TriplesOk,iT]) (by simp [codeAmong,iT]) B1 λctv h' tk hk hsz=>?_;have k:∀ b o,s.heap.get? b=some o->(h'.push (Bw "<lambda>" (X.env.qual++"<lambda>") params body scope (pH X.env.cells scope.names []) ((X.mg "__name__").getD .none) c' ctv)).get? b=some o:=λb o e=>aA _ (hk b o e);refine h h'.objs.size c' ctv _ tk H (I.kept k) (aZ _ rfl) ⟨c',oc,vs,t,rfl,k _ _ (I.eY c' _ hc').1,hd,hv⟩ (λ_ _ _ e=>e) (.inr ⟨c',oc,vs,t,hT,hc',hd,hv⟩) λb o _ e=>k b o e
section
variable {e:Expr}{tx:TA}{x y:aL}{j:Nat}{p0 p1 p2 p3 lpos kpos:yz}
end
end L2
namespace L2
open PySem.Calls
open PySem.W (tabObj CodeHd noTabs tabIn)
end L2
namespace L2
theorem iy.okC {P:bC}{w:cW}{K:ae}{mg:aL->Option aj}{base:dt}{x qual:aL}{st:dw}{f:ah}{fd:fv}{N ps:List aL}{k:Nat}{sp:Sp}{i4:aj}(F:iy K x qual st f fd) (hc:fd.code=i4) (S:bj N ps (aO st)) (len:∀ vs H Q E,sp vs H Q E->vs.length=ps.length)
  (hbody:∀ (A:dC) (outer:List xC) (s:ax) (H:Hp) (vs:List V) (Q:VK) (E:XK),i7 k (A.deeper (lz qual (aO st) s.heap.objs.size f i4))->sp vs H Q E ->
   ∃ t,Jr (jz dU P w K mg base N qual (aO st) f i4 A outer s H E).WK (jX st) t/\t { nx:=λ_ H'=>Q .non H',rt:=Q } (start N vs) H):cI P w K mg base dU (k+1) f fd ps sp:=by
 obtain ⟨oc,od,kV,doc,pm,an,cdv',ct,osl,rfl,lk,hcd⟩:=F.ex;have e:cdv'=i4:=hc;subst e;refine UU lk hcd S len λA outer s H vs Q E hr hsp=>?_;obtain ⟨t,h,q⟩:=hbody A outer s H vs Q E hr hsp;exact ⟨t,h.WK,q⟩
section
variable {K:ae}{Z:St}{H:Hp}{Q:VK}
theorem X2 {σ0:St}{g:TG}{tt:TT}{te:TE}{z acc:ah}{xs:List V}{R:Hp->Prop}{α:Type} (items:List α) (p:α->Bool) (f:α->V) (S:St->Prop) (hlen:items.length=xs.length) (hz:gb K H z xs) (ha:H acc=none) (s0:S σ0) (hs:xs.length<=100000)
  (turn:∀ (i:Nat) (a:α) (x:V) (σ':St) (H':Hp) (G:V->St->Hp->Prop) (G':St->Hp->Prop),items[i]?=some a->xs[i]?=some x->bI H H'->S σ'->(p a=true->∀ σ2,S σ2->G (f a) σ2 H')->(p a=false->∀ σ2,S σ2->G' σ2 H') ->
   g x σ' H' λσ2 H3=>tt σ2 H3 λb H4=>if b=true then te σ2 H4 λy H5=>G y σ2 H5 else G' σ2 H4)
  (fin:∀ H',bI H H'->H' acc=some (.lst ((items.filter p).map f))->R H') :
  ∃ W:Nat->Nat->List V->St->Hp->Prop,(∃ m,W 0 m [] σ0 (upd H acc (.lst [])))/\∀ i m ys σ' H',W i m ys σ' H'->H' acc=some (.lst ys) /\
  (((Pp K z).stop i H'/\R H')\/((Pp K z).go i H'/\∀ x H2,(Pp K z).TX i H' x H2->g x σ' H2 λσ2 H3=>tt σ2 H3 λb H4 =>
   if b=true then te σ2 H4 λy H5=>H5 acc=some (.lst ys)/\ys.length<aT/\∃ m',m'<m/\W (i+1) m' (ys++[y]) σ2 (upd H5 acc (.lst (ys++[y]))) else ∃ m',m'<m/\W (i+1) m' ys σ2 H4)):=by
 refine se (n:=xs.length) (λi ys H'=>ys=((items.take i).filter p).map f/\H' acc=some (.lst ys)/\bI H H') S ⟨by simp,aH,bI.cV ha⟩ s0 ?_ ?_ ?_ ?_
 .rintro i ys H' ⟨_,h,_⟩;exact h
 .rintro ys H' ⟨e,h,S'⟩;refine ⟨⟨_,S'.seq hz,aE _⟩,fin H' S' ?_⟩;rw [h,e,bS (by lia)]
 .rintro i ys H' hi ⟨e,h,S'⟩;exact ⟨_,_,S'.seq hz,bc hi⟩
 .rintro i ys σ' H' x H2 hi ⟨e,h,S'⟩ hσ ⟨e2,hx⟩;subst e2;have hxi:=hx _ (S'.seq hz)
  obtain ⟨a,hai⟩:∃ a,items[i]?=some a:=⟨_,bc (by lia)⟩
  have et:items.take (i+1)=items.take i++[a]:=by rw [jb,hai];rfl
  refine turn i a x σ' H2 _ _ hai hxi S' hσ (λhp σ2 h2=>?_) λhp σ2 h2=>?_
  .refine ⟨h,aV (m:=i) ?_ (bG hi (gB hs)),qp.mk' hi h2 ⟨?_,aH,λb o q=>by rw [aI (aG q ha)];exact S' _ _ q⟩⟩
   .rw [e,ao];exact bU (Uh _ _) (by rw [cE];lia)
   .rw [et,e,DP,bY];simp [hp]
  .refine qp.mk' hi h2 ⟨?_,h,S'⟩;rw [et,e,DP,bY];simp [hp]
end
end L2
namespace BootT
open PySem
theorem sum:fF "sum"=some (.builtin "sum"):=by decide +kernel
end BootT
namespace L2
open PySem PySem.Spec PyProof.Rows PySem.SeqAt
section
variable {X:Cx}
def U9 (K:ae):V->List V->Hp->VK->Prop:=λx vs H Q=>∃ (l:ah) (ns:List Int) (k:Int),x=.ref l/\vs=[.int k]/\gb K H l (ns.map V.int)/\k∈ns/\Q (.int (ns.idxOf k:Nat)) H
theorem Va:WM X "list.index" (U9 X.K):=by
 intro pins s Z H x vs v us Q I rx rv h;obtain ⟨l,ns,k,rfl,rfl,hq,hk,q⟩:=h;cases rx;obtain ⟨u,rfl,t,rfl⟩:=rv.one;obtain ⟨its,r,pl,hz⟩:=I.list hq;have hi:oO its ns:=intsAre_of r;have hlen:=hi.length;have hl2:=r.length;have hj:ns.idxOf k<ns.length:=Pc.mpr hk;have h63:=vU;rw [ao] at hz hl2;obtain ⟨⟨cls,dd,data,sl⟩,ho,hc,n,hd⟩:=pl.isList;simp only at hc hd;subst hc hd
 refine call_meets mL ⟨_,ho,rfl⟩ MB (Kg _ _)
  (list_indexAt l its.toArray n dd sl (.int k t) (isInt k) (ns.idxOf k) (by rw [bu];lia) (by lia) ?_ ?_) ⟨ho,λy hy=>(eq_isInt k t hi y (by simpa using hy)).at _ _,⟨.int _,H,I.tok _,⟨_,rfl⟩,q⟩⟩
 .show isInt k its[ns.idxOf k]=true
  rw [isInt_at k hi _ (by lia) hj]
  simpa using List.getElem_idxOf hj
 .intro j hjs hlt
  show isInt k its[j]=false
  rw [isInt_at k hi j (by simpa using hjs) (by lia)];exact ne_of_lt_idxOf hlt _
def Rh (K:ae):V->List V->Hp->VK->Prop:=λx vs H Q=>∃ (l:ah) (y:V) (ds:List PyData) (d:PyData) (j:Nat) (ej:PyData),x=.ref l/\vs=[y]/\Rep K H (.list ds) (.ref l)/\Rep K H d y/\Na d/\kN ds=true /\
 ds.length<=aT/\ds[j]?=some ej/\pF ej d=true/\(∀ m e,m<j->ds[m]?=some e->pF e d=false)/\Q (.int (j:Nat)) H
theorem SK (hu:X.A.units+64<jq):WM X "list.index" (Rh X.K):=by
 intro pins s Z H x vs v us Q I rx rv h;obtain ⟨l,y,ds,d,j,ej,rfl,rfl,hR,hd,hf,hc,hz,hj,he,hno,q⟩:=h;cases rx;obtain ⟨u,rfl,ru⟩:=rv.one;obtain ⟨as,r1⟩:=Rep.reads I _ _ _ hR rfl;obtain ⟨bs,r2⟩:=Rep.reads I d y u hd ru;have h63:=vU;have hdep:=hf.dep;have hjl:j<ds.length:=(aP.mp hj).1
 cases r1 with
 | @list _ o items n _ as2 h1 h2 h3 h4 =>
  obtain ⟨cls,dd,data,sl⟩:=o;have h2':cls=_:=h2;have h3':data=_:=h3;subst h2' h3';have hm:=readsAll_map _ _ _ hc h4
  have hsz:items.size=ds.length:=by rw [← hm,ao,eA]
  have at_:∀ (m:Nat) (hm':m<items.size) (e:PyData),ds[m]?=some e->readOf s.heap items[m]=e:=λm hm' e z=>by
   rw [← hm,bO,kO,uB hm'] at z;exact aD z
  refine call_meets mL ⟨_,h1,rfl⟩ MB (Kg _ _)
   (list_indexAt l items n dd sl u (λy=>pF (readOf s.heap y) d) j (by lia) (by lia) ?_ ?_) ⟨h1,items_eqAt h4 r2 hc hf.lay (by lia),⟨.int _,H,I.tok _,⟨_,rfl⟩,q⟩⟩
  .show pF (readOf s.heap items[j]) d=true
   rw [at_ j (by lia) _ hj];exact he
  .intro m hm' hlt
   obtain ⟨e,z⟩:∃ e,ds[m]?=some e:=⟨_,bc (by lia)⟩
   show pF (readOf s.heap items[m]) d=false
   rw [at_ m hm' e z];exact hno m e hlt z
theorem WM.or {id:String}{r r':V->List V->Hp->VK->Prop}(h:WM X id r) (h':WM X id r'):WM X id (λx vs H Q=>r x vs H Q\/r' x vs H Q):=by
 intro pins s Z H x vs v us Q I rx rv z
 rcases z with z|z
 .exact h pins s Z H x vs v us Q I rx rv z
 .exact h' pins s Z H x vs v us Q I rx rv z
def EY (K:ae):V->List V->Hp->VK->Prop:=λx vs H Q=>U9 K x vs H Q\/Rh K x vs H Q
theorem JR (hu:X.A.units+64<jq):WM X "list.index" (EY X.K):=Va.or (SK hu)
variable {tg:Expr}
theorem Ri {K:ae}{l:ah}{ns:List Int}{k:Int}{H:Hp}{Q:VK}(h:gb K H l (ns.map V.int)) (hk:k∈ns) (q:Q (.int (ns.idxOf k:Nat)) H):EY K (.ref l) [.int k] H Q:=.inl ⟨l,ns,k,rfl,rfl,h,hk,q⟩
end
end L2
namespace L2
variable {v:Int}{σ0:St}{g:TG}{te:TE}{acc:ah}{R:Hp->Prop}{xs:List V}{K:ae}{H:Hp}{Q:VK}
section
variable {a:ah}{ns:List Int}{i i':Int}{j j':Nat}
theorem KA {n d:Nat}(h:i=(j:Int)):HT.MK n d (some i)=min j n:=by subst h;exact HT.XM n d j
theorem v5 (h:i=(j:Int)):zo xs (some i) none=xs.drop j:=by
 unfold zo;rw [KA h,HT.M3]
 by_cases e:j<=xs.length
 .rw [zd e,bS (by rw [c8];lia)]
 .rw [Jw (by lia),oP (aE _),oP (by lia)];simp
theorem Vb (h:i=(j:Int)):zo xs none (some i)=xs.take j:=by
 unfold zo;rw [KA h,HT.M3,List.drop_zero,Nat.sub_zero]
 by_cases e:j<=xs.length
 .rw [zd e]
 .rw [Jw (by lia),bS (aE _),bS (by lia)]
theorem X3 (h:i=(j:Int)) (h':i'=(j':Int)):zo xs (some i) (some i')=(xs.drop j).take (j'-j):=by
 unfold zo;rw [KA h,KA h']
 by_cases e:j<=xs.length
 .rw [zd e]
  by_cases e':j'<=xs.length
  .rw [zd e']
  .rw [Jw (by lia),bS (by rw [c8];lia),bS (by rw [c8];lia)]
 .rw [oP (show xs.length<=min j xs.length by lia),oP (show xs.length<=j by lia)];simp
theorem Nc (h:gb K H a (ns.map V.int)) (e:i=(j:Int)) (k:∀ p,H p=none->Q (.ref p) (upd H p (.lst ((ns.drop j).map V.int)))):zq K (.ref a) (some i) none H Q :=
 Du h λp hp=>by rw [v5 e,← List.map_drop];exact k p hp
theorem aah (h:gb K H a (ns.map V.int)) (e:i=(j:Int)) (k:∀ p,H p=none->Q (.ref p) (upd H p (.lst ((ns.take j).map V.int)))):zq K (.ref a) none (some i) H Q :=
 Du h λp hp=>by rw [Vb e,← Pd];exact k p hp
theorem Rj (h:gb K H a (ns.map V.int)) (e:i=(j:Int)) (e':i'=(j':Int)) (k:∀ p,H p=none->Q (.ref p) (upd H p (.lst (((ns.drop j).take (j'-j)).map V.int)))):zq K (.ref a) (some i) (some i') H Q :=
 Du h λp hp=>by rw [X3 e e',← List.map_drop,← Pd];exact k p hp
theorem KB {l b:ah}{ms:List Int}(h:H l=some (.lst (ns.map V.int))) (h':H b=some (.lst (ms.map V.int))) (hl:ns.length+ms.length<=100000) (k:∀ p,H p=none->Q (.ref p) (upd H p (.lst ((ns++ms).map V.int)))):lD (.ref l) (.ref b) H Q :=
 FN h h' (by rw [ao,ao];exact gB hl) λp hp=>by rw [← bY];exact k p hp
theorem X4 {j:Nat}(h:ns[j]?=some v):(ns.map V.int)[j]?=some (.int v):=by rw [bO,h];rfl
theorem Dv (h:gb K H a (ns.map V.int)) (e:i=(j:Int)) (g:ns[j]?=some v) (k:Q (.int v) H):d9 K (.ref a) (.int i) H Q:=sd h (jf e (X4 g)) k
theorem aai (h:gb K H a (ns.map V.int)) (k:Q (.int ns.length) H):FL K [.ref a] H Q:=Kx h (by rw [ao];exact k)
end
section
variable {Z:St}
theorem Vc {J:It}{n:Nat}(E:Nat->V->Hp->Prop) (X:Nat->V->Prop) (S:St->Prop) (ha:H acc=none) (s0:S σ0) (hn:n<=100000)
  (hgo:∀ i H',bI H H'->i<n->J.go i H') (hstop:∀ H',bI H H'->J.stop n H') (hy:∀ i H' x H2,bI H H'->i<n->J.TX i H' x H2->H2=H'/\X i x)
  (st:∀ i y H1 H2 zs,H1 acc=some (.lst zs)->bD acc H1 H2->E i y H1->E i y H2)
  (turn:∀ (i:Nat) (x:V) (σ':St) (H':Hp) (G:V->St->Hp->Prop),i<n->X i x->bI H H'->S σ'->(∀ y σ2 H5,S σ2->bI H' H5->E i y H5->G y σ2 H5)->g x σ' H' λσ2 H3=>te σ2 H3 λy H5=>G y σ2 H5)
  (fin:∀ ys H',ys.length=n->H' acc=some (.lst ys)->bI H H'->(∀ i y,ys[i]?=some y->E i y H')->R H') :
  ∃ W:Nat->Nat->List V->St->Hp->Prop,(∃ m,W 0 m [] σ0 (upd H acc (.lst [])))/\∀ i m ys σ' H',W i m ys σ' H'->H' acc=some (.lst ys) /\
  ((J.stop i H'/\R H')\/(J.go i H'/\∀ x H2,J.TX i H' x H2->g x σ' H2 λσ2 H3=>yi σ2 H3 λb H4 =>
   if b=true then te σ2 H4 λy H5=>H5 acc=some (.lst ys)/\ys.length<aT/\∃ m',m'<m/\W (i+1) m' (ys++[y]) σ2 (upd H5 acc (.lst (ys++[y]))) else ∃ m',m'<m/\W (i+1) m' ys σ2 H4)):=by
 refine se (n:=n) (tt:=yi) (λi ys H'=>ys.length=i/\H' acc=some (.lst ys)/\bI H H'/\∀ j y,ys[j]?=some y->E j y H') S ⟨rfl,aH,bI.cV ha,λj y e=>by simp at e⟩ s0 ?_ ?_ ?_ ?_
 .rintro i ys H' ⟨_,h,_⟩;exact h
 .rintro ys H' ⟨e,h,S',hE⟩;exact ⟨hstop H' S',fin ys H' e h S' hE⟩
 .rintro i ys H' hi ⟨e,h,S',hE⟩;exact hgo i H' S' hi
 .rintro i ys σ' H' x H2 hi ⟨e,h,S',hE⟩ hσ hyl;obtain ⟨rfl,hX⟩:=hy i H' x H2 S' hi hyl;have z:=turn i x σ' H2 (λy σ2 H5=>H5 acc=some (.lst ys)/\ys.length<aT/\∃ m',m'<n-i/\qp n (i+1) S (λys H'=>ys.length=i+1/\H' acc=some (.lst ys)/\bI H H'/\∀ j y,ys[j]?=some y->E j y H') m' (ys++[y]) σ2 (upd H5 acc (.lst (ys++[y])))) hi hX S' hσ ?_
  .exact z
  .intro y σ2 H5 h2 S5 hE5;refine ⟨S5 _ _ h,iM (m:=100000) (by lia),qp.mk' hi h2 ⟨by rw [bN,e];rfl,aH,λb o q=>by rw [aI (aG q ha)];exact S5 _ _ (S' _ _ q),λj v hv=>?_⟩⟩;have hb:bD acc H5 (upd H5 acc (.lst (ys++[y]))):=bD.upd
   by_cases hj:j<ys.length
   .rw [gA hj] at hv;exact st j v _ _ _ (S5 _ _ h) hb (st j v _ _ _ h (bD.same S5) (hE j v hv))
   .rw [eM (by lia)] at hv
    have ej:j=i:=by
     by_cases z:j-ys.length=0
     .lia
     .rw [kQ (by simp;lia)] at hv;cases hv
    subst ej;rw [e,Ui] at hv
    have ev:y=v:=by simpa using hv
    subst ev;exact st j y _ _ _ (S5 _ _ h) hb hE5
theorem Vd {z:ah}(E:Nat->V->Hp->Prop) (S:St->Prop) (hz:gb K H z xs) (ha:H acc=none) (s0:S σ0) (hn:xs.length<=100000)
  (st:∀ i y H1 H2 zs,H1 acc=some (.lst zs)->bD acc H1 H2->E i y H1->E i y H2)
  (turn:∀ (i:Nat) (x:V) (σ':St) (H':Hp) (G:V->St->Hp->Prop),i<xs.length->xs[i]?=some x->bI H H'->S σ'->(∀ y σ2 H5,S σ2->bI H' H5->E i y H5->G y σ2 H5)->g x σ' H' λσ2 H3=>te σ2 H3 λy H5=>G y σ2 H5)
  (fin:∀ ys H',ys.length=xs.length->H' acc=some (.lst ys)->bI H H'->(∀ i y,ys[i]?=some y->E i y H')->R H') :
  ∃ W:Nat->Nat->List V->St->Hp->Prop,(∃ m,W 0 m [] σ0 (upd H acc (.lst [])))/\∀ i m ys σ' H',W i m ys σ' H'->H' acc=some (.lst ys) /\
  (((Pp K z).stop i H'/\R H')\/((Pp K z).go i H'/\∀ x H2,(Pp K z).TX i H' x H2->g x σ' H2 λσ2 H3=>yi σ2 H3 λb H4 =>
   if b=true then te σ2 H4 λy H5=>H5 acc=some (.lst ys)/\ys.length<aT/\∃ m',m'<m/\W (i+1) m' (ys++[y]) σ2 (upd H5 acc (.lst (ys++[y]))) else ∃ m',m'<m/\W (i+1) m' ys σ2 H4)) :=
 Vc E (λi x=>xs[i]?=some x) S ha s0 hn (λi H' S' h=>⟨xs,_,S'.seq hz,bc h⟩) (λH' S'=>⟨xs,S'.seq hz,aE _⟩) (λi H' x H2 S' _ h=>⟨h.1,h.2 xs (S'.seq hz)⟩) st turn fin
end
end L2
namespace Sx
open PySem.W
variable {n:Nat}{k:Nat->Int}
def Sat (n:Nat) (k:Nat->Int) {α:Type}:KasT α->(α->Prop)->Prop
 | .ret a,Q=>Q a
 | .ask i j f,Q=>i<n/\j<n/\Sat n k (f (decide (k i<k j))) Q
theorem Sat.bind {α β:Type} {f:α->KasT β}{Q:β->Prop}:∀ {t:KasT α},Sat n k t (λa=>Sat n k (f a) Q)->Sat n k (t.bind f) Q
 | .ret _,h=>h
 | .ask _ _ _,h=>⟨h.1,h.2.1,Sat.bind h.2.2⟩
theorem Sat.mono {α:Type} {Q Q':α->Prop}(hq:∀ a,Q a->Q' a):∀ {t:KasT α},Sat n k t Q->Sat n k t Q'
 | .ret _,h=>hq _ h
 | .ask _ _ _,h=>⟨h.1,h.2.1,Sat.mono hq h.2.2⟩
def Pm (n:Nat) (p:Array Nat):Prop:=p.toList.Perm (fT n)
theorem Pm.size {p:Array Nat}(h:Pm n p):p.size=n:=by have:=h.length_eq;simpa using this
theorem Pm.lt {p:Array Nat}(h:Pm n p) (hn:0<n) (i:Nat):p.getD i 0<n:=by
 by_cases hi:i<p.size
 .have e:p.getD i 0=p[i]:=by simp [MC,hi]
  rw [e];have:p[i]∈fT n:=h.mem_iff.mp (by simp)
  simpa using this
 .have e:p.getD i 0=0:=by simp [MC,hi]
  lia
def Ky (k:Nat->Int) (p:Array Nat) (i:Nat):Int:=k (p.getD i 0)
theorem Ky.congr {p q:Array Nat}{i j:Nat}(h:p[i]?=q[j]?):Ky k p i=Ky k q j:=by
 unfold Ky
 have e:∀ (r:Array Nat) (a:Nat),r.getD a 0=(r[a]?).getD 0:=λr a=>by by_cases h:a<r.size<;>simp [MC,h]
 rw [e,e,h]
theorem Pm.rev {p:Array Nat}(h:Pm n p) (i j:Nat):Pm n (Sh p i j):=(MD.mp (mirror_perm p i j _)).trans h
theorem Pm.bub {p:Array Nat}(h:Pm n p) (i j:Nat):Pm n (bubble p i j):=(MD.mp (bubble_perm p i j)).trans h
theorem PF {p:Array Nat}{a b:Nat}(hb:b<=p.size) (i:Nat):Ky k (Sh p a b) i=if a<=i/\i<b then Ky k p (a+b-1-i) else Ky k p i:=by
 have e:=getElem?_mirror_all (i:=a) hb i
 split
 .rename_i h;rw [if_pos h] at e;exact Ky.congr e
 .rename_i h;rw [if_neg h] at e;exact Ky.congr e
theorem KC {p:Array Nat}{a b:Nat}(hb:b<=p.size) (h:∀ i,a<=i->i+1<b->Ky k p i=Ky k p (i+1)) (i:Nat):Ky k (Sh p a b) i=Ky k p i:=by
 have all:∀ d i,a<=i->i+d<b->Ky k p i=Ky k p (i+d):=λd=>by
  induction d with
  | zero=>intro i _ _;rfl
  | succ d ih=>intro i h1 h2;rw [ih i h1 (by lia),h (i+d) (by lia) (by lia)];rfl
 rw [PF hb]
 split
 .rename_i z
  by_cases c:a+b-1-i<=i
  .have:=all (i-(a+b-1-i)) (a+b-1-i) (by lia) (by lia);rw [this];congr 1;lia
  .have:=all (a+b-1-i-i) i (by lia) (by lia);rw [this];congr 1;lia
 .rfl
def Up (k:Nat->Int) (p:Array Nat) (m:Nat):Prop:=∀ i,i+1<m->Ky k p i<=Ky k p (i+1)
def Dn (k:Nat->Int) (p:Array Nat) (m:Nat):Prop:=∀ i,i+1<m->Ky k p (i+1)<=Ky k p i
theorem Up.le {p:Array Nat}{m:Nat}(h:Up k p m) {i j:Nat}(hij:i<=j) (hj:j<m):Ky k p i<=Ky k p j:=by
 induction j with
 | zero =>
  have:i=0:=by lia
  subst this;exact Int.le_refl _
 | succ j ih =>
  by_cases e:i=j+1
  .subst e;exact Int.le_refl _
  .exact Int.le_trans (ih (by lia) (by lia)) (h j hj)
theorem Up.one {p:Array Nat}{m:Nat}(hm:m<=1):Up k p m:=λi hi=>absurd hi (by lia)
theorem KD {p:Array Nat}(hp:Pm n p) (hn:0<n):∀ (f m:Nat),1<=m->m+f<=n->Up k p m->Sat n k (kas_asc p f m) λm'=>m<=m'/\m'<=m+f/\Up k p m'/\(m'<m+f->Ky k p m'<Ky k p (m'-1))
 | 0,m,_,_,h=>⟨aE _,aE _,h,λz=>absurd z (by lia)⟩
 | f+1,m,h1,h2,h=>by
  refine ⟨hp.lt hn _,hp.lt hn _,?_⟩
  by_cases c:k (p.getD m 0)<k (p.getD (m-1) 0)
  .rw [decide_eq_true c];exact ⟨aE _,by lia,h,λ_=>c⟩
  .rw [decide_eq_false c];refine Sat.mono (λm' z=>⟨by lia,by lia,z.2.2.1,λw=>z.2.2.2 (by lia)⟩) (KD hp hn f (m+1) (by lia) (by lia) λi hi=>?_)
   by_cases e:i+1=m
   .subst e;have:Ky k p i=k (p.getD (i+1-1) 0):=rfl;have:Ky k p (i+1)=k (p.getD (i+1) 0):=rfl;lia
   .exact h i (by lia)
structure aaj (n:Nat) (k:Nat->Int) (p:Array Nat) (m q:Nat):Prop where
 pm:Pm n p
 dn:Dn k p m
 le:q+1<=m
 eq:∀ i,m-(q+1)<=i->i+1<m->Ky k p i=Ky k p (i+1)
theorem Ag (hn:0<n):∀ (f:Nat) (p:Array Nat) (m q:Nat),1<=m->m+f<=n->aaj n k p m q->Sat n k (kas_desc f p m q) λr=>m<=r.2.1/\r.2.1<=m+f/\aaj n k r.1 r.2.1 r.2.2
 | 0,p,m,q,_,_,h=>⟨aE _,aE _,h⟩
 | f+1,p,m,q,h1,h2,h=>by
  refine ⟨h.pm.lt hn _,h.pm.lt hn _,?_⟩
  by_cases c:k (p.getD m 0)<k (p.getD (m-1) 0)
  .rw [decide_eq_true c]
   show Sat n k (if q>0 then _ else _) _
   have hc:Ky k p m<=Ky k p (m-1):=Uj c
   by_cases hq:q>0
   .rw [if_pos hq];have sm:∀ i,Ky k (Sh p (m-(q+1)) m) i=Ky k p i:=KC (by rw [h.pm.size];lia) h.eq;refine Sat.mono (λr z=>⟨by lia,by lia,z.2.2⟩) (Ag hn f _ (m+1) 0 (by lia) (by lia) ⟨h.pm.rev _ _,λi hi=>?_,by lia,λi h3 h4=>absurd h4 (by lia)⟩);rw [sm,sm]
    by_cases e:i+1=m
    .subst e;exact hc
    .exact h.dn i (by lia)
   .rw [if_neg hq];refine Sat.mono (λr z=>⟨by lia,by lia,z.2.2⟩) (Ag hn f _ (m+1) 0 (by lia) (by lia) ⟨h.pm,λi hi=>?_,by lia,λi h3 h4=>absurd h4 (by lia)⟩)
    by_cases e:i+1=m
    .subst e;exact hc
    .exact h.dn i (by lia)
  .rw [decide_eq_false c];refine ⟨h.pm.lt hn _,h.pm.lt hn _,?_⟩
   by_cases d:k (p.getD (m-1) 0)<k (p.getD m 0)
   .rw [decide_eq_true d];exact ⟨aE _,Nat.le_add_right m (f+1),h⟩
   .rw [decide_eq_false d]
    have he:Ky k p m=Ky k p (m-1):=by
     have e1:Ky k p m=k (p.getD m 0):=rfl;have e2:Ky k p (m-1)=k (p.getD (m-1) 0):=rfl;lia
    have hle:=h.le;refine Sat.mono (λr z=>⟨by lia,by lia,z.2.2⟩) (Ag hn f p (m+1) (q+1) (by lia) (by lia) ⟨h.pm,λi hi=>?_,by lia,λi h3 h4=>?_⟩)
    .by_cases e:i+1=m
     .subst e;exact Int.le_of_eq he
     .exact h.dn i (by lia)
    .by_cases e:i+1=m
     .subst e;exact he.symm
     .exact h.eq i (by lia) (by lia)
theorem Nd {p:Array Nat}{m:Nat}(hn:0<n) (hp:Pm n p) (h1:1<=m) (hm:m<=n) (h:Dn k p m):Sat n k (kas_tail3 m n p) λr=>Pm n r.2/\1<=r.1/\r.1<=n/\Up k r.2 r.1:=by
 refine Sat.bind (Sat.mono (λm' z=>⟨hp.rev _ _,by lia,by lia,z.2.2.1⟩) (KD (hp.rev 0 m) hn (n-m) m h1 (by lia) λi hi=>?_));rw [PF (by rw [hp.size];exact hm),PF (by rw [hp.size];exact hm),if_pos (by lia),if_pos (by lia)];have:=h (0+m-1-(i+1)) (by lia)
 have e:0+m-1-(i+1)+1=0+m-1-i:=by lia
 rw [e] at this;exact this
theorem Ah {p:Array Nat}{m:Nat}(hn:0<n) (hp:Pm n p) (h1:1<=m) (hm:m+1<=n) (h:Dn k p (m+1)):Sat n k (kas_descPart m n p) λr=>Pm n r.2/\1<=r.1/\r.1<=n/\Up k r.2 r.1:=by
 refine Sat.bind (Sat.mono ?_ (Ag hn (n-(m+1)) p (m+1) 0 (by lia) (by lia) ⟨hp,h,by lia,λi h3 h4=>absurd h4 (by lia)⟩));rintro ⟨p',m',q'⟩ ⟨a1,a2,a3⟩
 show Sat n k (if q'>0 then _ else _) _
 have a1:m+1<=m':=a1;have a2:m'<=m+1+(n-(m+1)):=a2;have a3:aaj n k p' m' q':=a3
 by_cases hq:q'>0
 .rw [if_pos hq];refine Nd hn (a3.pm.rev _ _) (by lia) (by lia) λi hi=>?_;have sm:∀ i,Ky k (Sh p' (m'-(q'+1)) m') i=Ky k p' i:=KC (by rw [a3.pm.size];lia) a3.eq;rw [sm,sm];exact a3.dn i hi
 .rw [if_neg hq];exact Nd hn a3.pm (by lia) (by lia) a3.dn
theorem SL {p:Array Nat}(hn:0<n) (hp:Pm n p):Sat n k (kas_count n p) λr=>Pm n r.2/\1<=r.1/\r.1<=n/\Up k r.2 r.1:=by
 refine Sat.bind (Sat.mono ?_ (KD hp hn (n-1) 1 (aE _) (by lia) (Up.one (aE _))));rintro m ⟨a1,a2,a3,a4⟩
 show Sat n k (if (m == n)=true then _ else _) _
 by_cases e:m=n
 .subst e;rw [if_pos (by simp)];exact ⟨hp,a1,aE _,a3⟩
 .rw [if_neg (by simpa using e)];have a4:=a4 (by lia)
  by_cases h1:m>1
  .rw [if_pos h1];refine ⟨hp.lt hn _,hp.lt hn _,?_⟩
   by_cases c:k (p.getD 0 0)<k (p.getD (m-1) 0)
   .rw [decide_eq_true c];exact ⟨hp,a1,by lia,a3⟩
   .rw [decide_eq_false c]
    have eqs:∀ i,i+1<m->Ky k p i=Ky k p (i+1):=λi hi=>by
     have b1:=a3.le (dm i) (show i<m by lia);have b2:=a3 i hi;have b3:=a3.le (show i+1<=m-1 by lia) (by lia);have e1:Ky k p 0=k (p.getD 0 0):=rfl;have e2:Ky k p (m-1)=k (p.getD (m-1) 0):=rfl;lia
    have sm:∀ i,Ky k (Sh p 0 m) i=Ky k p i:=KC (by rw [hp.size];lia) λi _ hi=>eqs i hi;refine Ah hn (hp.rev _ _) a1 (by lia) λi hi=>?_;rw [sm,sm]
    by_cases e3:i+1=m
    .subst e3;exact Uj a4
    .exact Int.le_of_eq (eqs i (by lia)).symm
  .rw [if_neg h1]
   have e1:m=1:=by lia
   subst e1;refine Ah hn hp (aE _) (by lia) λi hi=>?_
   have e2:i=0:=by lia
   subst e2;exact Uj a4
theorem BD {p:Array Nat}{x:Nat}(hn:0<n) (hp:Pm n p) (hx:Up k p x):∀ (f l r:Nat),r-l<=f->l<=r->r<=x->(∀ i,i<l->Ky k p i<=Ky k p x)->(∀ i,r<=i->i<x->Ky k p x<Ky k p i) ->
  Sat n k (kas_place p x f l r) λl'=>l'<=x/\(∀ i,i<l'->Ky k p i<=Ky k p x)/\∀ i,l'<=i->i<x->Ky k p x<Ky k p i
 | 0,l,r,h1,h2,h3,h4,h5=>⟨by lia,h4,λi z1 z2=>h5 i (by lia) z2⟩
 | f+1,l,r,h1,h2,h3,h4,h5=>by
  show Sat n k (if l>=r then _ else _) _
  by_cases c:l>=r
  .rw [if_pos c];exact ⟨by lia,h4,λi z1 z2=>h5 i (by lia) z2⟩
  .rw [if_neg c];refine ⟨hp.lt hn _,hp.lt hn _,?_⟩
   by_cases d:k (p.getD x 0)<k (p.getD ((l+r)/2) 0)
   .rw [decide_eq_true d];refine BD hn hp hx f l ((l+r)/2) (by lia) (by lia) (by lia) h4 λi z1 z2=>?_;have b:=hx.le z1 z2;have d:Ky k p x<Ky k p ((l+r)/2):=d;lia
   .rw [decide_eq_false d];refine BD hn hp hx f ((l+r)/2+1) r (by lia) (by lia) h3 (λi z1=>?_) h5;have b:=hx.le (show i<=(l+r)/2 by lia) (by lia);have d:¬ Ky k p x<Ky k p ((l+r)/2):=d;lia
theorem Ve {p:Array Nat}{x l:Nat}(hx:x<p.size) (hl:l<=x) (i:Nat):Ky k (bubble p x (x-l)) i=if i=l then Ky k p x else if l<i/\i<=x then Ky k p (i-1) else Ky k p i:=by
 have e:=getElem?_bubble hx (x-l) (by lia) i
 have e2:x-(x-l)=l:=by lia
 rw [e2] at e
 by_cases h1:i=l
 .rw [if_pos h1] at e ⊢;exact Ky.congr e
 .rw [if_neg h1] at e ⊢
  by_cases h2:l<i/\i<=x
  .rw [if_pos h2] at e ⊢;exact Ky.congr e
  .rw [if_neg h2] at e ⊢;exact Ky.congr e
theorem Rk (hn:0<n):∀ (f:Nat) (p:Array Nat) (x:Nat),x+f=n->Pm n p->Up k p x->Sat n k (kas_bin f p x) λp'=>Pm n p'/\Up k p' n
 | 0,p,x,h1,hp,h=>⟨hp,by rw [← h1];exact h⟩
 | f+1,p,x,h1,hp,h=>by
  refine Sat.bind (Sat.mono ?_ (BD hn hp h x 0 x (by lia) (dm _) (aE _) (λi z=>absurd z (by lia)) (λi z1 z2=>absurd z2 (by lia))));rintro l ⟨a1,a2,a3⟩;refine Rk hn f _ (x+1) (by lia) (hp.bub _ _) λi hi=>?_
  have hs:x<p.size:=by rw [hp.size];lia
  rw [Ve hs a1,Ve hs a1]
  by_cases c1:i+1<l
  .rw [if_neg (by lia),if_neg (by lia),if_neg (by lia),if_neg (by lia)];exact h i (by lia)
  .by_cases c2:i+1=l
   .rw [if_neg (by lia),if_neg (by lia),if_pos c2];exact a2 i (by lia)
   .by_cases c3:i=l
    .rw [if_pos c3,if_neg (by lia),if_pos (by lia)];have:=a3 i (by lia) (by lia)
     have e:i+1-1=i:=by lia
     rw [e];lia
    .rw [if_neg c3,if_pos (by lia),if_neg (by lia),if_pos (by lia)];have:=h (i-1) (by lia)
     have e:i-1+1=i+1-1:=by lia
     rw [e] at this;exact this
theorem Vg:Pm n (List.toArray (fT n)):=by unfold Pm;simp
theorem Ng (hn:0<n):Sat n k (kas_sort n) λp=>Pm n p/\Up k p n:=by
 refine Sat.bind (Sat.mono ?_ (SL hn Vg));rintro ⟨m,p⟩ ⟨a1,a2,a3,a4⟩
 show Sat n k (if m<n then _ else _) _
 have a2:1<=m:=a2;have a3:m<=n:=a3;have a4:Up k p m:=a4
 by_cases c:m<n
 .rw [if_pos c]
  have e:max m 1=m:=by lia
  show Sat n k (kas_bin (n-max m 1) p (max m 1)) _
  rw [e];exact Rk hn (n-m) p m (by lia) a1 a4
 .rw [if_neg c]
  have:m=n:=by lia
  subst this;exact ⟨a1,a4⟩
theorem Sat.ask {cmp:Nat->Nat->(Bool->ax->Prop)->ax->Prop}{s:ax}(hc:∀ i j C,i<n->j<n->C (decide (k i<k j)) s->cmp i j C s) {α:Type} {Q:α->Prop}{G:α->ax->Prop}(hG:∀ a,Q a->G a s):∀ {t:KasT α},Sat n k t Q->t.kasWp cmp G s
 | .ret _,h=>hG _ h
 | .ask i j f,h=>hc i j _ h.1 h.2.1 (Sat.ask hc hG h.2.2)
end Sx
namespace L2
open PySem.W
variable {w:cW}{s:ax}{X:Cx}{h:dt}{a:ah}{m:aL->Option aj}{H:Hp}{o:HO}{prog:bC}{A:dC}
theorem aak {m':aL->Option aj}(x:h.Ns a m) (y:h.Ns a m'):m=m':=by
 obtain ⟨o,es,ep,e,d,_,r⟩:=x;obtain ⟨o',es',ep',e',d',_,r'⟩:=y;rw [e] at e';cases e';rw [d] at d';cases d'
 funext n
 rw [← r n,← r' n]
theorem fq.obj {P:bC}(x:fq P w H h a o):∃ ob,h.get? a=some ob:=by
 cases o with
 | lst xs=>obtain ⟨_,_,_,_,e⟩:=x;exact ⟨_,e⟩
 | tup xs=>obtain ⟨_,_,_,ob,e,_⟩:=x;exact ⟨_,e⟩
 | dK kvs=>obtain ⟨_,_,_,_,ob,_,_,e,_⟩:=x;exact ⟨_,e⟩
 | dT kvs=>obtain ⟨_,_,_,_,ob,_,_,e,_⟩:=x;exact ⟨_,e⟩
 | set S n=>obtain ⟨ob,_,_,_,e,_⟩:=x;exact ⟨_,e⟩
 | ins C dx fs=>obtain ⟨_,_,_,e,_⟩:=x;exact ⟨_,e⟩
 | own y=>exact x
 | xd fs=>obtain ⟨_,⟨ob,_,_,e,_⟩,_⟩:=x;exact ⟨_,e⟩
 | rng lo hi=>obtain ⟨_,_,_,e⟩:=x;exact ⟨_,e⟩
 | frz ob u=>exact ⟨_,x.1⟩
 | tbl ps=>exact ⟨_,x⟩
 | met f y=>exact ⟨_,x⟩
 | ext φ=>exact x.2.1
section
variable {pins:List (ah×jo)}{Z:St}
theorem Inv.Bn {h':dt}{t':Nat}{D:ah}{ob:jo}(I:Inv X pins Z H s) (hm:s.heap.Ns X.env.locals m) (F:Fr X.base X.env.locals h' m)
  (N:EO X.base X.env.locals h' ((D,ob)::mO X.base s.heap X.env.locals)) (hD:∀ q∈mO X.base s.heap X.env.locals,q.1<D) (new:fq X.prog X.w (upd H D o) h' D o):H D=none/\Inv X pins Z (upd H D o) { s with heap:=h',toks:=t' }:=by
 have nd:=N (D,ob) ak
 have gD:s.heap.get? D=none:=by
  cases q:s.heap.get? D with
  | none=>rfl
  | some u=>exact absurd (hD (D,u) (oQ nd.2.1 nd.2.2 q)) (iE _)
 have hn:H D=none:=by
  cases q:H D with
  | none=>rfl
  | some u =>
   obtain ⟨w,e⟩:∃ w,s.heap.get? D=some w:=(I.eY D u q).obj;rw [gD] at e;cases e
 have k:∀ b o,b≠X.env.locals->s.heap.get? b=some o->h'.get? b=some o:=λb o h1 e=>by
  cases q:X.base.get? b with
  | some u =>
   have z:=I.bk b u q;rw [e] at z;cases z
   exact F.keep b _ q
  | none=>exact (N (b,o) (ag _ (oQ h1 q e))).1
 have nD:∀ b o,s.heap.get? b=some o->b≠D:=λb o e z=>by rw [z,gD] at e;cases e
 have hH:∀ b u,H b=some u->b≠D:=λb u e=>aG e hn
 refine ⟨hn,I.step (g':=s.gens) (d':=s.drawn) (ch:=[]) (λ_ z=>nomatch z) (λb o h1 _ _ e _=>k b o h1 e) (λb o h1 _ _ e _=>⟨o.slots,k b o h1 e⟩) (λb o _ e n=>by rw [aI (nD b o e)];exact n) (λb o _ e=>?_)
  (λb _ e=>by rw [aI (hH b _ e)];exact e) (λb _ _ e=>by rw [aI (hH b _ e)];exact e) (λb ps e=>⟨#[],by rw [aI (hH b _ e),e];simp⟩) (λm' hm'=>by rw [← aak hm hm'];exact F.ns) (λb u e=>?_) I.bare⟩
 .by_cases hb:b=X.env.locals
  .subst hb;obtain ⟨o',_,_,e',_⟩:=F.ns;exact ⟨o',e'⟩
  .exact ⟨o,k b o hb e⟩
 .by_cases hb:b=D
  .subst hb;rw [aH] at e;cases e;exact new
  .rw [aI hb] at e
   refine (I.eY b u e).yx (λc v hc q=>k c v ?_ q) (λc q=>by rw [aI (hH c _ q)];exact q) λc _ q=>by rw [aI (hH c _ q)];exact q
   rintro rfl
   rcases hc with hc|hc
   .rw [← hc,I.free] at e;cases e
   .rw [I.free] at hc;cases hc
end
theorem Nh {α:Type} {p q:α->Bool}:∀ {l:List α}{x:α},(∀ y∈l,p y=true->q y=true)->x∈l->p x=false->q x=true->l.countP p<l.countP q
 | y::l,x,h,hx,h1,h2=>by
  have hl:∀ y∈l,p y=true->q y=true:=λy hy=>h y (ag _ hy);have hle:l.countP p<=l.countP q:=Uk hl;rw [Zm,Zm]
  rcases az.mp hx with e|hx
  .subst e;rw [h1,h2];simp;lia
  .have hlt:=Nh hl hx h1 h2
   by_cases hp:p y=true
   .rw [if_pos hp,if_pos (h y ak hp)];lia
   .rw [if_neg hp];lia
theorem PH {α:Type} (l:List α) (d:α):(fT l.length).map (λi=>l.getD i d)=l:=by
 apply Fo
 intro i;rw [bO]
 by_cases h:i<l.length
 .rw [List.getElem?_range h,bc h];simp [h]
 .rw [kQ (by simp;lia),kQ (by lia)];rfl
theorem KE {E:aj->ax->Prop}{l:ah}{vs:List aj}{Q:aj->ax->Prop}(hl:s.heap.IsList l vs.toArray) (h2:vs.length<2)
  (h:Q (.ref (s.heap.objs.size+1)) { s with heap:=sortedAll s.heap vs vs.toArray }):aY (bg prog w) A (call (.builtin "sorted") [.ref l]) Q E s:=by
 have hz:vs.length<=aT:=gB (m:=2) (by lia);refine Calls.call_function_entry kind_sorted plain_sorted entry_sorted (args_sorted1 _) (ar (m:=checkCount "sorted" 1 1 _) (aQ (ar (collect_list hl (ar (HH ?_ hz)) hz))));have e1:((s.heap.push (b9 "list" #[] 0)).update s.heap.objs.size (cD (·++vs.toArray))).objs.size=s.heap.objs.size+1:=(Heap.size_update ..).trans (size_push' ..);have g1:(((s.heap.push (b9 "list" #[] 0)).update s.heap.objs.size (cD (·++vs.toArray))).push (b9 "list" vs.toArray 0)).get? (s.heap.objs.size+1)=some (b9 "list" vs.toArray 0):=e1▸aZ _ rfl;have e0:(b9 "list" vs.toArray 0:jo)={ cls:=.type "list",data:=.seq vs.toArray }:=rfl;have hlt:s.heap.objs.size+1<(((s.heap.push (b9 "list" #[] 0)).update s.heap.objs.size (cD (·++vs.toArray))).push (b9 "list" vs.toArray 0)).objs.size:=aS g1
 show aY (bg prog w) A.in1 (do let _ ← qI [aB ((s.heap.push (b9 "list" #[] 0)).update s.heap.objs.size (cD (·++vs.toArray))).objs.size] (call (.builtin "list.sort") [aB ((s.heap.push (b9 "list" #[] 0)).update s.heap.objs.size (cD (·++vs.toArray))).objs.size]);ret (aB ((s.heap.push (b9 "list" #[] 0)).update s.heap.objs.size (cD (·++vs.toArray))).objs.size)) _ _ { s with heap:=((s.heap.push (b9 "list" #[] 0)).update s.heap.objs.size (cD (·++vs.toArray))).push (b9 "list" vs.toArray 0) }
 rw [e1];generalize hh:((s.heap.push (b9 "list" #[] 0)).update s.heap.objs.size (cD (·++vs.toArray))).push (b9 "list" vs.toArray 0)=hp at g1 hlt;unfold sortedAll at h;rw [hh] at h;refine ar (gf (z5 slot_list_sort ⟨_,g1,rfl⟩ entry_list_sort ?_ (args_list_sort _)));rw [list_sort_plain]
 obtain ⟨c1,g2⟩:∃ c1,(hp.update (s.heap.objs.size+1) (cD λ_=>#[])).get? (s.heap.objs.size+1)=some (b9 "list" #[] c1):=⟨_,Q0 g1 λ_=>#[]⟩
 refine ar (ME g1 rfl (ar (HI g1 rfl (ar (seqEpoch_at g2 rfl (ar (wpAny_newTuple (ar (HH (gf ?_) (dm _))) hz)))) (by rw [bu];exact hz) (dm _))));have g6:(((hp.update (s.heap.objs.size+1) (cD λ_=>#[])).push (b9 "tuple" vs.toArray 0)).push (b9 "list" #[] 0)).get? (s.heap.objs.size+1)=some (b9 "list" #[] c1):=aA _ (aA _ g2)
 have hn:vs.toArray.size<2:=by rw [bu];exact h2
 show aY (bg prog w) A.in1.in1 _ _ _ { s with heap:=((hp.update (s.heap.objs.size+1) (cD λ_=>#[])).push (b9 "tuple" vs.toArray 0)).push (b9 "list" #[] 0) }
 dsimp only;rw [if_pos hn,if_pos hn];refine ar (aQ ?_);rw [YL];refine ar (aQ ?_);dsimp only
 have es:(arrOf (SortSt.mk' general' (vs.toArray.zip vs.toArray) #[] 7 none)).map (·.2)=vs.toArray:=by
  show (vs.toArray.zip vs.toArray).map (·.2)=vs.toArray
  apply HA.mp
  simp;exact Zo (aE _)
 rw [es];refine ar (seqEpoch_at g6 rfl (ar (HI g6 rfl ?_ (dm _) (by rw [bu];exact vD hz))));simp only [bne_self_eq_false,iJ,if_false];exact aQ ⟨_,rfl,aQ ⟨_,rfl,h⟩⟩
end L2
namespace Zl
open PySem.W
section
variable {prog:bC}{w:cW}{A:dC}{E:aj->ax->Prop}{s:ax}{z TI TO i1 i2 l1 l2:ah}{xs ys:Array aj}{k:Nat}
end
end Zl
namespace L2
open PySem.W
variable {h h':dt}{H H':Hp}{X:Cx}{d r a:ah}{ks:List aj}{ep n:Nat}{w:cW}{Q:Option aj->ax->Prop}{T:String}{P:Nat->aj->Prop}{OK:dt->Prop}{tg:Expr}{tl:TE}{Z:St}{o:jo}{s:ax}
section
variable {pins:List (ah×jo)}
end
section
variable {x y:Expr}{t:TA}{p1 p2 q1 q2:yz}
end
def Di (h:dt) (d:ah) (ks:List aj) (ep:Nat):Prop:=∃ o es,h.get? d=some o/\o.ExactDict/\o.data=.dict es ep/\es.toList.map (·.key)=ks
theorem Di.at (x:Di h d ks ep) (k:∀ o,h.get? d=some o->h'.get? d=some o):Di h' d ks ep :=
 let ⟨o,es,e,r⟩:=x;⟨o,es,k o e,r⟩
theorem Di.lt (x:Di h d ks ep):d<h.objs.size:=let ⟨_,_,e,_⟩:=x;aS e
section
variable {prog:bC}{A:dC}{E:aj->ax->Prop}{it:ah}{i:Nat}
theorem Di.typeIs (x:Di s.heap d ks ep):s.TypeIs (.ref d) "dict":=let ⟨o,_,e,c,_⟩:=x;⟨o,e,c.1⟩
theorem FP {Q:aj->ax->Prop}(hd:(d == jM)=false) (x:Di s.heap d ks ep)
  (q:Q (.ref s.heap.objs.size) { s with heap:=s.heap.push { cls:=.type "dict_keyiterator",data:=.fields #[.ref d,.int 0 0,.int ks.length 0,.int ep 0] } }):aY (bg prog w) A (pyIter (.ref d)) Q E s:=by
 have hT:=x.typeIs;obtain ⟨o,es,e,c,da,hk⟩:=x
 have hs:es.size=ks.length:=by rw [← hk,ao,eA]
 refine wpAny_pyIter_slot hT F.slot_dict_iter (z5 F.slot_dict_iter hT F.entry_dict_iter ?_ (F.args_dict_iter_1 _));unfold YH.«dict.__iter__» Builtin.Dict.dictSlotNone;refine ar (ar (wpAny_notOrdered_dict hT ?_))
 show aY _ _ (pure (aB d)) _ _ s
 refine aQ ?_
 show aY _ _ (Jx d >>= _) _ _ s
 unfold Jx;rw [if_neg (by rw [hd];exact bF)];refine ar (aQ (ar (MF e da (ar (Q1 e da ?_)))));refine ar (mf (aQ ⟨_,rfl,"dict_keyiterator",_,⟨_,aZ _ rfl,rfl⟩,F.slot_dict_keyiterator_next.lookup,?_⟩))
 simpa [iT,hs] using q
theorem Ni {v:aj}(t:s.heap.IsKeyIter it d i ks.length ep) (x:Di s.heap d ks ep) (hv:ks[i]?=some v)
  (q:∀ h',h'.IsKeyIter it d (i+1) ks.length ep->yb it s.heap h'->Q (some v) { s with heap:=h' }):aY (bg prog w) A (OY (.ref it)) Q E s:=by
 have tt:=t.typeIs;obtain ⟨ob,g,gc,gd⟩:=id t;obtain ⟨o,es,e,c,da,hk⟩:=x
 have hs:es.size=ks.length:=by rw [← hk,ao,eA]
 have hi:i<es.size:=by rw [hs];exact (aP.mp hv).1
 have ev:es[i].key=v:=by
  rw [← hk,bO] at hv
  simpa [hi] using hv
 unfold OY;refine ar (yK (Xl (name:=aa "__next__") tt F.slot_dict_keyiterator_next (z5 F.slot_dict_keyiterator_next tt F.entry_dict_keyiterator_next ?_ (F.args_dict_keyiterator_next_1 _))));refine ar (aQ (ar (ar ?_)))
 first|refine ar (kR tt (aQ ?_))|refine ar (om tt (aQ ?_))
 refine ar (wpAny_fieldsOf g gd ?_);simp only [show ye "dict_keyiterator"=false by decide,iJ,if_false]
 show aY _ _ (if (aB d == dE)=true then _ else _) _ _ s
 rw [if_neg (show ¬ ((aB d == dE)=true) from bF)];refine ar (aQ (ar (MF e da ?_)));rw [if_neg (by rw [hs];simp)];refine ar (aQ (ar (Q1 e da ?_)));rw [if_neg (by simp)];refine aQ ?_;simp only [show ¬ ((i:Int)<0) from by lia,if_false,pB,uB hi];refine ar ?_
 first|refine ar (kR tt (aQ ?_))|refine ar (om tt (aQ ?_))
 refine ar (Zp tt ?_)
 show aY _ _ (Ul (.ref it) 1 (iT ((i:Int)+1)) >>= _) _ _ s
 refine ar (EU g gd (by simp) ?_)
 have t':(s.heap.update it (nJ (·.setIfInBounds 1 (iT ((i:Int)+1))))).IsKeyIter it d (i+1) ks.length ep :=
  ⟨_,qb _ g (UF (uC gd _)),(Obj.cls_mapFields ..).trans gc,by rw [uC gd];simp [iT]⟩
 refine ar (gf ?_);refine ar (Zp (s:={ s with heap:=s.heap.update it (nJ (·.setIfInBounds 1 (iT ((i:Int)+1)))) }) t'.typeIs ?_)
 show aY _ _ (pure es[i].key) _ _ _
 rw [ev];exact aQ (aQ ⟨_,rfl,aQ (q _ t' (pD ..))⟩)
theorem Rl (hh:A.handled=none) (hi:ks.length<=i) (t:s.heap.IsKeyIter it d i ks.length ep) (x:Di s.heap d ks ep) (q:∀ h',Heap.ExtBut it s.heap h'->Q none { s with heap:=h' }):aY (bg prog w) A (OY (.ref it)) Q E s:=by
 have tt:=t.typeIs;obtain ⟨ob,g,gc,gd⟩:=id t;obtain ⟨o,es,e,c,da,hk⟩:=x
 have hs:es.size=ks.length:=by rw [← hk,ao,eA]
 unfold OY;refine ar (yK (Xl (name:=aa "__next__") tt F.slot_dict_keyiterator_next (z5 F.slot_dict_keyiterator_next tt F.entry_dict_keyiterator_next ?_ (F.args_dict_keyiterator_next_1 _))));refine ar (aQ (ar (ar ?_)))
 first|refine ar (kR tt (aQ ?_))|refine ar (om tt (aQ ?_))
 refine ar (wpAny_fieldsOf g gd ?_);simp only [show ye "dict_keyiterator"=false by decide,iJ,if_false]
 show aY _ _ (if (aB d == dE)=true then _ else _) _ _ s
 rw [if_neg (show ¬ ((aB d == dE)=true) from bF)];refine ar (aQ (ar (MF e da ?_)));rw [if_neg (by rw [hs];simp)];refine ar (aQ (ar (Q1 e da ?_)));rw [if_neg (by simp)];refine aQ ?_;simp only [show ¬ ((i:Int)<0) from by lia,if_false,pB,Q2 (bU (Ub hs) hi)];refine ar ?_
 first|refine ar (kR tt (aQ ?_))|refine ar (om tt (aQ ?_))
 show aY _ _ (Ul (.ref it) 0 .none >>= _) _ _ s
 refine ar (EU g gd (by simp) ?_)
 show aY _ _ (newExc (.type "StopIteration") [] >>= _) _ _ _
 refine ar ?_;simp only [newExc,newTuple];refine ar (mf ?_ (by size_fits));refine ar (m:=firstArgMember _ _) (wpAny_of_eq (a:=dE) (by first|rfl|(simp only [firstArgMember];rfl)) ?_);refine mf ?_ (by size_fits);simp only [raiseNew];refine ar (wpAny_handled ?_);rw [show A.in1.handled=none from hh];refine ar (aQ (wpAny_throw ?_));refine ar (wpAny_isInstance (T:="StopIteration") (b:=true) ⟨_,aZ _ rfl,rfl⟩ isSubtype_stop ?_);exact aQ (q _ (((pD ..).extBut.push _).push _))
theorem SM (hh:A.handled=none) (I d:ah) (hne:d≠I) (ks:List aj) (ep:Nat):Walks prog w A I [I,d] [I] ks.length (λi v=>ks[i]?=some v) (λi h=>h.IsKeyIter I d i ks.length ep/\Di h d ks ep) where
 sub:=λb hb=>by simp at hb;simp [hb]
 frame:=λ_ _ _ st hk=>⟨st.1.at λo e=>hk I (by simp) o e,st.2.at λo e=>hk d (by simp) o e⟩
 item:=λi s Q E hi st hQ=>by
  have hv:ks[i]?=some ks[i]:=bc hi;refine Ni st.1 st.2 hv λh' t' hs'=>hQ _ h' s.toks hv ⟨t',st.2.at λo e=>hs'.extBut d o hne e⟩ λb o hb e=>hs'.extBut b o (λh=>hb (by simp [h])) e
 done:=λs Q E st hQ=>Rl hh (aE _) st.1 st.2 λh' he=>hQ h' s.toks λb o hb e=>he b o (λh=>hb (by simp [h])) e
 self:=λ_ _ _ _ st hQ=>ET st.1 hQ
theorem X5 (lo:(d == jM)=false):KdlSrc prog w "dict" d d ks.length (λi v=>ks[i]?=some v) (λh=>Di h d ks ep) where
 type:=λ_ x=>x.typeIs
 there:=λ_ x=>⟨x.lt,x.lt⟩
 keep:=λ_ _ x hk=>x.at λo e=>hk d (.inl rfl) o e
 notList:=by decide
 notTuple:=by decide
 hint:=λ_ _ _ _ x hq=>kdl_hint_dict x.typeIs hq
 iter:=λ_ _ hh x=>⟨_,_,(λ_ _ hq=>FP lo x hq),SM hh _ d (bb x.lt) ks ep,⟨⟨_,aZ _ rfl,rfl,rfl⟩,x.at λo e=>aA _ e⟩⟩
theorem Vh {S:ah}{R:Result->ax->Prop}(K:KdlSrc prog w T r d n P OK) (hh:A.handled=none) (ok:OK s.heap) (h1:S≠r) (h2:S≠d) (hn:n<=aT) (g:s.heap.get? S=some { cls:=.type "list",data:=.seq #[] 0 })
  (q:∀ h' tk acc' c',(∀ b o,b≠S->s.heap.get? b=some o->h'.get? b=some o)->h'.get? S=some { cls:=.type "list",dict:=none,data:=.seq acc' c',slots:=#[] }->ItemsOf P acc' n->R (.ok (.ret (.ref S))) { s with heap:=h',toks:=tk }) :
  sO (bg prog w) A (.builtin "list.__iadd__" ⟨[.ref S,.ref r],[]⟩) R s:=by
 refine codeAny_builtin F.entry_list_iadd ?_;rw [Sj F.plain_list_iadd _];exact kdl_extend K hh ok S h1 h2 (.ref S) 0 g q hn
theorem Nj {Q:List aj->ax->Prop}(K:KdlSrc prog w T r d n P OK) (hh:A.handled=none) (ok:OK s.heap) (hn:n<=aT)
  (q:∀ h' tk acc,(∀ b o,s.heap.get? b=some o->h'.get? b=some o)->ItemsOf P acc n->Q acc.toList { s with heap:=h',toks:=tk }):aY (bg prog w) A (collect (.ref r)) Q E s:=by
 have th:=K.there _ ok;unfold collect;refine ar (wpAny_runValue (codeAny_builtin F.entry_proto_collect ?_));rw [Sj F.plain_proto_collect _]
 show aY _ A.in1 (newList [] >>= λl=>again (.builtin "list.__iadd__" ⟨[l,.ref r],[]⟩)) _ _ s
 have g:(s.heap.push { cls:=.type "list",data:=.seq ([]:List aj).toArray }).get? s.heap.objs.size=some { cls:=.type "list",data:=.seq #[] 0 }:=aZ _ rfl;refine ar (mf (aQ ⟨plainId_quiet F.plain_list_iadd _,Vh (s:={ s with heap:=s.heap.push { cls:=.type "list",data:=.seq ([]:List aj).toArray } }) K hh (K.keep _ _ ok λb _ o e=>aA _ e) (yD th.1) (yD th.2) hn g λh' tk acc' c' hk hS hacc=>?_⟩))
 show aY _ A (load s.heap.objs.size >>= _) _ _ { s with heap:=h',toks:=tk }
 refine ar (wpAny_load hS (aQ (q h' tk acc' (λb o e=>hk b o (bb (aS e)) (aA _ e)) hacc)))
theorem Vi {acc:Array aj}(h:ItemsOf (λi v=>ks[i]?=some v) acc ks.length):acc.toList=ks:=by
 apply Fo
 intro j
 cases e:acc.toList[j]? with
 | some v=>exact (h.2 j v (by rw [← kO];exact e)).symm
 | none =>
  have:ks.length<=j:=by have:=O0.mp e;rw [eA,h.1] at this;exact this
  exact (kQ this).symm
end
theorem Paired.at {α β:Type} {F:α->β->Prop}{l₁:List α} {l₂:List β} (r:Paired F l₁ l₂):∀ {i:Nat}{a:α},l₁[i]?=some a->∃ b,l₂[i]?=some b/\F a b:=by
 induction r with
 | nil=>intro i a e;simp at e
 | cons h t ih =>
  intro i a e
  cases i with
  | zero =>
   simp only [vR,rQ] at e;subst e
   exact ⟨_,rfl,h⟩
  | succ i=>exact ih (by simpa using e)
theorem Paired.len {α β:Type} {F:α->β->Prop}{l₁:List α} {l₂:List β} (r:Paired F l₁ l₂):l₁.length=l₂.length:=by
 induction r with
 | nil=>rfl
 | cons h t ih=>simp [ih]
def ItT (a:ah) (kvs:List (List ig×V)) (o:jo):It :=
 ⟨λi H=>i<kvs.length/\H a=some (.frz o (.dT kvs)),λi H x H'=>H'=H/\∃ k v b,kvs[i]?=some (k,v)/\x=.ref b/\H b=some (.tup (k.map kV)),λi H=>kvs.length<=i/\H a=some (.frz o (.dT kvs))⟩
theorem Ro {P:bC}{K:ae}(a it:ah) (o:jo) (kvs:List (List ig×V)) (es:Array DictEntry) (ep:Nat) (hx:o.ExactDict) (hd:o.data=.dict es ep) (hl:es.size=kvs.length) :
  Po P w K tg (ItT a kvs o) [it] it (λi h=>h.IsKeyIter it a i (es.toList.map (·.key)).length ep) where
 mem:=by simp
 obj:=λi h st b hb=>by
  have e:b=it:=by simpa using hb
  subst e;obtain ⟨o,e,c,d⟩:=st;exact ⟨o,e,λv z=>by rw [d] at z;cases z⟩
 keep:=λi h h' st k=>st.at λo e=>k it (by simp) o e
 item:=by
  intro X hP hw hK hc i pins s Z H E I hf st hg;subst hP hw hK;obtain ⟨hlt,hq⟩:=hg
  obtain ⟨e0,_,_,xs,rel,o',es',ep',e1,e2,e3,e4,e5⟩:=(show fq X.prog X.w H s.heap a (.frz o (.dT kvs)) from I.eY a _ hq)
  rw [e0] at e1;cases e1;rw [hd] at e3
  injection e3 with e3 e3'
  subst e3 e3'
  obtain ⟨⟨k,v⟩,hkv⟩:∃ p,kvs[i]?=some p:=⟨kvs[i],by simp [hlt]⟩
  obtain ⟨q,hq2,rq⟩:=L2.Paired.at rel hkv
  have hkey:(es.toList.map (·.key))[i]?=some (.ref q.2.1):=by rw [e4,dj,bO,hq2];rfl
  obtain ⟨f0,f1,f2,f3,f4,f5⟩:=hf it (by simp);refine Ni st ⟨o,es,e0,hx,hd,rfl⟩ hkey λh' st' sb=>?_;have I1:Inv X pins Z H { s with heap:=h' }:=I.turned (t':=s.toks) (λb o hb e=>(sb.2 b hb).trans e) f0 f1 f3 f4 f5;obtain ⟨o',e,c,d⟩:=id st';exact ⟨_,rfl,JB (s:={ s with heap:=h' }) e c d (by decide) ⟨.ref q.2.1,H,I1,rfl,⟨rfl,k,v,q.2.1,hkv,rfl,rq.2.1⟩,st',λb hb=>(hf b hb).1⟩⟩
 done:=by
  intro X hP hw hK hc i pins s Z H E I hf st hg;subst hP hw hK;obtain ⟨hle,hq⟩:=hg
  obtain ⟨e0,_⟩:=(show fq X.prog X.w H s.heap a (.frz o (.dT kvs)) from I.eY a _ hq)
  obtain ⟨f0,f1,f2,f3,f4,f5⟩:=hf it (by simp)
  have hn:(es.toList.map (·.key)).length=kvs.length:=by rw [ao,eA,hl]
  exact Rl (I.ok.hd hc) (by lia) st ⟨o,es,e0,hx,hd,rfl⟩ λh' eb=>⟨rfl,I.turned (t':=s.toks) (λb o hb e=>eb b o hb e) f0 f1 f3 f4 f5⟩
 self:=λ_ _ _ _ _ st h=>ET st h
def iDT (tl:TE):TI:=λZ H R=>tl Z H λx H1=>∃ a kvs,x=.ref a/\((H1 a=some (.dT kvs)/\∀ o,R (ItT a kvs o) (upd H1 a (.frz o (.dT kvs))))\/∃ o,H1 a=some (.frz o (.dT kvs))/\R (ItT a kvs o) H1)
theorem abS {R:It->Hp->Prop}(h:tl Z H λx H1=>∃ a kvs,x=.ref a/\((H1 a=some (.dT kvs)/\∀ o,R (ItT a kvs o) (upd H1 a (.frz o (.dT kvs))))\/∃ o,H1 a=some (.frz o (.dT kvs))/\R (ItT a kvs o) H1)):iDT tl Z H R:=h
theorem abT {l:Expr}(hl:PE X l tl):PI X tg l (iDT tl):=by
 intro pins s Z H R I h;refine gJ (hl pins s Z H _ I h) λv s1 ⟨x,H1,I1,r1,q1⟩=>?_;obtain ⟨a,kvs,e,q1⟩:=q1;subst e;cases r1
 rcases q1 with ⟨hq,q⟩|⟨ob,hq,q⟩
 rotate_left
 .obtain ⟨ho,hz,hsys,xs,rel,ob',es,ep,ho',hx,hd,he,hn⟩:=(show fq X.prog X.w H1 s1.heap a (.frz ob (.dT kvs)) from I1.eY a _ hq)
  rw [ho] at ho';cases ho'
  have hl:es.size=kvs.length:=by rw [← eA,he,ao,Paired.len rel]
  refine FP hsys ⟨ob,es,ho,hx,hd,rfl⟩ ?_;refine ⟨s1.heap.objs.size,[s1.heap.objs.size],_,_,_,rfl,I1.kept (t':=s1.toks) λb o e=>aA _ e,Ro a _ ob kvs es ep hx hd hl,⟨_,aZ _ rfl,rfl,rfl⟩,λb hb=>?_,q⟩
  have e:b=s1.heap.objs.size:=by simpa using hb
  subst e;exact I1.Jt (aE _) (I1.eY.fresh (aE _))
 obtain ⟨hz,hsys,xs,rel,ob,es,ep,ho,hx,hd,he,hn⟩:=(show fq X.prog X.w H1 s1.heap a (.dT kvs) from I1.eY a _ hq)
 have un:Un X.fs [] H1 (upd H1 a (.frz ob (.dT kvs))) s1.heap s1.heap:=by
  have hne:∀ b u,H1 b=some u->u≠.dT kvs->b≠a:=λb u e n z=>by subst z;rw [hq] at e;exact n (aD e).symm
  refine ⟨λb o e _ _ _=>e,λb o e _ _ _=>⟨o.slots,e⟩,λb o e n _=>?_,λb o e _=>⟨o,e⟩,λb ys e=>?_,λb o u e=>?_,λb ps e=>?_⟩
  .rw [aI (λz=>by subst z;rw [hq] at n;cases n)];exact n
  .rw [aI (hne b _ e (by intro z;cases z))];exact e
  .rw [aI (hne b _ e (by intro z;cases z))];exact e
  .exact ⟨#[],by rw [aI (hne b _ e (by intro z;cases z)),e];simp⟩
 have nt:∀ c ys,H1 c=some (.tup ys)->(upd H1 a (.frz ob (.dT kvs))) c=some (.tup ys):=λc ys q0=>by
  rw [aI (λz=>by rw [z,hq] at q0;cases q0)];exact q0
 have eY:vN X.prog X.w (upd H1 a (.frz ob (.dT kvs))) s1.heap:=λb u e=>by
  by_cases hb:b=a
  .subst hb;rw [aH] at e;cases e;exact ⟨ho,hz,hsys,xs,Paired.TY rel λp q z=>⟨z.1,nt _ _ z.2.1,z.2.2⟩,ob,es,ep,ho,hx,hd,he,hn⟩
  .rw [aI hb] at e;refine (I1.eY b u e).yx (λc v _ q=>q) (λc q0=>?_) nt;rw [aI (λz=>by rw [z,hq] at q0;cases q0)];exact q0
 have I2:Inv X pins Z (upd H1 a (.frz ob (.dT kvs))) { s1 with heap:=s1.heap,toks:=s1.toks }:=I1.un un eY
 have hl:es.size=kvs.length:=by rw [← eA,he,ao,Paired.len rel]
 refine FP hsys ⟨ob,es,ho,hx,hd,rfl⟩ ?_;refine ⟨s1.heap.objs.size,[s1.heap.objs.size],_,_,_,rfl,I2.kept (t':=s1.toks) λb o e=>aA _ e,Ro a _ ob kvs es ep hx hd hl,⟨_,aZ _ rfl,rfl,rfl⟩,λb hb=>?_,q ob⟩
 have e:b=s1.heap.objs.size:=by simpa using hb
 subst e;exact I2.Jt (aE _) (I2.eY.fresh (aE _))
def aal (H:Hp) (Q:VK):VK:=λx H'=>Q x H'\/∃ a o kvs,(∀ o' u',H a≠some (.frz o' u'))/\H' a=some (.frz o (.dT kvs))/\Q x (upd H' a (.dT kvs))
theorem Un.T6 {fs ex:List ah}{kvs:List (List ig×V)}(u:Un fs ex H H' h h') (hn:∀ o' u',H a≠some (.frz o' u')) (ha:H' a=some (.frz o (.dT kvs))):Un fs ex H (upd H' a (.dT kvs)) h h' where
 keep:=u.keep
 slot:=u.slot
 free:=λb ob e n hx=>by
  have q:=u.free b ob e n hx;rw [aI (λz=>by rw [z,ha] at q;cases q)];exact q
 there:=u.there
 vd:=λb xs e=>by
  have q:=u.vd b xs e;rw [aI (λz=>by rw [z,ha] at q;cases q)];exact q
 uv:=λb ob w e=>by
  have q:=u.uv b ob w e;rw [aI (λz=>hn ob w (by rw [← z];exact e))];exact q
 ux:=λb ps e=>by
  obtain ⟨more,q⟩:=u.ux b ps e;exact ⟨more,by rw [aI (λz=>by rw [z,ha] at q;cases q)];exact q⟩
theorem vN.T6 {P:bC}{kvs:List (List ig×V)}(k:vN P w H h) (ha:H a=some (.frz o (.dT kvs))):vN P w (upd H a (.dT kvs)) h:=by
 have nt:∀ c ys,H c=some (.tup ys)->(upd H a (.dT kvs)) c=some (.tup ys):=λc ys q0=>by
  rw [aI (λz=>by rw [z,ha] at q0;cases q0)];exact q0
 intro b u e
 by_cases hb:b=a
 .subst hb;rw [aH] at e;cases e
  obtain ⟨_,hz,hsys,xs,rel,ob,es,ep,r⟩:=(show fq P w H h b (.frz o (.dT kvs)) from k b _ ha)
  exact ⟨hz,hsys,xs,Paired.TY rel λp q z=>⟨z.1,nt _ _ z.2.1,z.2.2⟩,ob,es,ep,r⟩
 .rw [aI hb] at e;refine (k b u e).yx (λc v _ q=>q) (λc q0=>?_) nt;rw [aI (λz=>by rw [z,ha] at q0;cases q0)];exact q0
end L2
namespace BootT
end BootT
namespace L2
open PySem.W
variable {w:cW}{X:Cx}
theorem cI.T6 {P:bC}{K:ae}{mg:aL->Option aj}{base:dt}{CX:Ko}{k:Nat}{f:ah}{fd:fv}{ps:List aL}{sp sp':Sp}(F:cI P w K mg base CX k f fd ps sp')
  (h:∀ vs H Q E,sp vs H Q E->sp' vs H (aal H Q) E):cI P w K mg base CX k f fd ps sp:=by
 refine ⟨λvs H Q E q=>F.len vs H _ E (h _ _ _ _ q),λA outer s H args us vs Q E hr he hb hv hs=>?_⟩;refine qL (F.run A outer s H args us vs _ E hr he hb hv (h _ _ _ _ hs)) λr s' q=>?_
 cases r with
 | error e=>exact q
 | ok fl =>
  cases fl with
  | ret u =>
   obtain ⟨v,H',h1,h2,h3,h4,h5,q⟩:=(show CE outer P w H s (aal H Q) u s' from q)
   rcases q with q|⟨a,o,kvs,hn,ha,q⟩
   .exact (show CE outer P w H s Q u s' from ⟨v,H',h1,h2,h3,h4,h5,q⟩)
   .exact (show CE outer P w H s Q u s' from ⟨v,_,h1,h2,h3.T6 hn ha,h4.T6 ha,h5,q⟩)
  | _=>exact q
theorem Dw {κ:Type} [DecidableEq κ] {k:κ}{v:V}:∀ {kvs:List (κ×V)}{j:Nat},(kvs.map (·.1)).Nodup->kvs[j]?=some (k,v)->iL kvs k=some v
 | [],j,_,e=>by simp at e
 | p::r,0,hn,e=>by
  simp only [vR,rQ] at e;subst e
  exact vW rfl
 | p::r,j+1,hn,e=>by
  simp only [List.getElem?_cons_succ] at e;have h1:=(eO.mp hn).1;have hm:k∈r.map (·.1):=cQ.mpr ⟨_,b8 e,rfl⟩;have hne:¬ p.1=k:=λz=>h1 (by rw [show (λx:κ×V=>x.1) p=k from z];exact hm);rw [tU hne];exact Dw (eO.mp hn).2 e
namespace Rv
section
variable {prog:bC}{A:dC}{E:aj->ax->Prop}{s:ax}{I l:ah}
end
end Rv
section
variable {x:Expr}{t:TA}{p1 p2 q1 q2:yz}
end
end L2
namespace Sw
open PySem
end Sw
namespace Sw
section
variable {prog:bC}{w:cW}
variable {A:dC}{E:aj->ax->Prop}{s:ax}
end
end Sw
namespace Sw
section
variable {prog:bC}{w:cW}{A:dC}{E:aj->ax->Prop}{s:ax}
end
end Sw
namespace Sw
section
variable {prog:bC}{w:cW}{A:dC}{E:aj->ax->Prop}{s:ax}{it a:ah}{es:Array (Int×aj)}{ep n:Nat}{t:SetTable}
end
end Sw
namespace Sw
section
variable {prog:bC}{w:cW}{A:dC}{E:aj->ax->Prop}{s:ax}{it a:ah}{es:Array (Int×aj)}{ep n:Nat}{t:SetTable}
end
end Sw
namespace Sw
open PySem.W
section
variable {prog:bC}{w:cW}{A:dC}{E:aj->ax->Prop}{s:ax}{a:ah}
end
end Sw
namespace L2
open PySem.W
section
variable {X:Cx}{x:Expr}{t:TA}{p1 p2 q1 q2:yz}
end
section
variable {X:Cx}
end
end L2
namespace L2
variable {K:ae}{k i:Nat}{H:Hp}{x qual q:aL}{A:dC}{w:cW}{h base h':dt}{P:bC}{f a C D:ah}{X:Cx}{mg:aL->Option aj}{s:ax}{ps N:List aL}{E:XK}{st:dw}{Z:St}{pos p np cpos:yz}{sp:Sp}{fd:fv}{scope:uE}{cd cls kV pm ct oc:aj}{o:jo}{pins:List (ah×jo)}{sl:Array (Option aj)}{outer:List xC}{e:Expr}{es:List Expr}{t:TA}{M:Model}{Q:Unit->ax->Prop}{pl:MM Bool}
def Kp (h h':dt):Prop:=∀ b o,h.get? b=some o->∃ o',h'.get? b=some o'/\o'.cls=o.cls/\o'.dict=o.dict
theorem Kp.refl (h:dt):Kp h h:=λb o e=>⟨o,e,rfl,rfl⟩
theorem Kp.trans {h1 h2:dt}(a:Kp h h1) (b:Kp h1 h2):Kp h h2:=λc o e=>by
 obtain ⟨o1,e1,p1,q1⟩:=a c o e;obtain ⟨o2,e2,p2,q2⟩:=b c o1 e1;exact ⟨o2,e2,p2.trans p1,q2.trans q1⟩
inductive Quiet {α:Type}:MM α->Prop where
 | pure (a:α):Quiet (.pure a)
 | unsup (w:String):Quiet (.unsupported w)
 | load {a:ah}{p:Option aj}{k:jo->MM α}(h:∀ o,Quiet (k o)):Quiet (.load a p k)
 | update {a:ah}{p:Option aj}{f:jo->jo}{k:Unit->MM α}(hf:∀ o,(f o).cls=o.cls/\(f o).dict=o.dict/\(o.isFreed=false->(f o).isFreed=false)) (h:Quiet (k ())):Quiet (.update a p f k)
 | alloc {o:jo}{k:ah->MM α}(h:∀ a,Quiet (k a)):Quiet (.alloc o k)
 | stack {k:List (Code×yz)->MM α}(h:∀ x,Quiet (k x)):Quiet (.stack k)
theorem Quiet.bind {α β:Type} {t:MM α}{f:α->MM β}(ht:Quiet t) (hf:∀ a,Quiet (f a)):Quiet (t.bind f):=by
 induction ht with
 | pure a=>exact hf a
 | unsup w=>exact .unsup w
 | load h ih=>exact .load ih
 | update h1 h2 ih=>exact .update h1 ih
 | alloc h ih=>exact .alloc ih
 | stack h ih=>exact .stack ih
theorem Quiet.bind' {α β:Type} {t:MM α}{f:α->MM β}(ht:Quiet t) (hf:∀ a,Quiet (f a)):Quiet (t >>= f):=ht.bind hf
theorem SN {b:ah}(e:h.get? b=some o):o.isFreed=false:=by
 unfold Heap.get? at e
 split at e
 .cases e
 .rename_i x hx
  obtain ⟨c,d,da,sl⟩:=o
  cases da with
  | freed=>exact absurd e (hx c d sl)
  | _=>rfl
theorem SO {f:jo->jo}(hf:∀ o,(f o).cls=o.cls/\(f o).dict=o.dict/\(o.isFreed=false->(f o).isFreed=false)):Kp h (h.update a f):=λb o e=>by
 by_cases hb:b=a
 .subst hb;exact ⟨f o,qb f e ((hf o).2.2 (SN e)),(hf o).1,(hf o).2.1⟩
 .exact ⟨o,by rw [j9 _ _ (Ne.symm hb)];exact e,rfl,rfl⟩
theorem X6:Kp h (h.push o):=λb u e=>⟨u,aA o e,rfl,rfl⟩
theorem Quiet.wp {α:Type} {t:MM α}(ht:Quiet t) {M:Model}{Γ:PySem.Ctx}:∀ {Q:α->yz->ax->Prop}{E:aj->yz->ax->Prop}{p:yz}{s:ax},Sem.wp M Γ t Q E p s->Sem.wp M Γ t (λa p' s'=>Q a p' s'/\Kp s.heap s'.heap) E p s:=by
 induction ht with
 | pure a=>intro Q E p s h;exact ⟨h,Kp.refl _⟩
 | unsup w=>intro Q E p s h;exact h
 | load h ih=>intro Q E p s h;obtain ⟨o,e,q⟩:=h;exact ⟨o,e,ih o q⟩
 | update hf h ih =>
  intro Q E p s h;obtain ⟨e,q⟩:=h
  exact ⟨e,Sem.wp_mono _ _ _ (λx p' s' z=>⟨z.1,(SO hf).trans z.2⟩) (λ_ _ _ z=>z) _ _ (ih q)⟩
 | alloc h ih=>intro Q E p s h;exact Sem.wp_mono _ _ _ (λx p' s' z=>⟨z.1,X6.trans z.2⟩) (λ_ _ _ z=>z) _ _ (ih _ h)
 | stack h ih=>intro Q E p s h;exact ih _ h
theorem jt {α:Type} {t:MM α}(ht:Quiet t) {M:Model}{A:dC}{Q:α->ax->Prop}{E:aj->ax->Prop}{s:ax}(h:aY M A t Q E s):aY M A t (λa s'=>Q a s'/\Kp s.heap s'.heap) E s :=
 λΓ p hΓ=>ht.wp (h Γ p hΓ)
theorem PJ (a:ah):Quiet (load a):=.load λo=>.pure o
theorem KF:Quiet stack:=.stack λx=>.pure x
theorem Vj (v:aj):Quiet (fieldsOf v):=by
 unfold fieldsOf
 split
 .refine (PJ _).bind' λo=>?_
  split
  .exact .pure _
  .exact .unsup _
 .exact .unsup _
theorem EZ (v:aj) (i:Nat):Quiet (field v i):=by
 unfold field;refine (Vj v).bind' λo=>?_
 split
 .exact .pure _
 .exact .unsup _
theorem SQ (g:Array aj->Array aj) (o:jo):(nJ g o).cls=o.cls/\(nJ g o).dict=o.dict/\(o.isFreed=false->(nJ g o).isFreed=false):=by
 obtain ⟨c,d,da,sl⟩:=o
 cases da<;>first|exact ⟨rfl,rfl,λz=>z⟩|exact ⟨rfl,rfl,λ_=>rfl⟩
theorem zu (v:aj) (i:Nat) (x:aj):Quiet (Ul v i x):=by
 unfold Ul
 split
 .unfold updateField;refine (PJ _).bind' λo=>?_
  split
  .split
   .exact .update (SQ _) (.pure _)
   .exact .unsup _
  .exact .unsup _
 .exact .unsup _
theorem Nk:Quiet frameEnvs:=KF.bind' λ_=>.pure _
theorem Vk (env:xC) (outer:List xC):Quiet (behindIsImport env outer):=by
 unfold behindIsImport
 split
 .exact .pure _
 .split
  .exact .pure _
  .exact (EZ _ _).bind' λ_=>.pure _
theorem aam (env:xC) (b:Bool) (outer:List xC):Quiet (keptBack env b outer):=by
 unfold keptBack
 split
 .split
  .exact .pure _
  .exact (KF.bind' λ_=>.pure _:Quiet underTheClaimsCaller).bind' λ_=>.pure _
 .exact .pure _
theorem Rp:∀ l:List xC,Quiet (readyFrames l)
 | []=>by rw [O1];exact .pure _
 | env::outer=>by
  rw [O1];simp only
  split
  .refine (PJ _).bind' λo=>?_
   split
   .exact .pure _
   .refine (Vk _ _).bind' λ_=>?_;refine (aam _ _ _).bind' λ_=>?_;refine Quiet.bind' (.update (λo=>⟨rfl,rfl,λz=>?_⟩) (.pure _)) λ_=>Rp outer;obtain ⟨c,d,da,sl⟩:=o
    cases da<;>first|exact z|rfl|(unfold Obj.isFreed at z ⊢;exact z)
  .exact .unsup _
theorem PK (l:List xC):Quiet (frameObject l):=by
 unfold frameObject
 split
 .exact .pure _
 .exact (Rp _).bind' λ_=>.pure _
theorem SR (env:xC):Quiet (Bz env):=by
 unfold Bz;refine Nk.bind' λ_=>?_;refine (PK _).bind' λ_=>?_
 split
 .exact .pure _
 .exact .unsup _
theorem X7 (f:ah) (b:Bool):Quiet (YM f b):=by
 unfold YM;refine KF.bind' λ_=>?_
 split
 .exact .pure _
 .exact .pure _
theorem Vl (ty:String) (d:Data) (x:Option ah):Quiet (newObjAsIs (.type ty) d x):=by
 unfold newObjAsIs;exact Quiet.bind' (.alloc λ_=>.pure _) λ_=>.pure _
theorem X8 (a b c d e:aj) (p:List aj):Quiet (yf a b c d e p):=by
 unfold yf newFields;generalize ([a,b,c,d,e]++if p.isEmpty=true then cm 6 dE else p)=vs;unfold newObj;simp only
 split
 .exact Quiet.bind' (.unsup _) λ_=>Vl _ _ _
 .exact Vl _ _ _
theorem PL (v:aj) (env:xC):Quiet (rW v env):=by
 unfold rW
 split
 .refine (EZ _ _).bind' λhead=>?_
  have jp:∀ f,Quiet (do
    let x ← Bz env
    let y ← YM f (head != dE)
    let z ← yf head x dE (iT ↑f) dE y
    Ul v 1 z):=λf=>by
   refine (SR _).bind' λ_=>?_;refine (X7 _ _).bind' λ_=>?_;refine (X8 _ _ _ _ _ _).bind' λ_=>zu _ _ _
  split
  .refine (EZ _ _).bind' λ_=>?_
   split
   .exact .pure _
   .exact (zu _ _ _).bind' λ_=>jp _
  .exact jp _
 .exact .unsup _
theorem Ai (v:aj) (f:Option ah):Quiet (O2 v f):=by
 unfold O2;refine (EZ _ _).bind' λ_=>?_
 split
 .exact zu _ _ _
 .exact .pure _
theorem BE (env:xC) (v:aj):Quiet (YG env v):=(PL _ _).bind' λ_=>Ai _ _
theorem fq.at {o:HO}(x:fq P w H h a o):∃ u,h.get? a=some u:=by
 cases o with
 | lst xs=>obtain ⟨_,_,_,_,e⟩:=x;exact ⟨_,e⟩
 | tup xs=>obtain ⟨_,_,_,o,e,_⟩:=x;exact ⟨_,e⟩
 | dK kvs=>obtain ⟨_,_,_,_,o,_,_,e,_⟩:=x;exact ⟨_,e⟩
 | dT kvs=>obtain ⟨_,_,_,_,o,_,_,e,_⟩:=x;exact ⟨_,e⟩
 | set S n=>obtain ⟨o,_,_,_,e,_⟩:=x;exact ⟨_,e⟩
 | ins C dx fs=>obtain ⟨_,_,_,e,_⟩:=x;exact ⟨_,e⟩
 | own y=>obtain ⟨_,e⟩:=x;exact ⟨_,e⟩
 | xd fs=>obtain ⟨_,⟨_,_,_,e,_⟩,_⟩:=x;exact ⟨_,e⟩
 | rng lo hi=>obtain ⟨_,_,_,e⟩:=x;exact ⟨_,e⟩
 | frz ob u=>obtain ⟨e,_⟩:=x;exact ⟨_,e⟩
 | tbl ps=>exact ⟨_,(show h.get? a=some _ from x)⟩
 | met f y=>exact ⟨_,(show h.get? a=some _ from x)⟩
 | ext φ=>obtain ⟨_,⟨_,e⟩,_⟩:=x;exact ⟨_,e⟩
structure Fly (P:bC) (w:cW) (st:List xC) (H:Hp) (s:ax) (H2:Hp) (a:ah) (B h:dt):Prop where
 un:Un (sJ st) [] H H2 s.heap h
 eY:vN P w H2 h
 stays:B.StaysIn h
 has:∀ b o,H2 b=some o->∃ u,B.get? b=some u
 old:∀ b o,s.heap.get? b=some o->b∉sJ st->∃ u,B.get? b=some u
 no:B.get? a=none
 dict:∃ o,h.get? a=some o/\o.dict=none
section
variable {st:List xC}{H2:Hp}{B:dt}
theorem Fly.step (F:Fly P w st H s H2 a B h) (hf:∀ b∈sJ st,H b=none/\∃ o,s.heap.get? b=some o/\∀ vs,o.data≠.fields vs) (us:h.UpToSlots h') (sy:B.StaysIn h') (kp:Kp h h'):Fly P w st H s H2 a B h':=by
 have keep:∀ b o u,B.get? b=some u->h.get? b=some o->h'.get? b=some o:=λb o u e1 e2=>by
  have:=F.stays b u e1;rw [e2] at this;cases this;exact sy b _ e1
 have slot:∀ b o,s.heap.get? b=some o->H b=none->b∈sJ st->∃ sl,h'.get? b=some { o with slots:=sl }:=λb o e n hb=>by
  obtain ⟨sl,e1⟩:=F.un.slot b o e n hb (by simp);obtain ⟨_,o',e',nd⟩:=hf b hb;rw [e] at e';cases e';obtain ⟨sl',e2⟩:=us b { o with slots:=sl } e1 nd;exact ⟨sl',e2⟩
 refine ⟨⟨λb o e n hb _=>?_,λb o e n hb _=>slot b o e n hb,λb o e n _=>F.un.free b o e n (by simp),λb o e _=>?_,F.un.vd,F.un.uv,F.un.ux⟩,λb o e=>?_,sy,F.has,F.old,F.no,?_⟩
 .obtain ⟨u,hu⟩:=F.old b o e hb;exact keep b o u hu (F.un.keep b o e n hb (by simp))
 .by_cases hb:b∈sJ st
  .obtain ⟨sl,e1⟩:=slot b o e (hf b hb).1 hb;exact ⟨_,e1⟩
  .obtain ⟨u,hu⟩:=F.old b o e hb;exact ⟨u,sy b u hu⟩
 .refine (F.eY b o e).yx (λc v hc r=>?_) (λ_ z=>z) λ_ _ z=>z
  obtain ⟨u,hu⟩:∃ u,B.get? c=some u:=by
   rcases hc with rfl|hc
   .exact F.has _ o e
   .exact F.has _ _ hc
  exact keep c v u hu r
 .obtain ⟨o,e,d⟩:=F.dict;obtain ⟨o',e',_,d'⟩:=kp a o e;exact ⟨o',e',d'.trans d⟩
end
def kd (P:bC) (w:cW):Ko:=λouter H s E e s'=>∃ (a:ah) (cls a0:aj) (B:dt) (H2:Hp),e=.ref a/\s'.os=s.os/\ve s'.gens/\B.FlyingW outer a cls a0 s'.heap/\Fly P w outer H s H2 a B s'.heap/\E cls none H2
theorem qU (I:Inv X pins Z H s):∀ b∈sJ X.stack,H b=none/\∃ o,s.heap.get? b=some o/\∀ vs,o.data≠.fields vs:=λb hb=>⟨I.Fe b hb,(I.stack.mem hb).2⟩
section
variable {E':XK}
theorem SS {H1:Hp}{s1:ax}{args:List aj}(I:Inv (jz (kd P w) P w K mg base N qual scope f cd A outer s H E) pins Z H1 s1) (mk:s1.heap.MadeExcOf h' a cls args) (q:E cls none H1) :
  (jz (kd P w) P w K mg base N qual scope f cd A outer s H E).xe (.ref a) { s1 with heap:=h' }:=by
 have hL:∀ b o,s.heap.get? b=some o->b≠s.heap.objs.size:=λb o e=>bb (aS e)
 have hfr:∀ b o,s.heap.get? b=some o->b∉sJ outer->b∉sJ (lz qual scope s.heap.objs.size f cd::outer):=λb o e hb z=>by
  rcases az.mp (show b∈s.heap.objs.size::sJ outer from z) with z|z
  .exact hL b o e z
  .exact hb z
 have YU:∀ b o u,H1 b=some o->s1.heap.get? b=some u->(cG s1.heap (sJ (lz qual scope s.heap.objs.size f cd::outer))).get? b=some u:=λb o u e r =>
  hV _ r λz=>by have:=I.Fe b z;rw [e] at this;cases this
 refine gJ (jt (BE _ _) (wpAny_leaves_madeW (base:=cG s1.heap (sJ (lz qual scope s.heap.objs.size f cd::outer))) (h:=s1.heap) (L:=s.heap.objs.size) (outer:=outer) (Q:=λ_ s2=>∃ t,(cG s1.heap (sJ (lz qual scope s.heap.objs.size f cd::outer))).FlyingW outer a cls (.ref t) s2.heap/\h'.UpToSlots s2.heap/\s2.os=s1.os/\s2.gens=s1.gens)
  I.ok.frames rfl (λb o e=>rT _ e) (PySem.W.funFrames_hide I.stack λe he c hc=>nK.mpr ⟨e,he,hc⟩) mk λh2 t fl tp nt us=>⟨t,fl,us,rfl,rfl⟩)) λ_ s2 ⟨⟨t,fl,us,e1,e2⟩,kp⟩=>?_
 have slot:∀ b o,s.heap.get? b=some o->H b=none->b∈sJ outer->∃ sl,s2.heap.get? b=some { o with slots:=sl }:=λb o e n hb=>by
  obtain ⟨sl,e3⟩:=I.base.slot b o e n hb (by simp [jz]);obtain ⟨_,o',e',nd⟩:=I.ok.vc.mem hb;have e':s.heap.get? b=some o':=e';rw [e] at e';cases e';obtain ⟨sl',e4⟩:=us b { o with slots:=sl } (mk.keeps b { o with slots:=sl } e3) nd;exact ⟨sl',e4⟩
 refine ⟨a,cls,.ref t,_,H1,rfl,e1.trans I.os,by rw [e2];exact I.bare,fl,⟨⟨λb o e n hb _=>?_,λb o e n hb _=>slot b o e n hb,λb o e n _=>I.base.free b o e n (by simp [jz]),λb o e _=>?_,I.base.vd,I.base.uv,I.base.ux⟩,λb o e=>?_,fl.1,λb o e=>?_,λb o e hb=>?_,fl.2.1,?_⟩,q⟩
 .exact fl.1 b o (hV _ (I.base.keep b o e n hb (by simp [jz])) (hfr b o e hb))
 .by_cases hb:b∈sJ outer
  .obtain ⟨sl,e3⟩:=slot b o e (I.ok.RY b hb) hb;exact ⟨_,e3⟩
  .obtain ⟨o',e3⟩:=I.base.there b o e (by simp [jz]);exact ⟨o',fl.1 b o' (hV _ e3 (hfr b o e hb))⟩
 .refine (I.eY b o e).yx (λc v hc r=>fl.1 c v ?_) (λ_ z=>z) λ_ _ z=>z
  rcases hc with rfl|hc
  .exact YU _ o v e r
  .exact YU _ _ v hc r
 .obtain ⟨u,hu⟩:=(I.eY b o e).at;exact ⟨u,YU b o u e hu⟩
 .obtain ⟨o',e3⟩:=I.base.there b o e (by simp [jz]);exact ⟨o',hV _ e3 (hfr b o e hb)⟩
 .obtain ⟨t',e3,_⟩:=mk.there;obtain ⟨o',e4,_,d⟩:=kp a _ e3;exact ⟨o',e4,d⟩
theorem X9 (hE:∀ cls H,E cls none H->E' cls none H):mj (kd P w) (jz (kd P w) P w K mg base N qual scope f cd A outer s H E') E:=by
 rintro pins Z H1 s1 e s2 I ⟨a,cls,a0,B,H2,rfl,os,bare,fl,F,q⟩
 have hfr:∀ b o,s.heap.get? b=some o->b∉sJ outer->b∉sJ (lz qual scope s.heap.objs.size f cd::outer):=λb o e hb z=>by
  rcases az.mp (show b∈s.heap.objs.size::sJ outer from z) with z|z
  .exact bb (aS e) z
  .exact hb z
 refine gJ (jt (BE _ _) (wpAny_leaves_onW (L:=s.heap.objs.size) (outer:=outer) (Q:=λ_ s3=>B.FlyingW outer a cls a0 s3.heap/\s2.heap.UpToSlots s3.heap/\s3.os=s2.os/\s3.gens=s2.gens) I.ok.frames rfl fl λh' fl' us=>⟨fl',us,rfl,rfl⟩)) λ_ s3 ⟨⟨fl',us,e1,e2⟩,kp⟩=>?_;have F':=F.step (qU I) us fl'.1 kp;refine ⟨a,cls,a0,B,H2,rfl,(e1.trans os).trans I.os,by rw [e2];exact bare,fl',⟨⟨λb o e n hb _=>?_,λb o e n hb _=>?_,λb o e n _=>?_,λb o e _=>?_,λb xs e=>F'.un.vd _ _ (I.base.vd _ _ e),λb o u e=>F'.un.uv _ _ _ (I.base.uv _ _ _ e),λb ps e=>?_⟩,F'.eY,F'.stays,F'.has,λb o e hb=>?_,F'.no,F'.dict⟩,hE _ _ q⟩
 .exact F'.un.keep b o (I.base.keep b o e n hb (by simp [jz])) (I.base.free b o e n (by simp [jz])) (hfr b o e hb) (by simp)
 .obtain ⟨sl,e3⟩:=I.base.slot b o e n hb (by simp [jz]);obtain ⟨sl',e4⟩:=F'.un.slot b _ e3 (I.base.free b o e n (by simp [jz])) (ag _ hb:b∈s.heap.objs.size::sJ outer) (by simp);exact ⟨sl',e4⟩
 .obtain ⟨o',e3⟩:=I.base.there b o e (by simp [jz]);exact F'.un.free b o' e3 (I.base.free b o e n (by simp [jz])) (by simp)
 .obtain ⟨o',e3⟩:=I.base.there b o e (by simp [jz]);exact F'.un.there b o' e3 (by simp)
 .obtain ⟨m1,e3⟩:=I.base.ux b ps e;obtain ⟨m2,e4⟩:=F'.un.ux b _ e3;exact ⟨m1++m2,by rw [e4,Dl]⟩
 .obtain ⟨o',e3⟩:=I.base.there b o e (by simp [jz]);exact F'.old b o' e3 (hfr b o e hb)
end
abbrev SU:List aj:=[.type "ValueError",.type "Exception",.type "BaseException",.type "object"]
def NsQ (K:ae) (N:ah):Prop:=YN K N=true/\∀ n∈Um,bq K N n=some none
theorem nsq {N:ah}{c:aj}{d:Option ah}{es:Array DictEntry}{ep:Nat}(h:du N K=some ⟨c,d,.dict es ep,sl⟩)
  (ho:(es.toList.all λe=>match e.key with | .str _ _=>true|_=>false)=true) (h1:bq K N "__init__"=some none) (h2:bq K N "__getattribute__"=some none) (h3:bq K N "__getattr__"=some none) (h4:bq K N "args"=some none):NsQ K N:=by
 refine ⟨?_,λn hn=>?_⟩
 .unfold YN;rw [h];simp only [← YO];exact ho
 .unfold Um at hn;simp only [az,dG,or_false] at hn
  rcases hn with rfl|rfl|rfl|rfl
  .exact h1
  .exact h2
  .exact h3
  .exact h4
def Vm (K:ae) (C:ah):Prop:=∃ (N A:ah) (nm q:aL) (bs:List aj) (hdct:Bool) (sn:List aL) (sub:List aj) (ab:Bool) (col:Option Bool) (dd:Option ah) (k0 k1 k2 k3 k5:Option aj) (c0:aj) (dd':Option ah) (cd:ClassData) (sl:Array (Option aj)),
 du C K=some (excClassObj nm q C N bs (.ref A::SU) hdct sn sub ab col dd k0 k1 k2 k3 k5 "ValueError.__new__")/\du A K=some ⟨c0,dd',.cls cd,sl⟩/\NsQ K N/\NsQ K cd.ns
theorem exK {N A:ah}{nm:aL}{bs:List aj}{hdct:Bool}{sn:List aL}{sub:List aj}{ab:Bool}{col:Option Bool}{dd:Option ah}{k0 k1 k2 k3 k5:Option aj}{c0:aj}{dd':Option ah}{cd:ClassData}
  (h1:du C K=some (excClassObj nm q C N bs (.ref A::SU) hdct sn sub ab col dd k0 k1 k2 k3 k5 "ValueError.__new__")) (h2:du A K=some ⟨c0,dd',.cls cd,sl⟩) (h3:NsQ K N) (h4:NsQ K cd.ns):Vm K C :=
 ⟨N,A,nm,q,bs,hdct,sn,sub,ab,col,dd,k0,k1,k2,k3,k5,c0,dd',cd,sl,h1,h2,h3,h4⟩
theorem Rq (X:K.In h) (e:Vm K C):∃ bm N nm q bs hdct sn sub ab col dd k0 k1 k2 k3 k5 mN,
  h.get? C=some (excClassObj nm q C N bs bm hdct sn sub ab col dd k0 k1 k2 k3 k5 "ValueError.__new__")/\h.Ns N mN/\(∀ n∈Um,mN n=none)/\OwnTailQ h SU bm:=by
 obtain ⟨N,A,nm,q,bs,hdct,sn,sub,ab,col,dd,k0,k1,k2,k3,k5,c0,dd',cd,sl,h1,h2,⟨n1,n2⟩,⟨m1,m2⟩⟩:=e;refine ⟨.ref A::SU,N,nm,q,bs,hdct,sn,sub,ab,col,dd,k0,k1,k2,k3,k5,h.nsMap N,X _ _ h1,Xm (Uo X n1),λn hn=>MG X n1 (n2 n hn),?_⟩;exact .own (X _ _ h2) (Xm (Uo X m1)) (λn hn=>MG X m1 (m2 n hn)) .base
structure Exc (K:ae) (mg:aL->Option aj) (x:aL) (C:ah):Prop where
 at_:mg x=some (.ref C)
 ex:Vm K C
def pI (cls:aj) (E:XK):TS:=λ_ _ H=>E cls none H
def Nl (X:Cx) (E:XK):Prop:=∀ (pins:List (ah×jo)) (Z:St) (H:Hp) (s:ax) (h':dt) (a:ah) (cls:aj) (args:List aj),Inv X pins Z H s->s.heap.MadeExcOf h' a cls args->E cls none H->X.xe (.ref a) { s with heap:=h' }
theorem lM {txt:aL}{cp:yz}(hc:X.calm=true) (hg:Gl X x) (ex:Exc X.K X.mg x C) (hx:Nl X E) (hd:(x == ("__debug__":aL))=false:=by decide) :
  PS X (.Raise (some (.Call (.Name x np) [.Constant (.str txt) k cp] [] cpos)) none pos) (pI (.ref C) E):=by
 intro pins s Z H D I h;obtain ⟨bm,N,nm,q,bs,hdct,sn,sub,ab,col,dd,k0,k1,k2,k3,k5,mN,o1,o2,o3,o4⟩:=Rq I.mod.Xc ex.ex;refine wpAny_Raise_call_subT (bmB:=SU) (nm:=nm) (q:=q) (C:=C) (N:=N) (bs:=bs) (hdct:=hdct) (sn:=sn) (sub:=sub) (ab:=ab) (col:=col) (dd:=dd) (k0:=k0) (k1:=k1) (k2:=k2) (k3:=k3) (k5:=k5) F.excBase_ValueError (o4.tail.hasType rfl) (I.ok.hd hc) rfl (o3 _ (by simp [Um])) ?_;refine rX I hg ex.at_ ⟨rfl,?_⟩ hd;refine z4 ?_;refine gJ ((show PA X [.Constant (.str txt) k cp] (ai (tC (.str txt)) aM) from af aC au) cpos pins s Z H (λvs H'=>vs.length=1/\H'=H) I ⟨rfl,rfl⟩) λus s2 ⟨vs,H',I2,r,hl,eH⟩=>?_;subst eH;refine ⟨rfl,by rw [← r.length,hl];decide,I2.bk _ _ o1,o2.keeps I2.bk,o4.tail.keeps I2.bk,λh' e mk=>hx pins Z H' s2 h' e _ _ I2 mk h⟩
theorem PS.WK {t:TS}(h:PS X.WK st t):PS X st t:=λpins s Z H D I hw =>
 dF (h pins s Z H D (I.Ht _) hw) (λ_ _ q=>q.vb) λ_ _ z=>dh z
theorem iy.Hx (F:iy K x qual st f fd) (S:bj N ps (aO st)) (len:∀ vs H Q E,sp vs H Q E->vs.length=ps.length)
  (hbody:∀ (i4:aj) (A:dC) (outer:List xC) (s:ax) (H:Hp) (vs:List V) (Q:VK) (E:XK),i7 k (A.deeper (lz qual (aO st) s.heap.objs.size f i4))->sp vs H Q E ->
   ∃ t,Jr (jz (kd P w) P w K mg base N qual (aO st) f i4 A outer s H E) (jX st) t/\t { nx:=λ_ H'=>Q .non H',rt:=Q } (start N vs) H):cI P w K mg base (kd P w) (k+1) f fd ps sp:=by
 obtain ⟨oc,od,kV,doc,pm,an,i4,ct,osl,rfl,lk,hcd⟩:=F.ex;exact UU lk hcd S len λA outer s H vs Q E hr hsp=>hbody i4 A outer s H vs Q E hr hsp
theorem h9:Nl (jz (kd P w) P w K mg base N qual scope f cd A outer s H E) E:=λ_ _ _ _ _ _ _ _ I mk q=>SS I mk q
theorem gK:mj (kd P w) (jz (kd P w) P w K mg base N qual scope f cd A outer s H E) E:=X9 λ_ _ z=>z
def W7 (a:ah) (cls:aj):HO:=.ext λh=>∃ o vs,h.get? a=some o/\o.cls=cls/\o.dict=none/\o.data=.fields vs
theorem aan {vs:Array aj}(e:h.get? a=some o) (c:o.cls=cls) (d:o.dict=none) (f:o.data=.fields vs):fq P w H h a (W7 a cls) :=
 ⟨⟨o,vs,e,c,d,f⟩,⟨o,e⟩,λh1 h2 ⟨o',vs',e',r⟩ k=>⟨o',vs',k _ e',r⟩⟩
theorem SV {E:aj->ax->Prop}{v:V}(I:Inv X pins Z H s) (hN:X.N.Nodup) (hi:X.N[i]?=some x) (hk:X.env.scope.names.lookup x=some .local) (hv:Z[i]?=some (some v))
  (h:∀ s',Inv X pins (Z.set i none) H s'->Q () s'):aY M A (unbindName X.env x) Q E s:=by
 obtain ⟨m,hn,hl⟩:=id I.loc
 have hcls:(X.env.scope.kind == .class || (X.env.scope.kind == .module && X.env.locals != X.env.globals))=false:=by rw [I.ok.kind];rfl
 have hiσ:i<Z.length:=by rw [I.len];exact (aP.mp hi).1
 have UA:=I.UA;obtain ⟨u0,_,l0⟩:=hl i x v hi hv (.inl hk)
 obtain ⟨_,hm⟩:X.env.kindOf x=some .local/\m x=some u0:=by
  rcases l0 with z|⟨z,_⟩
  .exact z
  .have hk':X.env.kindOf x=some .local:=hk
   rcases z with z|z<;>rw [hk'] at z<;>cases z
 refine wpAny_unbindName_local hk hn hm hcls (λh' u hn' hs=>?_);obtain ⟨oL,_,_,hoL,_⟩:=id hn;refine h _ ⟨I.ok,I.os,I.bare,⟨λb o e n hb hx=>?_,λb o e n hb hx=>?_,I.base.free,λb o e hx=>?_,I.base.vd,I.base.uv,I.base.ux⟩,⟨_,hn',λj y v' e1 e2 e3=>?_⟩,λy c e=>?_,I.free,I.nF,λp hp=>?_,λb ob e=>?_,by simpa using I.len⟩
 .exact (hs.2 b (bb (bG (aS e) I.ok.above))).trans (I.base.keep b o e n hb hx)
 .obtain ⟨sl,e1⟩:=I.base.slot b o e n hb hx;exact ⟨sl,(hs.2 b (bb (bG (aS e) I.ok.above))).trans e1⟩
 .obtain ⟨o',e1⟩:=I.base.there b o e hx;exact ⟨o',(hs.2 b (bb (bG (aS e) I.ok.above))).trans e1⟩
 .have hj:j≠i:=λz=>by
   subst z;rw [j6 hiσ] at e2;cases e2
  rw [qQ (Ne.symm hj)] at e2;obtain ⟨u',r',q⟩:=hl j y v' e1 e2 e3;refine ⟨u',r',?_⟩
  rcases q with ⟨k,e⟩|⟨k,c,e,z⟩
  .refine .inl ⟨k,?_⟩;have:y≠x:=λe=>hj (Ft hN e1 (e▸hi));simp [this,e]
  .exact .inr ⟨k,c,e,z.sameBut hs (UA y c e)⟩
 .obtain ⟨w',z⟩:=I.cell y c e;exact ⟨w',z.sameBut hs (UA y c e)⟩
 .obtain ⟨e,n,ne,nf,d⟩:=I.pin p hp;exact ⟨(hs.2 p.1 ne).trans e,n,ne,nf,d⟩
 .refine (I.eY b ob e).yx (λc w' hc q=>(hs.2 c ?_).trans q) (λ_ q=>q) λ_ _ q=>q;rintro rfl;have hf:=I.free
  rcases hc with rfl|hc
  .rw [hf] at e;cases e
  .rw [hf] at hc;cases hc
theorem JS {E:aj->ax->Prop}(I:Inv X pins Z H s) (hN:X.N.Nodup) (hi:X.N[i]?=some x) (hk:X.env.scope.names.lookup x=some .local)
  (h:∀ s',Inv X pins (Z.set i none) H s'->Q () s'):aY M A (do bindName X.env x .none;unbindBehindTheSuite X.env x pos) Q E s:=by
 have hiσ:i<Z.length:=by rw [I.len];exact (aP.mp hi).1
 refine ar ?_;unfold bindName;refine ar (gf (wpAny_point ?_));refine ar ?_;refine vS I hN hi (.inl hk) (v:=.non) rfl (λs' I'=>wpAny_point ?_) (.inr hk);unfold unbindBehindTheSuite;refine wpAny_onRaise ?_;refine SV I' hN hi hk (v:=.non) (by rw [j6 hiσ]) λs2 I2=>h s2 ?_;rw [List.set_set] at I2;exact I2
abbrev Cx.marked (X:Cx) (a:ah):Cx:={ X with A:=X.A.mark (some (.ref a)),calm:=false,xe:=λ_ _=>False }
theorem Inv.mark (I:Inv X pins Z H s) (a:ah):Inv (X.marked a) pins Z H s :=
 ⟨⟨I.ok.mod,I.ok.kind,I.ok.glob,I.ok.blt,I.ok.above,I.ok.inj,I.ok.has,I.ok.Xa,nofun,I.ok.frames,I.ok.YA,I.ok.YB,I.ok.bs,I.ok.O8,I.ok.Js,I.ok.Hu,I.ok.vc,I.ok.RY⟩,I.os,I.bare,I.base,I.loc,I.cell,I.free,I.nF,I.pin,I.eY,I.len⟩
theorem Inv.unmark (ok:X.Ok) (I:Inv (X.marked a) pins Z H s):Inv X pins Z H s:=⟨ok,I.os,I.bare,I.base,I.loc,I.cell,I.free,I.nF,I.pin,I.eY,I.len⟩
theorem Inv.acq {o:HO}(I:Inv X pins Z H s) (ha:H a=none) (h0:X.s₀.heap.get? a=none) (hL:a≠X.env.locals) (hc:∀ x c,X.env.cells.lookup x=some c->c≠a) (hp:∀ p∈X.pn++pins,p.1≠a) (ok:fq X.prog X.w (upd H a o) s.heap a o):Inv X pins Z (upd H a o) s:=by
 refine ⟨I.ok,I.os,I.bare,⟨λb ob e n hb hx=>I.base.keep b ob e n hb hx,I.base.slot,λb ob e n hx=>?_,I.base.there,λb xs e=>?_,λb ob u e=>?_,λb ps e=>?_⟩,I.loc,I.cell,?_,λx c e=>?_,λp hp'=>?_,λb ob e=>?_,I.len⟩
 .rw [aI (λz=>by rw [z,h0] at e;cases e)];exact I.base.free b ob e n hx
 .have:=I.base.vd b xs e;rw [aI (aG this ha)];exact this
 .have:=I.base.uv b ob u e;rw [aI (aG this ha)];exact this
 .obtain ⟨m,this⟩:=I.base.ux b ps e;exact ⟨m,by rw [aI (aG this ha)];exact this⟩
 .rw [aI (Ne.symm hL)];exact I.free
 .rw [aI (hc x c e)];exact I.nF x c e
 .obtain ⟨e,n,r⟩:=I.pin p hp';exact ⟨e,by rw [aI (hp p hp')];exact n,r⟩
 .by_cases hb:b=a
  .subst hb;rw [aH] at e;cases e;exact ok
  .rw [aI hb] at e;refine (I.eY b ob e).yx (λc v _ q=>q) (λc q=>?_) λc xs q=>?_
   .rw [aI (aG q ha)];exact q
   .rw [aI (aG q ha)];exact q
section
variable {CT:ah}{xT n:aL}{epos hpos:yz}{th:TS}{b₀:dw} {OV:List dw}
end
structure Mu (K:ae) (D:ah):Prop where
 ex:Vm K D
 it:Jy K (.ref D) (.ref D)=some true
 ga:aJ K (.ref D) "__getattribute__"=some (some (.builtin "BaseException.__getattribute__"))
 gt:aJ K (.ref D) "__getattr__"=some none
 ha:aJ K (.ref D) "__class__"=some (some (.builtin "object.__class__"))
 hn:i6 K (.builtin "object.__class__") "__get__"=some (some (.builtin "getset_descriptor.__get__"))
 htk:qJ K (.builtin "object.__class__")=some true
 hm:j8 K D (.type "object")=some true
theorem Mu.cld (e:Mu K D):∃ cd,Zq K D=some cd:=by
 have h:=e.it;unfold Jy at h;simp only at h
 split at h
 .rename_i hc
  rw [cq] at hc;exact MO.mp hc.1
 .cases h
theorem Nm:typeLookup (lI "ValueError") (aa "__getattr__")=pure none:=by
 unfold typeLookup
 rfl
theorem BF:ExcAttrBase "ValueError" SU:=⟨F.excAttr_ValueError,F.excBase_ValueError.mroIs,Nm,rfl⟩
theorem SW {prog:bC}{E:aj->ax->Prop}{Q:Option aj->ax->Prop}{x:ah}{ox:jo}(e:Mu K D) (X:K.In s.heap) (i:yF s.heap x ox D none)
  (q:Q (some (.ref D)) { s with toks:=s.toks+1 }):aY (bg prog w) A (getAttr? (.ref x) (aa "__class__")) Q E s:=by
 obtain ⟨cd,hcd⟩:=e.cld;obtain ⟨h,g,d,t,os⟩:=s;unfold getAttr?;refine ar (wpAny_mkText ?_);unfold getAttrBy?;refine ar (yK ?_);unfold getAttrBy;refine gf ?_;refine ar (i.type.at ?_);refine ar ((yG X e.ga).at ?_)
 show aY _ _ (if (O3 (aB D) && kg "BaseException.__getattribute__" == kg "object.__getattribute__")=true then _ else _) _ _ _
 have hne:¬ (O3 (aB D) && kg "BaseException.__getattribute__" == kg "object.__getattribute__")=true:=by
  have h1:(kg "BaseException.__getattribute__" == kg "object.__getattribute__")=false:=by decide
  rw [h1,MQ];decide
 rw [if_neg hne];unfold getAttrByItsOwn;refine ar ?_;unfold hookBefore
 show aY _ _ (if O3 (aB D)=true then _ else _) _ _ _
 rw [if_pos (show O3 (aB D)=true from rfl)];refine (yG X e.gt).at ?_;refine ar (yK (gf ?_));unfold callGetattribute
 show aY _ _ (if (false && O3 (kg "BaseException.__getattribute__"))=true then _ else _) _ _ _
 rw [if_neg (by decide)];unfold boundAndCalled;rw [BF.toExcAttrFacts.ga.bind];refine ar (aQ ?_)
 show aY _ _ (call (kg "BaseException.__getattribute__") ([aB x]++[sN (aa "__class__") t])) _ _ _
 refine Bu (codeAny_call_builtin BF.toExcAttrFacts.ga.plain F.entry_bexc_ga ?_);obtain ⟨bm,N,nm,q',bs,hdct,sn,sub,ab,col,dd,k0,k1,k2,k3,k5,mN,o1,o2,o3,o4⟩:=Rq X e.ex;refine wpAny_check_ga_own BF o1 o4 i.at_ i.cls ?_;unfold YH.«object.__getattribute__»;refine ar (aQ ?_);refine ar (aQ ?_);refine ar (i.type.at ?_)
 have hf:Xn K D none (aa "__class__")=some (Sk (.builtin "getset_descriptor.__get__") (.builtin "object.__class__")):=by
  unfold Xn;simp [hcd,e.ha,e.hn,e.htk]
 refine ar ((PySem.W.looks_find X i hf).at ?_)
 show aY _ _ (z6 (.builtin "getset_descriptor.__get__") (.builtin "object.__class__") (.ref x) (.ref D)) _ _ _
 unfold z6;refine ar (gf (Bu (PySem.W.class_get X i e.hm ?_)));refine aQ ?_;refine PySem.W.handed_on rfl ?_;exact aQ q
theorem Nn {x:ah}(e:Mu K D):PySem.W.KitX K (.ref x) (.ref D) λh=>∃ o vs,h.get? x=some o/\o.cls=.ref D/\o.dict=none/\o.data=.fields vs:=by
 have inst:∀ h:dt,(∃ o vs,h.get? x=some o/\o.cls=.ref D/\o.dict=none/\o.data=.fields vs)->∃ o,yF h x o D none:=λh ⟨o,vs,e1,e2,e3,e4⟩ =>
  ⟨o,e1,e2,by unfold YQ;rw [e4],by rw [e3];trivial⟩
 obtain ⟨cd,hcd⟩:=e.cld;refine ⟨λM h _ hh=>?_,λM h X _=>(PySem.W.kit_cls X e.it).2.1,λh tp dd its n sl X ht=>?_,λ{prog w A E Q s} X hh q=>?_⟩
 .obtain ⟨o,i⟩:=inst h hh;exact i.type
 .rw [beq_eq_false_iff_ne];intro z;cases z;unfold Zq at hcd
  split at hcd
  .rename_i hl
   rw [X _ _ hl] at ht;cases ht
  .cases hcd
 .obtain ⟨o,i⟩:=inst s.heap hh;exact SW e X i q
def v7 (K:ae):List V->Hp->VK->Prop:=λxs H Q=>∃ (a D C:ah) (b:Bool),xs=[.ref a,.ref C]/\H a=some (W7 a (.ref D))/\Mu K D/\bp K (.ref D) (.ref C)=some b/\Q (.bl b) H
theorem mD:mK X (.builtin "isinstance") (v7 X.K):=by
 intro pins s Z H xs us Q I r h;obtain ⟨a,D,C,b,rfl,ha,hD,e,q⟩:=h;obtain ⟨u,w',rfl,ru,rw'⟩:=vals2 r;cases (show u=aB a from ru);cases (show w'=aB C from rw');obtain ⟨hφ,_⟩:=I.eY a _ ha
 exact dY (Nn hD) I.vM hφ e nofun λtk=>⟨.bl b,H,I.tok tk,rfl,q⟩
structure pA (k:Nat) (A:dC):Prop where
 dp:A.depth+3*k+5<qK
 un:A.units+16*k+200<jq
theorem i7.n (r:i7 k A):pA k A:=⟨r.dp,r.un⟩
theorem pA.mark (r:pA k A) (v:Option aj):pA k (A.mark v):=⟨r.dp,r.un⟩
theorem pA.mono {j:Nat}(r:pA k A) (h:j<=k):pA j A:=⟨by have:=r.dp;lia,by have:=r.un;lia⟩
theorem pA.deeper (r:pA (k+1) A) (env:xC):pA k (A.deeper env) :=
 ⟨by have:=r.dp;show A.depth+1+3*k+5<_;lia,by have:=r.un;show A.units+3+16*k+200<_;lia⟩
theorem pA.depth (r:pA k A):A.depth<qK:=by have:=r.dp;lia
structure JT (P:bC) (w:cW) (K:ae) (mg:aL->Option aj) (base:dt) (k:Nat) (f:ah) (fd:fv) (ps:List aL) (sp:Sp):Prop where
 len:∀ vs H Q E,sp vs H Q E->vs.length=ps.length
 run:∀ (A:dC) (outer:List xC) (s:ax) (H:Hp) (args:Args) (us:List aj) (vs:List V) (Q:VK) (E:XK),pA k A->OQ P w K mg base A outer s H->Fk s fd args (ps.zip us)->Vals vs us->sp vs H Q E ->
  sO (bg P w) A (.call (.ref f) args) (CR dU outer P w H s Q E) s
def cxN (P:bC) (w:cW) (K:ae) (mg:aL->Option aj) (base:dt) (N:List aL) (qual:aL) (scope:uE) (f:ah) (cd:aj) (A:dC) (outer:List xC) (s:ax) (H:Hp):Cx :=
 { jz dU P w K mg base N qual scope f cd A outer s H E0 with calm:=false,xe:=λ_ _=>False }
theorem aao {name:aL}{params:vB}{body:List dw}{dV doc i4:aj}{an od:Option ah}
  {osl:Array (Option aj)}{N ps:List aL}{sp:Sp}(lk:K.lookup f=some ⟨oc,od,.func (gI name qual params body scope dV kV doc pm an i4 ct),osl⟩) (hcd:nN K i4 qual=true) (S:bj N ps scope)
  (len:∀ vs H Q E,sp vs H Q E->vs.length=ps.length)
  (hbody:∀ (A:dC) (outer:List xC) (s:ax) (H:Hp) (vs:List V) (Q:VK) (E:XK),pA k (A.deeper (lz qual scope s.heap.objs.size f i4))->sp vs H Q E ->
   ∃ t,Jr (cxN P w K mg base N qual scope f i4 A outer s H) body t/\t { nx:=λ_ H'=>Q .non H',rt:=Q } (start N vs) H) :
  JT P w K mg base (k+1) f (gI name qual params body scope dV kV doc pm an i4 ct) ps sp:=by
 refine ⟨len,λA outer s H args us vs Q E hr e0 hb r hsp=>?_⟩;have hl:=len _ _ _ _ hsp;have KX:K.In s.heap:=e0.mod.Xc.keeps λb o e=>(e0.bs b o e).1;have lim:s.heap.NoLimit:=e0.mod.nolimit.keeps λb o e=>(e0.bs b o e).1
 have hkind:∀ y∈ps.zip us,scope.names.lookup y.1=some .local\/(scope.names.lookup y.1=some .cell/\((Xi (s.heap.objs.size+1) scope.names []).lookup y.1).isSome=true):=λ⟨n,v⟩ hy=>by
  rcases S.par n (yH hy).1 with q|q
  .exact .inl q
  .exact .inr ⟨q,vQ _ _ _ (.inl q)⟩
 refine Zj hr.depth (KX _ _ lk) rfl S.co S.gen rfl (Ud KX hcd) (hb _ _ _ _ ?_);refine Ue S.kind hkind λenv he s1 x=>?_;subst he;refine ⟨lim.keeps x.toInCall.keep,codeAny_func ?_⟩;obtain ⟨t,ht,hq⟩:=hbody A outer s H vs Q E (hr.deeper _) hsp
 have I:Inv (cxN P w K mg base N qual scope f i4 A outer s H) [] (start N vs) H s1:=by
  have J:Inv (jz dU P w K mg base N qual scope f i4 { A with handled:=none } outer s H E0) [] (start N vs) H s1:=JK S rfl ⟨e0.frames,e0.mod,e0.bs,e0.O8,e0.vc,e0.RY,e0.eY,e0.bare⟩ hl r x;exact ⟨⟨J.ok.mod,J.ok.kind,J.ok.glob,J.ok.blt,J.ok.above,J.ok.inj,J.ok.has,J.ok.Xa,nofun,Sd e0.frames,J.ok.YA,J.ok.YB,J.ok.bs,J.ok.O8,J.ok.Js,J.ok.Hu,J.ok.vc,J.ok.RY⟩,J.os,J.bare,J.base,J.loc,J.cell,J.free,J.nF,J.pin,J.eY,J.len⟩
 refine dF (ht [] s1 (start N vs) H _ I hq) (λfl s' hs=>?_) λe s' hs=>dh hs
 have fin:∀ {σ':St}{H':Hp}{v:V}{u:aj},Inv (cxN P w K mg base N qual scope f i4 A outer s H) [] σ' H' s'->RelV v u->Q v H'->CE outer P w H s Q u s' :=
  λ{σ' H' v u} J rv q=>⟨v,H',J.os,J.bare,J.base,J.eY,rv,q⟩
 cases fl with
 | ret u =>
  obtain ⟨v,σ',H',J,rv,q⟩:=hs
  exact fin J rv q
 | next =>
  obtain ⟨σ',H',J,q⟩:=hs
  exact fin (v:=V.non) (u:=dE) J rfl q
 | brk =>
  obtain ⟨_,_,_,q⟩:=hs
  exact dh q
 | cont =>
  obtain ⟨_,_,_,q⟩:=hs;exact dh q
theorem iy.okN (F:iy K x qual st f fd) (S:bj N ps (aO st)) (len:∀ vs H Q E,sp vs H Q E->vs.length=ps.length)
  (hbody:∀ (i4:aj) (A:dC) (outer:List xC) (s:ax) (H:Hp) (vs:List V) (Q:VK) (E:XK),pA k (A.deeper (lz qual (aO st) s.heap.objs.size f i4))->sp vs H Q E ->
   ∃ t,Jr (cxN P w K mg base N qual (aO st) f i4 A outer s H) (jX st) t/\t { nx:=λ_ H'=>Q .non H',rt:=Q } (start N vs) H):JT P w K mg base (k+1) f fd ps sp:=by
 obtain ⟨oc,od,kV,doc,pm,an,i4,ct,osl,rfl,lk,hcd⟩:=F.ex;exact aao lk hcd S len λA outer s H vs Q E hr hsp=>hbody i4 A outer s H vs Q E hr hsp
theorem Vn (F:JT X.prog X.w X.K X.mg X.base k f fd ps sp) (hr:pA k X.A) (hg:Gl X x) (hm:X.mg x=some (.ref f)) (hk:bV X.K (.ref f)=true) (hb:Binds X.K fd ps [])
  (ha:PA X (e::es) t) (hdb:(x == ("__debug__":aL))=false:=by decide) (he:bw (e::es) X.env=(false,fR e X.env)::bw es X.env:=by rfl) (hpl:(iS pos (bw es X.env)).any (·.1)=false:=by rfl) :
  PE X (.Call (.Name x p) (e::es) [] pos) (cu sp [] E0 t):=by
 intro pins s Z H Q I h;refine gZ (rX I hg hm ?_ hdb);refine jN (h₀:=X.base) I.ok.mod.Xc hk (gJ (ha pos pins s Z H _ I h) λus s1 ⟨vs,H1,I1,r,q⟩=>⟨I1.vM,?_⟩) he hpl;have r2:Vals (vs++[]) (us++[]):=r.append .nil
 have hl:(us++[]).length=ps.length:=by rw [← r2.length];exact F.len _ _ _ _ q
 refine Bu (qL (F.run X.A X.stack s1 H1 ⟨us,[]⟩ (us++[]) (vs++[]) Q E0 hr I1.aaV (hb s1 us I1.vM hl) r2 q) λr s' hq=>?_)
 cases r with
 | error e=>exact dh hq
 | ok fl =>
  cases fl with
  | ret u=>exact I1.after hq
  | next=>exact dh hq
  | brk=>exact dh hq
  | cont=>exact dh hq
theorem qt {D:vT}(h:E cls none H):pI cls E D Z H:=h
theorem aap {b:Bool}{Q:VK}(ha:H a=some (W7 a (.ref D))) (hD:Mu K D) (e:bp K (.ref D) (.ref C)=some b) (k:Q (.bl b) H):v7 K [.ref a,.ref C] H Q:=⟨a,D,C,b,rfl,ha,hD,e,k⟩
section
variable {Q:VK}
end
structure lV (P:bC) (w:cW) (K:ae) (mg:aL->Option aj) (base:dt) (CX:Ko) (k:Nat) (x:aL) (ps:List aL) (sp:Sp) where
 f:ah
 d:fv
 G:cI P w K mg base CX k f d ps sp
 m:mg x=some (.ref f)
 kp:bV K (.ref f)=true
 b:Binds K d ps []
structure CalN (P:bC) (w:cW) (K:ae) (mg:aL->Option aj) (base:dt) (k:Nat) (x:aL) (ps:List aL) (sp:Sp) where
 f:ah
 d:fv
 G:JT P w K mg base k f d ps sp
 m:mg x=some (.ref f)
 kp:bV K (.ref f)=true
 b:Binds K d ps []
structure iC (P:bC) (w:cW) (K:ae) (mg:aL->Option aj) (base:dt) (CX:Ko) (k:Nat) (C:ah) (x:aL) (ps:List aL) (sp:Sp) where
 f:ah
 d:fv
 G:cI P w K mg base CX k f d ps sp
 m:XG K C x f
 b:Binds K d ps []
structure HP (P:bC) (w:cW) (K:ae) (mg:aL->Option aj) (base:dt) (CX:Ko) (k:Nat) (C:ah) (ps:List aL) (sp:Sp) where
 f:ah
 d:fv
 G:cI P w K mg base CX k f d ps sp
 m:Mk K C f
 b:Binds K d ps []
structure tQ (K:ae) (mg:aL->Option aj) (x:aL) (st:dw) (ps:List aL) where
 f:ah
 d:fv
 F:iy K x x st f d
 m:mg x=some (.ref f)
 bt:∀ (s:ax) (us:List aj),us.length=ps.length->Fk s d ⟨us,[]⟩ (ps.zip us)
 b:Binds K d ps []
structure jr (K:ae) (C:ah) (x q:aL) (st:dw) (ps:List aL) where
 f:ah
 d:fv
 F:iy K x q st f d
 a:aJ K (.ref C) x=some (some (.ref f))
 i:vP K (.ref f)=true
 b:Binds K d ps []
def v8 (X:K.In h) (G:h.Ns aX mg) {f:ah}{od an:Option ah}{sl:Array (Option aj)}{oc kV dc pm cd ct:aj}(a:bq K aX x=some (some (.ref f)))
  (l:K.lookup f=some ⟨oc,od,.func (gI x x (r0 st) (jX st) (aO st) .none kV dc pm an cd ct),sl⟩) (c:nN K cd x=true) (k:bV K (.ref f)=true)
  (hb:∀ (kV doc pm:aj) (an:Option ah) (i4 ct:aj) (us:List aj),us.length=ps.length->Mx (gI x x (r0 st) (jX st) (aO st) .none kV doc pm an i4 ct) ⟨us,[]⟩=pure (ps.zip us)):tQ K mg x st ps :=
 ⟨f,_,Ku l c k,aW X G a,λs us hl=>.of_eq (hb kV dc pm an cd ct us hl),(Ku l c k).binds hb⟩
def v9 {od an:Option ah}{dc:aj}(a:aJ K (.ref C) x=some (some (.ref f))) (i:vP K (.ref f)=true)
  (l:K.lookup f=some ⟨oc,od,.func (gI x q (r0 st) (jX st) (aO st) .none kV dc pm an cd ct),sl⟩) (c:nN K cd q=true) (k:bV K (.ref f)=true)
  (hb:∀ (kV doc pm:aj) (an:Option ah) (i4 ct:aj) (us:List aj),us.length=ps.length->Mx (gI x q (r0 st) (jX st) (aO st) .none kV doc pm an i4 ct) ⟨us,[]⟩=pure (ps.zip us)):jr K C x q st ps :=
 ⟨f,_,Ku l c k,a,i,(Ku l c k).binds hb⟩
theorem tQ.law {y:aL}{fa:ah}(D:tQ K mg x st [y]) (h:mg x=some (.ref fa)):D.f=fa:=by
 have:=D.m.symm.trans h;cases this;rfl
section
variable {CX:Ko}{apos:yz}{o:Expr}{ta:TE}
theorem lE (c:lV X.prog X.w X.K X.mg X.base CX k x ps sp) (hr:i7 k X.A) (hg:Gl X x) (hx:mj CX X E) (ha:PA X (e::es) t) (hdb:(x == ("__debug__":aL))=false:=by decide) (he:bw (e::es) X.env=(false,fR e X.env)::bw es X.env:=by rfl) (hpl:(iS pos (bw es X.env)).any (·.1)=false:=by rfl) :
  PE X (.Call (.Name x p) (e::es) [] pos) (cu sp [] E t):=XI c.G hr hg c.m c.kp c.b .nil hx ha hdb he hpl
theorem sU (c:iC X.prog X.w X.K X.mg X.base CX k C x ps sp) (cl:Fg X.K C) (hr:i7 k X.A) (he:PE X o ta) (hx:mj CX X E) (ha:PA X (e::es) t)
  (hst:bw (e::es) X.env=(false,fR e X.env)::bw es X.env:=by rfl) (hpl:(iS pos (bw es X.env)).any (·.1)=false:=by rfl)
  (ht:fR (.Call (.Attribute o x apos) (e::es) [] pos) X.env=(do
   let ov ← fR o X.env
   yc apos.atName
   let (f,first) ← qI [ov] (zY ov x pl)
   Uc pos f first (iS pos (bw (e::es) X.env)) (zZ pos (pE [] X.env))):=by rfl) :
  PE X (.Call (.Attribute o x apos) (e::es) [] pos) (dv C x sp [] E ta t):=XJ he cl c.m c.G hr c.b .nil hx ha hst hpl ht
theorem SX (c:iC X.prog X.w X.K X.mg X.base CX k C x ps sp) (cl:Fg X.K C) (hr:i7 k X.A) (he:PE X o ta) (hx:mj CX X E)
  (ht:fR (.Call (.Attribute o x apos) [] [] pos) X.env=(do
   let ov ← fR o X.env
   yc apos.atName
   let (f,first) ← qI [ov] (zY ov x pl)
   Uc pos f first (iS pos (bw [] X.env)) (zZ pos (pE [] X.env))):=by rfl) :
  PE X (.Call (.Attribute o x apos) [] [] pos) (dv C x sp [] E ta aM):=US he cl c.m c.G hr c.b .nil hx ht
end
end L2
namespace L2
open PySem.W
variable {m:List Bool}{xs:List V}{ks:List Int}
def iX:List Int->List Int->Bool
 | [],[]=>false
 | [],_::_=>true
 | _::_,[]=>false
 | x::xs,y::ys=>if x=y then iX xs ys else decide (x<y)
theorem xH:∀ x:List Int,iX x x=false
 | []=>rfl
 | x::xs=>by unfold iX;rw [if_pos rfl];exact xH xs
theorem FQ:∀ {x y:List Int},iX x y=false->iX y x=true\/x=y
 | [],[],_=>.inr rfl
 | [],_::_,h=>by unfold iX at h;cases h
 | _::_,[],_=>.inl (by unfold iX;rfl)
 | x::xs,y::ys,h=>by
  unfold iX at h ⊢
  by_cases e:x=y
  .subst e;rw [if_pos rfl] at h ⊢
   rcases FQ h with q|q
   .exact .inl q
   .exact .inr (by rw [q])
  .rw [if_neg e] at h;rw [if_neg (Ne.symm e)];exact .inl (by have:=of_decide_eq_false h;exact decide_eq_true (by lia))
theorem zw:∀ {x y z:List Int},iX x y=true->iX y z=true->iX x z=true
 | [],[],_,h,_=>by unfold iX at h;cases h
 | [],_::_,[],_,h=>by unfold iX at h;cases h
 | [],_::_,_::_,_,_=>by unfold iX;rfl
 | _::_,[],_,h,_=>by unfold iX at h;cases h
 | _::_,_::_,[],_,h=>by unfold iX at h;cases h
 | x::xs,y::ys,z::zs,h,h'=>by
  unfold iX at h h' ⊢
  by_cases e:x=y
  .subst e;rw [if_pos rfl] at h
   by_cases e':x=z
   .rw [if_pos e'] at h' ⊢;exact zw h h'
   .rw [if_neg e'] at h' ⊢;exact h'
  .rw [if_neg e] at h;have h1:=of_decide_eq_true h
   by_cases e':y=z
   .subst e';rw [if_neg e];exact h
   .rw [if_neg e'] at h';have h2:=of_decide_eq_true h';rw [if_neg (by lia)];exact decide_eq_true (by lia)
def JU (ts:List (List Int)) (t:List Int):Int:=(ts.countP λu=>iX u t:Nat)
theorem FR {ts:List (List Int)}{t u:List Int}(ht:t∈ts):decide (JU ts t<JU ts u)=iX t u:=by
 unfold JU
 cases q:iX t u with
 | true =>
  have:=Nh (l:=ts) (p:=λv=>iX v t) (q:=λv=>iX v u) (x:=t) (λy _ h=>zw h q) ht (xH t) q
  exact decide_eq_true (by lia)
 | false =>
  have:ts.countP (λv=>iX v u)<=ts.countP λv=>iX v t:=Uk λv _ h=>by
   rcases FQ q with e|e
   .exact zw h e
   .rw [e];exact h
  exact decide_eq_false (by lia)
inductive Flat:List Bool->List V->List Int->Prop
 | nil:Flat [] [] []
 | int (i:Int) {m:List Bool}{xs:List V}{ks:List Int}:Flat m xs ks->Flat (false::m) (.int i::xs) (i::ks)
 | bl (b:Bool) {m:List Bool}{xs:List V}{ks:List Int}:Flat m xs ks->Flat (true::m) (.bl b::xs) (b2i b::ks)
theorem Flat.length (h:Flat m xs ks):xs.length=m.length:=by
 induction h with
 | nil=>rfl
 | int _ _ ih=>simp [ih]
 | bl _ _ ih=>simp [ih]
section
variable {prog:bC}{w:cW}{A:dC}{s:ax}{b:Bool}{Q:Bool->ax->Prop}
theorem Vo (fx:Flat m xs ks):∀ {ys:List V}{ls:List Int}{us ws:List aj}{i:Nat},Flat m ys ls->Vals xs us->Vals ys ws->(b && i == 0)=false->Q (iX ks ls) s ->
  KatLex prog w A b false Q (us.zip ws) i s:=by
 induction fx with
 | nil =>
  intro ys ls us ws i fy rx ry hi q;cases fy;cases rx;cases ry;unfold iX at q
  exact kat_nil q
 | int a _ ih =>
  intro ys ls us ws i fy rx ry hi q
  cases fy with
  | int c fy =>
   cases rx with
   | cons r1 rx =>
    cases ry with
    | cons r2 ry =>
     obtain ⟨t,rfl⟩:=r1;obtain ⟨u,rfl⟩:=r2;rw [nM];refine MH (jy a t c u _ _ _ _ ?_);unfold iX at q
     by_cases e:a=c
     .rw [if_pos e] at q;rw [show (a == c)=true by simpa using e];exact MI (ih fy rx ry (by simp) q)
     .rw [if_neg e] at q;rw [show (a == c)=false by simpa using e];refine kat_no ?_;rw [hi]
      exact kat_one _ _ (Xd q)
 | bl a _ ih =>
  intro ys ls us ws i fy rx ry hi q
  cases fy with
  | bl c fy =>
   cases rx with
   | cons r1 rx =>
    cases ry with
    | cons r2 ry =>
     cases r1;cases r2;rw [nM];refine MH (SeqAt.EqAt.bool_bool a c _ _ _ _ ?_);unfold iX at q
     by_cases e:a=c
     .rw [if_pos (by rw [e])] at q;rw [show (a == c)=true by simpa using e];exact MI (ih fy rx ry (by simp) q)
     .rw [if_neg (by cases a<;>cases c<;>first|exact absurd rfl e|decide)] at q;rw [show (a == c)=false by simpa using e];refine kat_no ?_;rw [hi];exact kat_one _ _ (lt_bool q)
theorem Ya {x y:ah}{ys:List V}{ls:List Int}{us ws:List aj}{E:aj->ax->Prop}(fx:Flat (false::m) xs ks) (fy:Flat (false::m) ys ls) (rx:Vals xs us) (ry:Vals ys ws)
  (hx:vO s.heap x us.toArray) (hy:vO s.heap y ws.toArray) (h:Q (iX ks ls) s):aY (bg prog w) A (keyLt' (tuples' true) (.ref x) (.ref y)) Q E s:=by
 obtain ⟨ox,ex,cx,nx,dx⟩:=hx;obtain ⟨oy,ey,cy,ny,dy⟩:=hy
 have l1:us.length=ws.length:=by rw [← rx.length,← ry.length,fx.length,fy.length]
 refine kat_lt ex dx ey dy ?_;rw [show decide (us.toArray.size<ws.toArray.size)=false by simp [l1]]
 cases fx with
 | int a fx =>
  cases fy with
  | int c fy =>
   cases rx with
   | cons r1 rx =>
    cases ry with
    | cons r2 ry =>
     obtain ⟨t,rfl⟩:=r1;obtain ⟨u,rfl⟩:=r2
     show KatLex _ _ _ _ _ _ (List.zip (_::_) (_::_)) 0 s
     rw [nM];refine MH (jy a t c u _ _ _ _ ?_);unfold iX at h
     by_cases e:a=c
     .rw [if_pos e] at h;rw [show (a == c)=true by simpa using e];exact MI (Vo fx fy rx ry (by simp) h)
     .rw [if_neg e] at h;rw [show (a == c)=false by simpa using e];exact kat_no (oneLt_int h)
end
abbrev Zn:=List Int×ah
def uI (z:Zn):V:=.ref z.2
def aaq (m:List Bool) (H:Hp) (z:Zn):Prop:=∃ xs,H z.2=some (.tup xs)/\Flat (false::m) xs z.1
def Np (K:ae):List V->Hp->VK->Prop:=λxs H Q=>∃ (p:ah) (zs:List Zn) (m:List Bool),xs=[.ref p]/\gb K H p (zs.map uI)/\(∀ z∈zs,aaq m H z)/\zs.length<64 /\
 ∀ (l:ah) (zs':List Zn),H l=none->zs'.Perm zs->zs'.Pairwise (λz w=>iX w.1 z.1=false)->Q (.ref l) (upd H l (.lst (zs'.map uI)))
theorem FS:∀ {zs:List Zn}{us:List aj},Vals (zs.map uI) us->us=zs.map λz=>aB z.2
 | [],_,h=>by cases h;rfl
 | z::zs,_,h=>by
  cases h with
  | cons h1 h2=>cases h1;rw [FS h2];rfl
theorem uJ:∀ zs:List Zn,Vals (zs.map uI) (zs.map λz=>aB z.2)
 | []=>.nil
 | _::zs=>.cons rfl (uJ zs)
theorem Rr {h:dt}:∀ {zs:List Zn},(∀ z∈zs,∃ i t us,vO h z.2 (jE i t::us).toArray)->∃ fs,KatTups h (zs.map λz=>aB z.2) fs/\fs.length=zs.length/\∀ v∈fs,∃ i t,v=jE i t
 | [],_=>⟨[],.nil,rfl,λ_ h=>nomatch h⟩
 | z::zs,hz=>by
  obtain ⟨fs,k1,k2,k3⟩:=Rr (zs:=zs) λz' h'=>hz z' (ag _ h');obtain ⟨i,t,us,o,e,c,n,d⟩:=hz z ak;refine ⟨.int i t::fs,KatTups.cons e c d (by simp) k1,by simp [k2],λv hv=>?_⟩
  rcases az.mp hv with rfl|hv
  .exact ⟨i,t,rfl⟩
  .exact k3 v hv
theorem Aj {zs:List Zn}{d:Zn}{k:Nat->Int}{pr:Array Nat}(hk:∀ i,k i=JU (zs.map (·.1)) (zs.getD i d).1) (hp1:Sx.Pm zs.length pr) (hp2:Sx.Up k pr zs.length) :
  (pr.toList.map λi=>zs.getD i d).Perm zs/\(pr.toList.map λi=>zs.getD i d).Pairwise λz w=>iX w.1 z.1=false:=by
 have plt:∀ i∈pr.toList,i<zs.length:=λi hi=>by simpa using hp1.mem_iff.mp hi
 have mz:∀ i,i<zs.length->zs.getD i d∈zs:=λi hi=>by
  have:zs.getD i d=zs[i]:=by simp [hi]
  rw [this];exact jH hi
 refine ⟨?_,?_⟩
 .have:=hp1.map λi=>zs.getD i d
  rwa [PH] at this
 .rw [List.pairwise_iff_getElem];intro i j hi hj hij;rw [ao] at hi hj;simp only [List.getElem_map];have hsz:pr.size=zs.length:=hp1.size
  have hj':j<zs.length:=by rw [← hsz];simpa using hj
  have hle:=hp2.le (yB hij) hj';unfold Sx.Ky at hle
  have gi:∀ i (h:i<pr.toList.length),pr.getD i 0=pr.toList[i]:=λi h=>by
   have h':i<pr.size:=by simpa using h
   simp [MC,h']
  rw [gi i hi,gi j hj,hk,hk] at hle
  cases w:iX (zs.getD pr.toList[j] d).1 (zs.getD pr.toList[i] d).1 with
  | false=>rfl
  | true =>
   rw [← FR (ts:=zs.map (·.1)) (cF (mz _ (plt _ (jH hj)))),decide_eq_true_iff] at w;lia
section
variable {X:Cx}
theorem KG:mK X (.builtin "sorted") (Np X.K):=by
 intro pins s Z H xs us Q I r h;obtain ⟨p,zs,mk,rfl,hq,hz,h64,q⟩:=h;obtain ⟨u,rfl,ru⟩:=vals1 r;cases ru;obtain ⟨its,rv,pl,hsz⟩:=I.list hq;have ei:=FS rv;subst ei
 have tup0:∀ z∈zs,∃ xs us,Flat (false::mk) xs z.1/\Vals xs us/\vO s.heap z.2 us.toArray:=λz hz'=>by
  obtain ⟨xs,h1,h2⟩:=hz z hz';obtain ⟨ts,r,it,_⟩:=I.tuple (.of h1);exact ⟨xs,ts,h2,r,it⟩
 by_cases h2:2<=zs.length
 .obtain ⟨m,F,N⟩:=I.sJ;refine kat_sorted F N pl.isList (by rw [ao];exact h2) (by rw [ao];exact h64) λD e1 h' F' N' hD=>?_
  have kept:∀ b o,b≠X.env.locals->s.heap.get? b=some o->h'.get? b=some o:=λb o h1 e=>by
   cases w:X.base.get? b with
   | some u =>
    have z:=I.bk b u w;rw [e] at z;cases z
    exact F'.keep b _ w
   | none=>exact (N' (b,o) (ag _ (oQ h1 w e))).1
  have tup:∀ z∈zs,∃ xs us,Flat (false::mk) xs z.1/\Vals xs us/\vO h' z.2 us.toArray:=λz hz'=>by
   obtain ⟨xs,us,f,r,o,e,rest⟩:=tup0 z hz';refine ⟨xs,us,f,r,o,kept _ o (λw=>?_) e,rest⟩;obtain ⟨_,e2,_⟩:=hz z hz';rw [w,I.free] at e2;cases e2
  obtain ⟨fs,k1,k2,k3⟩:=Rr (zs:=zs) (h:=h') λz hz'=>by
   obtain ⟨xs,us,f,r,it⟩:=tup z hz';generalize z.1=kz at f
   cases f with
   | int i f =>
    cases r with
    | cons r1 r=>obtain ⟨t,rfl⟩:=r1;exact ⟨i,t,_,it⟩
  refine kat_kind (T:=.type "int") k1 (by lia) (λv hv=>?_) rfl ?_
  .obtain ⟨i,t,rfl⟩:=k3 v hv;exact Looks.now
  have et:(lI "int" != lI "tuple")=true:=by decide
  rw [et,ao]
  have gz:∀ i,i<zs.length->(zs.map λz=>aB z.2).getD i dE=aB (zs.getD i ([],0)).2:=λi hi=>by simp [hi]
  have mz:∀ i,i<zs.length->zs.getD i ([],0)∈zs:=λi hi=>by
   have:zs.getD i ([],0)=zs[i]:=by simp [hi]
   rw [this];exact jH hi
  refine Sx.Sat.ask (n:=zs.length) (k:=λi=>JU (zs.map (·.1)) (zs.getD i ([],0)).1) (λi j C hi hj hC=>?_) (λpr hp=>?_) (Sx.Ng (by lia))
  .unfold kas_ask;rw [gz i hi,gz j hj];obtain ⟨xs,us,f1,r1,i1⟩:=tup _ (mz i hi);obtain ⟨ys,ws,f2,r2,i2⟩:=tup _ (mz j hj);refine Ya (s:={ s with heap:=h' }) f1 f2 r1 r2 i1 i2 ?_;rw [FR (cF (mz i hi))] at hC;exact hC
  .obtain ⟨hperm,hsort⟩:=Aj (d:=([],0)) (λi=>rfl) hp.1 hp.2
   have plt:∀ i∈pr.toList,i<zs.length:=λi hi=>by simpa using hp.1.mem_iff.mp hi
   have eo:(pr.toList.map λi=>(zs.map λz=>aB z.2).getD i dE)=(pr.toList.map λi=>zs.getD i ([],0)).map λz=>aB z.2:=by
    rw [dj];exact fY λi hi=>gz i (plt i hi)
   rw [eo];generalize (pr.toList.map λi=>zs.getD i ([],0))=zs' at hperm hsort;have hlen:zs'.length<=aT:=gB (m:=64) (by rw [hperm.length_eq];lia);refine Pe F' N' (Bx λq hq=>bb (hD q hq)) λh'' c F'' N''=>?_;obtain ⟨hn,I2⟩:=I.Bn (t':=s.toks) (o:=.lst (zs'.map uI)) F.ns F'' N'' hD ⟨by rw [ao];exact hlen,_,c,uJ zs',(N'' _ ak).1⟩;exact ⟨.ref D,_,I2,rfl,q D zs' hn hperm hsort⟩
 .have hs:(zs.map λz=>aB z.2).length<2:=by rw [ao];lia
  refine KE pl.isList hs ?_;obtain ⟨e,he⟩:=sortedAll_at s.heap (zs.map λz=>aB z.2) (zs.map λz=>aB z.2).toArray;refine ⟨.ref (s.heap.objs.size+1),_,I.laid (t':=s.toks) (o:=.lst (zs.map uI)) (λb o e=>sortedAll_old e) (Bv _) ⟨by rw [ao];exact gB (m:=64) (by lia),_,e,uJ zs,by simpa [b9] using he⟩,rfl,q _ zs (I.eY.fresh (Bv _)) (HB _) ?_⟩
  match zs,h2 with
  | [],_=>exact .nil
  | [z],_=>exact Q3 _ _
  | z::w::r,h2=>simp at h2
end
end L2
namespace L2
open PySem.Calls
open PySem.W (kla_fn kla_obj tabObj CodeHd)
variable {prog:bC}{w:cW}{A:dC}{s:ax}{params:vB}{body:Expr}{scope:uE}{pos:yz}
theorem SY {E:aj->ax->Prop}{Q:aj->ax->Prop}{f c':ah}{qual x:aL}{clos:List (aL×ah)}{pm ctv v:aj}
  (hroom:A.depth<qK) (ho:s.heap.get? f=some (Bw "<lambda>" qual params body scope clos pm c' ctv)) (hrec:s.heap.CodeRec (.ref c') qual) (hlim:s.heap.NoLimit)
  (hb:Mx (kla_fn "<lambda>" qual params body scope clos pm (.ref c') ctv) ⟨[v],[]⟩=pure [(x,v)])
  (hx:scope.names.lookup x=some .local) (hk:scope.kind=.function) (hco:scope.isCoroutine=false) (hgen:scope.isGenerator=false) (hcell:∀ z∈scope.names,z.2≠.cell)
  (h:∀ (env:xC) (h₁:dt) (tk:Nat) (E':aj->ax->Prop),env.scope=scope->env.cells=clos->s.heap.objs.size<=env.locals->h₁.Ns env.locals (λz=>du z [(x,v)])->(∀ b o,s.heap.get? b=some o->h₁.get? b=some o) ->
   aY (bg prog w) (A.deeper env) (fR body env) Q E' { s with heap:=h₁,toks:=tk }) :
  aY (bg prog w) A (call (.ref f) [v]) Q E s:=by
 refine Bu (PySem.W.kla_callFunE hroom ho rfl hco hgen rfl hrec ?_);rw [hb];refine aQ (ES hcell (λz hz=>by rw [aK.mp hz];exact hx) (λh₁ hns hsb=>⟨hlim.fresh _ hsb,?_⟩) hk);have hk₁:∀ b o,s.heap.get? b=some o->h₁.get? b=some o:=λb o e=>hsb.extBut b o (bb (aS e)) (aA _ e);exact PySem.W.kla_codeExpr (h _ h₁ _ _ rfl rfl (aE _) hns hk₁)
section
variable {env:xC}{h:dt}{a b:Expr}{i j:Int}
end
section
variable {X:Cx}{c Pt:ah}{e:Expr}{tx:TA}{x y:aL}{j:Nat}{p0 lpos kpos:yz}{C:Int->Int->Int->Prop}{g:Int->Int->Int->Int}
end
end L2
namespace L2
open PySem.Calls PySem.W
variable {w:cW}{A:dC}{s:ax}{prog:bC}{E:aj->ax->Prop}{h₀:dt} {m:aL->Option aj}{news:List (ah×jo)}{H:Hp}{f:aj}{e1:Nat}{zs:List Zn}
theorem Rt:∀ x y:List Int,iX x y=HT.lexLt x y
 | [],[]=>rfl
 | [],_::_=>rfl
 | _::_,[]=>rfl
 | x::xs,y::ys=>by unfold iX;rw [HT.FE,Rt xs ys]
def Ak (z:Zn) (t:T8):jo:=b9 "tuple" #[.int (z.1.headD 0) t,.ref z.2] 0
section
variable {Q:Bool->ax->Prop}
theorem Yb {k1 k2 b1 b2:ah}{w1 w2 x1 y1 x2 y2:Int}{t1 t2 ta tb tc td:T8}(hx:vO s.heap k1 #[.int w1 t1,.ref b1]) (hy:vO s.heap k2 #[.int w2 t2,.ref b2])
  (hb1:vO s.heap b1 #[.int x1 ta,.int y1 tb]) (hb2:vO s.heap b2 #[.int x2 tc,.int y2 td]) (hu:A.units<jq) (h:Q (iX [w1,x1,y1] [w2,x2,y2]) s):aY (bg prog w) A (keyLt' (tuples' true) (.ref k1) (.ref k2)) Q E s:=by
 obtain ⟨ox,ex,cx,nx,dx⟩:=hx;obtain ⟨oy,ey,cy,ny,dy⟩:=hy;refine kat_lt ex dx ey dy ?_;have ez:(#[jE w1 t1,aB b1].toList.zip #[jE w2 t2,aB b2].toList)=[(.int w1 t1,.int w2 t2),(.ref b1,.ref b2)]:=rfl;rw [ez];refine MH (jy w1 t1 w2 t2 _ _ _ _ ?_);unfold iX at h
 by_cases e:w1=w2
 .rw [if_pos e] at h;rw [show (w1 == w2)=true by simpa using e]
  by_cases eb:b1=b2
  .subst eb;refine MI (MH (SeqAt.EqAt.same _ _ _ _ _ (MI (kat_nil ?_))))
   have:x1=x2/\y1=y2:=by
    obtain ⟨o,e1,_,n,d1⟩:=hb1;obtain ⟨o',e2,_,n',d2⟩:=hb2;rw [e1] at e2;cases e2;rw [d1] at d2;simp at d2;exact ⟨d2.1.1.1,d2.1.2.1⟩
   rw [this.1,this.2,xH] at h;exact h
  .have rc:SeqAt.RcAt A s (.ref b1) (.ref b2) ((fT (min 2 2)).all (λj=>if j=0 then x1 == x2 else y1 == y2) && (2 == 2)):=SeqAt.RcAt.tuples (items:=#[.int x1 ta,.int y1 tb]) (items2:=#[.int x2 tc,.int y2 td]) hb1 hb2 hu λj h1 h2=>by
    match j,h1,h2 with
    | 0,_,_=>exact jy x1 ta x2 tc
    | 1,_,_=>exact jy y1 tb y2 td
    | j+2,h1,_=>exact absurd h1 (by simp)
   have er:((fT (min 2 2)).all (λj=>if j=0 then x1 == x2 else y1 == y2) && (2 == 2))=(x1 == x2 && y1 == y2):=by
    show ([0,1].all _ && true)=_
    simp
   rw [er] at rc;refine MI (MH (SeqAt.EqAt.of_refs eb rc _ _ _ _ ?_))
   by_cases c1:x1=x2/\y1=y2
   .rw [show (x1 == x2 && y1 == y2)=true by simp [c1]];refine MI (kat_nil ?_);rw [c1.1,c1.2,xH] at h;exact h
   .rw [show (x1 == x2 && y1 == y2)=false by
     cases q:(x1 == x2 && y1 == y2) with
     | false=>rfl
     | true=>simp at q;exact absurd q c1]
    refine kat_no (kat_one _ _ (HT.Pz hb1 hb2 (.cons _ _ (.cons _ _ .nil)) (.cons _ _ (.cons _ _ .nil)) hu ?_));rw [Rt] at h;exact h
 .rw [if_neg e] at h;rw [show (w1 == w2)=false by simpa using e];exact kat_no (oneLt_int h)
end
section
variable {P:bC}{env:xC}{h:dt}
theorem Vp {x y:aL}{b d cl:ah}{wt:Int}{tk:Nat}{p1 p2 p3 p4 p5:yz}{x1} {Q:aj->ax->Prop}(eY:vN P w H h) (hk:env.scope.kind=.function) (hx:env.scope.names.lookup x=some .local) (hy:env.scope.names.lookup y=some .free) (hn:h.Ns env.locals (λz=>du z [(x,aB b)]))
  (hcl:env.cells.lookup y=some cl) (hcv:h.IsCell cl (some (.ref d))) {OU:List (List ig×V)}{k:List ig}(hd:H d=some (.dT OU)) (hb:H b=some (.tup (k.map kV))) (hv:iL OU k=some (.int wt)) (hu:A.units+64<jq)
  (q:∀ t tk',Q (.ref h.objs.size) { s with heap:=h.push (b9 "tuple" #[.int wt t,.ref b] 0),toks:=tk' })
  (hdx:(x == ("__debug__":aL))=false:=by decide) (hdy:(y == ("__debug__":aL))=false:=by decide) (hdc:(y == ("__classdict__":aL))=false:=by decide) :
  aY (bg P w) A (fR (.Tuple [.Subscript (.Name y p1) (.Name x p2) p3,.Name x p4] x1 p5) env) Q E { s with heap:=h,toks:=tk }:=by
 have lx:du x [(x,aB b)]=some (aB b):=by rw [c9,beq_self_eq_true]
 refine wpAny_Tuple_spliced (Do (Ua (Bt (wpAny_loadName_free hk hy hcl (v:=.ref d) hcv ?_ hdc) hdy)));refine Bt (tL hk hx hn (v:=.ref b) lx ?_) hdx;obtain ⟨z,hm,xs,rel,dd⟩:=JN eY (.inl hd);obtain ⟨w',hw,rw'⟩:=xA.some_of (v:=V.int wt) (o:=(Pb xs k).map (·.2)) (by rw [← hv];exact rel.val k);obtain ⟨t,rfl⟩:=rw';obtain ⟨p,hp,hp2⟩:=jS.mp hw
 have ty:({ s with heap:=h,toks:=tk }:ax).TypeIs (.ref d) "dict":=by
  obtain ⟨o,es,ep,e1,e2,_⟩:=dd;exact ⟨o,e1,e2.1⟩
 refine tail_any ty Ke.lookup (wpAny_getItem_heap (pC (by lia)) (BC eY hb) dd hp ?_) rfl;rw [hp2];refine Do (Bt (tL hk hx hn (v:=.ref b) lx (Xe ⟨?_,q t _⟩)) hdx);exact gB (m:=2) (aE 2)
end
def Ru (own:List (ah×jo)) (zs:List Zn) (ks:List ah):Prop:=Paired (λ(z:Zn) (k:ah)=>∃ t,(k,Ak z t)∈own) zs ks
theorem Dx {α β:Type} {R:α->β->Prop}{a:α}{b:β}(r:R a b):∀ {xs:List α}{ys:List β},Paired R xs ys->Paired R (xs++[a]) (ys++[b])
 | _,_,.nil=>.cons r .nil
 | _,_,.cons h t=>.cons h (Dx r t)
theorem FT {α β:Type} {R:α->β->Prop}:∀ {xs:List α}{ys:List β},Paired R xs ys->ys.length=xs.length
 | _,_,.nil=>rfl
 | _,_,.cons _ t=>by simp [FT t]
theorem PM {α β:Type} {R:α->β->Prop}{xs:List α}{ys:List β}(p:Paired R xs ys):∀ (i:Nat) (a:α),xs[i]?=some a->∃ b,ys[i]?=some b/\R a b:=by
 induction p with
 | nil=>intro i a h;simp at h
 | cons r _ ih =>
  intro i a h
  cases i with
  | zero=>simp at h;subst h;exact ⟨_,rfl,r⟩
  | succ i=>simpa using ih i a (by simpa using h)
section
variable {L a kS:ah}{Fin:List aj->Nat->ax->Prop}
theorem Y7 (turn:∀ z∈zs,∀ (h:dt) (tk:Nat) (own:List (ah×jo)),Fr h₀ L h m->EO h₀ L h (news++own)->∀ Q:aj->ax->Prop,
   (∀ h' tk' t k,(∀ b o,h.get? b=some o->h'.get? b=some o)->h.get? k=none->h'.get? k=some (Ak z t)->Q (.ref k) { s with heap:=h',toks:=tk' })->aY (bg prog w) A (call f [.ref z.2]) Q (λ_ _=>False) { s with heap:=h,toks:=tk })
  (hak:a≠kS):∀ (r done:List Zn) (ks:List ah) (own:List (ah×jo)) (e:Nat) (h:dt) (tk:Nat),Fr h₀ L h m->EO h₀ L h ((kS,b9 "list" (ks.map aB).toArray e)::(a,b9 "list" #[] e1)::(own++news))->(∀ q∈own++news,q.1≠kS)->Ru own done ks->(∀ z∈r,z∈zs) ->
   (∀ own' ks' e' h' tk',Fr h₀ L h' m->EO h₀ L h' ((kS,b9 "list" (ks'.map aB).toArray e')::(a,b9 "list" #[] e1)::(own'++news))->(∀ q∈own'++news,q.1≠kS)->Ru own' (done++r) ks'->Fin (ks'.map aB) e' { s with heap:=h',toks:=tk' }) ->
   KatKeys prog w A h₀ L m kS f Fin (r.map λz=>aB z.2) (ks.map aB) e { s with heap:=h,toks:=tk }
 | [],done,ks,own,e,h,tk,F,N,hk,rel,hr,fin=>KatKeys.nil (fin own ks e h tk F N hk (by rw [ke];exact rel))
 | z::r,done,ks,own,e,h,tk,F,N,hk,rel,hr,fin=>by
  have nk:=N _ ak;refine KatKeys.cons (turn z (hr z ak) h tk ((kS,b9 "list" (ks.map aB).toArray e)::(a,b9 "list" #[] e1)::own) F (λp hp=>N p ?_) _ λh' tk' t k keep kn hkk=>?_)
  .rcases bX.mp hp with hp|hp
   .exact ag _ (ag _ (aU _ hp))
   .rcases az.mp hp with hp|hp
    .exact hp▸ak
    .rcases az.mp hp with hp|hp
     .exact hp▸ag _ ak
     .exact ag _ (ag _ (c6 _ hp))
  have F':Fr h₀ L h' m:=F.kept keep;have N':=N.grown keep
  have kL:k≠L:=λq=>by
   obtain ⟨o,_,_,e,_⟩:=F.ns;rw [q,e] at kn;cases kn
  have k0:h₀.get? k=none:=by
   cases q:h₀.get? k with
   | none=>rfl
   | some o=>rw [F.keep k o q] at kn;cases kn
  have kk:k≠kS:=λq=>by rw [q,nk.1] at kn;cases kn
  have hk':∀ q∈(k,Ak z t)::own++news,q.1≠kS:=λq hq=>by
   rcases az.mp hq with rfl|hq
   .exact kk
   .exact hk q hq
  have N2:EO h₀ L h' ((kS,b9 "list" (ks.map aB).toArray e)::(a,b9 "list" #[] e1)::((k,Ak z t)::own++news)):=λp hp=>by
   rcases az.mp hp with rfl|hp
   .exact N' _ ak
   .rcases az.mp hp with rfl|hp
    .exact N' _ (ag _ ak)
    .rcases az.mp hp with rfl|hp
     .exact ⟨hkk,kL,k0⟩
     .exact N' p (ag _ (ag _ hp))
  refine KatBack.intro F' N2 (Bx λq hq=>?_) λh2 c F2 N3=>?_
  .rcases az.mp hq with rfl|hq
   .exact hak
   .exact hk' q hq
  have em:ks.map aB++[aB k]=(ks++[k]).map aB:=by simp
  rw [em] at N3 ⊢
  exact Y7 turn hak r (done++[z]) (ks++[k]) ((k,Ak z t)::own) c h2 tk' F2 N3 hk' (Dx ⟨t,ak⟩ (Paired.TY rel λz' k' ⟨t',ht⟩=>⟨t',ag _ ht⟩))
   (λz' hz'=>hr z' (ag _ hz')) λown' ks' e' h3 tk3 F3 N4 hk3 rel3=>fin own' ks' e' h3 tk3 F3 N4 hk3 (by rw [eD] at rel3;exact rel3)
end
section
variable {L a kS:ah}{own:List (ah×jo)}{e:Nat}{ks:List ah}{Post:ax->Prop}
theorem PP (F:Fr h₀ L s.heap m) (N:EO h₀ L s.heap ((kS,b9 "list" (ks.map aB).toArray e)::(a,b9 "list" #[] e1)::(own++news))) (hk:∀ q∈own++news,q.1≠kS) (hak:a≠kS) (hna:∀ q∈news,q.1≠a)
  (rel:Ru own zs ks) (h2:2<=zs.length) (hu:A.units<jq) (tie:∀ z∈zs,∃ v x y t u,z.1=[v,x,y]/\vO s.heap z.2 #[.int x t,.int y u])
  (fin:∀ h' c (zs':List Zn),zs'.Perm zs->zs'.Pairwise (λz w=>iX w.1 z.1=false)->Fr h₀ L h' m->EO h₀ L h' ((a,b9 "list" (zs'.map λz=>aB z.2).toArray c)::news)->Post { s with heap:=h' }) :
  aY (bg prog w) A (keyKind' (ks.map aB).toArray) (λκ s''=>(kas_sort (zs.map λz=>aB z.2).length).kasWp (kas_ask prog w A κ (Uq false (ks.map aB))) (λp s3=>KatFin h₀ L m kS a (ks.map aB) e e1 (Uq false (p.toList.map λi=>(Uq false (zs.map λz=>aB z.2)).getD i dE)) (λs4=>Post s4) s3) s'') (λ_ _=>False) s:=by
 have kl:=FT rel
 have at_:∀ (z:Zn) (k:ah) (t:T8),(k,Ak z t)∈own->vO s.heap k #[.int (z.1.headD 0) t,.ref z.2]:=λz k t hm=>by
  have:=(N _ (ag _ (ag _ (c6 _ hm)))).1;exact ⟨_,this,rfl,0,rfl⟩
 have kt:∀ {zs:List Zn}{ks:List ah},Ru own zs ks->∃ fs,KatTups s.heap (ks.map aB) fs/\fs.length=zs.length/\∀ v∈fs,∃ i t,v=jE i t:=by
  intro zs ks rel
  induction rel with
  | nil=>exact ⟨[],.nil,rfl,λ_ h=>nomatch h⟩
  | cons r _ ih =>
   obtain ⟨fs,f1,f2,f3⟩:=ih;obtain ⟨t,ht⟩:=r;obtain ⟨o,e,c,n,d⟩:=at_ _ _ t ht;refine ⟨.int _ t::fs,KatTups.cons e c d (by rfl) f1,by simp [f2],λv hv=>?_⟩
   rcases az.mp hv with rfl|hv
   .exact ⟨_,t,rfl⟩
   .exact f3 v hv
 obtain ⟨fs,f1,f2,f3⟩:=kt rel;refine kat_kind (T:=.type "int") f1 (by lia) (λv hv=>?_) rfl ?_
 .obtain ⟨i,t,rfl⟩:=f3 v hv;exact Looks.now
 have et:(lI "int" != lI "tuple")=true:=by decide
 rw [et,ao]
 have rv:∀ {α:Type} (l:List α),Uq false l=l:=λl=>by unfold Uq;rw [if_neg (by simp)]
 simp only [rv]
 have gz:∀ i,i<zs.length->(zs.map λz=>aB z.2).getD i dE=aB (zs.getD i ([],0)).2:=λi hi=>by simp [hi]
 have mz:∀ i,i<zs.length->zs.getD i ([],0)∈zs:=λi hi=>by
  have:zs.getD i ([],0)=zs[i]:=by simp [hi]
  rw [this];exact jH hi
 have gk:∀ i,i<zs.length->∃ k t,(ks.map aB).getD i dE=aB k/\vO s.heap k #[.int ((zs.getD i ([],0)).1.headD 0) t,.ref (zs.getD i ([],0)).2]:=λi hi=>by
  obtain ⟨k,hk1,t,ht⟩:=PM rel i _ (by rw [bc hi])
  have:zs.getD i ([],0)=zs[i]:=by simp [hi]
  rw [this];exact ⟨k,t,by simp [hk1],at_ _ _ _ ht⟩
 refine Sx.Sat.ask (n:=zs.length) (k:=λi=>JU (zs.map (·.1)) (zs.getD i ([],0)).1) (λi j C hi hj hC=>?_) (λpr hp=>?_) (Sx.Ng (by lia))
 .unfold kas_ask;obtain ⟨k1,t1,q1,i1⟩:=gk i hi;obtain ⟨k2,t2,q2,i2⟩:=gk j hj;rw [q1,q2]
  have hC':C (iX (zs.getD i ([],0)).1 (zs.getD j ([],0)).1) s:=by
   rw [FR (cF (mz i hi))] at hC;exact hC
  obtain ⟨v1,x1,y1,ta,tb,z1,b1⟩:=tie _ (mz i hi);obtain ⟨v2,x2,y2,tc,td,z2,b2⟩:=tie _ (mz j hj);rw [z1,z2] at hC';rw [z1] at i1;rw [z2] at i2;exact Yb i1 i2 b1 b2 hu hC'
 .obtain ⟨hperm,hsort⟩:=Aj (d:=([],0)) (λi=>rfl) hp.1 hp.2
  have plt:∀ i∈pr.toList,i<zs.length:=λi hi=>by simpa using hp.1.mem_iff.mp hi
  have eo:(pr.toList.map λi=>(zs.map λz=>aB z.2).getD i dE)=(pr.toList.map λi=>zs.getD i ([],0)).map λz=>aB z.2:=by
   rw [dj];exact fY λi hi=>gz i (plt i hi)
  rw [eo];generalize (pr.toList.map λi=>zs.getD i ([],0))=zs' at hperm hsort;refine KatFin.intro F N (Bx λq hq=>?_) λh' c F' N'=>?_
  .rcases az.mp hq with rfl|hq
   .exact hak
   .exact hk q hq
  have N2:EO h₀ L h' ((a,b9 "list" #[] e1)::news):=λp hp=>by
   rcases az.mp hp with rfl|hp
   .exact N' _ (ag _ ak)
   .exact N' p (ag _ (ag _ (aU _ hp)))
  exact Pe (s:={ s with heap:=h' }) F' N2 (Bx λq hq=>hna q hq) λh'' c' F'' N''=>fin h'' c' zs' hperm hsort F'' N''
end
section
variable {L a:ah}{n:Nat}{vs:List aj}{P:PySem.Fin->ax->Prop}
theorem SZ (F:Fr h₀ L s.heap m) (N:EO h₀ L s.heap news) (ho:s.heap.get? a=some (b9 "list" vs.toArray n)) (haL:a≠L) (ha0:h₀.get? a=none) (hna:∀ p∈news,p.1≠a) (h1:vs.length<2)
  (turn:∀ v∈vs,∀ (h:dt) (tk:Nat) (own:List (ah×jo)),Fr h₀ L h m->EO h₀ L h (news++own)->∀ Q:aj->ax->Prop,
   (∀ h' tk' k,(∀ b o,h.get? b=some o->h'.get? b=some o)->Q k { s with heap:=h',toks:=tk' })->aY (bg prog w) A (call f [v]) Q (λ_ _=>False) { s with heap:=h,toks:=tk })
  (q:∀ h' tk c,Fr h₀ L h' m->EO h₀ L h' ((a,b9 "list" vs.toArray c)::news)->P (.done (.ret .none)) { s with heap:=h',toks:=tk }):aY (bg prog w) A (ksk_tree a f false) P E s:=by
 have hz:vs.length<=aT:=gB (m:=2) (by lia);have s1:=pD s.heap a (cD λ_=>(#[]:Array aj))
 obtain ⟨e1,g1⟩:∃ c,(s.heap.update a (cD λ_=>(#[]:Array aj))).get? a=some (b9 "list" #[] c):=⟨_,Q0 ho λ_=>#[]⟩
 have F1:Fr h₀ L (s.heap.update a (cD λ_=>(#[]:Array aj))) m:=ksk_fr F s1 haL ha0;have N1:=ksk_news N s1 hna;unfold ksk_tree;refine ar (ME ho rfl (ar (HI ho rfl (ar (seqEpoch_at g1 rfl (ar (wpAny_newTuple (ar (HH (gf ?_) (dm _))) hz)))) (by rw [bu];exact hz) (dm _))));have k2:∀ b o,(s.heap.update a (cD λ_=>(#[]:Array aj))).get? b=some o->(((s.heap.update a (cD λ_=>(#[]:Array aj))).push (b9 "tuple" vs.toArray 0)).push (b9 "list" #[] 0)).get? b=some o:=λb o e=>aA _ (aA _ e);have gk:(((s.heap.update a (cD λ_=>(#[]:Array aj))).push (b9 "tuple" vs.toArray 0)).push (b9 "list" #[] 0)).get? ((s.heap.update a (cD λ_=>(#[]:Array aj))).push (b9 "tuple" vs.toArray 0)).objs.size=some (b9 "list" #[] 0):=aZ _ rfl;have kfr:∀ b o,(s.heap.update a (cD λ_=>(#[]:Array aj))).get? b=some o->b≠((s.heap.update a (cD λ_=>(#[]:Array aj))).push (b9 "tuple" vs.toArray 0)).objs.size:=λb o e=>bb (aS (aA (b9 "tuple" vs.toArray 0) e))
 show aY (bg prog w) A (ksk_rest a f false vs.toArray _ (.ref ((s.heap.update a (cD λ_=>(#[]:Array aj))).push (b9 "tuple" vs.toArray 0)).objs.size)) _ _ { s with heap:=((s.heap.update a (cD λ_=>(#[]:Array aj))).push (b9 "tuple" vs.toArray 0)).push (b9 "list" #[] 0) }
 generalize ((s.heap.update a (cD λ_=>(#[]:Array aj))).push (b9 "tuple" vs.toArray 0)).objs.size=kS at gk kfr;generalize ((s.heap.update a (cD λ_=>(#[]:Array aj))).push (b9 "tuple" vs.toArray 0)).push (b9 "list" #[] 0)=h2 at k2 gk;have hak:a≠kS:=kfr a _ g1;have hnk:∀ p∈news,p.1≠kS:=λp hp=>kfr _ _ (N1 p hp).1
 have kL:kS≠L:=λz=>by
  obtain ⟨o,_,_,e,_⟩:=F1.ns;exact kfr _ _ e z.symm
 have k0:h₀.get? kS=none:=by
  cases z:h₀.get? kS with
  | none=>rfl
  | some o=>exact absurd rfl (kfr _ _ (F1.keep kS o z))
 have F2:=F1.kept k2
 have N2:EO h₀ L h2 ((kS,b9 "list" #[] 0)::(a,b9 "list" #[] e1)::news):=λp hp=>by
  rcases az.mp hp with rfl|hp
  .exact ⟨gk,kL,k0⟩
  .rcases az.mp hp with rfl|hp
   .exact ⟨k2 _ _ g1,haL,ha0⟩
   .exact (N1.grown k2) p hp
 have end_:∀ (ks:List aj) (e:Nat) (h:dt) (tk:Nat),ks.length=vs.length->Fr h₀ L h m->EO h₀ L h ((kS,b9 "list" ks.toArray e)::(a,b9 "list" #[] e1)::news)->aY (bg prog w) A (ksk_end a false vs.toArray e1 (.ref kS) ks.toArray) P E { s with heap:=h,toks:=tk }:=by
  intro ks e h tk hl F3 N3
  have hn2:vs.toArray.size<2:=by rw [bu];exact h1
  unfold ksk_end;simp only [iJ,if_false];rw [if_pos hn2,if_pos hn2];refine ar (aQ ?_);rw [YL];refine ar (aQ ?_);dsimp only;refine kat_tail (h₀:=h₀) (L:=L) (m:=m) (e:=e) (ks:=ks) (out:=vs) ?_ (by lia) (by lia) rfl ?_
  .show (ks.toArray.zip vs.toArray).map (·.2)=vs.toArray
   apply HA.mp
   simp;exact Zo (by lia)
  .have rv:Uq false vs=vs:=by unfold Uq;rw [if_neg (by simp)]
   rw [rv];refine KatFin.intro F3 N3 (Bx λq hq=>?_) λh' c F' N'=>?_
   .rcases az.mp hq with rfl|hq
    .exact hak
    .exact hnk q hq
   .exact Pe (s:={ s with heap:=h',toks:=tk }) F' (λp hp=>N' p (ag _ hp)) (Bx λq hq=>hna q hq) λh'' c' F'' N''=>q h'' tk c' F'' N''
 unfold ksk_rest;refine ar (wpAny_rule ?_)
 match vs,h1,turn,end_ with
 | [],_,_,end_ =>
  refine ar ?_;simp only [Xo,List.forIn_nil]
  refine aQ (ar (ME gk rfl (end_ [] 0 h2 _ rfl F2 N2)))
 | [v],_,turn,end_ =>
  refine ar ?_;simp only [Xo,List.forIn_cons,List.forIn_nil];refine ar (ar (yK (dF (turn v ak h2 _ ((kS,b9 "list" #[] 0)::(a,b9 "list" #[] e1)::[]) F2 (λp hp=>N2 p ?_) _ λh3 tk3 k keep=>?_) (λ_ _ z=>z) λ_ _ z=>z.elim)))
  .rcases bX.mp hp with hp|hp
   .exact ag _ (ag _ hp)
   .rcases az.mp hp with rfl|hp
    .exact ak
    .rw [aK.mp hp];exact ag _ ak
  have g3:=keep _ _ gk;have s3:=pD h3 kS (cD (·.push k))
  obtain ⟨c3,g4⟩:∃ c,(h3.update kS (cD (·.push k))).get? kS=some (b9 "list" (List.toArray [k]) c):=⟨_,Q0 g3 (·.push k)⟩
  dsimp only;refine ar (HI g3 rfl (aQ ?_) (dm _) (qN (dm _)));dsimp only;refine aQ (ar (ME g4 rfl (end_ [k] c3 _ tk3 rfl (ksk_fr (F2.kept keep) s3 kL k0) λp hp=>?_)))
  rcases az.mp hp with rfl|hp
  .exact ⟨g4,kL,k0⟩
  .have:=(N2.grown keep) p (ag _ hp)
   exact ⟨(s3.2 p.1 (by
    rcases az.mp hp with rfl|hp
    .exact hak
    .exact hnk p hp)).trans this.1,this.2⟩
 | _::_::_,h,_,_=>exact absurd h (by simp)
end
theorem Nq {OU:List (List ig×V)}{g:Int->Int->Int}:∀ {kvs:List (List ig×V)}{xs:List (List ig×ah×aj)},Paired (λ(p:List ig×V) (q:List ig×ah×aj)=>p.1=q.1/\H q.2.1=some (.tup (p.1.map kV))/\RelV p.2 q.2.2) kvs xs ->
  (∀ p∈kvs,∃ x y:Int,p.1=[bK x,bK y]/\iL OU p.1=some (.int (g x y)))->∃ zs:List Zn,xs.map (λq=>aB q.2.1)=(zs.map λz=>aB z.2)/\(∀ z∈zs,∃ x y,z.1=[g x y,x,y]/\H z.2=some (.tup [.int x,.int y])/\iL OU [bK x,bK y]=some (.int (g x y))) /\
   kvs.map (·.1)=zs.map λz=>([bK (z.1.getD 1 0),bK (z.1.getD 2 0)]:List ig)
 | _,_,.nil,_=>⟨[],rfl,(λz hz=>nomatch hz),rfl⟩
 | _,_,.cons (a:=p) (b:=q) r t,hp=>by
  obtain ⟨zs,e1,e2,e3⟩:=Nq t λp' hp'=>hp p' (ag _ hp');obtain ⟨x,y,exy,ew⟩:=hp _ ak;refine ⟨([g x y,x,y],q.2.1)::zs,by simp [e1],λz hz=>?_,by simp [exy,e3]⟩
  rcases az.mp hz with rfl|hz
  .have:=r.2.1;rw [exy] at this;rw [exy] at ew;exact ⟨x,y,rfl,this,ew⟩
  .exact e2 z hz
section
variable {X:Cx}{c Pt:ah}{e:Expr}{tx:TA}{x y:aL}{j:Nat}{params:vB}{scope:uE}{p0 p1 p2 p3 p4 p5 lpos kpos pos:yz}{x1:Nat}
end
end L2
namespace L2
open PySem.Calls
theorem i7.WI {k:Nat}{A:dC}(r:i7 k A):A.units+128<jq:=by have:=r.un;lia
structure Ta (P:bC) (w:cW) (K:ae) (mg:aL->Option aj) (base:dt) (CX:Ko) (k:Nat) (B:ah) (x:aL) (ps:List aL) (sp:Sp) where
 f:ah
 d:fv
 G:cI P w K mg base CX k f d ps sp
 mc:aj
 ga:i6 K (.ref B) "__getattribute__"=some (some (.builtin "type.__getattribute__"))
 rd:Xp K B mc=true
 at_:Xq K (.ref B) mc x=some (.val (.ref f))
 kp:bV K (.ref f)=true
 b:Binds K d ps []
section
variable {X:Cx}{CX:Ko}{k:Nat}{B:ah}{x:aL}{ps:List aL}{sp:Sp}{o e:Expr}{es:List Expr}{t:TA}{E:XK}{apos pos:yz}
theorem pcb {pl:MM Bool}(c:Ta X.prog X.w X.K X.mg X.base CX k B x ps sp) (hr:i7 k X.A) (he:PE X o (tC (.ref B))) (hx:mj CX X E) (ha:PA X (e::es) t)
  (hst:bw (e::es) X.env=(false,fR e X.env)::bw es X.env:=by rfl) (hpl:(iS pos (bw es X.env)).any (·.1)=false:=by rfl)
  (ht:fR (.Call (.Attribute o x apos) (e::es) [] pos) X.env=(do
   let ov ← fR o X.env
   yc apos.atName
   let (f,first) ← qI [ov] (zY ov x pl)
   Uc pos f first (iS pos (bw (e::es) X.env)) (zZ pos (pE [] X.env))):=by rfl) :
  PE X (.Call (.Attribute o x apos) (e::es) [] pos) (cu sp [] E t):=by
 intro pins s Z H Q I h;refine xE (pl:=pl) (gJ (he pins s Z H (λv H1=>v=.ref B/\H1=H) I ⟨rfl,rfl⟩) λu s1 ⟨xv,H1,I1,rx,ex,eH⟩=>?_) ht;subst ex eH;obtain rfl:u=aB B:=rx;refine PySem.W.method_cls I1.vM c.ga (PySem.W.cls_value I1.vM c.rd c.at_ rfl ?_);refine jN (first:=[]) (h₀:=X.base) I.ok.mod.Xc c.kp (gJ (ha pos pins _ Z H1 _ (I1.tok _) h) λus s2 ⟨vs,H2,I2,r,q2⟩=>⟨I2.vM,?_⟩) hst hpl;exact Kq (us:=us) (vs:=vs) c.G hr c.b .nil hx I2 r q2
end
section
variable {X:Cx}{x:Expr}{t:TA}{p1 p2 q1 q2:yz}
end
end L2
namespace L2
open PySem.Calls
open PySem.W (tabObj CodeHd noTabs tabIn)
variable {Ps:List (ah×ah)}{x:aL}
theorem Tb {P:bC}{w:cW}{K:ae}{mg mb:aL->Option aj}{k:Nat}{fa a:ah}{fd:fv}{sp:Sp}{s₁:ax} {vs:List aj}{ns:List Int}
  (KX:K.In s₁.heap) (hns:s₁.heap.Ns aX mg) (hb:s₁.heap.Ns builtinsNs mb) (hbb:∀ x:aL,x≠"__name__"->mb x=fF x) (hlim:s₁.heap.NoLimit) (hg:s₁.gens=#[])
  (C:∀ p∈Ps,qM s₁.heap p.1 p.2) (hPt0:∀ p∈Ps,s₁.heap.get? p.2=some (OZ #[])) (Bm:∀ p∈Ps,s₁.heap.BuiltinsAt mg p.2) (hnt:noTabs K=true)
  (ha:s₁.heap.get? a=some { cls:=.type "list",data:=.seq vs.toArray }) (hi:oO vs ns) (hl:ns.length<=aT) (hr:i7 k MA)
  (F:∀ base:dt,K.In base->base.Ns aX mg->(∀ p∈Ps,qM base p.1 p.2/\base.BuiltinsAt mg p.2)->cI P w K mg base dU k fa fd [x] sp) (hbind:∀ (s:ax) (u:aj),Fk s fd ⟨[u],[]⟩ [(x,u)])
  (hsp:∀ H:Hp,(∀ p∈Ps,H p.2=some (.tbl #[]))->gb K H a (ns.map V.int)->sp [.ref a] H (λv _=>v=.bl true) λ_ _ _=>False)
  (hCX:∀ H e s',dU [] H s₁ (λ_ _ _=>False) e s'->False) :
  sO (bg P w) MA (.call (.ref fa) ⟨[.ref a],[]⟩) (λr s'=>r=.ok (.ret (.bool true))/\OldK s₁.heap s'.heap/\s'.os=s₁.os/\ve s'.gens) s₁:=by
 have rv:=JO hi;have lenV:=hi.length
 have hPt:∀ b,b∈Ps.map (·.2)->s₁.heap.get? b=some (OZ #[]):=λb hb=>by
  obtain ⟨p,hp,rfl⟩:=cQ.mp hb;exact hPt0 p hp
 have naP:a∉Ps.map (·.2):=λz=>by rw [hPt a z] at ha;cases ha
 have KPt:∀ b,b∈Ps.map (·.2)->K.lookup b=none:=λb hb=>by
  cases q:K.lookup b with
  | none=>rfl
  | some o =>
   have e:=KX b o q;rw [hPt b hb] at e;cases e;have h2:=mh.mp hnt (b,OZ #[]) (PySem.W.mem_of_lookupK q);exact absurd (show false=true from h2) bF
 have core:∀ H:Hp,(∀ b,b∈Ps.map (·.2)->H b=some (.tbl #[]))->(∀ b,b∉Ps.map (·.2)->H b=none\/∃ o xs,H b=some (.frz o (.lst xs)))->gb K H a (ns.map V.int)->vN P w H s₁.heap->(∀ b,b∉Ps.map (·.2)->H b≠none->b=a)->(H a≠none->K.lookup a=none) ->
   sO (bg P w) MA (.call (.ref fa) ⟨[.ref a],[]⟩) (λr s'=>r=.ok (.ret (.bool true))/\OldK s₁.heap s'.heap/\s'.os=s₁.os/\ve s'.gens) s₁:=by
  intro H hT hO hS eY hA hK;have base_of:∀ {b:ah}{o:jo},s₁.heap.get? b=some o->H b=none->(Fq s₁.heap H).get? b=some o:=λe n=>UG e n
  have noA:∀ {b:ah}{o:jo},s₁.heap.get? b=some o->o.cls≠.type "list"->b∉Ps.map (·.2)->H b=none:=λ{b o} e d hbP=>by
   cases q:H b with
   | none=>rfl
   | some u =>
    have e':b=a:=hA b hbP (by rw [q];simp);subst e';rw [ha] at e;cases e;exact absurd rfl d
  have noD:∀ {b:ah}{o:jo}{es:Array DictEntry}{ep:Nat},s₁.heap.get? b=some o->o.data=.dict es ep->H b=none:=λ{b o es ep} e d=>by
   have hbP:b∉Ps.map (·.2):=λz=>by rw [hPt b z] at e;cases e;cases d
   cases q:H b with
   | none=>rfl
   | some u =>
    have e':b=a:=hA b hbP (by rw [q];simp);subst e';rw [ha] at e;cases e;have d':Data.seq vs.toArray _=Data.dict es ep:=d;cases d'
  have nsK:∀ {b:ah}{m:aL->Option aj},s₁.heap.Ns b m->(Fq s₁.heap H).Ns b m:=λ{b m} ⟨o,es,ep,e,d,r⟩=>⟨o,es,ep,base_of e (noD e d),d,r⟩
  have hKb:K.In (Fq s₁.heap H):=λb o e=>base_of (KX b o e) (by
   have hbP:b∉Ps.map (·.2):=λz=>by rw [KPt b z] at e;cases e
   cases q:H b with
   | none=>rfl
   | some u =>
    have e':b=a:=hA b hbP (by rw [q];simp);subst e'
    rw [hK (by rw [q];simp)] at e;cases e)
  have hM:Mod K mg (Fq s₁.heap H):=⟨hKb,nsK hns,⟨mb,nsK hb,hbb⟩,let ⟨mc,h1,h2⟩:=hlim;⟨mc,nsK h1,h2⟩⟩
  have notab:∀ {b:ah}{o:jo},s₁.heap.get? b=some o->o.cls≠.none->b∉Ps.map (·.2):=λ{b o} e d z=>by rw [hPt b z] at e;cases e;exact d rfl
  have hCB:∀ p∈Ps,qM (Fq s₁.heap H) p.1 p.2/\(Fq s₁.heap H).BuiltinsAt mg p.2:=λp hp=>by
   refine ⟨?_,?_⟩
   .obtain ⟨o,vs',file,tf,flags,tg,inF,text,tt,e1,r1,r2,r3,r4,r5,r6,r7,r8,hne⟩:=C p hp;exact ⟨o,vs',file,tf,flags,tg,inF,text,tt,base_of e1 (noA e1 (by rw [r1];decide) (notab e1 (by rw [r1];decide))),r1,r2,r3,r4,r5,r6,r7,r8,hne⟩
   .obtain ⟨bm,o,b1,b2,b3,b4,b5,b6,b7⟩:=Bm p hp;exact ⟨bm,o,b1,b2,b3,b4,base_of b5 (noA b5 (by rw [b6];decide) (notab b5 (by rw [b6];decide))),b6,b7⟩
  have e0:OQ P w K mg (Fq s₁.heap H) MA [] s₁ H:=⟨rfl,hM,λb o e=>Xs e,Ub (Sq _ _),trivial,λb hb=>absurd (show b∈([]:List ah) from hb) (by simp),eY,.of_eq hg⟩
  refine qL ((F _ hKb (nsK hns) hCB).run MA [] s₁ H ⟨[.ref a],[]⟩ [.ref a] [.ref a] _ _ hr e0 (hbind s₁ (.ref a)) (.cons rfl .nil) (hsp H (λp hp=>hT p.2 (cF hp)) hS)) λr s' h=>?_
  cases r with
  | error e=>exact (hCX H e s' h).elim
  | ok fl =>
   cases fl with
   | next=>exact dh h
   | brk=>exact dh h
   | cont=>exact dh h
   | ret u =>
    obtain ⟨v,H',os,bare,un,hok',r',q⟩:=h;have q':v=.bl true:=q;subst q';obtain rfl:u=xD true:=r'
    have keep:∀ b o,b∉Ps.map (·.2)->s₁.heap.get? b=some o->s'.heap.get? b=some o:=λb o hbP e=>by
     cases q:H b with
     | none=>exact un.keep b o e q (by intro z;exact absurd (show b∈([]:List ah) from z) (by simp)) (by simp)
     | some u =>
      rcases hO b hbP with z|⟨ob,xs,z⟩
      .rw [q] at z;cases z
      .have z2:=un.uv b ob _ z;obtain ⟨e1,_⟩:=eY b _ z;obtain ⟨e2,_⟩:=hok' b _ z2;rw [e] at e1;cases e1;exact e2
    have hmore:∀ b,b∈Ps.map (·.2)->∃ more,s'.heap.get? b=some (OZ (#[]++more)):=λb hb=>by
     obtain ⟨more,hm⟩:=un.ux b _ (hT b hb);exact ⟨more,hok' b _ hm⟩
    refine ⟨rfl,⟨λb o e=>?_,λb o e=>?_⟩,os,bare⟩
    .by_cases hbP:b∈Ps.map (·.2)
     .obtain ⟨more,hP'⟩:=hmore b hbP;obtain ⟨p,hp,rfl⟩:=cQ.mp hbP;rw [hPt0 p hp] at e;cases e;exact .inr (.inl ⟨((C p hp).tab (hPt0 p hp)).isCodeTable,rfl,#[],more,rfl,hP'⟩)
     .exact .inl (keep b o hbP e)
    .by_cases hbP:b∈Ps.map (·.2)
     .obtain ⟨more,hP'⟩:=hmore b hbP;exact ⟨_,hP'⟩
     .exact ⟨o,keep b o hbP e⟩
 cases hk:K.lookup a with
 | some o =>
  have e:=KX a o hk;rw [ha] at e;cases e;refine core (λb=>if b∈Ps.map (·.2) then some (.tbl #[]) else none) (λb hb=>if_pos hb) (λb hb=>.inl (if_neg hb)) (.inr ⟨_,vs.toArray,_,hk,rfl,rfl,rfl,by rw [bu,lenV];exact hl,by simpa using rv⟩) (λb u z=>?_) (λb hb z=>absurd (if_neg hb) z) λz=>absurd (if_neg naP) z
  by_cases hb:b∈Ps.map (·.2)
  .have z':=(if_pos hb).symm.trans z;cases z';exact hPt b hb
  .have z':=(if_neg hb).symm.trans z
   cases z'
 | none =>
  refine core (λb=>if b∈Ps.map (·.2) then some (.tbl #[]) else if b=a then some (.frz { cls:=.type "list",data:=.seq vs.toArray } (.lst (ns.map V.int))) else none) (λb hb=>if_pos hb) (λb hb=>?_) (.inl (.inr ⟨{ cls:=.type "list",data:=.seq vs.toArray },(if_neg naP).trans (if_pos rfl)⟩)) (λb u z=>?_) (λb hb z=>?_) λ_=>hk
  .by_cases hba:b=a
   .exact .inr ⟨_,_,(if_neg hb).trans (if_pos hba)⟩
   .exact .inl ((if_neg hb).trans (if_neg hba))
  .by_cases hb:b∈Ps.map (·.2)
   .have z':=(if_pos hb).symm.trans z;cases z';exact hPt b hb
   .have z0:=(if_neg hb).symm.trans z
    by_cases hba:b=a
    .have z':=(if_pos hba).symm.trans z0;cases z';subst hba;exact ⟨ha,by rw [ao];exact hl,vs,_,rv,ha⟩
    .have z':=(if_neg hba).symm.trans z0;cases z'
  .by_cases hba:b=a
   .exact hba
   .exact absurd ((if_neg hb).trans (if_neg hba)) z
theorem Vq {l:vC}{n k:Nat}{q:bC}{loose:List aL}{XP:(aL->Option aj)->dt->Prop}{YP:cW->dt->Prop}{d:DefRec}{K:Params->ae}{sp:cW->Sp}
  (hn:l.most=some n) (hn2:n<=aT) (hdf:d.params.defaults=[]) (hr:i7 k MA)
  (hY:∀ (w:cW) (h:dt),YP w h->(K w.params).In h)
  (htab:∀ p∈Ps,∃ (y:aL) (dy:DefRec),(recsOf q).find? (λe=>e.name == y)=some dy/\∀ w:cW,tabIn (K w.params) y=some p) (hnt:∀ w:cW,noTabs (K w.params)=true)
  (F:∀ (w:cW) (mg:aL->Option aj) (fa:ah) (h:dt),(K w.params).In h->h.Ns aX mg->mg d.name=some (.ref fa) ->
   ∃ fd:fv,(∀ (s:ax) (u:aj),Fk s fd ⟨[u],[]⟩ [(x,u)]) /\
    ∀ base:dt,(K w.params).In base->base.Ns aX mg->(∀ p∈Ps,qM base p.1 p.2/\base.BuiltinsAt mg p.2)->cI l.prog w (K w.params) mg base dU k fa fd [x] (sp w))
  (hsp:∀ (w:cW) (H:Hp) (a:ah) (ns:List Int),ns.length<=n->(∀ p∈Ps,H p.2=some (.tbl #[]))->gb (K w.params) H a (ns.map V.int)->sp w [.ref a] H (λv _=>v=.bl true) λ_ _ _=>False)
  (hCX:∀ (H:Hp) (s:ax) (e:aj) (s':ax),dU [] H s (λ_ _ _=>False) e s'->False) :
  WU q loose XP YP l.row.toRowW d [] (λf vs=>WV f vs):=by
 refine Att.M7 hn hdf λw s₀ s₁ mg mb fa o pm cd doc a vs ns G Y ho hd hcd hmg hobj hints hlen hg=>?_;have KX:=hY w _ Y;obtain ⟨fd,hb,hF⟩:=F w mg fa _ KX G.T.g hmg
 have hC:∀ p∈Ps,qM s₁.heap p.1 p.2/\s₁.heap.get? p.2=some (OZ #[]):=λp hp=>by
  obtain ⟨y,dy,h1,h2⟩:=htab p hp;exact PySem.W.tab_of G.T KX h1 (h2 w)
 have hgs:=G.T.g;obtain ⟨bm,ob,b1,b2,b3,b4,b5,b6⟩:=G.T.bmain
 have hbG:bm≠aX:=λq=>by
  obtain ⟨o,es,ep,e,hd,_⟩:=hgs;rw [q,e] at b3;cases b3;rw [hd] at b6;cases b6
 refine Tb KX G.T.g G.T.b G.T.builtins G.T.nolimit hg (λp hp=>(hC p hp).1) (λp hp=>(hC p hp).2) (λp hp=>⟨bm,ob,b1,b2,hbG,λq=>?_,b3,b4,b5,b6⟩) (hnt w) hobj hints (bU hlen hn2) hr hF hb (λH hT hS=>hsp w H a ns hlen hT hS) λH e s'=>hCX H s₁ e s';have:=(hC p hp).2;rw [← q,b3] at this;cases this;cases b4
end L2
namespace L2
def Y8 (K:ae):List V->Hp->VK->Prop:=λxs H Q=>∃ (p:ah) (ns:List Int),xs=[.ref p]/\gb K H p (ns.map V.int)/\Q (.int ns.sum) H
theorem Tc {X:Cx}(hc:X.calm=true):mK X (.builtin "sum") (Y8 X.K):=by
 intro pins s Z H xs us Q I r h;obtain ⟨p,ns,rfl,hq,q⟩:=h;obtain ⟨u,rfl,ru⟩:=vals1 r;cases ru;obtain ⟨its,rv,pl,hz⟩:=I.list hq;have hi:oO its ns:=intsAre_of rv;obtain ⟨ys,e⟩:=hi.allInts.items;have hn:=hi.numsOf
 have e':its=(intItems ys).toList:=by rw [← e]
 rw [e',nums_intItems] at hn
 have hl:s.heap.IsList p (intItems ys):=by rw [← e];exact pl.isList
 subst hn
 refine sum_intListG (I.ok.hd hc) hl λh' tk t' hk=>⟨.int _,H,I.kept hk,⟨t',?_⟩,q⟩
 rw [preSum_eq,bS (by simp)]
end L2
namespace L2
open PySem.W
section
variable {X:Cx}{a:Expr}{ta:TE}
end
end L2
namespace L2
open PySem.Calls PySem.W
theorem Nr {prog:bC}{w:cW}{A:dC}{E:aj->ax->Prop}{s:ax}{l:ah}{vs:List aj}{Q:List aj->ax->Prop}(hl:s.heap.IsList l vs.toArray) (hn:vs.length<=aT)
  (q:∀ h' tk,(∀ b o,s.heap.get? b=some o->h'.get? b=some o)->Q vs { s with heap:=h',toks:=tk }):aY (bg prog w) A (collect (.ref l)) Q E s:=by
 refine collect_list hl (q _ _ λb o e=>?_) (by simpa using hn);have hlt:b<s.heap.objs.size:=aS e;rw [Heap.get?_update_ne _ _ _ _ (bb hlt),Heap.get?_push_ne _ _ _ (bb hlt)];exact e
section
variable {X:Cx}{c Pt:ah}{e:Expr}{tx:TA}{x y:aL}{j:Nat}{params:vB}{scope:uE}{p0 p1 p2 p3 p4 p5 lpos kpos pos:yz}{x1:Nat}
end
end L2
namespace Sw
section
variable {prog:bC}{w:cW}{A:dC}{E:aj->ax->Prop}{s:ax}
end
end Sw
namespace L2
open PySem.W
section
variable {X:Cx}{x:Expr}{t:TA}{p1 p2 q1 q2:yz}
end
end L2
namespace L2
variable {C f:ah}{sp:Sp}{x:aL}{K:ae}{ta:TE}{Z:St}{H:Hp}{Q:VK}{t:TA}{fd:fv}{e:Expr}{X:Cx}{k i:Nat}{ps:List aL}{pos:yz}
section
variable {CT:ah}{xT n:aL}{p np cpos epos hpos:yz}{es:List Expr}{th:TS}{b₀:dw} {OV:List dw}
end
theorem kh {f:aL}(h:ta Z H λx H1=>∃ a C dx fs v,x=.ref a/\H1 a=some (.ins C dx fs)/\Fg K C/\dR K C f/\fs.lookup f=some v/\Q v H1):eQ K ta f Z H Q:=h
theorem gQ {m:aL}{dvs:List V}{E:XK}(h:ta Z H λx H1=>∃ a dx fs,x=.ref a/\H1 a=some (.ins C dx fs)/\fs.lookup m=none/\t Z H1 λvs H2=>sp (x::(vs++dvs)) H2 Q E):dv C m sp dvs E ta t Z H Q:=h
section
variable {mg:aL->Option aj}{q:aL}{st:dw}{CX:Ko}
def tQ.jm (d:tQ K mg x st ps) (P:bC) (w:cW) (base:dt) (h:cI P w K mg base CX k d.f d.d ps sp):lV P w K mg base CX k x ps sp:=⟨d.f,d.d,h,d.m,d.F.kp,d.b⟩
def jr.jm (d:jr K C x q st ps) (P:bC) (w:cW) (base:dt) (h:cI P w K mg base CX k d.f d.d ps sp):iC P w K mg base CX k C x ps sp:=⟨d.f,d.d,h,⟨d.a,d.i,d.F.kp⟩,d.b⟩
def jr.OS (d:jr K C "__init__" q st ps) (P:bC) (w:cW) (base:dt) (mk:iV K C=true) (kc:bV K (.ref C)=true) (h:cI P w K mg base CX k d.f d.d ps sp):HP P w K mg base CX k C ps sp:=⟨d.f,d.d,h,⟨mk,d.a,d.i,kc⟩,d.b⟩
theorem iy.oj {P:bC}{w:cW}{base:dt}{N:List aL}{t:TS}(F:iy K x q st f fd) (S:bj N ps (aO st)) (len:∀ vs H Q E,sp vs H Q E->vs.length=ps.length) (run:∀ vs H Q E,sp vs H Q E->t { nx:=λ_ H'=>Q .non H',rt:=Q } (start N vs) H)
  (b:∀ (i4:aj) (A:dC) (outer:List xC) (s:ax) (H:Hp) (E:XK),i7 k (A.deeper (lz q (aO st) s.heap.objs.size f i4))->Jr (jz dU P w K mg base N q (aO st) f i4 A outer s H E).WK (jX st) t):cI P w K mg base dU (k+1) f fd ps sp :=
 F.ok S len λi4 A outer s H vs Q E hr h=>⟨t,b i4 A outer s H E hr,run vs H Q E h⟩
end
theorem eN {te:TE}{pos':yz}(hN:X.N.Nodup) (he:PE X e te) (hi:X.N[i]?=some x:=by rfl) (hx:Loc X.env.scope x:=by exact .inl rfl) (hs:Fj e (some (.Name x pos')) pos.line X.env=pure false:=by rfl) (hf:X.fn x=true\/X.env.scope.names.lookup x=some .local:=by first|exact .inl rfl|exact .inr rfl|assumption):PS X (.Assign [.Name x pos'] e pos) (ft te (bZ i)):=ZF hN hi hx he hs hf
theorem ia (hN:X.N.Nodup) (hi:X.N[i]?=some x:=by rfl) (hx:Loc X.env.scope x:=by exact .inl rfl) (hf:X.fn x=true\/X.env.scope.names.lookup x=some .local:=by first|exact .inl rfl|exact .inr rfl|assumption):PG X (.Name x pos) (bZ i):=Xx hN hi hx hf
end L2
namespace L2
open PySem.Calls PySem.W
end L2
namespace L2
variable {pos np hpos:yz}{X:Cx}{ta:TE}{k:Nat}{K:ae}{e o:Expr}{f xT:aL}{es:List Expr}{mg:aL->Option aj}{ps:List aL}{P:bC}{w:cW}{base:dt}{fd:fv}{CT:ah}{tb:XK->TS}{th:TS}{b₀:dw}
theorem o_seq {tg l:Expr}{tl:TE}(hl:PE X l tl) (hK:X.K=K):PI X tg l (v3 K tl):=hK▸mn hl
theorem o_tru {a:Expr}(ha:PE X a ta) (hK:X.K=K) (he:∀ whole,isTrue a X.env whole=(do let v ← whole;yc a.pos;qI [v] (truthy v))):PT X a (jT K ta):=hK▸eK ha he
theorem o_fld (he:PE X e ta) (hK:X.K=K) (hb:sP e f X.env (fR e X.env)=fR e X.env):PE X (.Attribute e f pos) (eQ K ta f):=hK▸cf he hb
theorem o_sfl {value:Expr}{pos':yz}{tv:TE}(ha:PE X o ta) (hv:PE X value tv) (hK:X.K=K) (hs:Fj value (some (.Attribute o f pos')) pos.line X.env=pure false):PS X (.Assign [.Attribute o f pos'] value pos) (pG K ta tv f):=hK▸ik ha hv hs
theorem o_gtp {n:Nat}{t:W5}(hc:X.calm=true) (h:PGs X es t) (hK:X.K=K) (hn:(rV es X.env).length=n) (hst:(rV es X.env).findIdx? (·.1)=none):PG X (.Tuple es k pos) (HK K n t):=hK▸zj hc h hn hst
theorem o_bm {to:TE}{t:TA}{name:aL}{apos cpos:yz}{T id:String}{r:V->List V->Hp->VK->Prop}(pa:PlainAttrs T) (slot:Slot T name id) (hty:typeOf (.builtin id)=pure (.type "method_descriptor")) (hm:MtR X id r) (ho:PE X o to) (ha:PA X (e::es) t) (hK:X.K=K)
  (hbase:sP o name X.env (fR o X.env)=fR o X.env)
  (hfew:((iS cpos (bw (e::es) X.env)).all (λx=>!x.1) && (zZ cpos (pE [] X.env)).all (λx=>x.1.isSome)
   && decide ((e::es).length+([]:List My).length+(if ([]:List My).isEmpty then 0 else 1)<30))=true)
  (hline:(apos.endLine == cpos.line)=true) (hs:bw (e::es) X.env=(false,fR e X.env)::bw es X.env) (hplain:(iS cpos (bw es X.env)).any (·.1)=false) :
  PE X (.Call (.Attribute o name apos) (e::es) [] cpos) (HD K T r to t):=hK▸mP pa slot hty hm ho ha hbase hfew hline hs hplain
theorem iy.ok2 {x q:aL}{st:dw}{sp:Sp}{f:ah}{N:List aL}{t:TS}(F:iy K x q st f fd) (S:bj N ps (aO st)) (run:∀ vs H Q E,sp vs H Q E->t { nx:=λ_ H'=>Q .non H',rt:=Q } (start N vs) H)
  (b:∀ {i4:aj}{A:dC}{outer:List xC}{s:ax}{H:Hp}{E:XK},i7 k (A.deeper (lz q (aO st) s.heap.objs.size f i4))->N.Nodup->Jr (jz dU P w K mg base N q (aO st) f i4 A outer s H E).WK (jX st) t)
  (len:∀ vs H Q E,sp vs H Q E->vs.length=ps.length:=by first|(intro vs H Q E h;cases h;subst_vars;rfl)|(intro vs H Q E h;repeat' (first|(obtain ⟨e,_⟩:=h;exact e▸rfl)|(obtain ⟨_,h⟩:=h)))):cI P w K mg base dU (k+1) f fd ps sp :=
 F.oj S len run λi4 A outer s H E hr=>b hr S.nd
def XW (X:Cx) (pins:List (ah×jo)) (E:XK):aj->ax->Prop:=λe s'=>∃ Z H1 s1,Inv X pins Z H1 s1/\kd X.prog X.w X.stack H1 s1 E e s'
abbrev Cx.tr (X:Cx) (pins:List (ah×jo)) (E:XK):Cx:={ X with pn:=X.pn++pins,xe:=XW X pins E }
section
variable {pins pins':List (ah×jo)}{Z:St}{H:Hp}{s:ax}{E:XK}
theorem Cx.Ok.tr (ok:X.Ok):(X.tr pins E).Ok:=⟨ok.mod,ok.kind,ok.glob,ok.blt,ok.above,ok.inj,ok.has,ok.Xa,ok.hd,ok.frames,ok.YA,ok.YB,ok.bs,ok.O8,ok.Js,ok.Hu,ok.vc,ok.RY⟩
theorem Cx.Ok.OP (ok:(X.tr pins E).Ok):X.Ok:=⟨ok.mod,ok.kind,ok.glob,ok.blt,ok.above,ok.inj,ok.has,ok.Xa,ok.hd,ok.frames,ok.YA,ok.YB,ok.bs,ok.O8,ok.Js,ok.Hu,ok.vc,ok.RY⟩
theorem Inv.tr (I:Inv X pins Z H s):Inv (X.tr pins E) [] Z H s:=⟨I.ok.tr,I.os,I.bare,I.base,I.loc,I.cell,I.free,I.nF,λp hp=>I.pin p (by rw [ke] at hp;exact hp),I.eY,I.len⟩
theorem Inv.OP (I:Inv (X.tr pins E) pins' Z H s):Inv X pins Z H s:=⟨I.ok.OP,I.os,I.bare,I.base,I.loc,I.cell,I.free,I.nF,λp hp=>I.pin p (c6 _ hp),I.eY,I.len⟩
theorem Vr:mj (kd X.prog X.w) (X.tr pins E) E:=λ_ Z H s _ _ I h=>⟨Z,H,s,I.OP,h⟩
end
section
variable {body OV:List dw}
end
def KH (s1 s2:Sp):Sp:=λvs H Q E=>s1 vs H Q E\/s2 vs H Q E
theorem cI.orx {CX:Ko}{j m:Nat}{f:ah}{s1 s2:Sp}(F1:cI P w K mg base dU j f fd ps s1) (F2:cI P w K mg base CX k f fd ps s2) (h1:j<=m) (h2:k<=m):cI P w K mg base CX m f fd ps (KH s1 s2) :=
 ⟨λvs H Q E q=>q.elim (F1.len vs H Q E) (F2.len vs H Q E),λA outer s H args us vs Q E hr he hb hv q=>q.elim
  (λq=>qL (F1.run A outer s H args us vs Q E (hr.mono h1) he hb hv q) λr s' z=>by
   cases r with
   | ok fl=>cases fl<;>exact z
   | error e=>exact dh z) (F2.run A outer s H args us vs Q E (hr.mono h2) he hb hv)⟩
def Vs (K:ae) (cT:aj) (i N:Nat) (tb:XK->TS) (th:TS):TS:=λD Z H=>∃ E:XK,tb E D Z H /\
 ∀ cls H2 (σ':St),E cls none H2->σ'.length=N->∃ Dc:ah,cls=.ref Dc/\yL K cls cT=some true/\∀ a,H2 a=none->th { nx:=λσ2 H'=>D.nx (σ2.set i none) H',rt:=D.rt } (σ'.set i (some (.ref a))) (upd H2 a (W7 a cls))
section
variable {n:aL}{i:Nat}{body OV:List dw}
theorem Yc (hb:∀ pins E,Jr (X.tr pins E) body (tb E)) (hex0:X.ex=[]) (hst:X.stack=X.env::X.outer/\X.env.frame=some X.env.locals) (hgT:Gl X xT) (hmT:X.mg xT=some (.ref CT)) (hN:X.N.Nodup) (hi:X.N[i]?=some n) (hn:X.env.scope.names.lookup n=some .local)
  (hth:∀ a,Jr (X.marked a) (b₀::OV) th) (hdT:(xT == ("__debug__":aL))=false:=by decide) :
  PS X (.Try body [.ExceptHandler (some (.Name xT np)) (some n) (b₀::OV) hpos] [] [] pos) (Vs X.K (.ref CT) i X.N.length tb th):=by
 rintro pins s Z H D I ⟨E,h,hE⟩;refine wpAny_Try_except ?_;refine dF (hb pins E [] s Z H D I.tr h) (λf s1 q=>?_) λev s' q=>?_
 .cases f with
  | next=>obtain ⟨σ',H',I',q⟩:=q;exact uz ⟨σ',H',I'.OP,q⟩
  | brk=>obtain ⟨σ',H',I',q⟩:=q;exact ⟨σ',H',I'.OP,q⟩
  | cont=>obtain ⟨σ',H',I',q⟩:=q;exact ⟨σ',H',I'.OP,q⟩
  | ret u=>obtain ⟨v,σ',H',I',r,q⟩:=q;exact ⟨v,σ',H',I'.OP,r,q⟩
 .obtain ⟨σ1,H1,s1,I1,a,cls,a0,B,H2,rfl,os,bare,fl,Fl,qE⟩:=q;obtain ⟨Dc,rfl,hex,hh⟩:=hE cls H2 σ1 qE I1.len;have frm:=qU I1;have fl':=fl;rw [hst.1] at fl';have hfm:=I1.ok.frames;rw [hst.1] at hfm
  -- the exception is no thing of ours so far
  have na1:s1.heap.get? a=none:=by
   cases ea:s1.heap.get? a with
   | none=>rfl
   | some o =>
    by_cases hb:a∈sJ X.stack
    .obtain ⟨hfree,o',eo',nd⟩:=frm a hb;rw [ea] at eo';cases eo';obtain ⟨sl,e1⟩:=Fl.un.slot a o ea hfree hb (by simp);obtain ⟨_,_,_,oe,vs',_,_,_,e2,_,e3,_⟩:=fl;rw [e1] at e2;cases e2;exact absurd e3 (nd vs')
    .obtain ⟨u,hu⟩:=Fl.old a o ea hb;rw [Fl.no] at hu;cases hu
  have na2:H2 a=none:=by
   cases ea:H2 a with
   | none=>rfl
   | some o=>obtain ⟨u,hu⟩:=Fl.has a o ea;rw [Fl.no] at hu;cases hu
  have na0:X.s₀.heap.get? a=none:=by
   cases ea:X.s₀.heap.get? a with
   | none=>rfl
   | some o =>
    obtain ⟨o',e1⟩:=I1.base.there a o ea (by rw [hex0];simp);rw [na1] at e1;cases e1
  refine gJ (jt (PL _ _) (wpAny_looks_onW (L:=X.env.locals) (outer:=X.outer) (Q:=λ_ s3=>B.HeldW (X.env::X.outer) a (.ref Dc) a0 X.env.locals s3.heap/\s'.heap.UpToSlots s3.heap/\s3.os=s'.os/\s3.gens=s'.gens) hfm hst.2 fl' λh' hd us=>⟨hd,us,rfl,rfl⟩)) λ_ s3 ⟨⟨hd3,us3,o3,g3⟩,kp3⟩=>?_;have F3:=Fl.step frm us3 hd3.1 kp3;refine gJ (jt (Ai _ _) (wpAny_landsW (Q:=λ_ s4=>B.FlyingW (X.env::X.outer) a (.ref Dc) a0 s4.heap/\s3.heap.UpToSlots s4.heap/\s4.os=s3.os/\s4.gens=s3.gens) hd3 λh' fl us=>⟨fl,us,rfl,rfl⟩)) λ_ s4 ⟨⟨fl4,us4,o4,g4⟩,kp4⟩=>?_;have F4:=F3.step frm us4 fl4.1 kp4;have I4:Inv X pins σ1 H2 s4:=I1.WJ (ch:=[]) ((o4.trans o3).trans os) F4.un F4.eY (by rw [g4,g3];exact bare) (λb z=>absurd z (by simp));refine wpAny_handleBy_cons ?_ nofun;refine codeAny_handlers_test ?_;have I4m:=I4.mark a;refine rX I4m hgT hmT ?_ hdT;obtain ⟨oe4,vs4,T4,oT4,ts4,e4,⟨c4,_⟩,d4,_⟩:=fl4.2.2.2
  have dict4:oe4.dict=none:=by
   obtain ⟨o,e5,d5⟩:=F4.dict;rw [e4] at e5;cases e5;exact d5
  have inst4:yF s4.heap a oe4 Dc none:=⟨e4,c4,by unfold YQ;rw [d4],by rw [dict4];trivial⟩
  refine PySem.W.exm_one (K:=X.K) I4.vM inst4.type hex _ _ _ s4 (λ_ _ z=>z) ?_;refine codeAny_handlers_suite_as ?_;refine gJ (jt (Ai _ _) (lands_againW (Q:=λ_ s5=>B.FlyingW (X.env::X.outer) a (.ref Dc) a0 s5.heap/\s4.heap.UpToSlots s5.heap/\s5.os=s4.os/\s5.gens=s4.gens) fl4 λh' fl us=>⟨fl,us,rfl,rfl⟩)) λ_ s5 ⟨⟨fl5,us5,o5,g5⟩,kp5⟩=>?_;have F5:=F4.step frm us5 fl5.1 kp5;have I5:Inv X pins σ1 H2 s5:=I1.WJ (ch:=[]) (((o5.trans o4).trans o3).trans os) F5.un F5.eY (by rw [g5,g4,g3];exact bare) (λb z=>absurd z (by simp));obtain ⟨oe5,vs5,T5,oT5,ts5,e5,⟨c5,_⟩,d5,_⟩:=fl5.2.2.2
  have dict5:oe5.dict=none:=by
   obtain ⟨o,e6,d6⟩:=F5.dict;rw [e5] at e6;cases e6;exact d6
  have I6:Inv X pins σ1 (upd H2 a (W7 a (.ref Dc))) s5:=by
   refine I5.acq na2 na0 (λz=>?_) (λy c hc z=>?_) (λp hp z=>?_) (aan e5 c5 dict5 d5)
   .obtain ⟨m,⟨o,_,_,ho,_⟩,_⟩:=I1.loc;rw [← z,na1] at ho;cases ho
   .obtain ⟨v,o,ho,_⟩:=I1.cell y c hc;rw [z,na1] at ho;cases ho
   .have:=(I1.pin p hp).1;rw [z,na1] at this;cases this
  refine vS I6 hN hi (.inl hn) (v:=.ref a) rfl (λs6 I7=>?_) (.inr hn);refine dF (hth a pins s6 _ _ _ (I7.mark a) (hh a na2)) (λf s7 z=>?_) λ_ _ z=>dh z
  cases f with
  | ret u =>
   obtain ⟨v,σ',H',I8,rv,q8⟩:=z
   exact JS (I8.unmark I1.ok) hN hi hn λs8 I9=>⟨v,_,H',I9,rv,q8⟩
  | next =>
   obtain ⟨σ',H',I8,q8⟩:=z
   exact JS (I8.unmark I1.ok) hN hi hn λs8 I9=>⟨_,H',I9,q8⟩
  | brk=>obtain ⟨_,_,_,z⟩:=z;exact dh z
  | cont=>obtain ⟨_,_,_,z⟩:=z;exact dh z
end
def Y9 (K:ae):List V->Hp->VK->Prop:=λxs H Q=>∃ (a D:ah) (T:String) (b:Bool),xs=[.ref a,.ty T]/\H a=some (W7 a (.ref D))/\Mu K D/\bp K (.ref D) (.type T)=some b/\Q (.bl b) H
theorem Td:mK X (.builtin "isinstance") (Y9 X.K):=by
 intro pins s Z H xs us Q I r h;obtain ⟨a,D,T,b,rfl,ha,hD,e,q⟩:=h;obtain ⟨u,w',rfl,ru,rw'⟩:=vals2 r;cases (show u=aB a from ru);cases (show w'=lI T from rw');obtain ⟨hφ,_⟩:=I.eY a _ ha
 exact dY (Nn hD) I.vM hφ e nofun λtk=>⟨.bl b,H,I.tok tk,rfl,q⟩
theorem aar:fF (aa "ValueError")=some (lI "ValueError"):=by rfl
end L2
namespace L2
open PySem
variable {P:List aj->Prop}
theorem m1 (h:∀ a,P [a]):∀ us:List aj,us.length=1->P us
 | [a],_=>h a
theorem m2 (h:∀ a b,P [a,b]):∀ us:List aj,us.length=2->P us
 | [a,b],_=>h a b
theorem m3 (h:∀ a b c,P [a,b,c]):∀ us:List aj,us.length=3->P us
 | [a,b,c],_=>h a b c
theorem m4 (h:∀ a b c d,P [a,b,c,d]):∀ us:List aj,us.length=4->P us
 | [a,b,c,d],_=>h a b c d
end L2
namespace L2
open PySem.Calls PySem.W
def PQ (Pt:ah) (pos:yz) (qual:aL) (j:Nat) (tx:TA):TE:=λZ H Q=>tx Z H λv H1 =>
 ∃ (p d:ah) (OU:List (List ig×V)),v=[.ref p]/\Z[j]?=some (some (.ref d))/\H1 d=some (.dT OU)/\OT Pt pos qual H1 /\
  ((∃ zs:List Zn,H1 p=some (.lst (zs.map uI))/\(∀ z∈zs,∃ w x y:Int,z.1=[w,x,y]/\H1 z.2=some (.tup [.int x,.int y])/\iL OU [bK x,bK y]=some (.int w))/\zs.length<64 /\
   ∀ (l:ah) (zs':List Zn) (H2:Hp),H2 l=none->JQ Pt H1 H2->OT Pt pos qual H2->zs'.Perm zs->zs'.Pairwise (λz w=>iX w.1 z.1=false)->Q (.ref l) (upd H2 l (.lst (zs'.map uI)))) \/
  ∃ (kvs:List (List ig×V)) (g:Int->Int->Int),H1 p=some (.dT kvs)/\(∀ q∈kvs,∃ x y:Int,q.1=[bK x,bK y]/\iL OU q.1=some (.int (g x y)))/\kvs.length<64 /\
   ∀ (l:ah) (zs:List Zn) (H2:Hp),H2 l=none->JQ Pt H1 H2->OT Pt pos qual H2->(∀ z∈zs,∃ x y,z.1=[g x y,x,y]/\H2 z.2=some (.tup [.int x,.int y]))->(zs.map λz=>([bK (z.1.getD 1 0),bK (z.1.getD 2 0)]:List ig)).Perm (kvs.map (·.1)) ->
    zs.Pairwise (λz w=>iX w.1 z.1=false)->Q (.ref l) (upd H2 l (.lst (zs.map uI))))
section
variable {X:Cx}{c Pt:ah}{e:Expr}{tx:TA}{x y:aL}{j:Nat}{params:vB}{scope:uE}{p0 p1 p2 p3 p4 p5 lpos kpos pos:yz}{x1:Nat}
theorem Vt (hcalm:X.calm=true) (hcode:X.env.code=.ref c) (C0:qM X.base c Pt) (B:X.base.BuiltinsAt X.mg Pt) (hroom:X.A.depth<qK) (hun:X.A.units+128<jq)
  (hgl:Gl X "sorted") (hm:X.mg "sorted"=none) (hx:PA X [e] tx) (hN:X.N[j]?=some y) (hky:X.env.kindOf y=some .cell)
  (hs:iS pos (bw [e] X.env)=(false,fR e X.env)::iS pos (bw [] X.env):=by rfl) (hpl:(iS pos (bw [e] X.env)).any (·.1)=false:=by rfl)
  (hdef:defaultsOf params X.env=([],[]):=by rfl)
  (hbind:∀ clos pm i4 ctv v,Mx (kla_fn "<lambda>" (X.env.qual++"<lambda>") params (.Tuple [.Subscript (.Name y p1) (.Name x p2) p3,.Name x p4] x1 p5) scope clos pm i4 ctv) ⟨[v],[]⟩=pure [(x,v)]:=by intros;rfl)
  (hsx:scope.names.lookup x=some .local:=by rfl) (hsy:scope.names.lookup y=some .free:=by rfl) (hk:scope.kind=.function:=by rfl) (hco:scope.isCoroutine=false:=by rfl) (hgen:scope.isGenerator=false:=by rfl) (hcell:∀ z∈scope.names,z.2≠.cell:=by decide +kernel)
  (hfr:(scope.names.all λy=>y.2 != .free || X.env.kindOf y.1 == some .cell || X.env.kindOf y.1 == some .free)=true:=by rfl)
  (hdx:(x == ("__debug__":aL))=false:=by decide) (hdy:(y == ("__debug__":aL))=false:=by decide) (hdc:(y == ("__classdict__":aL))=false:=by decide) :
  PE X (.Call (.Name "sorted" p0) [e] [⟨some "key",.Lambda params (.Tuple [.Subscript (.Name y p1) (.Name x p2) p3,.Name x p4] x1 p5) scope lpos,kpos⟩] pos) (PQ Pt lpos (X.env.qual++"<lambda>") j tx):=by
 intro pins s Z H Q I h;refine gZ (Fv I hgl hm (u:=.builtin "sorted") BootT.U5 ?_);refine callWith_kw ?_ hs hpl;refine gJ (hx pos pins s Z H _ I h) λus s1 ⟨vs,H1,I1,rv,q⟩=>?_;obtain ⟨p,d,OU,rfl,hj,hd,hT,q⟩:=q;obtain ⟨u,rfl,ru⟩:=vals1 rv;cases ru
 show aY _ X.A (evalAll [do let v ← fR _ X.env;yc pos;pure v]) _ _ s1
 refine wpAny_evalAll_cons (ar (U8 I1 hcode C0 B hdef (vY I1 hfr) hT λf c' ctv h' tk H2 I2 hf hrec S2 T2 hk2=>ar (yC (aQ (wpAny_evalAll_nil ?_)))));obtain ⟨ps,hPt⟩:=hT.tbl;have hd2:=S2 d _ (λz=>by rw [z,hPt] at hd;cases hd) hd
 obtain ⟨zs,k2,h64,col,k⟩:∃ zs:List Zn,(∀ z∈zs,∃ w x y:Int,z.1=[w,x,y]/\H2 z.2=some (.tup [.int x,.int y])/\iL OU [bK x,bK y]=some (.int w))/\zs.length<64 /\
   (∀ {A:dC}{E:aj->ax->Prop}{R:List aj->ax->Prop},A.handled=none->(∀ h3 tk3,(∀ b o,h'.get? b=some o->h3.get? b=some o)->R (zs.map λz=>aB z.2) { s1 with heap:=h3,toks:=tk3 })->aY (bg X.prog X.w) A (collect (.ref p)) R E { s1 with heap:=h',toks:=tk }) /\
   ∀ (l:ah) (zs':List Zn),H2 l=none->zs'.Perm zs->zs'.Pairwise (λz w=>iX w.1 z.1=false)->Q (.ref l) (upd H2 l (.lst (zs'.map uI))):=by
  rcases q with ⟨zs,hp,hkv,h64,k⟩|⟨kvs,g,hp,hkv,h64,k⟩
  .obtain ⟨its,n1,rp,op,zp⟩:=I2.lst (S2 p _ (λz=>by rw [z,hPt] at hp;cases hp) hp);have hits:=FS rp;subst hits;refine ⟨zs,λz hz=>?_,h64,λ_ q=>Nr (s:={ s1 with heap:=h',toks:=tk }) ⟨_,op,rfl,n1,rfl⟩ (gB (m:=64) (by rw [ao];lia)) q,λl zs' hl=>k l zs' H2 hl S2 T2⟩;obtain ⟨w,x,y,e1,e2,e3⟩:=hkv z hz;exact ⟨w,x,y,e1,S2 _ _ (λz=>by rw [z,hPt] at e2;cases e2) e2,e3⟩
  .obtain ⟨hz,lo,ys,rel,o,es,ep,e1,e2,e3,e4,e5⟩:=(show fq X.prog X.w H2 h' p (.dT kvs) from I2.eY p _ (S2 p _ (λz=>by rw [z,hPt] at hp;cases hp) hp))
   obtain ⟨zs,k1,k2,k3⟩:=Nq rel hkv
   have hlen:zs.length=kvs.length:=by have:=congrArg qR k3;simpa using this.symm
   have raw:Di h' p (zs.map λz=>aB z.2) ep:=⟨o,es,e1,e2,e3,by rw [e4,← k1,dj];rfl⟩
   refine ⟨zs,λz hz=>?_,by lia,λhA q=>Nj (s:={ s1 with heap:=h',toks:=tk }) (X5 lo) hA raw (gB (m:=64) (by rw [ao];lia)) λh3 tk3 acc keep3 hacc=>?_,λl zs' hl hperm hsort=>k l zs' H2 hl S2 T2 (λz hz=>?_) (by rw [k3];exact hperm.map _) hsort⟩
   .obtain ⟨xx,yy,ez,hzt,hzw⟩:=k2 z hz;exact ⟨_,xx,yy,ez,hzt,hzw⟩
   .rw [Vi hacc];exact q h3 tk3 keep3
   .obtain ⟨xx,yy,ez,hzt,_⟩:=k2 z (hperm.mem_iff.mp hz);exact ⟨xx,yy,ez,hzt⟩
 have hh:X.A.handled=none:=I2.ok.hd hcalm;obtain ⟨m,F2,N2⟩:=I2.sJ;obtain ⟨my,hny,hlk⟩:=I2.loc;obtain ⟨uy,ruy,lky⟩:=hlk j y (.ref d) hN hj (.inr (.inl hky));cases ruy
 obtain ⟨cl,hcl,hcv⟩:∃ cl,X.env.cells.lookup y=some cl/\h'.IsCell cl (some (.ref d)):=by
  rcases lky with ⟨z,_⟩|⟨_,cl,h1,h2⟩
  .rw [hky] at z;cases z
  .exact ⟨cl,h1,h2⟩
 have hclo:(pH X.env.cells scope.names []).lookup y=some cl:=by
  obtain ⟨d,hd⟩:=Ab (cells:=X.env.cells) (x:=y) scope.names [] (.inl (mem_of_lookup hsy));have hd':=(mC _ _ (vY I1 hfr) hd).resolve_right (by simp);rw [hcl] at hd';rw [hd,← hd']
 have kept:∀ (h:dt) (own:List (ah×jo)),Fr X.base X.env.locals h m->EO X.base X.env.locals h (mO X.base h' X.env.locals++own)->∀ b o,b≠X.env.locals->h'.get? b=some o->h.get? b=some o:=λh own F N b o h1 e=>by
  cases q:X.base.get? b with
  | some u =>
   have:=I2.bk b u q;rw [e] at this;cases this
   exact F.keep b _ q
  | none=>exact (N (b,o) (c6 _ (oQ h1 q e))).1
 have fL:f≠X.env.locals:=λz=>by
  obtain ⟨o,es,ep,e,d,_⟩:=F2.ns;rw [← z] at e;rw [e] at hf;cases hf;cases d
 have cL:c'≠X.env.locals:=λz=>by
  obtain ⟨c2,o2,vs2,t2,e2,h2,d2,_⟩:=hrec;cases e2;obtain ⟨o,es,ep,e,d,_⟩:=F2.ns;rw [← z] at e;rw [e] at h2;cases h2;rw [d] at d2;cases d2
 have clL:cl≠X.env.locals:=I2.UA y cl hcl
 have un2:X.A.in1.in1.units+3+64<jq:=by show X.A.units+1+1+3+64<_;lia
 -- one key
 have turn:∀ z∈zs,∀ (h:dt) (tk':Nat) (own:List (ah×jo)),Fr X.base X.env.locals h m->EO X.base X.env.locals h (mO X.base h' X.env.locals++own)->∀ R:aj->ax->Prop,
   (∀ h3 tk3 t k,(∀ b o,h.get? b=some o->h3.get? b=some o)->h.get? k=none->h3.get? k=some (Ak z t)->R (.ref k) { s1 with heap:=h3,toks:=tk3 })->aY (bg X.prog X.w) X.A.in1.in1 (call (.ref f) [.ref z.2]) R (λ_ _=>False) { s1 with heap:=h,toks:=tk' }:=by
  intro z hz h tk' own F N R hR;obtain ⟨ww,xx,yy,ez,hzt,hzw⟩:=k2 z hz;have kk:=kept h own F N;have J:Inv X pins Z H2 { s1 with heap:=h,toks:=tk' }:=I2.news (s:={ s1 with heap:=h',toks:=tk }) F2.ns F λp hp=>N p (c6 _ hp);refine SY (s:={ s1 with heap:=h,toks:=tk' }) (by exact hroom) (kk f _ fL hf) ?_ (I2.mod.nolimit.keeps F.keep) (hbind _ _ _ _ _) hsx hk hco hgen hcell λenv h3 tk3 E' q1 q2 q3 hns hk3=>?_
  .obtain ⟨c2,o2,vs2,t2',e2,h2,d2⟩:=hrec;cases e2;exact ⟨c',o2,vs2,t2',rfl,kk _ _ cL h2,d2⟩
  .refine Vp (s:={ s1 with heap:=h,toks:=tk' }) (H:=H2) (d:=d) (cl:=cl) (k:=[bK xx,bK yy]) (J.eY.kept hk3) (by rw [q1];exact hk) (by rw [q1];exact hsx) (by rw [q1];exact hsy) hns (by rw [q2];exact hclo) ?_ hd2 hzt hzw un2 (λt tk4=>?_) hdx hdy hdc
   .obtain ⟨o,e,d⟩:=hcv;exact ⟨o,hk3 _ _ (kk _ _ clL e),d⟩
   .refine hR _ tk4 t _ (λb o e=>aA _ (hk3 b o e)) ?_ ?_
    .cases q:h.get? h3.objs.size with
     | none=>rfl
     | some o=>exact absurd (aS (hk3 _ _ q)) (iE _)
    .have:Ak z t=b9 "tuple" #[.int ww t,.ref z.2] 0:=by unfold Ak;rw [ez];rfl
     rw [this];exact aZ _ rfl
 have hzl:(zs.map λz=>aB z.2).length<=aT:=gB (m:=64) (by rw [ao];lia)
 -- the call
 refine call_function_entry_kw kind_sorted plain_sorted entry_sorted (ksk_s1 _ _) ?_;unfold YH.«sorted»;refine ar (m:=checkCount "sorted" 1 1 _) (aQ (ar (col hh λh3 tk3 keep3=>?_)));refine ar (HH ?_ hzl);have F3:=F2.kept keep3;have N3:=N2.grown keep3;have hL:X.env.locals<h3.objs.size:=F3.ns.lt;have g4:(h3.push (b9 "list" (zs.map λz=>aB z.2).toArray 0)).get? h3.objs.size=some (b9 "list" (zs.map λz=>aB z.2).toArray 0):=aZ _ rfl;have k4:∀ b o,h3.get? b=some o->(h3.push (b9 "list" (zs.map λz=>aB z.2).toArray 0)).get? b=some o:=λb o e=>aA _ e;have F4:=F3.kept k4;have N4:=N3.grown k4;have hD:∀ q∈mO X.base h' X.env.locals,q.1<h3.objs.size:=λq hq=>aS (N3 q hq).1;have hD0:X.base.get? h3.objs.size=none:=UC (bU F3.above (yB hL))
 show aY (bg X.prog X.w) X.A.in1 (do let _ ← qI [aB h3.objs.size] (call (.builtin "list.sort") [aB h3.objs.size] _);ret (aB h3.objs.size)) _ _ { s1 with heap:=h3.push (b9 "list" (zs.map λz=>aB z.2).toArray 0),toks:=tk3 }
 refine ar (gf (wpAny_call_entry_kw slot_list_sort ⟨_,g4,rfl⟩ entry_list_sort ?_ (ksk_l1 _ _)))
 have tie:∀ (h:dt),(∀ b o,b≠X.env.locals->h'.get? b=some o->h.get? b=some o)->∀ z∈zs,∃ v x y t u,z.1=[v,x,y]/\vO h z.2 #[.int x t,.int y u]:=λh hkp z hz=>by
  obtain ⟨ww,xx,yy,ez,hzt,hzw⟩:=k2 z hz;obtain ⟨ts,r,it,_⟩:=I2.tuple (.of hzt)
  cases r with
  | cons h1 r =>
   cases r with
   | cons h2 r =>
    cases r;obtain ⟨t,rfl⟩:=h1;obtain ⟨u,rfl⟩:=h2;obtain ⟨o,e,rest⟩:=it;refine ⟨ww,xx,yy,t,u,ez,o,hkp _ o (λw=>?_) e,rest⟩;rw [w,I2.free] at hzt;cases hzt
 have done:∀ (h'':dt) (tk'' c'':Nat) (zs':List Zn),zs'.Perm zs->zs'.Pairwise (λz w=>iX w.1 z.1=false)->Fr X.base X.env.locals h'' m->EO X.base X.env.locals h'' ((h3.objs.size,b9 "list" (zs'.map λz=>aB z.2).toArray c'')::mO X.base h' X.env.locals) ->
   EP X pins Z Q (.ref h3.objs.size) { s1 with heap:=h'',toks:=tk'' }:=λh'' tk'' c'' zs' hperm hsort F N=>by
  obtain ⟨hn,I3⟩:=I2.Bn (t':=tk'') (o:=.lst (zs'.map uI)) F2.ns F N hD ⟨by rw [ao];exact gB (m:=64) (by rw [hperm.length_eq];lia),_,c'',uJ zs',(N _ ak).1⟩;exact ⟨.ref h3.objs.size,_,I3,rfl,k h3.objs.size zs' hn hperm hsort⟩
 show aY (bg X.prog X.w) X.A.in1.in1 (YH.«list.sort» ⟨[.ref h3.objs.size],[(aa "key",.ref f)]⟩) _ _ _
 rw [ksk_t1]
 by_cases h2:2<=zs.length
 .refine kat_keyed (s:={ s1 with heap:=h3.push (b9 "list" (zs.map λz=>aB z.2).toArray 0),toks:=tk3 }) F4 N4 g4 (yD hL) hD0 (λp hp=>bb (hD p hp)) (by rw [ao];exact h2) (by rw [ao];lia) λkS e1 h5 F5 N5 l0 l1=>?_;refine Y7 (s:={ s1 with heap:=h3.push (b9 "list" (zs.map λz=>aB z.2).toArray 0),toks:=tk3 }) (zs:=zs) (λz hz h tk' own F N R hR=>turn z hz h tk' own F N R hR) (bb l0) zs [] [] [] 0 h5 tk3 F5 N5 (λq hq=>bb (l1 q hq)) .nil (λz hz=>hz) λown' ks' e' h6 tk6 F6 N6 hk6 rel6=>?_;refine PP (s:={ s1 with heap:=h6,toks:=tk6 }) F6 N6 hk6 (bb l0) (λq hq=>bb (hD q hq)) rel6 h2 (by lia) (tie h6 λb o hb e=>?_) λh7 c7 zs' hperm hsort F7 N7=>?_
  .refine kept h6 [] F6 (λp hp=>N6 p ?_) b o hb e;rw [ke] at hp;exact ag _ (ag _ (aU _ hp))
  .exact ⟨_,rfl,aQ ⟨_,rfl,done h7 tk6 c7 zs' hperm hsort F7 N7⟩⟩
 .refine SZ (s:={ s1 with heap:=h3.push (b9 "list" (zs.map λz=>aB z.2).toArray 0),toks:=tk3 }) F4 N4 g4 (yD hL) hD0 (λp hp=>bb (hD p hp)) (by rw [ao];lia) (λv hv h tk' own F N R hR=>?_) λh7 tk7 c7 F7 N7=>?_
  .obtain ⟨z,hz,rfl⟩:=cQ.mp hv;exact turn z hz h tk' own F N R λh3 tk3 t k keep _ _=>hR h3 tk3 (.ref k) keep
  .refine ⟨_,rfl,aQ ⟨_,rfl,done h7 tk7 c7 zs (HB _) ?_ F7 N7⟩⟩
   match zs,h2 with
   | [],_=>exact .nil
   | [z],_=>exact Q3 _ _
   | z::w::r,h2=>simp at h2
end
end L2
namespace L2
section
variable {X:Cx}
end
def tQ.caln {K:ae}{mg:aL->Option aj}{x:aL}{st:dw}{ps:List aL}{k:Nat}{sp:Sp}(d:tQ K mg x st ps) (P:bC) (w:cW) (base:dt) (h:JT P w K mg base k d.f d.d ps sp):CalN P w K mg base k x ps sp:=⟨d.f,d.d,h,d.m,d.F.kp,d.b⟩
theorem i7.nm {j k:Nat}{A:dC}{v:Option aj}(r:i7 k A) (h:j<=k:=by decide):pA j (A.mark v):=(r.n.mark v).mono h
end L2
namespace L2
open PySem.Calls PySem.W
variable {X:Cx}{e tg:Expr}{x:aL}{t:TA}
theorem Nt:∀ (l:List (aL×T8)),Vals ((l.map (·.1)).map V.str) (strValues l)
 | []=>.nil
 | (x,t)::l=>.cons ⟨t,rfl⟩ (Nt l)
def PR (x:V) (xs:List V) (H:Hp) (Q:VK):Prop:=∃ a b:aL,x=.str a/\xs=[.str b]/\(b.length == 0)=false/\a.length+2<=aT/\(Txt.split a b).length<=aT/\∀ p,H p=none->Q (.ref p) (upd H p (.lst ((Txt.split a b).map V.str)))
theorem Nu:WM X "str.split" PR:=by
 intro pins s Z H x xs v us Q I rx rxs h;obtain ⟨a,b,rfl,rfl,hb,hsz,hl,q⟩:=h;obtain ⟨t,rfl⟩:=rx;obtain ⟨u,rfl,ru⟩:=vals1 rxs;obtain ⟨t2,rfl⟩:=ru;obtain ⟨m,F,N⟩:=I.sJ;refine KSpl.split1 F N hb (λD l h' k e st F' N' lt=>?_) hsz;obtain ⟨hn,I3⟩:=I.Bn (t':=k) (o:=.lst ((Txt.split a b).map V.str)) F.ns F' N' lt ⟨by rw [ao];exact hl,_,0,by rw [← e];exact Nt l,(N' _ ak).1⟩;exact ⟨.ref D,_,I3,rfl,q D hn⟩
def qV (x:V) (xs:List V) (H:Hp) (Q:VK):Prop:=∃ a b:aL,x=.str a/\xs=[.str b]/\(b.length == 0)=false/\a.length<=aT/\∀ p,H p=none->Q (.ref p) (upd H p (.tup [.str (Txt.partition a b).1,.str (Txt.partition a b).2.1,.str (Txt.partition a b).2.2]))
theorem qu:WM X "str.partition" qV:=by
 intro pins s Z H x xs v us Q I rx rxs h;obtain ⟨a,b,rfl,rfl,hb,hsz,q⟩:=h;obtain ⟨t,rfl⟩:=rx;obtain ⟨u,rfl,ru⟩:=vals1 rxs;obtain ⟨t2,rfl⟩:=ru;obtain ⟨m,F,N⟩:=I.sJ;refine KXpa.partition F N hb rfl rfl rfl hsz λD ta tb tc h' k F' N' lt=>?_;obtain ⟨hn,I3⟩:=I.Bn (t':=k) (o:=.tup [.str (Txt.partition a b).1,.str (Txt.partition a b).2.1,.str (Txt.partition a b).2.2]) F.ns F' N' lt ⟨gB (m:=3) (aE 3),_,.cons ⟨ta,rfl⟩ (.cons ⟨tb,rfl⟩ (.cons ⟨tc,rfl⟩ .nil)),⟨_,(N' _ ak).1,rfl,_,rfl⟩⟩;exact ⟨.ref D,_,I3,rfl,q D hn⟩
theorem JV:∀ {ws:List aL}{us:List aj},Vals (ws.map V.str) us->StrsAre us ws
 | [],_,.nil=>.nil
 | w::ws,_,.cons r h=>by
  obtain ⟨t,rfl⟩:=r;exact .cons w t (JV h)
def Za (K:ae) (x:V) (xs:List V) (H:Hp) (Q:VK):Prop:=∃ (a:aL) (l:ah) (ws:List aL),x=.str a/\xs=[.ref l]/\gb K H l (ws.map V.str)/\(ws.map (·.length)).sum+ws.length*a.length<=16777216/\Q (.str (Txt.join a ws)) H
theorem Yd:WM X "str.join" (Za X.K):=by
 intro pins s Z H x xs v us Q I rx rxs h;obtain ⟨a,l,ws,rfl,rfl,hl,hz,q⟩:=h;obtain ⟨t,rfl⟩:=rx;obtain ⟨u,rfl,ru⟩:=vals1 rxs;cases ru;obtain ⟨its,rv,p,_⟩:=I.list hl
 exact join_list p.isList (JV rv) hz λt' k=>⟨.str (Txt.join a ws),H,I.kept (t':=k) λ_ _ e=>e,⟨t',rfl⟩,q⟩
theorem HQ:mK X (.type "int") (λxs H Q=>∃ (a:aL) (n:Int),xs=[.str a]/\a.length<=640/\MJ a=some n/\Q (.int n) H):=by
 intro pins s Z H xs us Q I r h;obtain ⟨a,n,rfl,hl,hn,q⟩:=h;obtain ⟨u,rfl,ru⟩:=vals1 r;obtain ⟨t,rfl⟩:=ru;exact KIN.call_text hn hl ⟨.int n,H,I.tok _,⟨_,rfl⟩,q⟩
def Its (x:aL):It:=⟨λi _=>i<x.cps.size,λi H v H'=>H'=H/\∃ c,x.cps[i]?=some c/\v=.str ⟨#[c]⟩,λi _=>x.cps.size<=i⟩
theorem Te {P:bC}{w:cW}{K:ae}(it:ah) (x:aL) (t:T8):Po P w K tg (Its x) [it] it (λi h=>h.IsStrIter it "str_ascii_iterator" x t i) where
 mem:=aK.mpr rfl
 obj:=λi h st b hb=>by
  obtain rfl:=aK.mp hb;obtain ⟨o,e,c,d⟩:=st;exact ⟨o,e,λv z=>by rw [d] at z;cases z⟩
 keep:=λi h h' st k=>by
  obtain ⟨o,e,r⟩:=st;exact ⟨o,k it (aK.mpr rfl) o e,r⟩
 item:=by
  intro X hP hw hK hc i pins s Z H E I hf st hg;subst hP hw hK;have hg:i<x.cps.size:=hg;obtain ⟨f0,f1,f2,f3,f4,f5⟩:=hf it (aK.mpr rfl);have hx:x.cps[i]?=some x.cps[i]:=uB hg;refine wpAny_pyNext_ascii_item st hx λh' st' sb=>?_;have I1:Inv X pins Z H { s with heap:=h',toks:=s.toks+1 }:=I.turned (λb o hb e=>(sb.2 b hb).trans e) f0 f1 f3 f4 f5;obtain ⟨o,e,c,d⟩:=id st';exact ⟨_,rfl,JB (s:={ s with heap:=h',toks:=s.toks+1 }) e c d (by decide) ⟨.str ⟨#[x.cps[i]]⟩,H,I1,⟨_,rfl⟩,⟨rfl,_,hx,rfl⟩,st',λb hb=>(hf b hb).1⟩⟩
 done:=by
  intro X hP hw hK hc i pins s Z H E I hf st hg;subst hP hw hK;have hg:x.cps.size<=i:=hg;obtain ⟨f0,f1,f2,f3,f4,f5⟩:=hf it (aK.mpr rfl)
  exact wpAny_pyNext_ascii_end (I.ok.hd hc) st (Q2 hg) λh' eb=>⟨rfl,I.turned (t':=s.toks) (λb o hb e=>eb b o hb e) f0 f1 f3 f4 f5⟩
 self:=λ_ _ _ _ _ st h=>wpAny_pyIter_striter_ascii st h
def Vu (tl:TE):TI:=λZ H R=>tl Z H λx H1=>∃ a:aL,x=.str a/\a.cps.all (·<128)=true/\R (Its a) H1
theorem Ye {l:Expr}{tl:TE}(hl:PE X l tl):PI X tg l (Vu tl):=by
 intro pins s Z H R I h;refine gJ (hl pins s Z H _ I h) λv s1 ⟨x,H1,I1,r1,q1⟩=>?_;obtain ⟨a,rfl,ha,q⟩:=q1;obtain ⟨t,rfl⟩:=r1;refine wpAny_pyIter_ascii ha ?_;refine ⟨s1.heap.objs.size,[s1.heap.objs.size],_,_,H1,rfl,I1.kept (t':=s1.toks) λb o e=>aA _ e,Te _ a t,⟨_,aZ _ rfl,rfl,rfl⟩,λb hb=>?_,q⟩;obtain rfl:=aK.mp hb;exact I1.Jt (aE _) (I1.eY.fresh (aE _))
theorem PE.or {t t':TE}(h:PE X e t) (h':PE X e t'):PE X e (λZ H Q=>t Z H Q\/t' Z H Q):=λpins s Z H Q I q=>q.elim (h pins s Z H Q I) (h' pins s Z H Q I)
def aas (x:V) (lo hi:Option Int) (H:Hp) (Q:VK):Prop:=∃ a:aL,x=.str a/\a.length<=aT/\Q (.str (Txt.slice a lo hi)) H
theorem part_of {v:aj}{lo:Option Int}(h:IsPart v lo):∃ l:Option (Int×T8),v=partValue l/\l.map (·.1)=lo:=by
 cases h with
 | none=>exact ⟨none,rfl,rfl⟩
 | int i t=>exact ⟨some (i,t),rfl,rfl⟩
theorem Rv:SlR X aas:=by
 intro pins s Z H x v vl vu lo hi sl Q I rx hs pl pu h;obtain ⟨a,rfl,hz,q⟩:=h;obtain ⟨t,rfl⟩:=rx;obtain ⟨l,rfl,rfl⟩:=part_of pl;obtain ⟨u,rfl,rfl⟩:=part_of pu;refine ⟨"str",_,F.slot_str_getitem.lookup,typeIs_str _ _ _,wpAny_getItem_str_slice (st:=none) hs rfl (post_val_or_str ⟨bU (Txt.slice_le a _ _) hz,λt' k=>?_⟩)⟩;exact ⟨.str (Txt.slice a _ _),H,I.kept (t':=k) λ_ _ e=>e,⟨t',rfl⟩,q⟩
def Vv:R2:=λx y H Q=>∃ (a:aL) (n:Int),x=.str a/\y=.int n/\2<=n/\n<=1000/\1<=a.length/\a.length<=100/\Q (.str ⟨(cm n.toNat a.cps).foldl (·++·) #[]⟩) H
theorem Dy:tP X (oi .Mult) Vv:=by
 intro pins s Z H x y v u Q I rx ry h;obtain ⟨a,n,rfl,rfl,h1,h2,h3,h4,q⟩:=h;obtain ⟨t,rfl⟩:=rx;obtain ⟨t2,rfl⟩:=ry
 have e1:¬ n<1:=by lia
 have e2:(n == 1 || a.length == 0)=false:=by
  rw [Bool.or_eq_false_iff,beq_eq_false_iff_ne,beq_eq_false_iff_ne];lia
 have hm:a.length*n.toNat<=100*1000:=Nat.mul_le_mul (by lia) (by lia);refine P.mul_str (by simp;lia) (λ_ _=>?_) (λ_ _=>?_) ?_
 .have:(1000:Int)<=(2^63-1)/n:=by
   rw [Int.le_ediv_iff_mul_le (by lia)]
   have:(1000:Int)*n<=1000*1000:=by lia
   lia
  lia
 .have:=gB (m:=100000) (n:=a.length*n.toNat) (by lia);exact decide_eq_false (by lia)
 .rw [if_neg e1,if_neg (by rw [e2];decide)];refine ⟨?_,.str _,H,I.tok _,⟨_,rfl⟩,q⟩
  show ((cm n.toNat a.cps).foldl (·++·) #[]).size<=aT
  rw [len_reps];refine gB (m:=100000) ?_;have:n.toNat*a.cps.size<=1000*100:=Nat.mul_le_mul (by lia) h4
  simpa using this
def tF3 (x:aL) (ta tb:TE):TE:=λZ H Q=>ta Z H λv H1=>∃ i:Int,v=.int i/\i.natAbs.log2<1920/\(aa (toString i)).length<=1000/\x.length<=1000/\tb Z H1 λu H2=>∃ j:Int,u=.int j/\j.natAbs.log2<1920/\(aa (toString j)).length<=1000/\Q (.str (aa (toString i)++x++aa (toString j))) H2
theorem abW {a b:Expr}{ta tb:TE}{k p1 p2 p3 pos} (ha:PE X a ta) (hb:PE X b tb):PE X (.JoinedStr [.FormattedValue a (-1) none p1,.Constant (.str x) k p2,.FormattedValue b (-1) none p3] pos) (tF3 x ta tb):=by
 intro pins s Z H Q I h;have big:∀ {m:Nat},m<=3000->m<=aT:=λh=>gB (m:=3000) h;refine JoinedStr_many (Ur (FormattedValue_plain (gJ (ha pins s Z H _ I h) λv s1 ⟨x1,H1,I1,r1,i,e,hi,l1,lx,q1⟩=>?_)));subst e;obtain ⟨t1,rfl⟩:=r1;refine Zr hi ?_;have z1:(tR++aa (toString i):aL)=aa (toString i):=Str.empty_append _;refine ⟨by rw [z1];exact big (by lia),Ur (gJ (aC pins { s1 with toks:=s1.toks+1+1 } Z H1 (λz H2=>z=.str x/\H2=H1) (I1.kept (t':=s1.toks+1+1) λ_ _ e=>e) ⟨rfl,rfl⟩) λv s2 ⟨x2,H2,I2,r2,e1,e2⟩=>?_)⟩;subst e1 e2;obtain ⟨t2,rfl⟩:=r2;refine ⟨by rw [z1,vE];exact big (by lia),Ur (FormattedValue_plain (gJ (hb pins s2 Z H2 _ I2 q1) λv s3 ⟨x3,H3,I3,r3,j,e,hj,l2,q2⟩=>?_))⟩;subst e;obtain ⟨t3,rfl⟩:=r3;refine Zr hj ?_
 have l3:(tR++aa (toString i)++x++aa (toString j)).length<=aT:=by rw [z1,vE,vE];exact big (by lia)
 refine ⟨l3,joinParts_nil ⟨.str (aa (toString i)++x++aa (toString j)),H3,I3.kept (t':=s3.toks+1+1+1) λ_ _ e=>e,⟨_,by rw [z1]⟩,q2⟩ l3⟩
def Rw (D:List (PyData×PyData)) (t:TA):TE:=λZ H Q=>t Z H λvs H1=>∃ x:aL,vs=[.str x]/\((∃ n:Int,iK (.str x) D=some (.int n)/\Q (.int n) H1)\/(iK (.str x) D=none/\Q .non H1))
theorem Ry {o:Expr}{a:ah}{D:List (PyData×PyData)}{apos cpos:yz}(hT:∀ h,X.K.In h->HC X.prog X.w h a D) (ho:PE X o (tC (.ref a))) (ha:PA X [e] t)
  (hbase:sP o "get" X.env (fR o X.env)=fR o X.env:=by rfl)
  (hfew:((iS cpos (bw [e] X.env)).all (λx=>!x.1) && (zZ cpos (pE [] X.env)).all (λx=>x.1.isSome)
   && decide ([e].length+([]:List My).length+(if ([]:List My).isEmpty then 0 else 1)<30))=true:=by rfl)
  (hline:(apos.endLine == cpos.line)=true:=by rfl) (hs:bw [e] X.env=(false,fR e X.env)::bw [] X.env:=by rfl) :
  PE X (.Call (.Attribute o "get" apos) [e] [] cpos) (Rw D t):=by
 intro pins s Z H Q I h;refine YJ hbase hfew hline rfl (gJ (ho pins s Z H (λz H1=>z=.ref a/\H1=H) I ⟨rfl,rfl⟩) λv s1 ⟨x,H1,I1,r1,e1,e2⟩=>?_);subst e1 e2;cases r1;obtain ⟨_,kvs,hD,_⟩:=hT s1.heap I1.vM;refine ⟨"dict","dict.get",PySem.F.plainAttrs_dict,PySem.F.slot_dict_get,PySem.F.type_dict_get,?_,?_,?_⟩
 .exact hD.typeIs
 .exact hD.mapOf.noDict
 .have hA:=ha cpos pins s1 Z H1 _ I1 h;rw [hs] at hA ⊢;refine QZ rfl (z4 ?_);refine gJ hA λus s2 ⟨vs,H2,I2,r2,x,e,q2⟩=>?_;subst e;obtain ⟨u,rfl,ru⟩:=vals1 r2;obtain ⟨t2,rfl⟩:=ru
  rcases q2 with ⟨n,hn,q2⟩|⟨hn,q2⟩
  .refine kt_get1_thereS (hT s2.heap I2.vM) hn λv hv=>?_;cases hv s2.heap;exact ⟨.int n,H2,I2.tok _,⟨_,rfl⟩,q2⟩
  .exact kt_get1_noneS (hT s2.heap I2.vM) hn ⟨.non,H2,I2.tok _,rfl,q2⟩
def tNo (t:TA):TE:=λZ H _=>t Z H λ_ _=>False
theorem BG {f:ah}{es:List Expr}{p pos:yz}(hg:Gl X x) (hm:X.mg x=some (.ref f)) (hk:bV X.K (.ref f)=true) (ha:PA X (e::es) t)
  (hdb:(x == ("__debug__":aL))=false:=by decide) (he:bw (e::es) X.env=(false,fR e X.env)::bw es X.env:=by rfl) (hpl:(iS pos (bw es X.env)).any (·.1)=false:=by rfl) :
  PE X (.Call (.Name x p) (e::es) [] pos) (tNo t):=by
 intro pins s Z H Q I h;refine gZ (rX I hg hm ?_ hdb);exact jN (h₀:=X.base) I.ok.mod.Xc hk (gJ (ha pos pins s Z H _ I h) λus s1 ⟨vs,H1,I1,r,q⟩=>q.elim) he hpl
end L2
namespace L2
variable {s:ax}{scope:uE}{H:Hp}{X:Cx}{pos:yz}{E:XK}{pins:List (ah×jo)}{Z:St}{env:xC}{A:dC}{iter tg e:Expr}{ifs:List Expr}{Q:Unit->ax->Prop}{outer l:List xC}{w:cW}{base:dt}{N:List aL}
theorem PU {e:aj}{a b:xC}(h:a.frame=b.frame):rW e a=rW e b:=by
 unfold rW Bz;rw [h]
section
variable {M:Model}{E:aj->ax->Prop}{e:ah}{cls a0 mk:aj}
theorem PV {fr:Option ah}(h1:base.StaysIn s.heap) (h2:s.heap.FunFrames base l) (h3:s.heap.TracedAtW base e cls a0 mk)
  (h:∀ h',base.StaysIn h'->h'.FunFrames base l->h'.TracedAtW base e cls a0 (fr.elim .none λf=>iT f)->s.heap.UpToSlots h'->Q () { s with heap:=h' }):aY M A (O2 (.ref e) fr) Q E s:=by
 obtain ⟨oe,vs,T,oT,ts,he,hc,hd,q1,nT,ne,hT,hdT,q3⟩:=h3;have z3:3<ts.size:=(tO.mp q3).1;have ot:∀ b,b≠T->(s.heap.update T (nJ (·.setIfInBounds 3 (fr.elim .none λf=>iT f)))).get? b=s.heap.get? b:=λb hb=>j9 _ _ (Ne.symm hb)
 have nr:∀ b o,s.heap.get? b=some o->(∀ vs,o.data≠.fields vs)->b≠T:=λb o hb hf q=>by rw [q,hT] at hb;cases hb;exact hf ts hdT
 unfold O2;refine ar (Pg he hd q1 ?_);rw [if_pos (by simp)];refine EU hT hdT z3 (h _ (λb o hb=>(ot b λq=>by rw [q,nT] at hb;cases hb).trans (h1 b o hb)) (h2.of_keeps λb o hb hf=>⟨o,(ot b (nr b o hb hf)).trans hb,rfl⟩) ?_ λb o hb hf=>⟨o.slots,(ot b (nr b o hb hf)).trans hb⟩);exact ⟨oe,vs,T,_,_,(ot e (Ne.symm ne)).trans he,hc,hd,q1,nT,ne,qb _ hT (UF (uC hdT _)),uC hdT _,by simp [z3]⟩
theorem PX {L:ah}(hfr:A.frames=some (env::outer)) (hf:env.frame=some L) (h1:base.StaysIn s.heap) (hn:base.get? e=none) (h2:s.heap.FunFrames base (env::outer)) (h3:s.heap.TracedAtW base e cls a0 mk)
  (hQ:∀ h',Heap.FlyingW base outer e cls a0 h'->s.heap.UpToSlots h'->Q () { s with heap:=h' }):aY M A (YG env (.ref e)) Q E s:=by
 by_cases hm:mk=iT L
 .subst hm;unfold YG;refine ar (wpAny_noteFrame_againW hf h3 ?_);exact wpAny_landsW ⟨h1,hn,h2,h3⟩ λh' ⟨k1,k2,⟨_,_,k3⟩,k4⟩ us=>hQ h' ⟨k1,k2,k3,k4⟩ us
 .obtain ⟨oe,vs,T,oT,ts,he,⟨hc,q0⟩,hd,q1,nT,ne,hT,hdT,q3⟩:=h3;subst hc;have ot:∀ b,b≠T->(s.heap.update T (nJ (·.setIfInBounds 3 dE))).get? b=s.heap.get? b:=λb hb=>j9 _ _ (Ne.symm hb)
  have nr:∀ b o,s.heap.get? b=some o->(∀ vs,o.data≠.fields vs)->b≠T:=λb o hb hf q=>by rw [q,hT] at hb;cases hb;exact hf ts hdT
  unfold YG rW;simp only [hf];refine ar (ar (Pg he hd q1 ?_));rw [if_pos (by simp)];refine ar (Pg hT hdT q3 ?_);rw [if_neg (by simpa using hm)];refine ar (EU hT hdT (tO.mp q3).1 ?_)
  refine wpAny_newEntryW hfr (h2.of_keeps λb o hb hnf=>⟨o,(ot b (nr b o hb hnf)).trans hb,rfl⟩) hf ((ot e (Ne.symm ne)).trans he)
   (λb o hb=>(ot b λq=>by rw [q,nT] at hb;cases hb).trans (h1 b o hb)) hn hd (tO.mp q1).1 q0 λh' ⟨x1,⟨_,_,x2⟩,x3,x4⟩=>hQ h' ⟨x1,hn,x2,x3⟩ λb o hb hnf=>x4 b o ((ot b (nr b o hb hnf)).trans hb) hnf
end
def Rz (X:Cx) (E:XK):Prop:=∀ (pins:List (ah×jo)) (Z:St) (H1 H2:Hp) (s1 s2:ax) (a:ah) (cls a0 mk:aj) (B:dt),Inv X pins Z H1 s1->s2.os=s1.os->ve s2.gens->B.StaysIn s2.heap->B.get? a=none->s2.heap.FunFrames B X.stack->s2.heap.TracedAtW B a cls a0 mk ->
 Fly X.prog X.w X.stack H1 s1 H2 a B s2.heap->E cls none H2->X.xe (.ref a) s2
theorem Zb {P:bC}{K:ae}{mg:aL->Option aj}{qual:aL}{f:ah}{cd:aj} :
  Rz (jz (kd P w) P w K mg base N qual scope f cd A outer s H E) E:=by
 intro pins Z H1 H2 s1 s2 a cls a0 mk B I os bare b1 b2 b3 b4 F q
 have hfr:∀ b o,s.heap.get? b=some o->b∉sJ outer->b∉sJ (lz qual scope s.heap.objs.size f cd::outer):=λb o e hb z=>by
  rcases az.mp (show b∈s.heap.objs.size::sJ outer from z) with z|z
  .exact bb (aS e) z
  .exact hb z
 refine gJ (jt (BE _ _) (PX (L:=s.heap.objs.size) (outer:=outer) (Q:=λ_ s3=>B.FlyingW outer a cls a0 s3.heap/\s2.heap.UpToSlots s3.heap/\s3.os=s2.os/\s3.gens=s2.gens) I.ok.frames rfl b1 b2 b3 b4 λh' fl' us=>⟨fl',us,rfl,rfl⟩)) λ_ s3 ⟨⟨fl',us,e1,e2⟩,kp⟩=>?_;have F':=F.step (qU I) us fl'.1 kp;refine ⟨a,cls,a0,B,H2,rfl,(e1.trans os).trans I.os,by rw [e2];exact bare,fl',⟨⟨λb o e n hb _=>?_,λb o e n hb _=>?_,λb o e n _=>?_,λb o e _=>?_,λb xs e=>F'.un.vd _ _ (I.base.vd _ _ e),λb o u e=>F'.un.uv _ _ _ (I.base.uv _ _ _ e),λb ps e=>?_⟩,F'.eY,F'.stays,F'.has,λb o e hb=>?_,F'.no,F'.dict⟩,q⟩
 .exact F'.un.keep b o (I.base.keep b o e n hb (by simp [jz])) (I.base.free b o e n (by simp [jz])) (hfr b o e hb) (by simp)
 .obtain ⟨sl,e3⟩:=I.base.slot b o e n hb (by simp [jz]);obtain ⟨sl',e4⟩:=F'.un.slot b _ e3 (I.base.free b o e n (by simp [jz])) (ag _ hb:b∈s.heap.objs.size::sJ outer) (by simp);exact ⟨sl',e4⟩
 .obtain ⟨o',e3⟩:=I.base.there b o e (by simp [jz]);exact F'.un.free b o' e3 (I.base.free b o e n (by simp [jz])) (by simp)
 .obtain ⟨o',e3⟩:=I.base.there b o e (by simp [jz]);exact F'.un.there b o' e3 (by simp)
 .obtain ⟨m1,e3⟩:=I.base.ux b ps e;obtain ⟨m2,e4⟩:=F'.un.ux b _ e3;exact ⟨m1++m2,by rw [e4,Dl]⟩
 .obtain ⟨o',e3⟩:=I.base.there b o e (by simp [jz]);exact F'.old b o' e3 (hfr b o e hb)
theorem Inv.tr0 (I:Inv X pins Z H s):Inv (X.tr [] E) pins Z H s:=⟨I.ok.tr,I.os,I.bare,I.base,I.loc,I.cell,I.free,I.nF,λp hp=>I.pin p (by simpa using hp),I.eY,I.len⟩
theorem Inv.acm (I:Inv (X.tr [] E) pins Z H s):Inv X pins Z H s:=⟨I.ok.OP,I.os,I.bare,I.base,I.loc,I.cell,I.free,I.nF,λp hp=>I.pin p (by simpa using hp),I.eY,I.len⟩
theorem HR {h h' B B':dt}(hl:h.FunFrames B l) (k:∀ b∈sJ l,h'.get? b=h.get? b) (n:∀ b,B.get? b=none->B'.get? b=none):h'.FunFrames B' l:=by
 induction l with
 | nil=>trivial
 | cons env rest ih =>
  obtain ⟨hk,⟨L,o,hf,hn,ho,hd⟩,hr⟩:=hl;refine ⟨hk,⟨L,o,hf,n _ hn,(k L ?_).trans ho,hd⟩,ih hr λb hb=>k b ?_⟩
  .unfold sJ;rw [fX,hf];exact ak
  .unfold sJ;rw [fX,hf];exact ag _ hb
section
variable {fp:List ah}
theorem Nv {use:Option (aj->MM Unit)}{Q':aj->ax->Prop}{acc ev:aj}{s':ax}(I:Inv X pins Z H s) (hf:∀ b∈fp,vF X pins H b) (hst:X.stack=X.env::X.outer/\X.env.frame=some X.env.locals) (pm:Rz X E)
  (x:XW (yh X N scope s H fp) [] E ev s') :
  notedBy (bg X.prog X.w) X.A (Ug scope (pH X.env.cells scope.names []) s.heap.objs.size X.env) (λe s'=>ER (bg X.prog X.w) X.A X.xe use Q' acc s.heap.objs.size (.error e) s') ev s':=by
 obtain ⟨σ1,H1,s1,I1,a,cls,a0,B,H2,rfl,os,bare,fl,F,q⟩:=x;have fl:Heap.FlyingW B X.stack a cls a0 s'.heap:=fl;have F:Fly X.prog X.w X.stack H1 s1 H2 a B s'.heap:=F;have IX:=FJ I hf I1;have fC:=I.Jt (aE _) I.fresh;have frm:=qU IX
 have Cst:s.heap.objs.size∉sJ X.stack:=λz=>by
  rw [hst.1] at z;unfold sJ at z;rw [fX,hst.2] at z
  rcases az.mp z with z|z
  .exact fC.2.1 z
  .exact fC.2.2.1 z
 show aY _ X.A (rW (.ref a) _) _ _ s'
 rw [PU (a:=Ug scope (pH X.env.cells scope.names []) s.heap.objs.size X.env) (b:=X.env) rfl];have fl':=fl;have hfm:=IX.ok.frames;rw [hst.1] at fl' hfm;refine gJ (jt (PL _ _) (wpAny_looks_onW (Q:=λ_ s2=>Heap.HeldW B (X.env::X.outer) a cls a0 X.env.locals s2.heap/\s'.heap.UpToSlots s2.heap/\s2.os=s'.os/\s2.gens=s'.gens) hfm hst.2 fl' λh' hl us=>⟨hl,us,rfl,rfl⟩)) λ_ s2 ⟨⟨hl,us,e1,e2⟩,kp⟩=>?_;rw [← hst.1] at hl;have F2:=F.step frm us hl.1 kp;obtain ⟨m,⟨o,es,ep,ho,r⟩,_⟩:=I1.loc;have ho:s1.heap.get? s.heap.objs.size=some o:=ho;have C1:H1 s.heap.objs.size=none:=I1.free;have hC2:=F2.un.keep _ o ho C1 Cst (by simp);refine ⟨m,⟨o,es,ep,hC2,r⟩,λh' hs' cenv _=>?_⟩;generalize hCd:s.heap.objs.size=C at *;obtain ⟨b1,b2,b3,b4⟩:=hl;have nC:∀ b,(cG B [C]).get? b≠none->b≠C:=λb e z=>e (by rw [z];exact yA _ ak)
 have hB:∀ b u,(cG B [C]).get? b=some u->b≠C/\B.get? b=some u:=λb u e=>⟨nC b (by rw [e];simp),rT _ e⟩
 have toB:∀ b u,b≠C->B.get? b=some u->(cG B [C]).get? b=some u:=λb u hb e=>hV _ e (by simpa using hb)
 have noB:∀ b,B.get? b=none->(cG B [C]).get? b=none:=λb e=>by
  cases z:(cG B [C]).get? b with
  | none=>rfl
  | some u=>rw [(hB b u z).2] at e;cases e
 have sy:(cG B [C]).StaysIn h':=λb u e=>(hs'.2 b (hB b u e).1).trans (b1 b u (hB b u e).2);have ff:h'.FunFrames (cG B [C]) X.stack:=HR b3 (λb hb=>hs'.2 b λz=>Cst (z▸hb)) noB;obtain ⟨oe,vs,T,oT,ts,he,hc,hd,q1,nT,ne,hT,hdT,q3⟩:=b4
 have nf:∀ {b:ah}{u:jo}{ws:Array aj},s2.heap.get? b=some u->u.data=.fields ws->b≠C:=λ{b u ws} e d z=>by
  rw [z,hC2] at e;cases e;rw [r.1] at d;cases d
 have tr:h'.TracedAtW (cG B [C]) a cls a0 (iT X.env.locals):=⟨oe,vs,T,oT,ts,(hs'.2 _ (nf he hd)).trans he,hc,hd,q1,noB _ nT,ne,(hs'.2 _ (nf hT hdT)).trans hT,hdT,q3⟩
 -- the state ahead of the call,without the block's names
 have I1':Inv X pins Z H1 { s1 with heap:=cG s1.heap [C] }:=IX.turned (t':=s1.toks) (it:=C) (λb u hb e=>hV _ e (by simpa using hb)) C1 fC.2.1 fC.2.2.2.1 fC.2.2.2.2.1 fC.2.2.2.2.2
 have h1:∀ b u,(cG s1.heap [C]).get? b=some u->b≠C/\s1.heap.get? b=some u:=λb u e=>⟨(λz=>by rw [z,yA _ ak] at e;cases e),rT _ e⟩
 have nH2:H2 C=none:=F2.un.free C o ho C1 (by simp)
 have H2C:∀ b u,H2 b=some u->b≠C:=λb u e z=>by rw [z,nH2] at e;cases e
 have F3:Fly X.prog X.w X.stack H1 { s1 with heap:=cG s1.heap [C] } H2 a (cG B [C]) h':=by
  refine ⟨⟨λb u e n hb hx=>?_,λb u e n hb hx=>?_,λb u e n hx=>F2.un.free b u (h1 b u e).2 n hx,λb u e hx=>?_,F2.un.vd,F2.un.uv,F2.un.ux⟩,λb u e=>?_,sy,λb u e=>?_,λb u e hb=>?_,noB _ F2.no,?_⟩
  .exact (hs'.2 b (h1 b u e).1).trans (F2.un.keep b u (h1 b u e).2 n hb hx)
  .obtain ⟨sl,e3⟩:=F2.un.slot b u (h1 b u e).2 n hb hx;exact ⟨sl,(hs'.2 b (h1 b u e).1).trans e3⟩
  .obtain ⟨u',e3⟩:=F2.un.there b u (h1 b u e).2 hx;exact ⟨u',(hs'.2 b (h1 b u e).1).trans e3⟩
  .refine (F2.eY b u e).yx (λc v hc' q=>(hs'.2 c ?_).trans q) (λ_ q=>q) λ_ _ q=>q
   rcases hc' with rfl|z
   .exact H2C _ _ e
   .exact H2C _ _ z
  .obtain ⟨v,hv⟩:=F2.has b u e;exact ⟨v,toB b v (H2C b u e) hv⟩
  .obtain ⟨v,hv⟩:=F2.old b u (h1 b u e).2 hb;exact ⟨v,toB b v (h1 b u e).1 hv⟩
  .obtain ⟨u,e3,d⟩:=F2.dict;rw [he] at e3;cases e3;exact ⟨_,(hs'.2 _ (nf he hd)).trans he,d⟩
 unfold PySem.passOn;refine ar (Pg ((hs'.2 _ (nf he hd)).trans he) hd q1 ?_);rw [if_neg (by simp)]
 have go:aY (bg X.prog X.w) X.A (O2 (.ref a) cenv.frame >>= λ_=>(throw (aB a):MM aj)) (λ_ _=>False) X.xe { s2 with heap:=h' }:=by
  refine ar (gJ (jt (Ai _ _) (PV (Q:=λ_ s3=>(cG B [C]).StaysIn s3.heap/\s3.heap.FunFrames (cG B [C]) X.stack/\s3.heap.TracedAtW (cG B [C]) a cls a0 (cenv.frame.elim .none λf=>iT f)/\h'.UpToSlots s3.heap/\s3.os=s2.os/\s3.gens=s2.gens) sy ff tr λh4 x1 x2 x3 x4=>⟨x1,x2,x3,x4,rfl,rfl⟩)) λ_ s3 ⟨⟨x1,x2,x3,x4,e3,e4⟩,kp3⟩=>?_);exact wpAny_throw (pm pins Z H1 H2 _ s3 a cls a0 _ _ I1' ((e3.trans e1).trans os) (by rw [e4,e2];exact bare) x1 (noB _ b2) x2 x3 (F3.step (qU I1') x4 x1 kp3) q)
 first
 | exact go
 | exact ar (aQ go)
end
section
variable {prog:bC}{R:Result->ax->Prop}
theorem HS {elt target:Expr}{it acc:aj}(I:Nat->ax->Prop)
  (turn:∀ n s,I n s->aY (bg prog w) A (OY it) (λr s₁=>match r with
   | none=>R (.ok .next) s₁
   | some v=>aY (bg prog w) A (uA target it v) (λ_ s₁'=>aY (bg prog w) A (Ju target env v) (λ_ s₂ =>
     aY (bg prog w) A (forIn ifs true λc r=>if r=true then do let ok ← isTrue c env (fR c env);pure (iI ok) else pure (iI r)) (λok s₃ =>
      if ok=true then aY (bg prog w) A (fR elt env) (λx s₄ =>
       aY (bg prog w) A (call (.builtin "list.append") [acc,x]) (λ_ s₅=>∃ m,m<n/\I m s₅) (λ_ _=>False) s₄) (notedBy (bg prog w) A env λe s'=>R (.error e) s') s₃
      else ∃ m,m<n/\I m s₃) (λ_ _=>False) s₂) (λ_ _=>False) s₁') (λ_ _=>False) s₁) (λ_ _=>False) s)
  (n:Nat) (h:I n s) :
  sO (bg prog w) A (.compLoop (.ListComp elt [⟨target,iter,ifs,0⟩] scope pos) 0 it acc env) R s:=by
 refine codeAny_loop rfl I (λn s hI=>?_) n h
 show aY _ A ((compTurn (.ListComp elt [⟨target,iter,ifs,0⟩] scope pos) 0 it acc env).onRaise (λx=>do rW x env;theTreesLotGoes x)) _ _ s
 refine wpAny_noted ?_;rw [compTurn_list];refine ar (yC (ar (dF (turn n s hI) (λr s₁ h₁=>?_) λ_ _ h'=>h'.elim)))
 cases r with
 | none=>exact aQ h₁
 | some v =>
  refine ar (dF h₁ (λ_ s₁' h₁'=>?_) λ_ _ h'=>h'.elim);refine ar (dF h₁' (λ_ s₂ h₂=>ar (dF h₂ (λok s₃ h₃=>?_) λ_ _ h'=>h'.elim)) λ_ _ h'=>h'.elim)
  cases ok with
  | false=>exact aQ ⟨rfl,h₃⟩
  | true =>
   exact ar (ar (dF h₃ (λx s₄ h₄=>ar (dF h₄ (λ_ s₅ h₅=>aQ (aQ ⟨rfl,h₅⟩)) λ_ _ h'=>h'.elim)) λ_ _ h'=>h'))
end
theorem Tj {elt:Expr}{own ys:List aL}{js:List Nat}{wi:TI}{g:TG}{tt:TT}{te:TE}{Q:VK}
  {use:Option (aj->MM Unit)}{Q':aj->ax->Prop}{p:yz}{E:XK}(hst:X.stack=X.env::X.outer/\X.env.frame=some X.env.locals) (pm:Rz X E) (hcalm:X.calm=true)
  (hi:PI X tg iter wi) (hkind:scope.kind=.function) (hcell:∀ y∈scope.names,y.2≠.cell) (hnames:∀ y∈scope.names,y.2=.local->scope.names.lookup y.1=some .local)
  (hfr:∀ n,(n,bE)∈scope.names->∃ c,X.env.cells.lookup n=some c) (hc:Dh X scope js ys)
  (hg:∀ s0 H0 fp,PG (yh X (own++ys) scope s0 H0 fp) tg g) (ht:∀ s0 H0 fp,PC (yh X (own++ys) scope s0 H0 fp) ifs tt) (he:∀ s0 H0 fp,PE ((yh X (own++ys) scope s0 H0 fp).tr [] E) elt te)
  (I:Inv X pins Z H s) (h:oR own.length js wi g tt te Z H Q)
  (hu:∀ (D C:ah) (H':Hp) (s':ax),Inv X pins Z H' s'->Q (.ref D) H'->vF X pins H' C->(∃ m,s'.heap.Ns C m)->ER (bg X.prog X.w) X.A X.xe use Q' (.ref D) C (.ok .next) s')
  (hs:∀ x,md iter X.env x=pure x) :
  aY (bg X.prog X.w) X.A (WW (.ListComp elt [⟨tg,iter,ifs,0⟩] scope pos) scope X.env p (newList []) false (fR iter X.env) use) Q' X.xe s:=by
 refine WX (g:=⟨tg,iter,ifs,0⟩) (gs:=[]) rfl hs (uG hfr) hkind hnames (gJ (hi pins s Z H _ I h) λv s1 h1=>gJ h1 λitv s2 h2=>?_);obtain ⟨it,fp,tn,J,H2,e,I2,T,st2,f2,q⟩:=h2;subst e;refine mf (ES hcell (by intro y hy;simp at hy) (λh₁ hns₁ hsb₁=>?_) hkind);dsimp only at hns₁ hsb₁ ⊢;have nD:H2 s2.heap.objs.size=none:=I2.fresh;have I3:Inv X pins Z (upd H2 s2.heap.objs.size (.lst [])) { s2 with heap:=s2.heap.push { cls:=.type "list",data:=.seq ([]:List aj).toArray },toks:=s2.toks }:=I2.aaX (its:=[]) .nil (dm _)
 have hlt2:∀ b∈fp,b<s2.heap.objs.size:=λb hb=>let ⟨o,e,_⟩:=T.obj _ _ st2 b hb;aS e
 obtain ⟨W,⟨m0,w0⟩,turn⟩:=q _ nD;generalize hs3:({ s2 with heap:=s2.heap.push { cls:=.type "list",data:=.seq ([]:List aj).toArray },toks:=s2.toks }:ax)=s3 at I3
 have hh3:s2.heap.push { cls:=.type "list",dict:=none,data:=.seq ([]:List aj).toArray }=s3.heap:=by rw [← hs3]
 have hsz3:s3.heap.objs.size=s2.heap.objs.size+1:=by rw [← hh3,z8]
 have hlt3:∀ b∈fp,b<s3.heap.objs.size:=λb hb=>by rw [hsz3];exact Zl (hlt2 b hb)
 have f3:∀ b∈fp,vF X pins (upd H2 s2.heap.objs.size (.lst [])) b:=λb hb=>⟨by rw [aI (bb (hlt2 b hb))];exact (f2 b hb).1,(f2 b hb).2⟩
 have fC:vF X pins (upd H2 s2.heap.objs.size (.lst [])) s3.heap.objs.size:=I3.Jt (aE _) I3.fresh;rw [hh3] at hns₁ hsb₁ ⊢;have hk3:∀ b o,s3.heap.get? b=some o->h₁.get? b=some o:=λb o e=>hsb₁.extBut b o (bb (aS e)) (aA _ e)
 have es4:({ s2 with heap:=h₁,toks:=s2.toks+([]:List (aL×aj)).length }:ax)={ s3 with heap:=h₁,toks:=s2.toks+([]:List (aL×aj)).length }:=by rw [← hs3]
 have I4:=Rc (own:=own) (h1:=h₁) (tk:=s2.toks+([]:List (aL×aj)).length) I3 f3 hlt3 hkind hcell hfr hc hns₁ hk3;have st4:tn 0 h₁:=T.keep _ _ _ st2 λb hb o e=>hk3 b o (by rw [← hh3];exact aA _ e)
 have stat:∀ {H':Hp},(∀ b∈fp,H' b=none)->∀ b∈fp,vF (yh X (own++ys) scope s3 (upd H2 s2.heap.objs.size (.lst [])) fp) [] H' b:=λhn b hb =>
  ⟨hn b hb,bb (hlt3 b hb),(FI (N:=own++ys) I3 f3 hlt3 hkind hcell hfr).Hu b hb,.inl hb,λx c e=>((FI (N:=own++ys) I3 f3 hlt3 hkind hcell hfr).YB b hb).2 x c e,λp hp=>nomatch hp⟩
 have loop:∀ s4:ax,s4={ s3 with heap:=h₁,toks:=s2.toks+([]:List (aL×aj)).length } ->
   sO (bg X.prog X.w) X.A (.compLoop (.ListComp elt [⟨tg,iter,ifs,0⟩] scope pos) 0 (.ref it) (.ref s2.heap.objs.size) (Ug scope (pH X.env.cells scope.names []) s3.heap.objs.size X.env))
    (ER (bg X.prog X.w) X.A X.xe use Q' (.ref s2.heap.objs.size) s3.heap.objs.size) s4:=by
  rintro s4 rfl
  refine HS (λn s'=>∃ i ys' σ' H',Inv (yh X (own++ys) scope s3 (upd H2 s2.heap.objs.size (.lst [])) fp) [] σ' H' s'/\tn i s'.heap/\(∀ b∈fp,H' b=none)/\W i n ys' σ' H') ?_ m0
   ⟨0,[],_,_,I4,st4,λb hb=>(f3 b hb).1,w0⟩
  rintro n s5 ⟨i,ys',σ5,H5,I5,st5,fr5,w5⟩;obtain ⟨hacc,rest⟩:=turn i n ys' σ5 H5 w5
  rcases rest with ⟨stop,qn⟩|⟨go,step⟩
  .refine gJ (T.done (yh X (own++ys) scope s3 (upd H2 s2.heap.objs.size (.lst [])) fp) rfl rfl rfl hcalm i [] s5 σ5 H5 _ I5 (stat fr5) st5 stop) λr s6 ⟨hr,I6⟩=>?_;subst hr;exact hu _ _ H5 s6 (FJ I3 f3 I6) qn ⟨I6.free,fC.2⟩ (let ⟨m,hn,_⟩:=I6.loc;⟨m,hn⟩)
  .refine gJ (T.item (yh X (own++ys) scope s3 (upd H2 s2.heap.objs.size (.lst [])) fp) rfl rfl rfl hcalm i [] s5 σ5 H5 _ I5 (stat fr5) st5 go) λr s6 ⟨u,hr,h6⟩=>?_;subst hr;refine gJ h6 λ_ s7 ⟨x,H7,I7,r7,y7,st7,fr7⟩=>?_;have I7':=I7.pinned (stat fr7) (T.obj _ _ st7);refine gJ (hg _ _ _ _ s7 σ5 H7 x u _ I7' r7 (step x H7 y7)) λ_ s8 ⟨σ8,H8,I8,q8⟩=>?_;refine gJ (ht _ _ _ _ s8 σ8 H8 _ I8 q8) λok s9 ⟨H9,I9,q9⟩=>?_
   have kept:∀ {s10:ax}{σ10:St}{H10:Hp},Inv (yh X (own++ys) scope s3 (upd H2 s2.heap.objs.size (.lst [])) fp) ([]++BA fp s7.heap) σ10 H10 s10 ->
     Inv (yh X (own++ys) scope s3 (upd H2 s2.heap.objs.size (.lst [])) fp) [] σ10 H10 s10/\tn (i+1) s10.heap/\∀ b∈fp,H10 b=none:=λ{s10 σ10 H10} I10=>by
    refine ⟨I10.xy,T.keep _ _ _ st7 λb hb o e=>(I10.pin (b,o) (aU _ (aU _ (nS hb e)))).1,λb hb=>?_⟩;obtain ⟨o,e,d⟩:=T.obj _ _ st7 b hb;exact (I10.pin (b,o) (aU _ (aU _ (nS hb e)))).2.1
   cases ok with
   | false =>
    simp only [iJ,if_false] at q9 ⊢;obtain ⟨m',hm,w9⟩:=q9;obtain ⟨k1,k2,k3⟩:=kept I9
    exact ⟨m',hm,i+1,ys',σ8,H9,k1,k2,k3,w9⟩
   | true =>
    simp only [if_true] at q9 ⊢;refine dF (he _ _ _ _ s9 σ8 H9 _ I9.tr0 q9) (λyv s10 ⟨y,H10,I10,r10,a10,l10,m',hm,w10⟩=>?_) λev s' x=>Nv I3 f3 hst pm x;have I10:=I10.acm;refine gJ (je (X:=yh X (own++ys) scope s3 (upd H2 s2.heap.objs.size (.lst [])) fp) _ s10 σ8 H10 (.ref s2.heap.objs.size) [y] (.ref s2.heap.objs.size) [yv] (λv H'=>v=.non/\H'=upd H10 s2.heap.objs.size (.lst (ys'++[y]))) I10 rfl (.cons r10 .nil) ⟨_,_,_,rfl,rfl,a10,l10,rfl,rfl⟩) λ_ s11 ⟨_,H11,I11,_,_,e11⟩=>?_;subst e11;obtain ⟨k1,k2,k3⟩:=kept I11;exact ⟨m',hm,i+1,_,σ8,_,k1,k2,k3,w10⟩
 have fin:=YK (R:=ER (bg X.prog X.w) X.A X.xe use Q' (.ref s2.heap.objs.size) s3.heap.objs.size) (loop _ rfl) (T.self X.A 0 { s3 with heap:=h₁,toks:=s2.toks+([]:List (aL×aj)).length } _ _ st4 (loop _ rfl));rw [← hs3] at fin ⊢;exact fin
theorem Nw {elt:Expr}(own:List aL) {ys:List aL}(js:List Nat) {wi:TI}{g:TG}{tt:TT}{te:TE}{E:XK}(hst:X.stack=X.env::X.outer/\X.env.frame=some X.env.locals) (pm:Rz X E) (hcalm:X.calm=true)
  (hi:PI X tg iter wi) (hc:Dh X scope js ys)
  (hg:∀ s0 H0 fp,PG (yh X (own++ys) scope s0 H0 fp) tg g) (ht:∀ s0 H0 fp,PC (yh X (own++ys) scope s0 H0 fp) ifs tt) (he:∀ s0 H0 fp,PE ((yh X (own++ys) scope s0 H0 fp).tr [] E) elt te)
  (hfr:(scope.names.all λy=>y.2 != .free || X.env.kindOf y.1 == some .cell || X.env.kindOf y.1 == some .free)=true:=by rfl)
  (hkind:scope.kind=.function:=by rfl) (hcell:∀ y∈scope.names,y.2≠.cell:=by decide +kernel) (hnames:∀ y∈scope.names,y.2=.local->scope.names.lookup y.1=some .local:=by decide +kernel)
  (hs:∀ x,md iter X.env x=pure x:=by intro _;rfl):PE X (.ListComp elt [⟨tg,iter,ifs,0⟩] scope pos) (oR own.length js wi g tt te):=by
 intro pins s Z H Q I h;rw [eval_ListComp];refine Tj (use:=none) hst pm hcalm hi hkind hcell hnames (vY I hfr) hc hg ht he I h (λD C H' s' I' q fC ⟨m,hn⟩=>⟨m,hn,λh' hs'=>⟨.ref D,H',?_,rfl,q⟩⟩) hs;exact I'.turned (t':=s'.toks) (λb o hb e=>(hs'.2 b hb).trans e) fC.1 fC.2.1 fC.2.2.2.1 fC.2.2.2.2.1 fC.2.2.2.2.2
def df:R2:=λx y H Q=>∃ i j,x=.str i/\y=.str j/\i.length+j.length<=aT/\Q (.str (i++j)) H
theorem bM:tP X (oi .Add) df:=Pw
def rInS:R2:=λx y H Q=>∃ i j,x=.str i/\y=.str j/\Q (.bl (!(HF j i 0 j.length 1).isEmpty)) H
theorem aat:tP X (dP .In) rInS:=Sv
def Vw:List V->Hp->VK->Prop:=λxs H Q=>∃ z,xs=[.str z]/\z.length<=aT/\Q (.int z.length) H
theorem JW:mK X (.builtin "len") Vw:=Kt
def Zc:R2:=λx y H Q=>∃ z i c,x=.str z/\y=.int i/\0<=i/\i<2^63/\i<z.length/\z.cps[i.toNat]?=some c/\Q (.str ⟨#[c]⟩) H
theorem aau {a b:Expr}{ta tb:TE}(ha:PE X a ta) (hb:PE X b tb) (hs:MY b):PE X (.Subscript a b pos) (bT Zc ta tb):=MZ ha hb hs
def Nx:List V->Hp->VK->Prop:=λxs H Q=>∃ (a:aL) (n:Int),xs=[.str a]/\a.length<=640/\MJ a=some n/\Q (.int n) H
theorem xI:mK X (.type "int") Nx:=HQ
def Ny (K:ae):List V->Hp->VK->Prop:=λxs H Q=>∃ x T t b,xs=[x,.ref T]/\zm K H x t/\bp K t (.ref T)=some b/\Q (.bl b) H
theorem BH:mK X (.builtin "isinstance") (Ny X.K):=by
 intro pins s Z H xs us Q I r h;obtain ⟨x,T,t,b,rfl,ty,e,q⟩:=h;obtain ⟨u,w',rfl,ru,rw'⟩:=vals2 r;cases (show w'=aB T from rw')
 exact JF I ru ty e λtk=>⟨.bl b,H,I.tok tk,rfl,q⟩
theorem tY {es rest:List Expr}{k}:bw (.Tuple es k pos::rest) env=(false,fR (.Tuple es k pos) env)::bw rest env:=by rfl
def RA:TE:=λ_ _ _=>False
theorem Vx:PE X e RA:=λ_ _ _ _ _ _ h=>h.elim
def Nz (a b:TE):TE:=λZ H Q=>a Z H Q\/b Z H Q
theorem BI {a b:TE}(h:PE X e a) (h':PE X e b):PE X e (Nz a b):=h.or h'
end L2
namespace Rm
variable {f:Nat->Int}{m:Nat}{r:List Int}
def tn {α:Type} (r:List α) (k:Nat):List α:=r.drop k++(r.drop 1).take k
theorem Vy {k:Nat}(hk:k<r.length):(tn r k).length=r.length:=by
 unfold tn;rw [bN,c8,cE,c8];lia
theorem Yg:tn r 0=r:=by simp [tn]
theorem PY {a:Int}(h:a∈r):r.idxOf a<r.length:=Pc.mpr h
end Rm
namespace Rm
section
variable {n:Nat}{v par:Nat->Nat}
end
end Rm
namespace Rm
def al:List Int->List (Int×Int)
 | []=>[]
 | [_]=>[]
 | a::b::r=>(a,b)::al (b::r)
theorem tZ:∀ (xs:List Int) (x:Int) (ys:List Int),al (xs++x::ys)=al (xs++[x])++al (x::ys)
 | [],x,ys=>rfl
 | [a],x,ys=>rfl
 | a::b::xs,x,ys=>by
  have:=tZ (b::xs) x ys
  show (a,b)::al ((b::xs)++x::ys)=(a,b)::al ((b::xs)++[x])++al (x::ys)
  rw [this];rfl
theorem sV:∀ {r:List Int}{x y:Int},(x,y)∈al r->x∈r/\y∈r
 | a::b::r,x,y,h=>by
  rcases az.mp h with e|h
  .cases e;simp
  .have:=sV h;exact ⟨ag _ this.1,ag _ this.2⟩
structure ML (r:List Int):Prop where
 ne:r≠[]
 cnt:∃ ds:List Int,ds.Nodup/\(∀ x,x∈ds↔x∈r)/\r.length+1=2*ds.length
 ends:r.head?=r.getLast?
 nd:(al r).Nodup
 sym:∀ x y,(x,y)∈al r->(y,x)∈al r
theorem ML.one (a:Int):ML [a]:=⟨by simp,⟨[a],by simp,by simp,rfl⟩,rfl,by simp [al],λx y h=>by simp [al] at h⟩
theorem FU:∀ {ds r:List Int},ds.Nodup->(∀ x∈r,x∈ds)->(ds.map λd=>r.count d).sum=r.length
 | ds,[],h1,h2=>by
  have:(ds.map λd=>([]:List Int).count d)=ds.map λ_=>0:=by simp
  rw [this]
  clear this h1 h2
  induction ds with
  | nil=>rfl
  | cons d ds ih=>simpa using ih
 | ds,x::r,h1,h2=>by
  have ih:=FU (ds:=ds) (r:=r) h1 λy hy=>h2 y (ag _ hy);have hx:=h2 x ak
  have key:∀ (ds:List Int),ds.Nodup->(ds.map λd=>(x::r).count d).sum=(ds.map λd=>r.count d).sum+if x∈ds then 1 else 0:=by
   intro ds
   induction ds with
   | nil=>intro _;simp
   | cons d ds ih2 =>
    intro hnd;have:=ih2 (eO.mp hnd).2;have hd:=(eO.mp hnd).1;simp only [bx,Ph,List.count_cons] at this ⊢;rw [this]
    by_cases e:x=d
    .subst e;simp [hd];lia
    .have e':¬ d=x:=λz=>e z.symm;simp [e];lia
  rw [key ds h1,ih,if_pos hx,bo]
end Rm
namespace Rm
variable {a b:Int}{r xs ys T:List Int}
theorem ML.YC {r':List Int}(h:ML r) (hn:r'≠[]) (hm:∀ x,x∈r'↔x∈r) (hl:r'.length=r.length) (he:r'.head?=r'.getLast?) (hp:(al r').Perm (al r)):ML r' :=
 ⟨hn,let ⟨ds,a,b,c⟩:=h.cnt;⟨ds,a,λx=>by rw [b,hm],by rw [hl];exact c⟩,he,hp.nodup_iff.mpr h.nd,λx y z=>hp.mem_iff.mpr (h.sym x y (hp.mem_iff.mp z))⟩
theorem JX (h:a∈r):∃ xs ys,r=xs++a::ys/\xs.length=r.idxOf a/\a∉xs:=by
 induction r with
 | nil=>cases h
 | cons b r ih =>
  by_cases e:b=a
  .subst e;exact ⟨[],r,rfl,by simp,by simp⟩
  .have ha:a∈r:=(az.mp h).resolve_left λq=>e q.symm;obtain ⟨xs,ys,e1,e2,e3⟩:=ih ha
   have eb:(b == a)=false:=by simpa using e
   refine ⟨b::xs,ys,by rw [e1];rfl,by rw [List.idxOf_cons,eb];simp [e2],λhm=>?_⟩
   rcases az.mp hm with q|q
   .exact e q.symm
   .exact e3 q
theorem ML.turn (h:ML r) (ha:a∈r):ML (tn r (r.idxOf a))/\(al (tn r (r.idxOf a))).Perm (al r)/\(tn r (r.idxOf a)).head?=some a/\(∀ x,x∈tn r (r.idxOf a)↔x∈r)/\(tn r (r.idxOf a)).length=r.length:=by
 have hlen:(tn r (r.idxOf a)).length=r.length:=Vy (PY ha);obtain ⟨xs,ys,e,el,hx⟩:=JX ha
 cases xs with
 | nil =>
  have e0:r.idxOf a=0:=by rw [← el];rfl
  rw [e0,Yg]
  exact ⟨h,HB _,by rw [e];rfl,λx=>Iff.rfl,rfl⟩
 | cons b xs =>
  have hba:b≠a:=λq=>hx (by simp [q]);have he:=h.ends
  obtain ⟨ys',ey⟩:∃ ys',ys=ys'++[b]:=by
   rw [e] at he;simp only [HJ,List.head?_cons] at he;rw [show b::(xs++a::ys)=(b::xs++[a])++ys by simp,jc] at he
   rcases Us ys with q|⟨us,u,q⟩
   .subst q;rw [show b::xs++[a]=(b::xs)++[a] by rfl,jc] at he;simp at he;exact absurd he hba
   .rw [Ut] at q;subst q;rw [jc] at he;simp at he;subst he;exact ⟨us,rfl⟩
  subst ey
  have et:tn r (r.idxOf a)=(a::ys')++b::(xs++[a]):=by
   unfold tn;rw [← el,e];simp only [bo]
   have d1:((b::xs)++a::(ys'++[b])).drop (xs.length+1)=a::(ys'++[b]):=by simp
   have d2:(((b::xs)++a::(ys'++[b])).drop 1).take (xs.length+1)=xs++[a]:=by
    show (xs++a::(ys'++[b])).take (xs.length+1)=xs++[a]
    rw [Zs,bS (by lia)];simp
   rw [d1,d2];simp
  have hp:(al (tn r (r.idxOf a))).Perm (al r):=by
   rw [et,e,tZ (a::ys') b (xs++[a]),tZ (b::xs) a (ys'++[b])];exact Uu
  have hm:∀ x,x∈tn r (r.idxOf a)↔x∈r:=λx=>by
   rw [et,e];simp
   constructor
   .rintro (q|q|q|q|q)
    .exact .inr (.inr (.inl q))
    .exact .inr (.inr (.inr (.inl q)))
    .exact .inl q
    .exact .inr (.inl q)
    .exact .inr (.inr (.inl q))
   .rintro (q|q|q|q|q)
    .exact .inr (.inr (.inl q))
    .exact .inr (.inr (.inr (.inl q)))
    .exact .inl q
    .exact .inr (.inl q)
    .exact .inr (.inr (.inl q))
  refine ⟨h.YC (by rw [et];simp) hm hlen (by rw [et];simp [jc,DQ]) hp,hp,by rw [et];rfl,hm,hlen⟩
theorem Vz (h1:T.head?=some b) (h2:T.getLast?=some b):(al (xs++a::(T++a::ys))).Perm ((a,b)::(b,a)::(al (xs++a::ys)++al T)):=by
 obtain ⟨T1,e1⟩:∃ T1,T=b::T1:=by
  cases T with
  | nil=>simp at h1
  | cons c T=>simp at h1;exact ⟨T,by rw [h1]⟩
 obtain ⟨T2,e2⟩:∃ T2,T=T2++[b]:=by
  rcases Us T with q|⟨us,u,q⟩
  .subst q;simp at h2
  .rw [Ut] at q;subst q;simp at h2;exact ⟨us,by rw [h2]⟩
 have e3:al (a::(T++a::ys))=(a,b)::(al T++(b,a)::al (a::ys)):=by
  have e4:al (T++a::ys)=al T++(b,a)::al (a::ys):=by
   conv=>lhs;rw [e2,eD,List.singleton_append,tZ]
   rw [← e2];rfl
  have e5:al (a::(T++a::ys))=(a,b)::al (T++a::ys):=by rw [e1];rfl
  rw [e5,e4]
 rw [tZ xs a (T++a::ys),tZ xs a ys,e3];generalize al (xs++[a])=P;generalize al (a::ys)=R;generalize al T=U
 -- P++(ab::(U++ba::R)) ~ ab::ba::((P++R)++U)
 refine Zu.trans (xF _ ?_);rw [← eD];refine Zu.trans (xF _ ?_);rw [eD,eD];exact MR _ Uu
theorem VA (xs ys T:List Int) (a:Int):(xs++a::(T++a::ys)).head?=(xs++a::ys).head?/\(xs++a::(T++a::ys)).getLast?=(xs++a::ys).getLast?:=by
 constructor
 .cases xs<;>simp
 .cases ys with
  | nil=>simp [jc,DQ]
  | cons y ys=>simp [jc,DQ]
theorem ML.aaP (h:ML (xs++a::ys)) (hT:ML T) (h1:T.head?=some b) (hd:∀ x∈T,x∉xs++a::ys):ML (xs++a::(T++a::ys)):=by
 have h2:T.getLast?=some b:=by rw [← hT.ends];exact h1
 have hp:=Vz (xs:=xs) (ys:=ys) (a:=a) h1 h2;have hb:b∈T:=ze (by rw [h1];rfl)
 have ha:a∈xs++a::ys:=by simp
 have hab:a≠b:=λe=>hd b hb (e▸ha);have hb':=hd b hb;have ha':a∉T:=λq=>hd a q ha;refine ⟨by simp,?_,?_,hp.nodup_iff.mpr ?_,λx y hxy=>?_⟩
 .obtain ⟨ds,d1,d2,d3⟩:=h.cnt;obtain ⟨es,e1,e2,e3⟩:=hT.cnt;refine ⟨ds++es,jd.mpr ⟨d1,e1,λx hx y hy q=>hd y ((e2 y).mp hy) (q▸(d2 x).mp hx)⟩,λx=>?_,?_⟩
  .rw [bX,d2,e2];simp
   constructor
   .rintro ((q|q|q)|q)
    .exact .inl q
    .exact .inr (.inl q)
    .exact .inr (.inr (.inr (.inr q)))
    .exact .inr (.inr (.inl q))
   .rintro (q|q|q|q|q)
    .exact .inl (.inl q)
    .exact .inl (.inr (.inl q))
    .exact .inr q
    .exact .inl (.inr (.inl q))
    .exact .inl (.inr (.inr q))
  .simp at d3 ⊢;lia
 .have:=VA xs ys T a;rw [this.1,this.2];exact h.ends
 .refine eO.mpr ⟨λhm=>?_,eO.mpr ⟨λhm=>?_,jd.mpr ⟨h.nd,hT.nd,?_⟩⟩⟩
  .rcases az.mp hm with q|hm
   .exact hab (by cases q;rfl)
   .rcases bX.mp hm with q|q
    .exact hb' (sV q).2
    .exact ha' (sV q).1
  .rcases bX.mp hm with q|q
   .exact hb' (sV q).1
   .exact ha' (sV q).2
  .rintro ⟨x,y⟩ hx t ht q;subst q;exact hd x (sV ht).1 (sV hx).1
 .refine hp.mem_iff.mpr ?_
  rcases az.mp (hp.mem_iff.mp hxy) with q|hm
  .cases q;simp
  .rcases az.mp hm with q|hm
   .cases q;simp
   .refine ag _ (ag _ ?_)
    rcases bX.mp hm with q|q
    .exact c6 _ (h.sym x y q)
    .exact aU _ (hT.sym x y q)
end Rm
namespace Rm
end Rm
namespace Rm
theorem NA (x y:Int) (l:List Int):al (x::y::l)=(x,y)::al (y::l):=rfl
end Rm
namespace Rm
variable {n:Nat}{R:Nat->List Int}
def spl (r1 r2:List Int) (a b:Int):List Int:=r1.take (r1.idxOf a+1)++(tn r2 (r2.idxOf b)++r1.drop (r1.idxOf a))
structure Two (r1 r2:List Int) (a b:Int):Prop where
 h1:ML r1
 h2:ML r2
 ha:a∈r1
 hb:b∈r2
 dis:∀ x∈r2,x∉r1
theorem Two.facts {r1 r2:List Int}{a b:Int}(T:Two r1 r2 a b):ML (spl r1 r2 a b)/\(al (spl r1 r2 a b)).Perm ((a,b)::(b,a)::(al r1++al r2))/\(spl r1 r2 a b).length=r1.length+r2.length+1:=by
 obtain ⟨t1,t2,t3,t4,t5⟩:=T.h2.turn T.hb;obtain ⟨xs,ys,e,el,hx⟩:=JX T.ha
 have es:spl r1 r2 a b=xs++a::(tn r2 (r2.idxOf b)++a::ys):=by
  unfold spl;rw [← el]
  conv=>lhs;rw [e]
  have d1:(xs++a::ys).take (xs.length+1)=xs++[a]:=by
   rw [Zs,bS (by lia)];simp
  have d2:(xs++a::ys).drop xs.length=a::ys:=by simp
  rw [d1,d2];simp
 have hR:ML (xs++a::ys):=by rw [← e];exact T.h1
 have hd:∀ x∈tn r2 (r2.idxOf b),x∉xs++a::ys:=λx hx=>by rw [← e];exact T.dis x ((t4 x).mp hx)
 refine ⟨by rw [es];exact hR.aaP t1 t3 hd,?_,?_⟩
 .rw [es,e]
  have t3':(tn r2 (r2.idxOf b)).getLast?=some b:=by rw [← t1.ends];exact t3
  exact (Vz t3 t3').trans (xF _ (xF _ (MR _ t2)))
 .have hlt:(tn r2 (r2.idxOf b)).length=r2.length:=t5;unfold spl;have:=PY T.ha;rw [bN,bN,cE,c8,hlt];lia
theorem Two.mem {r1 r2:List Int}{a b:Int}(T:Two r1 r2 a b) (x:Int):x∈spl r1 r2 a b↔x∈r1\/x∈r2:=by
 obtain ⟨t1,t2,t3,t4,t5⟩:=T.h2.turn T.hb;unfold spl;rw [bX,bX,t4]
 constructor
 .rintro (h|h|h)
  .exact .inl (List.mem_of_mem_take h)
  .exact .inr h
  .exact .inl (z9 h)
 .rintro (h|h)
  .rw [← List.take_append_drop (r1.idxOf a) r1] at h
   rcases bX.mp h with h|h
   .exact .inl (List.take_subset_take_left _ (Bv _) h)
   .exact .inr (.inr h)
  .exact .inr (.inl h)
structure Wd (n:Nat) (R:Nat->List Int):Prop where
 r:∀ i,i<n->ML (R i)
 me:∀ i:Nat,i<n->(i:Int)∈R i
 Zh:∀ i,i<n->∀ x∈R i,∃ j:Nat,j<n/\x=(j:Int)/\R j=R i
def Ed (n:Nat) (R:Nat->List Int) (x y:Int):Prop:=∃ i,i<n/\(x,y)∈al (R i)
theorem Wd.start (n:Nat):Wd n λi=>[(i:Int)] :=
 ⟨λi _=>ML.one _,λi _=>by simp,λi hi x hx=>⟨i,hi,by simpa using hx,rfl⟩⟩
theorem Wd.same (W:Wd n R) {i j:Nat}(hi:i<n) (hj:j<n) {x:Int}(h1:x∈R i) (h2:x∈R j):R i=R j:=by
 obtain ⟨k,hk,e1,e2⟩:=W.Zh i hi x h1;obtain ⟨k',hk',e3,e4⟩:=W.Zh j hj x h2
 have:k=k':=by lia
 subst this;rw [← e2,e4]
theorem Wd.head (W:Wd n R) {i j:Nat}(hi:i<n) (hj:j<n):((R i).head?=(R j).head?↔(j:Int)∈R i):=by
 constructor
 .intro e
  obtain ⟨x,hx⟩:∃ x,(R i).head?=some x:=by
   cases h:R i with
   | nil=>exact absurd h (W.r i hi).ne
   | cons a l=>exact ⟨a,rfl⟩
  rw [W.same hi hj (ze hx) (ze (e▸hx))];exact W.me j hj
 .intro h;rw [W.same hi hj h (W.me j hj)]
theorem Ed.at (W:Wd n R) {x y:Int}(h:Ed n R x y) {i:Nat}(hi:i<n) (hx:x∈R i):(x,y)∈al (R i):=by
 obtain ⟨j,hj,hm⟩:=h;rw [W.same hi hj hx (sV hm).1];exact hm
theorem Ed.symm (W:Wd n R) {x y:Int}(h:Ed n R x y):Ed n R y x:=let ⟨i,hi,hm⟩:=h;⟨i,hi,(W.r i hi).sym _ _ hm⟩
theorem Wd.link (W:Wd n R) {a b:Nat}(ha:a<n) (hb:b<n) (hn:(b:Int)∉R a) :
  Two (R a) (R b) a b/\Wd n (λi=>if (i:Int)∈spl (R a) (R b) a b then spl (R a) (R b) a b else R i) /\
   ∀ x y,Ed n (λi=>if (i:Int)∈spl (R a) (R b) a b then spl (R a) (R b) a b else R i) x y↔(Ed n R x y\/(x,y)=((a:Int),(b:Int))\/(x,y)=((b:Int),(a:Int))):=by
 have T:Two (R a) (R b) a b:=⟨W.r a ha,W.r b hb,W.me a ha,W.me b hb,λx h2 h1=>hn (by rw [W.same ha hb h1 h2];exact W.me b hb)⟩
 obtain ⟨f1,f2,f3⟩:=T.facts;have fm:=T.mem;generalize spl (R a) (R b) a b=s at f1 f2 f3 fm
 have hs:∀ x∈s,∃ j:Nat,j<n/\x=(j:Int)/\(j:Int)∈s:=λx hx=>by
  rcases (fm x).mp hx with h|h
  .obtain ⟨j,hj,e,_⟩:=W.Zh a ha x h;exact ⟨j,hj,e,e▸hx⟩
  .obtain ⟨j,hj,e,_⟩:=W.Zh b hb x h;exact ⟨j,hj,e,e▸hx⟩
 have nos:∀ i,i<n->(i:Int)∉s->∀ x∈R i,x∉s:=λi hi h x hx hxs=>by
  rcases (fm x).mp hxs with q|q
  .exact h ((fm i).mpr (.inl (W.same ha hi q hx▸W.me i hi)))
  .exact h ((fm i).mpr (.inr (W.same hb hi q hx▸W.me i hi)))
 refine ⟨T,⟨λi hi=>?_,λi hi=>?_,λi hi x hx=>?_⟩,λx y=>⟨?_,?_⟩⟩
 .by_cases c:(i:Int)∈s
  .rw [if_pos c];exact f1
  .rw [if_neg c];exact W.r i hi
 .by_cases c:(i:Int)∈s
  .rw [if_pos c];exact c
  .rw [if_neg c];exact W.me i hi
 .by_cases c:(i:Int)∈s
  .simp only [if_pos c] at hx ⊢;obtain ⟨j,hj,e,hjs⟩:=hs x hx;exact ⟨j,hj,e,if_pos hjs⟩
  .simp only [if_neg c] at hx ⊢;obtain ⟨j,hj,e,er⟩:=W.Zh i hi x hx;exact ⟨j,hj,e,by rw [if_neg (λh=>nos i hi c x hx (e▸h))];exact er⟩
 .rintro ⟨i,hi,hm⟩
  by_cases c:(i:Int)∈s
  .simp only [if_pos c] at hm
   rcases az.mp (f2.mem_iff.mp hm) with e|hm
   .exact .inr (.inl e)
   .rcases az.mp hm with e|hm
    .exact .inr (.inr e)
    .rcases bX.mp hm with h|h
     .exact .inl ⟨a,ha,h⟩
     .exact .inl ⟨b,hb,h⟩
  .simp only [if_neg c] at hm;exact .inl ⟨i,hi,hm⟩
 .have inS:∀ {u v:Int},(u,v)∈al s->Ed n (λi=>if (i:Int)∈s then s else R i) u v:=λh=>⟨a,ha,by simp only [if_pos ((fm a).mpr (.inl (W.me a ha)))];exact h⟩
  rintro (⟨i,hi,hm⟩|e|e)
  .by_cases c:(i:Int)∈s
   .refine inS (f2.mem_iff.mpr (ag _ (ag _ ?_)))
    rcases (fm i).mp c with h|h
    .rw [← W.same ha hi h (W.me i hi)] at hm;exact c6 _ hm
    .rw [← W.same hb hi h (W.me i hi)] at hm;exact aU _ hm
   .exact ⟨i,hi,by simp only [if_neg c];exact hm⟩
  .obtain ⟨rfl,rfl⟩:=jG e;exact inS (f2.mem_iff.mpr ak)
  .obtain ⟨rfl,rfl⟩:=jG e;exact inS (f2.mem_iff.mpr (ag _ ak))
theorem conn {M:Int->Prop}:∀ {l:List Int},(∀ x y,(x,y)∈al l->(M x↔M y))->(∃ a∈l,M a)->∀ x∈l,M x
 | [],_,_,x,hx=>nomatch hx
 | [c],_,⟨a,ha,hM⟩,x,hx=>by
  rw [aK.mp hx,← aK.mp ha];exact hM
 | c::d::t,h,⟨a,ha,hM⟩,x,hx=>by
  have hcd:=h c d (by rw [NA];exact ak);have ih:=conn (l:=d::t) λx y hm=>h x y (by rw [NA];exact ag _ hm)
  have hd:M d:=by
   rcases az.mp ha with e|ha
   .exact hcd.mp (e▸hM)
   .exact ih ⟨a,ha,hM⟩ d ak
  rcases az.mp hx with e|hx
  .rw [e];exact hcd.mpr hd
  .exact ih ⟨d,ak,hd⟩ x hx
theorem few {l:List Int}(hn:l.Nodup) (h:∀ x∈l,∃ j:Nat,j<n/\x=(j:Int)):l.length<=n:=by
 have e:=FU (ds:=(fT n).map λi:Nat=>(i:Int)) (r:=l) (by
  rw [MS,List.pairwise_map]
  exact List.Pairwise.imp (λh e=>h (by lia)) (MS.mp List.nodup_range)) λx hx=>by
   obtain ⟨j,hj,e⟩:=h x hx;exact cQ.mpr ⟨j,MN.mpr hj,e.symm⟩
 have le:∀ (ds:List Int),(ds.map λd=>l.count d).sum<=ds.length:=λds=>by
  induction ds with
  | nil=>simp
  | cons d ds ih =>
   have:l.count d<=1:=List.nodup_iff_count.mp hn d;simp only [bx,Ph,bo];lia
 have:=le ((fT n).map λi:Nat=>(i:Int));rw [e] at this
 simpa using this
theorem Wd.len (W:Wd n R) {i:Nat}(hi:i<n):(R i).length+1<=2*n:=by
 obtain ⟨ds,h1,h2,h3⟩:=(W.r i hi).cnt
 have:=few h1 λx hx=>let ⟨j,hj,e,_⟩:=W.Zh i hi x ((h2 x).mp hx);⟨j,hj,e⟩
 lia
end Rm
namespace Rm
end Rm
namespace Rm
end Rm
namespace Rm
def lk (R:Nat->List Int) (a b:Nat):Nat->List Int:=λi=>if (i:Int)∈spl (R a) (R b) a b then spl (R a) (R b) a b else R i
section
variable {n:Nat}{R R':Nat->List Int}{x y z a b:Nat}
theorem Wd.sub (W:Wd n R) (W':Wd n R') (h:∀ x y,Ed n R x y->Ed n R' x y) (hx:x<n):∀ c∈R x,c∈R' x :=
 conn (M:=λc=>c∈R' x) (λu v hm =>
  have e:=h u v ⟨x,hx,hm⟩
  ⟨λhu=>(sV (Ed.at W' e hx hu)).2,λhv=>(sV (Ed.at W' (Ed.symm W' e) hx hv)).2⟩) ⟨x,W.me x hx,W'.me x hx⟩
theorem Wd.lk (W:Wd n R) (ha:a<n) (hb:b<n) (hn:(b:Int)∉R a):Wd n (lk R a b):=(W.link ha hb hn).2.1
theorem Wd.Zg (W:Wd n R) (ha:a<n) (hb:b<n) (hn:(b:Int)∉R a) (x y:Int):Ed n (Rm.lk R a b) x y↔(Ed n R x y\/(x,y)=((a:Int),(b:Int))\/(x,y)=((b:Int),(a:Int))):=(W.link ha hb hn).2.2 x y
theorem Wd.WN (W:Wd n R) (ha:a<n) (hb:b<n) (hn:(b:Int)∉R a) (h:(x:Int)∈R a\/(x:Int)∈R b):(∀ c,c∈Rm.lk R a b x↔c∈R a\/c∈R b)/\(Rm.lk R a b x).length=(R a).length+(R b).length+1:=by
 have T:=(W.link ha hb hn).1;have e:Rm.lk R a b x=spl (R a) (R b) a b:=if_pos ((T.mem x).mpr h);rw [e];exact ⟨T.mem,T.facts.2.2⟩
theorem Wd.aaY (W:Wd n R) (ha:a<n) (hb:b<n) (hn:(b:Int)∉R a) (h1:(x:Int)∉R a) (h2:(x:Int)∉R b):Rm.lk R a b x=R x :=
 if_neg λh=>((((W.link ha hb hn).1).mem x).mp h).elim h1 h2
theorem Wd.acp (W:Wd n R) (ha:a<n) (hb:b<n) (hn:(b:Int)∉R a) (hx:x<n):∀ c∈R x,c∈Rm.lk R a b x :=
 W.sub (W.lk ha hb hn) (λu v h=>(W.Zg ha hb hn u v).mpr (.inl h)) hx
end
structure Ti where
 x:Nat
 y:Nat
 qq:Nat
 wd:Bool
def Ti.key (t:Ti):Int×Int:=((t.x:Int),(t.y:Int))
def Ti.Is (t:Ti) (u v:Int):Prop:=(u,v)=((t.x:Int),(t.y:Int))\/(u,v)=((t.y:Int),(t.x:Int))
def Ti.Fi (t:Ti):Ti:={ t with wd:=true }
theorem Ti.WR {t u:Ti}(h:t.key=u.key):t.x=u.x/\t.y=u.y:=by
 obtain ⟨h1,h2⟩:=jG h;lia
structure Lv (n T:Nat) (ts:List Ti) (R:Nat->Nat->List Int):Prop where
 wd:∀ i,i<=T->Wd n (R i)
 ed:∀ i,i<=T->∀ u v:Int,Ed n (R i) u v↔∃ t∈ts,t.wd=true/\i<=t.qq/\t.Is u v
 sz:∀ i,i<=T->∀ x,x<n->((R i x).length+1)*2^i<=2*n
 lt:∀ t∈ts,t.x<t.y/\t.y<n/\t.qq<=T
 nd:(ts.map Ti.key).Nodup
def Jn (ts:List Ti) (R:Nat->Nat->List Int):Prop:=∀ t∈ts,(t.y:Int)∈R t.qq t.x
theorem PZ {ts:List Ti}(h:(ts.map Ti.key).Nodup) {t u:Ti}(ht:t∈ts) (hu:u∈ts) (e:t.key=u.key):t=u:=by
 induction ts with
 | nil=>nomatch ht
 | cons s ts ih =>
  rw [bx,eO] at h
  rcases az.mp ht with rfl|ht'<;>rcases az.mp hu with rfl|hu'
  .rfl
  .exact absurd (e▸cF hu') h.1
  .exact absurd (e▸cF ht') h.1
  .exact ih h.2 ht' hu'
def qW (ts:List Ti) (k:Int×Int) (f:Ti->Ti):List Ti:=ts.map λt=>if t.key=k then f t else t
section
variable {n T:Nat}{ts:List Ti}{R:Nat->Nat->List Int}{t:Ti}{f:Ti->Ti}
theorem JY (hf:∀ t,(f t).key=t.key) (k:Int×Int):(qW ts k f).map Ti.key=ts.map Ti.key:=by
 unfold qW;rw [dj]
 exact fY λu _=>by
  show Ti.key (if _ then _ else _)=_
  split
  .exact hf u
  .rfl
theorem FV (hnd:(ts.map Ti.key).Nodup) (ht:t∈ts) (u:Ti):u∈qW ts t.key f↔u=f t\/(u∈ts/\u.key≠t.key):=by
 unfold qW;rw [cQ]
 constructor
 .rintro ⟨v,hv,e⟩
  by_cases c:v.key=t.key
  .rw [if_pos c] at e;rw [PZ hnd hv ht c] at e;exact .inl e.symm
  .rw [if_neg c] at e;subst e;exact .inr ⟨hv,c⟩
 .rintro (e|⟨h,c⟩)
  .exact ⟨t,ht,by rw [if_pos rfl,e]⟩
  .exact ⟨u,h,if_neg c⟩
def W8 (R:Nat->Nat->List Int) (l x y:Nat):Nat->Nat->List Int:=λi=>if i<=l then lk (R i) x y else R i
variable {a b k l:Nat}
theorem Lv.adopt (L:Lv n T ts R) (ht:t∈ts) (hw:t.wd=false) (hap:∀ i,i<=t.qq->(t.y:Int)∉R i t.x) (hs:∀ i,i<=t.qq->((R i t.x).length+(R i t.y).length+2)*2^i<=2*n):Lv n T (qW ts t.key Ti.Fi) (W8 R t.qq t.x t.y):=by
 obtain ⟨h1,h2,h3⟩:=L.lt t ht
 have hxn:t.x<n:=by lia
 have mm:=FV (f:=Ti.Fi) L.nd ht;have kk:∀ u,u∈ts->u≠t->u.key≠t.key:=λu hu hne q=>hne (PZ L.nd hu ht q);have lo:∀ i,i<=t.qq->W8 R t.qq t.x t.y i=lk (R i) t.x t.y:=λi hi=>if_pos hi;have hi':∀ i,¬ i<=t.qq->W8 R t.qq t.x t.y i=R i:=λi hi=>if_neg hi;refine ⟨λi hi=>?_,λi hi u v=>?_,λi hi x hx'=>?_,λu hu=>?_,?_⟩
 .by_cases c:i<=t.qq
  .rw [lo i c];exact (L.wd i hi).lk hxn h2 (hap i c)
  .rw [hi' i c];exact L.wd i hi
 .have:(∃ s∈qW ts t.key Ti.Fi,s.wd=true/\i<=s.qq/\s.Is u v)↔(∃ s∈ts,s.wd=true/\i<=s.qq/\s.Is u v)\/(i<=t.qq/\t.Is u v):=by
   constructor
   .rintro ⟨s,s1,s2⟩
    rcases (mm s).mp s1 with rfl|⟨q1,q2⟩
    .exact .inr ⟨s2.2.1,s2.2.2⟩
    .exact .inl ⟨s,q1,s2⟩
   .rintro (⟨s,s1,s2,s3⟩|⟨q1,q2⟩)
    .exact ⟨s,(mm _).mpr (.inr ⟨s1,kk s s1 λq=>by rw [q,hw] at s2;exact absurd s2 (by decide)⟩),s2,s3⟩
    .exact ⟨t.Fi,(mm _).mpr (.inl rfl),rfl,q1,q2⟩
  rw [this,← L.ed i hi]
  by_cases c:i<=t.qq
  .rw [lo i c,(L.wd i hi).Zg hxn h2 (hap i c)];exact or_congr_right ⟨λq=>⟨c,q⟩,λq=>q.2⟩
  .rw [hi' i c];exact ⟨.inl,λq=>q.elim id λq=>absurd q.1 c⟩
 .by_cases c:i<=t.qq
  .rw [lo i c]
   by_cases d:(x:Int)∈R i t.x\/(x:Int)∈R i t.y
   .rw [((L.wd i hi).WN hxn h2 (hap i c) d).2];exact hs i c
   .rw [(L.wd i hi).aaY hxn h2 (hap i c) (λq=>d (.inl q)) (λq=>d (.inr q))];exact L.sz _ hi x hx'
  .rw [hi' i c];exact L.sz i hi x hx'
 .rcases (mm u).mp hu with rfl|⟨q,_⟩
  .exact ⟨h1,h2,h3⟩
  .exact L.lt u q
 .exact (JY (f:=Ti.Fi) (λ_=>rfl) t.key).symm▸L.nd
theorem Lv.WL (L:Lv n T ts R) (ht:t∈ts) (hap:∀ i,i<=t.qq->(t.y:Int)∉R i t.x) {i x:Nat}(hi:i<=T) (hx:x<n):∀ c∈R i x,c∈W8 R t.qq t.x t.y i x:=by
 obtain ⟨h1,h2,h3⟩:=L.lt t ht
 by_cases c:i<=t.qq
 .have e:W8 R t.qq t.x t.y i=lk (R i) t.x t.y:=if_pos c;rw [e];exact (L.wd i hi).acp (by lia) h2 (hap i c) hx
 .have e:W8 R t.qq t.x t.y i=R i:=if_neg c;rw [e];exact λ_ h=>h
theorem Lv.put (L:Lv n T ts R) {x y:Nat}(hxy:x<y) (hy:y<n) (hk:((x:Int),(y:Int))∉ts.map Ti.key):Lv n T (ts++[⟨x,y,0,false⟩]) R:=by
 refine ⟨L.wd,λi hi u v=>?_,L.sz,λu hu=>?_,?_⟩
 .rw [L.ed i hi]
  constructor
  .rintro ⟨s,s1,s2⟩;exact ⟨s,c6 _ s1,s2⟩
  .rintro ⟨s,s1,s2,s3⟩
   rcases bX.mp s1 with q|q
   .exact ⟨s,q,s2,s3⟩
   .rw [aK.mp q] at s2;exact absurd s2 bF
 .rcases bX.mp hu with q|q
  .exact L.lt u q
  .rw [aK.mp q];exact ⟨hxy,hy,dm _⟩
 .rw [bY,jd];exact ⟨L.nd,by simp,λp hp q hq e=>hk (by rw [DR,aK] at hq;have e2:p=((x:Int),(y:Int)):=e.trans hq;rw [← e2];exact hp)⟩
theorem Lv.start (n T:Nat) (hn:2^(T+1)<=n\/T=0):Lv n T [] (λ_ i=>[(i:Int)]) :=
 ⟨λi _=>Wd.start n,λi _ u v=>⟨λ⟨j,_,hm⟩=>by simp [al] at hm,λ⟨t,h,_⟩=>nomatch h⟩,λi hi x hx=>by
  show 2*2^i<=2*n
  refine Nat.mul_le_mul_left 2 ?_
  rcases hn with h|h
  .exact bU (WY (by decide) (by lia)) h
  .have:i=0:=by lia
   subst this
   simp;lia,(λt h=>nomatch h),MP⟩
variable {s o lv i:Nat}{ps:List (Int×Int)}{p:Int×Int}{ts1:List Ti}{R1:Nat->Nat->List Int}
end
end Rm
namespace Rs
open PySem
theorem RB {c:Nat}{X Y:List Nat}:∀ {a b:List Nat},c∉a->c∉b->a++c::X=b++c::Y->a=b/\X=Y
 | [],[],_,_,e=>⟨rfl,(dZ e).2⟩
 | [],d::b,_,hb,e=>absurd ak (by rw [(dZ e).1] at hb;exact hb)
 | d::a,[],ha,_,e=>absurd ak (by rw [← (dZ e).1] at ha;exact ha)
 | d::a,f::b,ha,hb,e=>by
  obtain ⟨e1,e2⟩:=dZ e;obtain ⟨e3,e4⟩:=RB (λh=>ha (ag _ h)) (λh=>hb (ag _ h)) e2;exact ⟨by rw [e1,e3],e4⟩
theorem ext {a b:aL}(h:a.cps.toList=b.cps.toList):a=b:=Str.ext' (HA.mp h)
theorem wb (s x y:aL) (r:List aL):(lS s (x::y::r)).cps.toList=x.cps.toList++(s.cps.toList++(lS s (y::r)).cps.toList):=by
 show (x++s++lS s (y::r)).cps.toList=_
 rw [O4,O4,By,By,eD]
theorem NB {c:Nat}:∀ {as bs:List aL},as≠[]->bs≠[]->(∀ a∈as,c∉a.cps.toList)->(∀ b∈bs,c∉b.cps.toList)->lS ⟨#[c]⟩ as=lS ⟨#[c]⟩ bs->as=bs
 | [],_,h,_,_,_,_=>absurd rfl h
 | _::_,[],_,h,_,_,_=>absurd rfl h
 | [a],[b],_,_,_,_,e=>by rw [show a=b from e]
 | [a],b::b2::r,_,_,ha,_,e=>by
  have e:a=lS ⟨#[c]⟩ (b::b2::r):=e;refine absurd ?_ (ha a ak);rw [e,wb]
  exact aU _ (c6 _ ak)
 | a::a2::r,[b],_,_,_,hb,e=>by
  have e:lS ⟨#[c]⟩ (a::a2::r)=b:=e;refine absurd ?_ (hb b ak);rw [← e,wb]
  exact aU _ (c6 _ ak)
 | a::a2::r,b::b2::r',_,_,ha,hb,e=>by
  have e:=congrArg (λz:aL=>z.cps.toList) e;simp only [wb] at e;obtain ⟨e1,e2⟩:=RB (c:=c) (ha a ak) (hb b ak) e;rw [ext e1,NB (as:=a2::r) (bs:=b2::r') (by simp) (by simp) (λx hx=>ha x (ag _ hx)) (λx hx=>hb x (ag _ hx)) (ext e2)]
theorem VB {c:Nat}{ws:List aL}(h0:ws≠[]) (h:∀ w∈ws,c∉w.cps.toList):Txt.split (lS ⟨#[c]⟩ ws) ⟨#[c]⟩=ws:=by
 refine NB (c:=c) (λe=>?_) h0 (StrLaws.split_free _ _) h (StrLaws.join_split _ _);have:=PyProof.Rows.split_pos (lS ⟨#[c]⟩ ws) ⟨#[c]⟩;rw [e] at this;cases this
def spl:List Nat->List (List Nat)
 | []=>[[]]
 | c::l=>if c=32 then []::spl l else (c::(spl l).headD [])::(spl l).tail
theorem BJ (l:List Nat):spl l≠[]:=by
 cases l with
 | nil=>exact λe=>nomatch e
 | cons c l=>unfold spl;split<;>exact λe=>nomatch e
theorem FW:∀ (l:List Nat),∀ w∈spl l,32∉w
 | [],w,h=>by rw [aK.mp h];exact λe=>nomatch e
 | c::l,w,h=>by
  unfold spl at h
  split at h
  .rcases az.mp h with rfl|h
   .exact λe=>nomatch e
   .exact FW l w h
  .rename_i hc
   have ih:=FW l
   cases e:spl l with
   | nil=>exact absurd e (BJ l)
   | cons a r =>
    rw [e] at h ih
    rcases az.mp h with rfl|h
    .intro hm
     rcases az.mp hm with hm|hm
     .exact hc hm.symm
     .exact ih a ak hm
    .exact ih w (ag _ h)
def vg (l:List Nat):aL:=⟨l.toArray⟩
theorem NC (l:List Nat):(vg l).cps.toList=l:=rfl
theorem ND:∀ (l:List Nat),(lS ⟨#[32]⟩ ((spl l).map vg)).cps.toList=l
 | []=>rfl
 | c::l=>by
  have ih:=ND l
  cases e:spl l with
  | nil=>exact absurd e (BJ l)
  | cons a r =>
   rw [e] at ih;unfold spl;rw [e]
   by_cases hc:c=32
   .rw [if_pos hc];rw [bx,bx,wb,← bx,ih,NC,hc]
    rfl
   .rw [if_neg hc]
    show (lS ⟨#[32]⟩ ((vg (c::a))::r.map vg)).cps.toList=c::l
    rw [bx] at ih
    cases r with
    | nil =>
     have ih:a=l:=ih
     rw [← ih];rfl
    | cons b r =>
     rw [bx,wb] at ih ⊢;rw [NC] at ih ⊢;rw [HJ,ih]
theorem BK (x:aL):Txt.split x ⟨#[32]⟩=(spl x.cps.toList).map vg:=by
 have e:x=lS ⟨#[32]⟩ ((spl x.cps.toList).map vg):=ext (ND _).symm;rw [show Txt.split x ⟨#[32]⟩=Txt.split (lS ⟨#[32]⟩ ((spl x.cps.toList).map vg)) ⟨#[32]⟩ by rw [← e]];refine VB (λz=>BJ x.cps.toList (WZ.mp z)) λw hw=>?_;obtain ⟨v,hv,rfl⟩:=cQ.mp hw;exact FW _ v hv
theorem eL {A:List Nat}(h:32∉A) (l:List Nat):spl (A++l)=(A++(spl l).headD [])::(spl l).tail:=by
 induction A with
 | nil =>
  cases e:spl l with
  | nil=>exact absurd e (BJ l)
  | cons a r=>simp [e]
 | cons c A ih =>
  have hc:c≠32:=λz=>h (by rw [z];exact ak);rw [HJ,spl,if_neg hc,ih λz=>h (ag _ z)]
  rfl
theorem fS {A:List Nat}(h:32∉A):spl A=[A]:=by
 have:=eL h [];rw [ke] at this;rw [this]
 show [A++[]]=[A]
 rw [ke]
theorem JZ (x y:aL):(x++y).cps.toList=x.cps.toList++y.cps.toList:=by rw [O4,By]
end Rs
namespace Rn
open PySem PySem.NumText
def DV (m:Nat):List Nat:=(Nat.toDigits 10 m).map Char.toNat
theorem Al (m:Nat):AllDigits (DV m):=λc hc=>by
 obtain ⟨d,hd,rfl⟩:=cQ.mp hc;have:=Nat.isDigit_of_mem_toDigits (by decide) (by decide) hd;simp [Char.isDigit] at this;exact this
theorem E1 (m:Nat):digitsVal (DV m)=m:=PySem.W.KIN.val_back m
theorem P0 (m:Nat):DV m≠[]:=λe=>by
 have:=PyProof.Rows.tDigits_len_ge 10 m;have e2:=congrArg qR e;rw [DV,ao] at e2;simp at e2
theorem Am {k m:Nat}(hk:1<=k) (h:m<10^k):(DV m).length<=k:=by
 rw [DV,ao];exact PyProof.Rows.digits10_le hk h
theorem VC (m:Nat):DV m=[48]\/(DV m).head?≠some 48:=by
 have h:=toDigits_all (DV m) (Al m);rw [E1] at h
 have hl:(DV m).length=(Nat.toDigits 10 m).length:=by rw [DV,ao]
 cases e:DV m with
 | nil=>exact .inr (by simp)
 | cons c r =>
  by_cases hc:c=48
  .subst hc
   left
   rw [e] at h hl
   have e1:(48::r:List Nat).dropWhile (· == 48)=r.dropWhile (· == 48):=by simp
   rw [e1] at h;have h2:=congrArg qR h;rw [← hl] at h2;have h3:(r.dropWhile (· == 48)).length<=r.length:=len_dropWhile _ _
   split at h2
   .simp at h2;rw [h2]
   .rename_i c r' e2
    rw [ao,← e2] at h2;simp at h2;lia
  .exact .inr (by simp [hc])
theorem Tn (m:Nat):(aa (toString (m:Int))).cps.toList=DV m:=PySem.W.KIN.signs_num m
theorem To (m:Nat) (h:0<m):(aa (toString (-(m:Int)))).cps.toList=45::DV m:=by
 obtain ⟨k,rfl⟩:∃ k,m=k+1:=⟨m-1,by lia⟩
 rw [show (-((k+1:Nat):Int))=Int.negSucc k from rfl,PyProof.Rows.signs_ofString]
 show (("-"++Nat.repr (k+1):String).toList).map Char.toNat=_
 rw [String.toList_append,bY,Nat.toList_repr]
 rfl
theorem signs (i:Int):(aa (toString i)).cps.toList=if i<0 then 45::DV i.natAbs else DV i.natAbs:=by
 by_cases h:i<0
 .rw [if_pos h]
  obtain ⟨m,rfl⟩:∃ m:Nat,i=-(m:Int):=⟨i.natAbs,by lia⟩
  rw [To m (by lia),Int.natAbs_neg,YR]
 .rw [if_neg h]
  obtain ⟨m,rfl⟩:∃ m:Nat,i=(m:Int):=⟨i.natAbs,by lia⟩
  rw [Tn,YR]
def An (w:List Nat):Bool:=decide (1<=w.length) && decide (w.length<=60) && w.all (λc=>decide (48<=c/\c<=57)) && (w == [48] || w.head? != some 48)
def wc (w:List Nat):Bool:=An w || (w.take 1 == [45] && w != [45,48] && An (w.drop 1))
def ki (w:List Nat):Int:=if w.take 1=[45] then -((digitsVal (w.drop 1):Nat):Int) else ((digitsVal w:Nat):Int)
theorem uK {w:List Nat}(h:An w=true):1<=w.length/\w.length<=60/\AllDigits w/\(w=[48]\/w.head?≠some 48):=by
 simp only [An,cq,decide_eq_true_iff,yJ,beq_iff_eq,bne_iff_ne,mh] at h;exact ⟨h.1.1.1,h.1.1.2,h.1.2,h.2⟩
theorem P1 {w:List Nat}(h1:1<=w.length) (h2:w.length<=60) (h3:AllDigits w) (h4:w=[48]\/w.head?≠some 48):An w=true:=by
 simp only [An,cq,decide_eq_true_iff,yJ,beq_iff_eq,bne_iff_ne,mh];exact ⟨⟨⟨h1,h2⟩,h3⟩,h4⟩
theorem KI {m:Nat}(h:m<10^60):An (DV m)=true:=by
 refine P1 ?_ (Am (by decide) h) (Al m) (VC m);have:=P0 m
 cases e:DV m with
 | nil=>exact absurd e this
 | cons c r=>simp
theorem Tq {w:List Nat}(h:An w=true):w.take 1≠[45]:=λe=>by
 obtain ⟨_,_,h3,_⟩:=uK h
 cases w with
 | nil=>cases e
 | cons c r =>
  have e:c=45:=by simpa using e
  have:=h3 c ak;lia
theorem Ts {i:Int}(h:i.natAbs<10^60):wc (aa (toString i)).cps.toList=true:=by
 rw [signs];unfold wc
 by_cases c:i<0
 .rw [if_pos c];have hu:=KI h
  have:(45::DV i.natAbs:List Nat)≠[45,48]:=λe=>by
   have e:=(dZ e).2;have:=E1 i.natAbs;rw [e] at this;have:digitsVal [48]=i.natAbs:=this;have:(0:Nat)=i.natAbs:=this;lia
  simp [hu,this]
 .rw [if_neg c,KI h,Sg]
theorem P2 (i:Int):ki (aa (toString i)).cps.toList=i:=by
 rw [signs];unfold ki
 by_cases c:i<0
 .rw [if_pos c,if_pos (show List.take 1 (45::DV i.natAbs)=[45] from rfl)]
  show -((digitsVal (DV i.natAbs):Nat):Int)=i
  rw [E1];lia
 .rw [if_neg c]
  have:(DV i.natAbs).take 1≠[45]:=λe=>by
   have h3:=Al i.natAbs
   cases q:DV i.natAbs with
   | nil=>exact P0 _ q
   | cons d r =>
    rw [q] at e h3
    have e:d=45:=by simpa using e
    have:=h3 d ak;lia
  rw [if_neg this,E1];lia
theorem VD {x:aL}(h:wc x.cps.toList=true):MJ x=some (ki x.cps.toList)/\x.length<=61:=by
 have hx:x.length=x.cps.toList.length:=by simp [EV]
 unfold wc at h;rw [yJ] at h
 rcases h with h|h
 .obtain ⟨h1,h2,h3,_⟩:=uK h;unfold ki;rw [if_neg (Tq h)];exact ⟨intText_digits h3 (λe=>by rw [e] at h1;cases h1) (by lia),by lia⟩
 .simp only [cq,beq_iff_eq] at h;obtain ⟨⟨e,_⟩,h⟩:=h;obtain ⟨h1,h2,h3,_⟩:=uK h;unfold ki;rw [if_pos e]
  cases q:x.cps.toList with
  | nil=>rw [q] at e;cases e
  | cons c r =>
   rw [q] at e h1 h2 h3
   have e:c=45:=by simpa using e
   subst e;have h1:1<=r.length:=h1;have h2:r.length<=60:=h2;rw [q] at hx;have hx:x.length=r.length+1:=hx;exact ⟨intText_neg q h3 (λe=>by have e:r=[]:=e;rw [e] at h1;cases h1) (by lia),by lia⟩
end Rn
namespace Rd
open PySem PySem.NumText Rs Rn
def sg (i:Int):List Nat:=(aa (toString i)).cps.toList
theorem J0 (i:Int):sg i=if i<0 then 45::DV i.natAbs else DV i.natAbs:=signs i
theorem FX {i:Int}{c:Nat}(h:c∈sg i):c=45/\i<0\/(48<=c/\c<=57):=by
 rw [J0] at h
 split at h
 .rename_i hi
  rcases az.mp h with h|h
  .exact .inl ⟨h,hi⟩
  .exact .inr (Al _ c h)
 .exact .inr (Al _ c h)
theorem iD (i:Int):32∉sg i:=λh=>by have:=FX h;lia
theorem sg58 (i:Int):58∉sg i:=λh=>by have:=FX h;lia
theorem we {i:Int}(h:i.natAbs<10^60):wc (sg i)=true:=Ts h
theorem qv (i:Int):ki (sg i)=i:=P2 i
theorem aav {i:Int}(h0:0<=i) (h:i.natAbs<10^60):An (sg i)=true:=by
 rw [J0,if_neg (by lia)];exact KI h
def nm (w:List Nat):Option Nat :=
 if w=[110,101,119] then some 1 else if w=[112,117,116] then some 2 else if w=[111,117,116] then some 2 else if w=[106,111,105,110,101,100] then some 2 else if w=[119,97,121] then some 2
 else if w=[115,105,100,101] then some 1 else if w=[116,105,101,115] then some 0 else if w=[119,101,105,103,104,116] then some 0 else if w=[97,99,99,111,117,110,116] then some 0 else none
def pl (n:Nat) (a:Int):Bool:=decide (0<=a) && decide (a<n)
def pd (n:Nat) (a b:Int):Option aL:=if (pl n a && pl n b)=true then (if a=b then some "alike" else none) else some "place"
def VE (a b:Int):Bool:=decide (min a b=0) && decide (max a b=1)
def jU (n:Nat) (wd:Bool) (w:List Nat):List Int->Option aL
 | []=>if w=[119,101,105,103,104,116]/\wd=false then some "row" else none
 | [a]=>if w=[110,101,119] then (if 1<=a/\a<=200 then none else some "count") else (if pl n a=true then none else some "place")
 | [a,b]=>if w=[112,117,116] then (if wd=true then some "fixed" else (pd n a b).or (if VE a b=true then some "tied" else none))
   else if w=[111,117,116] then (pd n a b).or (if VE a b=true then none else some "tie") else if (pl n a && pl n b)=true then none else some "place"
 | _=>none
def Fh (c:Nat) (w:List Nat):List Nat:=w.takeWhile (· != c)
def z7 (c:Nat) (w:List Nat):List Nat:=(w.dropWhile (· != c)).drop 1
def wt (w:List Nat):Option (Int×Int×Int) :=
 if (An (Fh 45 w) && An (Fh 58 (z7 45 w)) && wc (z7 58 (z7 45 w)))=true then some (ki (Fh 45 w),ki (Fh 58 (z7 45 w)),ki (z7 58 (z7 45 w))) else none
def wg (n:Nat):List (Int×Int)->List (Int×Int×Int)->Option aL
 | _,[]=>none
 | seen,t::r=>(pd n t.1 t.2.1).or (if (min t.1 t.2.1,max t.1 t.2.1)∈seen then some "tied" else wg n (seen++[(min t.1 t.2.1,max t.1 t.2.1)]) r)
def FY (w1:List Nat) (ps:List (List Nat)):Option aL :=
 if wc w1=true then (match ps.mapM wt with
  | none=>some "row"
  | some ts=>if 1<=ki w1/\ki w1<=200 then wg (ki w1).toNat [] ts else some "count") else some "row"
def dI (n:Nat) (wd:Bool):List (List Nat)->Option aL
 | []=>none
 | [w0]=>if nm w0=some 0 then jU n wd w0 [] else some "row"
 | w0::w1::r=>if w0=[119,101,105,103,104] then FY w1 r else if nm w0=some (r.length+1) then (if (w1::r).all wc=true then jU n wd w0 ((w1::r).map ki) else some "row") else some "row"
abbrev dO (n:Nat) (wd:Bool) (row:aL):Option aL:=dI n wd (spl row.cps.toList)
section
variable {n:Nat}{wd:Bool}{a b:Int}
theorem xJ {w:List Nat}(h:wc w=false) (n:Nat) (wd:Bool) (w0:List Nat) (r:List (List Nat)) (h0:w0≠[119,101,105,103,104]) (hm:w∈r):dI n wd (w0::r)=some ("row":aL):=by
 have hall:r.all wc=false:=by
  rw [YS];exact ⟨w,hm,by rw [h];decide⟩
 cases r with
 | nil=>cases hm
 | cons w1 r =>
  simp only [dI];rw [if_neg h0,hall]
  split<;>rfl
theorem VF {A:List Nat}(h:A≠[]):wc (48::A)=false:=by
 have hu:An (48::A)=false:=by
  cases e:An (48::A) with
  | false=>rfl
  | true =>
   obtain ⟨_,_,_,h4⟩:=uK e
   rcases h4 with h4|h4
   .exact absurd (dZ h4).2 h
   .exact absurd rfl h4
 unfold wc;rw [hu]
 rfl
theorem ab0 {A:List Nat}:wc (A++[120])=false:=by
 have hu:∀ B:List Nat,An (B++[120])=false:=λB=>by
  cases e:An (B++[120]) with
  | false=>rfl
  | true =>
   obtain ⟨_,_,h3,_⟩:=uK e;have:=h3 120 (aU _ ak);lia
 unfold wc;rw [hu]
 cases A with
 | nil=>rfl
 | cons c A =>
  show (false || ((c::(A++[120])).take 1 == [45] && (c::(A++[120])) != [45,48] && An (A++[120])))=false
  rw [hu,MQ,Bool.or_false]
theorem ab1 (i:Int):sg i≠[]:=by
 rw [J0]
 split
 .exact λe=>nomatch e
 .exact P0 _
end
end Rd
namespace Rd
open PySem PySem.NumText Rs Rn
section
variable {n:Nat}{wd:Bool}{a b:Int}
theorem n0:dO n wd (aa "")=some ("row":aL):=by
 unfold dO;rw [show (aa "").cps.toList=[] by decide];change dI n wd (spl ([]))=_;rw [show spl ([])=[[]] by simp [spl]]
 rfl
theorem n1:dO n wd (aa " ")=some ("row":aL):=by
 unfold dO;rw [show (aa " ").cps.toList=[32] by decide];change dI n wd (spl ([32]))=_;rw [show spl ([32])=[[],[]] by simp [spl]]
 rfl
theorem n2:dO n wd (aa "put "++(aa (toString a)++aa " "++aa (toString b))++aa " ")=some ("row":aL):=by
 unfold dO;simp only [JZ];rw [show (aa "put ").cps.toList=[112,117,116,32] by decide,show (aa " ").cps.toList=[32] by decide];change dI n wd (spl ([112,117,116,32]++(sg a++[32]++sg b)++[32]))=_;rw [show spl ([112,117,116,32]++(sg a++[32]++sg b)++[32])=[[112,117,116],sg a,sg b,[]] by simp [spl,eL (iD a),fS (iD a),eL (iD b),fS (iD b)]]
 rfl
theorem n3:dO n wd (aa " put "++(aa (toString a)++aa " "++aa (toString b)))=some ("row":aL):=by
 unfold dO;simp only [JZ];rw [show (aa " put ").cps.toList=[32,112,117,116,32] by decide,show (aa " ").cps.toList=[32] by decide];change dI n wd (spl ([32,112,117,116,32]++(sg a++[32]++sg b)))=_;rw [show spl ([32,112,117,116,32]++(sg a++[32]++sg b))=[[],[112,117,116],sg a,sg b] by simp [spl,eL (iD a),fS (iD a),eL (iD b),fS (iD b)]]
 rfl
theorem n4:dO n wd (aa "put  "++(aa (toString a)++aa " "++aa (toString b)))=some ("row":aL):=by
 unfold dO;simp only [JZ];rw [show (aa "put  ").cps.toList=[112,117,116,32,32] by decide,show (aa " ").cps.toList=[32] by decide];change dI n wd (spl ([112,117,116,32,32]++(sg a++[32]++sg b)))=_;rw [show spl ([112,117,116,32,32]++(sg a++[32]++sg b))=[[112,117,116],[],sg a,sg b] by simp [spl,eL (iD a),fS (iD a),eL (iD b),fS (iD b)]]
 rfl
theorem n5:dO n wd (aa "Put "++(aa (toString a)++aa " "++aa (toString b)))=some ("row":aL):=by
 unfold dO;simp only [JZ];rw [show (aa "Put ").cps.toList=[80,117,116,32] by decide,show (aa " ").cps.toList=[32] by decide];change dI n wd (spl ([80,117,116,32]++(sg a++[32]++sg b)))=_;rw [show spl ([80,117,116,32]++(sg a++[32]++sg b))=[[80,117,116],sg a,sg b] by simp [spl,eL (iD a),fS (iD a),eL (iD b),fS (iD b)]]
 rfl
theorem n6:dO n wd (aa "put "++aa (toString a))=some ("row":aL):=by
 unfold dO;simp only [JZ];rw [show (aa "put ").cps.toList=[112,117,116,32] by decide];change dI n wd (spl ([112,117,116,32]++sg a))=_;rw [show spl ([112,117,116,32]++sg a)=[[112,117,116],sg a] by simp [spl,eL (iD a),fS (iD a)]]
 rfl
theorem n7:dO n wd (aa "put "++(aa (toString a)++aa " "++aa (toString b))++aa " 1")=some ("row":aL):=by
 unfold dO;simp only [JZ];rw [show (aa "put ").cps.toList=[112,117,116,32] by decide,show (aa " ").cps.toList=[32] by decide,show (aa " 1").cps.toList=[32,49] by decide];change dI n wd (spl ([112,117,116,32]++(sg a++[32]++sg b)++[32,49]))=_;rw [show spl ([112,117,116,32]++(sg a++[32]++sg b)++[32,49])=[[112,117,116],sg a,sg b,[49]] by simp [spl,eL (iD a),fS (iD a),eL (iD b),fS (iD b)]]
 rfl
theorem n8:dO n wd (aa "out")=some ("row":aL):=by
 unfold dO;rw [show (aa "out").cps.toList=[111,117,116] by decide];change dI n wd (spl ([111,117,116]))=_;rw [show spl ([111,117,116])=[[111,117,116]] by simp [spl]]
 rfl
theorem n9:dO n wd (aa "out 0"++(aa (toString a)++aa " "++aa (toString b)))=some ("row":aL):=by
 unfold dO;simp only [JZ];rw [show (aa "out 0").cps.toList=[111,117,116,32,48] by decide,show (aa " ").cps.toList=[32] by decide];change dI n wd (spl ([111,117,116,32,48]++(sg a++[32]++sg b)))=_;rw [show spl ([111,117,116,32,48]++(sg a++[32]++sg b))=[[111,117,116],[48]++sg a,sg b] by simp [spl,eL (iD a),fS (iD a),eL (iD b),fS (iD b)]];exact xJ (VF (ab1 a)) n wd _ _ (by decide) ak
theorem n10:dO n wd (aa "out "++(aa (toString a)++aa " "++aa (toString b))++aa "x")=some ("row":aL):=by
 unfold dO;simp only [JZ];rw [show (aa "out ").cps.toList=[111,117,116,32] by decide,show (aa " ").cps.toList=[32] by decide,show (aa "x").cps.toList=[120] by decide];change dI n wd (spl ([111,117,116,32]++(sg a++[32]++sg b)++[120]))=_;rw [show spl ([111,117,116,32]++(sg a++[32]++sg b)++[120])=[[111,117,116],sg a,sg b++[120]] by simp [spl,eL (iD a),fS (iD a),eL (iD b),fS (iD b)]];exact xJ (ab0 (A:=sg b)) n wd _ _ (by decide) (ag _ ak)
theorem n11:dO n wd (aa "joined -0 "++aa (toString b))=some ("row":aL):=by
 unfold dO;simp only [JZ];rw [show (aa "joined -0 ").cps.toList=[106,111,105,110,101,100,32,45,48,32] by decide];change dI n wd (spl ([106,111,105,110,101,100,32,45,48,32]++sg b))=_;rw [show spl ([106,111,105,110,101,100,32,45,48,32]++sg b)=[[106,111,105,110,101,100],[45,48],sg b] by simp [spl,eL (iD b),fS (iD b)]];exact xJ (w:=[45,48]) (by decide) n wd _ _ (by decide) ak
theorem UB:dO n wd (aa "way +1 "++aa (toString b))=some ("row":aL):=by
 unfold dO;simp only [JZ];rw [show (aa "way +1 ").cps.toList=[119,97,121,32,43,49,32] by decide];change dI n wd (spl ([119,97,121,32,43,49,32]++sg b))=_;rw [show spl ([119,97,121,32,43,49,32]++sg b)=[[119,97,121],[43,49],sg b] by simp [spl,eL (iD b),fS (iD b)]];exact xJ (w:=[43,49]) (by decide) n wd _ _ (by decide) ak
theorem Xb:dO n wd (aa "side")=some ("row":aL):=by
 unfold dO;rw [show (aa "side").cps.toList=[115,105,100,101] by decide];change dI n wd (spl ([115,105,100,101]))=_;rw [show spl ([115,105,100,101])=[[115,105,100,101]] by simp [spl]]
 rfl
theorem n14:dO n wd (aa "side "++(aa (toString a)++aa " "++aa (toString b)))=some ("row":aL):=by
 unfold dO;simp only [JZ];rw [show (aa "side ").cps.toList=[115,105,100,101,32] by decide,show (aa " ").cps.toList=[32] by decide];change dI n wd (spl ([115,105,100,101,32]++(sg a++[32]++sg b)))=_;rw [show spl ([115,105,100,101,32]++(sg a++[32]++sg b))=[[115,105,100,101],sg a,sg b] by simp [spl,eL (iD a),fS (iD a),eL (iD b),fS (iD b)]]
 rfl
theorem n15:dO n wd (aa "ties 0")=some ("row":aL):=by
 unfold dO;rw [show (aa "ties 0").cps.toList=[116,105,101,115,32,48] by decide];change dI n wd (spl ([116,105,101,115,32,48]))=_;rw [show spl ([116,105,101,115,32,48])=[[116,105,101,115],[48]] by simp [spl]]
 rfl
theorem n16:dO n wd (aa "ties ")=some ("row":aL):=by
 unfold dO;rw [show (aa "ties ").cps.toList=[116,105,101,115,32] by decide];change dI n wd (spl ([116,105,101,115,32]))=_;rw [show spl ([116,105,101,115,32])=[[116,105,101,115],[]] by simp [spl]]
 rfl
theorem n17:dO n wd (aa "account 1")=some ("row":aL):=by
 unfold dO;rw [show (aa "account 1").cps.toList=[97,99,99,111,117,110,116,32,49] by decide];change dI n wd (spl ([97,99,99,111,117,110,116,32,49]))=_;rw [show spl ([97,99,99,111,117,110,116,32,49])=[[97,99,99,111,117,110,116],[49]] by simp [spl]]
 rfl
theorem n18:dO n wd (aa "weight 0")=some ("row":aL):=by
 unfold dO;rw [show (aa "weight 0").cps.toList=[119,101,105,103,104,116,32,48] by decide];change dI n wd (spl ([119,101,105,103,104,116,32,48]))=_;rw [show spl ([119,101,105,103,104,116,32,48])=[[119,101,105,103,104,116],[48]] by simp [spl]]
 rfl
theorem n19:dO n wd (aa "new")=some ("row":aL):=by
 unfold dO;rw [show (aa "new").cps.toList=[110,101,119] by decide];change dI n wd (spl ([110,101,119]))=_;rw [show spl ([110,101,119])=[[110,101,119]] by simp [spl]]
 rfl
theorem n20:dO n wd (aa "new x")=some ("row":aL):=by
 unfold dO;rw [show (aa "new x").cps.toList=[110,101,119,32,120] by decide];change dI n wd (spl ([110,101,119,32,120]))=_;rw [show spl ([110,101,119,32,120])=[[110,101,119],[120]] by simp [spl]]
 rfl
theorem n21:dO n wd (aa "new 5 6")=some ("row":aL):=by
 unfold dO;rw [show (aa "new 5 6").cps.toList=[110,101,119,32,53,32,54] by decide];change dI n wd (spl ([110,101,119,32,53,32,54]))=_;rw [show spl ([110,101,119,32,53,32,54])=[[110,101,119],[53],[54]] by simp [spl]]
 rfl
theorem n22:dO n wd (aa "weigh")=some ("row":aL):=by
 unfold dO;rw [show (aa "weigh").cps.toList=[119,101,105,103,104] by decide];change dI n wd (spl ([119,101,105,103,104]))=_;rw [show spl ([119,101,105,103,104])=[[119,101,105,103,104]] by simp [spl]]
 rfl
theorem WO:dO n wd (aa "weigh ")=some ("row":aL):=by
 unfold dO;rw [show (aa "weigh ").cps.toList=[119,101,105,103,104,32] by decide];change dI n wd (spl ([119,101,105,103,104,32]))=_;rw [show spl ([119,101,105,103,104,32])=[[119,101,105,103,104],[]] by simp [spl]]
 rfl
theorem n24:dO n wd (aa "weigh 5 0-1")=some ("row":aL):=by
 unfold dO;rw [show (aa "weigh 5 0-1").cps.toList=[119,101,105,103,104,32,53,32,48,45,49] by decide];change dI n wd (spl ([119,101,105,103,104,32,53,32,48,45,49]))=_;rw [show spl ([119,101,105,103,104,32,53,32,48,45,49])=[[119,101,105,103,104],[53],[48,45,49]] by simp [spl]]
 rfl
theorem n25:dO n wd (aa "weigh 5 0-1:2 ")=some ("row":aL):=by
 unfold dO;rw [show (aa "weigh 5 0-1:2 ").cps.toList=[119,101,105,103,104,32,53,32,48,45,49,58,50,32] by decide];change dI n wd (spl ([119,101,105,103,104,32,53,32,48,45,49,58,50,32]))=_;rw [show spl ([119,101,105,103,104,32,53,32,48,45,49,58,50,32])=[[119,101,105,103,104],[53],[48,45,49,58,50],[]] by simp [spl]]
 rfl
theorem n26:dO n wd (aa "weigh 5 -0-1:2")=some ("row":aL):=by
 unfold dO;rw [show (aa "weigh 5 -0-1:2").cps.toList=[119,101,105,103,104,32,53,32,45,48,45,49,58,50] by decide];change dI n wd (spl ([119,101,105,103,104,32,53,32,45,48,45,49,58,50]))=_;rw [show spl ([119,101,105,103,104,32,53,32,45,48,45,49,58,50])=[[119,101,105,103,104],[53],[45,48,45,49,58,50]] by simp [spl]]
 rfl
theorem n27:dO n wd (aa "weigh 5 0--1:2")=some ("row":aL):=by
 unfold dO;rw [show (aa "weigh 5 0--1:2").cps.toList=[119,101,105,103,104,32,53,32,48,45,45,49,58,50] by decide];change dI n wd (spl ([119,101,105,103,104,32,53,32,48,45,45,49,58,50]))=_;rw [show spl ([119,101,105,103,104,32,53,32,48,45,45,49,58,50])=[[119,101,105,103,104],[53],[48,45,45,49,58,50]] by simp [spl]]
 rfl
end
end Rd
namespace Rd
open PySem PySem.NumText Rs Rn
abbrev S (i:Int):aL:=aa (toString i)
section
variable {n:Nat}{wd:Bool}{a b k:Int}
theorem RC {w:List Nat}(h0:w≠[119,101,105,103,104]) (hm:nm w=some 1) (hk:k.natAbs<10^60):dI n wd [w,sg k]=jU n wd w [k]:=by
 simp only [dI];rw [if_neg h0,if_pos (show nm w=some (([]:List (List Nat)).length+1) from hm),if_pos (by simp [we hk]),bx,qv];rfl
theorem Yh {w:List Nat}(h0:w≠[119,101,105,103,104]) (hm:nm w=some 2) (ha:a.natAbs<10^60) (hb:b.natAbs<10^60):dI n wd [w,sg a,sg b]=jU n wd w [a,b]:=by
 simp only [dI];rw [if_neg h0,if_pos (show nm w=some ([sg b].length+1) from hm),if_pos (by simp [we ha,we hb]),bx,bx,qv,qv];rfl
theorem E3 {s:String}{w:List Nat}(hs:(aa s).cps.toList=w++[32]) (h:32∉w):spl (aa s++S k).cps.toList=[w,sg k]:=by
 rw [JZ,hs];change spl (w++[32]++sg k)=_;simp [spl,eL h,fS (iD k)]
theorem ab2 (hk:k.natAbs<10^60) (h:¬ (1<=k/\k<=200)):dO n wd (aa "new "++S k)=some ("count":aL):=by
 unfold dO;rw [E3 (w:=[110,101,119]) (by decide) (by decide),RC (by decide) (by decide) hk]
 show (if 1<=k/\k<=200 then none else some ("count":aL))=_
 rw [if_neg h]
theorem KJ (h:k<0\/(n:Int)<=k):pl n k=false:=by
 unfold pl;rw [Uv,decide_eq_false_iff_not,decide_eq_false_iff_not];lia
theorem pJ (h:0<=k) (h':k<n):pl n k=true:=by
 unfold pl;rw [cq,decide_eq_true_iff,decide_eq_true_iff];lia
theorem KL (h:pl n a=false):pd n a b=some ("place":aL):=by unfold pd;rw [h];rfl
theorem FZ (h:pl n b=false):pd n a b=some ("place":aL):=by unfold pd;rw [h,MQ];rfl
theorem F0 (h:pl n a=true):pd n a a=some ("alike":aL):=by unfold pd;rw [h,Pi,if_pos rfl,if_pos rfl]
theorem aaw (hk:k.natAbs<10^60) (h:k<0\/(n:Int)<=k):dO n wd (aa "side "++S k)=some ("place":aL):=by
 unfold dO;rw [E3 (w:=[115,105,100,101]) (by decide) (by decide),RC (by decide) (by decide) hk]
 show (if pl n k=true then none else some ("place":aL))=_
 rw [KJ h];rfl
theorem BL {w:List Nat}(hw:w=[111,117,116]\/w=[106,111,105,110,101,100]\/w=[119,97,121]) (h:pl n a=false\/pl n b=false):jU n wd w [a,b]=some ("place":aL):=by
 have hp:pd n a b=some ("place":aL):=h.elim KL FZ
 have hq:(pl n a && pl n b)=false:=by rcases h with h|h<;>rw [h]<;>simp
 rcases hw with rfl|rfl|rfl
 .show (pd n a b).or _=_
  rw [hp];rfl
 .show (if (pl n a && pl n b)=true then none else some ("place":aL))=_
  rw [hq];rfl
 .show (if (pl n a && pl n b)=true then none else some ("place":aL))=_
  rw [hq];rfl
theorem RD (h:pl n a=false\/pl n b=false):jU n false [112,117,116] [a,b]=some ("place":aL):=by
 show (pd n a b).or _=_
 rw [h.elim KL FZ];rfl
theorem Tt:jU n true [112,117,116] [a,b]=some ("fixed":aL):=rfl
theorem BM (h:pl n a=true) {w:List Nat}(hw:w=[111,117,116]\/(w=[112,117,116]/\wd=false)):jU n wd w [a,a]=some ("alike":aL):=by
 rcases hw with rfl|⟨rfl,rfl⟩
 .show (pd n a a).or _=_
  rw [F0 h];rfl
 .show (pd n a a).or _=_
  rw [F0 h];rfl
theorem VG (hn:2<=n):jU n false [112,117,116] [1,0]=some ("tied":aL):=by
 show (pd n 1 0).or _=_
 unfold pd;rw [pJ (by decide) (by lia),pJ (by decide) (by lia)]
 decide
theorem Yi (hn:3<=n):jU n wd [111,117,116] [(n:Int)-1,0]=some ("tie":aL):=by
 show (pd n ((n:Int)-1) 0).or (if VE ((n:Int)-1) 0=true then none else some ("tie":aL))=_
 have h1:pd n ((n:Int)-1) 0=none:=by
  unfold pd;rw [pJ (by lia) (by lia),pJ (by decide) (by lia),if_pos (by decide),if_neg (by lia)]
 have h2:VE ((n:Int)-1) 0=false:=by
  unfold VE;rw [Uv,decide_eq_false_iff_not,decide_eq_false_iff_not];lia
 rw [h1,h2];rfl
theorem RE {c:Nat}{A l:List Nat}(h:c∉A):Fh c (A++c::l)=A:=by
 unfold Fh;rw [List.takeWhile_append_of_pos λx hx=>by simp;exact λe=>h (e▸hx)];simp
theorem RF {c:Nat}{A l:List Nat}(h:c∉A):z7 c (A++c::l)=l:=by
 unfold z7;rw [List.dropWhile_append_of_pos λx hx=>by simp;exact λe=>h (e▸hx)];simp
theorem wt_n (h:(n:Int).natAbs<10^60):wt ([48,45]++sg n++[58,51])=some (0,(n:Int),3):=by
 unfold wt
 have e0:([48,45]++sg n++[58,51]:List Nat)=[48]++45::(sg n++58::[51]):=by simp
 rw [e0,RE (by decide),RF (by decide),RE (sg58 _),RF (sg58 _),aav (by lia) h,qv]
 rfl
theorem BN {r:List Nat}{ps:List (List Nat)}{s:aL}(hn:(n:Int).natAbs<10^60) (h1:1<=n) (h2:n<=200) (hs:s.cps.toList=r) (hp:spl r=ps):dO n wd (aa "weigh "++S n++aa " 0-1:-7 "++s)=(match ps.mapM wt with|none=>some "row" | some ts=>wg n [] ((0,1,-7)::ts)):=by
 unfold dO;simp only [JZ];rw [show (aa "weigh ").cps.toList=[119,101,105,103,104,32] by decide,show (aa " 0-1:-7 ").cps.toList=[32,48,45,49,58,45,55,32] by decide,hs];change dI n wd (spl ([119,101,105,103,104,32]++sg n++[32,48,45,49,58,45,55,32]++r))=_;rw [show spl ([119,101,105,103,104,32]++sg n++[32,48,45,49,58,45,55,32]++r)=[119,101,105,103,104]::sg n::[48,45,49,58,45,55]::ps by simp [spl,eL (iD n),hp]]
 show FY (sg n) ([48,45,49,58,45,55]::ps)=_
 unfold FY;rw [if_pos (we hn),qv,tS,show wt [48,45,49,58,45,55]=some (0,1,-7) by decide]
 cases ps.mapM wt with
 | none=>rfl
 | some ts =>
  show (if 1<=(n:Int)/\(n:Int)<=200 then wg (n:Int).toNat [] ((0,1,-7)::ts) else some ("count":aL))=_
  rw [if_pos (by lia),pB]
theorem qX (hn:2<=n) (ts:List (Int×Int×Int)):wg n [] ((0,1,-7)::ts)=wg n [(0,1)] ts:=by
 show (pd n 0 1).or (if ((0:Int),(1:Int))∈[] then some ("tied":aL) else wg n [(0,1)] ts)=_
 unfold pd;rw [pJ (by decide) (by lia),pJ (by decide) (by lia)]
 rfl
theorem w1 (hn:2<=n) (hn2:n<=200):dO n wd (aa "weigh "++S n++aa " 0-1:-7 "++aa "1-1:5 0-1:2")=some ("alike":aL):=by
 rw [BN (by lia) (by lia) hn2 (r:=[49,45,49,58,53,32,48,45,49,58,50]) (ps:=[[49,45,49,58,53],[48,45,49,58,50]]) (by decide) (by decide),show [[49,45,49,58,53],[48,45,49,58,50]].mapM wt=some [(1,1,5),(0,1,2)] by decide]
 show wg n [] ((0,1,-7)::[(1,1,5),(0,1,2)])=_
 rw [qX hn]
 show (pd n 1 1).or _=_
 rw [F0 (pJ (by decide) (by lia))];rfl
theorem w2 (hn:2<=n) (hn2:n<=200):dO n wd (aa "weigh "++S n++aa " 0-1:-7 "++aa "1-0:5 1-1:2")=some ("tied":aL):=by
 rw [BN (by lia) (by lia) hn2 (r:=[49,45,48,58,53,32,49,45,49,58,50]) (ps:=[[49,45,48,58,53],[49,45,49,58,50]]) (by decide) (by decide),show [[49,45,48,58,53],[49,45,49,58,50]].mapM wt=some [(1,0,5),(1,1,2)] by decide]
 show wg n [] ((0,1,-7)::[(1,0,5),(1,1,2)])=_
 rw [qX hn]
 show (pd n 1 0).or _=_
 unfold pd;rw [pJ (by decide) (by lia),pJ (by decide) (by lia)]
 rfl
theorem w3 (hn:2<=n) (hn2:n<=200):dO n wd (aa "weigh "++S n++aa " 0-1:-7 "++aa "0-1:9 0-777:2")=some ("tied":aL):=by
 rw [BN (by lia) (by lia) hn2 (r:=[48,45,49,58,57,32,48,45,55,55,55,58,50]) (ps:=[[48,45,49,58,57],[48,45,55,55,55,58,50]]) (by decide) (by decide),show [[48,45,49,58,57],[48,45,55,55,55,58,50]].mapM wt=some [(0,1,9),(0,777,2)] by decide]
 show wg n [] ((0,1,-7)::[(0,1,9),(0,777,2)])=_
 rw [qX hn]
 show (pd n 0 1).or _=_
 unfold pd;rw [pJ (by decide) (by lia),pJ (by decide) (by lia)]
 rfl
theorem w4 (hn:2<=n) (hn2:n<=200):dO n wd (aa "weigh "++S n++aa " 0-1:-7 "++aa "777-777:3 1-1:2")=some ("place":aL):=by
 rw [BN (by lia) (by lia) hn2 (r:=[55,55,55,45,55,55,55,58,51,32,49,45,49,58,50]) (ps:=[[55,55,55,45,55,55,55,58,51],[49,45,49,58,50]]) (by decide) (by decide),show [[55,55,55,45,55,55,55,58,51],[49,45,49,58,50]].mapM wt=some [(777,777,3),(1,1,2)] by decide]
 show wg n [] ((0,1,-7)::[(777,777,3),(1,1,2)])=_
 rw [qX hn]
 show (pd n 777 777).or _=_
 rw [KL (KJ (by lia))];rfl
theorem w5 (hn:2<=n) (hn2:n<=200):dO n wd (aa "weigh "++S n++aa " 0-1:-7 "++(aa "0-"++S n++aa ":3 0-1:3"))=some ("place":aL):=by
 have hb:(n:Int).natAbs<10^60:=by lia
 rw [BN hb (by lia) hn2 (r:=[48,45]++sg n++[58,51,32,48,45,49,58,51]) (ps:=[[48,45]++sg n++[58,51],[48,45,49,58,51]]) (by
   simp only [JZ]
   rw [show (aa "0-").cps.toList=[48,45] by decide,show (aa ":3 0-1:3").cps.toList=[58,51,32,48,45,49,58,51] by decide];rfl) (by simp [spl,eL (iD n)])]
 rw [tS,wt_n hb,show [[48,45,49,58,51]].mapM wt=some [(0,1,3)] by decide]
 show wg n [] ((0,1,-7)::[(0,(n:Int),3),(0,1,3)])=_
 rw [qX hn]
 show (pd n 0 n).or _=_
 rw [FZ (KJ (by lia))];rfl
theorem w6 (hn:2<=n) (hn2:n<=200):dO n wd (aa "weigh "++S n++aa " 0-1:-7 "++aa "0-0:1 1-0:3 -1-0:3")=some ("row":aL):=by
 rw [BN (by lia) (by lia) hn2 (r:=[48,45,48,58,49,32,49,45,48,58,51,32,45,49,45,48,58,51]) (ps:=[[48,45,48,58,49],[49,45,48,58,51],[45,49,45,48,58,51]]) (by decide) (by decide),show [[48,45,48,58,49],[49,45,48,58,51],[45,49,45,48,58,51]].mapM wt=none by decide]
theorem Yj (hk:k.natAbs<10^60) (h:¬ (1<=k/\k<=200)):dO n wd (aa "weigh "++S k++aa " 0-0:1 0-1:5")=some ("count":aL):=by
 unfold dO;simp only [JZ];rw [show (aa "weigh ").cps.toList=[119,101,105,103,104,32] by decide,show (aa " 0-0:1 0-1:5").cps.toList=[32,48,45,48,58,49,32,48,45,49,58,53] by decide];change dI n wd (spl ([119,101,105,103,104,32]++sg k++[32,48,45,48,58,49,32,48,45,49,58,53]))=_;rw [show spl ([119,101,105,103,104,32]++sg k++[32,48,45,48,58,49,32,48,45,49,58,53])=[[119,101,105,103,104],sg k,[48,45,48,58,49],[48,45,49,58,53]] by simp [spl,eL (iD k)]]
 show FY (sg k) [[48,45,48,58,49],[48,45,49,58,53]]=_
 unfold FY;rw [if_pos (we hk),qv,show [[48,45,48,58,49],[48,45,49,58,53]].mapM wt=some [(0,0,1),(0,1,5)] by decide]
 show (if 1<=k/\k<=200 then _ else some ("count":aL))=_
 rw [if_neg h]
end
end Rd
namespace Rd
open PySem PySem.Builtin PySem.Builtin.Str Rs
theorem wj {c:Nat}:∀ {l:List Nat},c∉l->l.takeWhile (· != c)=l
 | [],_=>rfl
 | k::r,h=>by
  have h1:k≠c:=λe=>h (e▸ak ..);rw [MT (by simp [h1]),wj λm=>h (ag _ m)]
theorem Ao {c:Nat}:∀ {l:List Nat}{i:Nat},l[i]?=some c->(∀ k,k<i->l[k]?≠some c)->l.takeWhile (· != c)=l.take i
 | [],i,h,_=>by simp at h
 | k::r,0,h,_=>by
  have e:k=c:=by simpa using h
  subst e
  rw [List.takeWhile_cons_of_neg (by simp)];rfl
 | k::r,i+1,h,hn=>by
  have h1:k≠c:=λe=>hn 0 (by lia) (by simp [e]);rw [MT (by simp [h1]),Ao (l:=r) (i:=i) (by simpa using h) λj hj=>by have:=hn (j+1) (by lia);simpa using this]
  rfl
theorem Ap (x:aL) (c:Nat):(Txt.partition x ⟨#[c]⟩).1.cps.toList=Fh c x.cps.toList/\(Txt.partition x ⟨#[c]⟩).2.2.cps.toList=z7 c x.cps.toList:=by
 unfold Txt.partition Fh z7
 rcases StrLaws.occ_head x ⟨#[c]⟩ 1 (aE 1) with ⟨h0,hn⟩|⟨i,r,h0,hi,hn⟩
 .have hf:c∉x.cps.toList:=λhm=>by
   obtain ⟨j,hj⟩:=List.getElem?_of_mem hm;exact hn j ((Dq x c j).mpr hj)
  rw [h0,wj hf,PyProof.Rows.dropWhile_none hf];exact ⟨rfl,rfl⟩
 .have hm:=(Dq x c i).mp hi;have hn':∀ k,k<i->x.cps.toList[k]?≠some c:=λk hk e=>hn k hk ((Dq x c k).mpr e);rw [h0,Ao hm hn',PyProof.Rows.dropWhile_at hm hn']
  constructor
  .show (strSub x 0 i).cps.toList=_
   rw [Pj];simp
  .show (strSub x (i+1) x.length).cps.toList=_
   rw [Pj];exact bS (by simp [EV])
theorem J1:∀ l:List Nat,(fT l.length).filterMap (l[·]?)=l
 | []=>rfl
 | a::r=>by
  rw [bo,List.range_succ_eq_map,fX,Xr]
  show a::List.filterMap (λi=>(a::r)[i+1]?) (fT r.length)=a::r
  rw [show (λi=>(a::r)[i+1]?)=(r[·]?) from funext λi=>by simp,J1 r]
theorem sr (a b:Nat):sliceRange (a:Int) (b:Int) 1=(fT (b-a)).map (· + a):=by
 unfold sliceRange
 have e:(if (1:Int)>0 then (if (a:Int)<(b:Int) then ((b:Int)-a+1-1)/1 else 0) else (if (a:Int)>(b:Int) then ((a:Int)-b-1-1)/(-1) else 0)).toNat=b-a:=by
  rw [if_pos (by decide),Int.ediv_one]
  split<;>lia
 simp only [e];refine fY λk _=>?_;lia
theorem NF (n:Nat):strSliceIndices none (some 1) 1 n=(fT (min 1 n)).map (· + 0):=by
 have h:=sr 0 (min 1 n);rw [Nat.sub_zero] at h;rw [← h];unfold strSliceIndices;simp only [show ((1:Int)>0)=True from eq_true (by decide),show ((1:Int)<0)=False from eq_false (by decide),if_true,if_false]
 congr 1
 lia
theorem NG (n:Nat):strSliceIndices (some 1) none 1 n=(fT (n-1)).map (· + 1):=by
 unfold strSliceIndices;simp only [show ((1:Int)>0)=True from eq_true (by decide),show ((1:Int)<0)=False from eq_false (by decide),if_true,if_false]
 cases n with
 | zero=>rfl
 | succ n =>
  rw [show max (0:Int) (min 1 ((n+1:Nat):Int))=((1:Nat):Int) by lia];exact sr 1 (n+1)
theorem VH {x:aL}{lo hi:Option Int}{l:List Nat}(h:(strSliceIndices lo hi 1 x.length).filterMap (x.cps[·]?)=l) (hf:l.length=x.length->l=x.cps.toList) (hl:l.length=(strSliceIndices lo hi 1 x.length).length):(Txt.slice x lo hi).cps.toList=l:=by
 unfold Txt.slice
 split
 .rename_i hc
  rw [cq] at hc;exact (hf (by rw [hl];exact eq_of_beq hc.2)).symm
 .exact h
theorem Yk (x:aL):(Txt.slice x none (some 1)).cps.toList=x.cps.toList.take 1:=by
 have hx:x.cps.toList.length=x.length:=by simp [EV]
 refine VH ?_ (λe=>bS ?_) ?_
 .rw [NF]
  cases e:x.cps.toList with
  | nil=>rw [e] at hx;rw [← hx];rfl
  | cons c r =>
   rw [e] at hx;rw [show min 1 x.length=1 by rw [← hx];simp]
   have:x.cps[0]?=some c:=by rw [← kO,e];rfl
   show [0].filterMap (x.cps[·]?)=_
   rw [fX,this];rfl
 .rw [cE] at e;lia
 .rw [NF,ao,YT,cE,hx]
theorem Yl (x:aL):(Txt.slice x (some 1) none).cps.toList=x.cps.toList.drop 1:=by
 have hx:x.cps.toList.length=x.length:=by simp [EV]
 refine VH ?_ (λe=>?_) ?_
 .rw [NG,Xr];have e:=J1 (x.cps.toList.drop 1);rw [c8,hx] at e;rw [← e]
  show List.filterMap (λi=>x.cps[i+1]?) (fT (x.length-1))=_
  congr 1
  funext i
  rw [List.getElem?_drop,← kO,Nat.add_comm]
 .rw [c8] at e;have:x.cps.toList=[]:=hZ.mp (by lia);rw [this];rfl
 .rw [NG,ao,YT,c8,hx]
end Rd
namespace L2
abbrev Ln (sp:Sp) (k:Nat):Prop:=∀ vs H Q E,sp vs H Q E->vs.length=k
abbrev Rn (sp:Sp) (rd:TS) (N:List aL):Prop:=∀ vs H Q E,sp vs H Q E->rd { nx:=λ_ H'=>Q .non H',rt:=Q } (start N vs) H
abbrev Rx (sp:Sp) (rd:XK->TS) (N:List aL):Prop:=∀ vs H Q E,sp vs H Q E->rd E { nx:=λ_ H'=>Q .non H',rt:=Q } (start N vs) H
theorem gm {α β:Type} {f:α->β}{xs:List α}{i:Nat}{v:β}(h:(xs.map f)[i]?=some v):∃ t,xs[i]?=some t/\f t=v:=jS.mp (bO▸h)
theorem sf {k:Nat}(h:Nat.ble k 100000=true:=by rfl):k<=aT:=gB (Nat.le_of_ble_eq_true h)
theorem news {H H':Hp}{q:ah}{o:HO}(e:upd H q o=H') (h:H q=none):bI H H'/\H' q=some o:=e▸⟨bI.cV h,aH⟩
theorem i7.m {j k:Nat}{A:dC}(r:i7 k A) (h:j<=k:=by decide):i7 j A:=r.mono h
end L2
local macro_rules | `(tactic| walk_at "s")=>`(tactic| exact ⟨rfl,rfl,rfl,by decide +kernel,rfl,by decide +kernel,by decide +kernel⟩)
local macro_rules | `(tactic| k_in)=>`(tactic| (lk;refine L2.gQ ?_;lk))
local macro_rules | `(tactic| k_go)=>`(tactic| (lk;refine L2.kh ?_;lk))
local macro_rules | `(tactic| walk_at "l")=>`(tactic| first|(intro vs H Q E h;cases h;subst_vars;rfl)|(intro vs H Q E h;repeat' (first|(obtain ⟨e,_⟩:=h;exact e▸rfl)|(obtain ⟨_,h⟩:=h))))
namespace K72
open PySem PySem.Spec PyProof.Rows L2
abbrev eB:List aL:=["self","a","b"]
abbrev DW:List aL:=["_law_cell","_law_n","_law_weighed"]
abbrev vH:List aL:=["self","tie","weight"]
abbrev gg:List aL:=["word"]
abbrev lG:List aL:=["self","n"]
abbrev aax:List aL:=["_law_script","_law_first","_law_n","_law_weighed","_law_desk","_law_ties","_law_account","_law_cell","_law_row","_law_due"]
abbrev oU:List aL:=["n","a","b"]
abbrev BO:List aL:=["a","b","level","in_wood"]
abbrev DX:List aL:=["n","standing","a","b"]
abbrev VI:List aL:=["self","n","weighed","weights","a","b","weight","tie"]
abbrev wk:List aL:=["self","asked","numbers"]
abbrev mE:List aL:=["n","thing"]
abbrev Dz:List aL:=["n","standing","a","b","tie"]
abbrev gL:List aL:=["self"]
abbrev VJ:List aL:=["_law_cell","_law_n","_law_weighed","_law_head","_law_bad_here","_law_way"]
abbrev VL:List aL:=["_law_cell","_law_n","_law_good","_law_some","_law_row","_law_due"]
abbrev qe:List aL:=["self","a"]
abbrev wm:List aL:=["self","words"]
abbrev VM:List aL:=["_law_cell","_law_n","_law_weighed","_law_a","_law_way"]
abbrev VN:List aL:=["_law_cell","_law_a","_law_b","_law_pair","_law_some"]
abbrev F8:List aL:=["_law_script","_law_k"]
abbrev DA:List aL:=["ties","weight_of"]
abbrev wo:List aL:=["self","tie"]
abbrev VO:List aL:=["_law_desk","_law_row","_law_words_here","_law_e"]
abbrev F9:List aL:=["_law_n","_law_cell"]
abbrev qf:List aL:=["a","b"]
abbrev yN:List aL:=["self","kept"]
abbrev VP:List aL:=["_law_cell","_law_n","_law_weighed","_law_way"]
abbrev yO:List aL:=["self","row"]
abbrev qg:List aL:=["thing"]
abbrev J2:List aL:=["word","ends","rest"]
abbrev J3:List aL:=["self","n","weighed"]
abbrev J4:List aL:=["self","row","words"]
abbrev RG:List aL:=["a","b","level","in_wood","n"]
abbrev RH:List aL:=["_law_cell","_law_a","_law_b"]
abbrev RI:List aL:=["row","other","a","b"]
abbrev VQ:List aL:=["self","a","b","tie","trail"]
abbrev RJ:List aL:=["_law_desk","_law_row"]
abbrev VR:List aL:=["row","other","a","b","k"]
abbrev RK:List aL:=["_law_cell","_law_n"]
abbrev Ga:List aL:=["n","ties"]
abbrev VS:List aL:=["_law_cell","_law_bad_here"]
abbrev VT:List aL:=["_law_e","_law_words_here"]
abbrev Gb:List aL:=["numbers"]
abbrev NH:List aL:=["_law_script"]
abbrev VU:List aL:=["n","level","needed"]
abbrev DB:List aL:=["words"]
abbrev VV:List aL:=["self","row","place"]
abbrev VW:List aL:=["self","tie","wood"]
def mF (i:Nat):dw:=PySem.Challenge.pw_tiewood_k72_rows_refused.main.body.getD i (.Pass ⟨0,0,0,0⟩)
abbrev BP:dw:=mF 12
abbrev BQ:dw:=mF 13
abbrev BR:dw:=mF 14
abbrev stop:dw:=mF 15
abbrev KM:dw:=mF 16
abbrev KN:dw:=mF 18
abbrev KO:dw:=mF 23
abbrev Gc:dw:=mF 24
abbrev kU:dw:=mF 28
abbrev jY:dw:=mF 29
abbrev lW:dw:=mF 30
abbrev BS:dw:=mF 33
abbrev Aq:dw:=mF 37
abbrev uL:dw:=mF 47
abbrev zx:dw:=mF 48
abbrev qw:dw:=mF 49
abbrev uM:dw:=mF 50
abbrev sj:dw:=mF 51
abbrev KQ:dw:=mF 52
abbrev sW:dw:=mF 53
abbrev BU:dw:=mF 55
abbrev zy:dw:=mF 56
abbrev zz:dw:=mF 57
abbrev sX:dw:=mF 64
abbrev wq:dw:=mF 65
abbrev sY:dw:=mF 66
abbrev zA:dw:=mF 67
abbrev pK:dw:=mF 68
abbrev qY:dw:=mF 69
abbrev qZ:dw:=mF 70
abbrev pL:dw:=mF 71
abbrev sZ:dw:=mF 72
abbrev BV:dw:=mF 73
abbrev aay:dw:=mF 74
abbrev q5:dw:=eJ (mF 31) 0
abbrev zB:dw:=eJ (mF 31) 1
abbrev zC:dw:=eJ (mF 31) 2
abbrev qx:dw:=eJ (mF 31) 4
abbrev nU:dw:=eJ (mF 35) 0
abbrev wu:dw:=eJ (mF 35) 1
abbrev tj:dw:=eJ (mF 35) 2
abbrev uN:dw:=eJ (mF 35) 6
abbrev kj:dw:=eJ (mF 39) 0
abbrev ou:dw:=eJ (mF 39) 1
abbrev uO:dw:=eJ (mF 39) 6
abbrev ow:dw:=eJ (mF 39) 7
abbrev sk:dw:=eJ (mF 41) 0
abbrev jB:dw:=eJ (mF 43) 0
abbrev rf:dw:=eJ (mF 62) 0
abbrev xK:dw:=eJ (mF 62) 1
abbrev oz:dw:=eJ (mF 62) 2
abbrev wx:dw:=eJ (mF 62) 3
abbrev qy:dw:=eJ (mF 62) 4
abbrev xM:dw:=eJ (mF 62) 5
abbrev BW:dw:=eJ (mF 31) 7
abbrev wy:dw:=eJ (mF 31) 5
abbrev tm:dw:=mF 38
abbrev xN:dw:=eJ (mF 39) 2
abbrev qz:dw:=eJ (mF 39) 3
abbrev xO:dw:=eJ (mF 39) 4
abbrev uP:dw:=eJ (mF 39) 5
abbrev uQ:dw:=eJ (mF 62) 6
theorem P3:bj qg qg (aO BP):=by walk_at "s"
theorem P4:bj qg qg (aO BQ):=by walk_at "s"
theorem P5:bj mE mE (aO BR):=by walk_at "s"
theorem NI:bj VU ["n"] (aO stop):=by walk_at "s"
theorem VX:bj qf qf (aO KM):=by walk_at "s"
theorem VY:bj Ga Ga (aO KN):=by walk_at "s"
theorem NJ:bj ["row","a","k"] ["row","a"] (aO KO):=by walk_at "s"
theorem J5:bj VR RI (aO Gc):=by walk_at "s"
theorem sq:bj mE mE (aO kU):=by walk_at "s"
theorem rg:bj oU oU (aO jY):=by walk_at "s"
theorem t7:bj oU oU (aO lW):=by walk_at "s"
theorem P6:bj DA DA (aO BS):=by walk_at "s"
theorem xP:bj Dz DX (aO Aq):=by walk_at "s"
theorem yP:bj ["word","figures"] gg (aO uL):=by walk_at "s"
theorem NK:bj gg gg (aO zx):=by walk_at "s"
theorem yQ:bj gg gg (aO qw):=by walk_at "s"
theorem DC:bj gg gg (aO uM):=by walk_at "s"
theorem kW:bj J2 gg (aO sj):=by walk_at "s"
theorem VZ:bj DB DB (aO KQ):=by walk_at "s"
theorem Gd:bj Gb Gb (aO sW):=by walk_at "s"
theorem P7:bj qf qf (aO BU):=by walk_at "s"
theorem NL:bj BO BO (aO zy):=by walk_at "s"
theorem NM:bj ["ties"] ["ties"] (aO zz):=by walk_at "s"
theorem Ge:bj F8 F8 (aO sX):=by walk_at "s"
theorem Ar:bj VT ["_law_e"] (aO wq):=by walk_at "s"
theorem mQ:bj VO RJ (aO sY):=by walk_at "s"
theorem ju:bj VN RH (aO zA):=by walk_at "s"
theorem BX:bj F9 F9 (aO pK):=by walk_at "s"
theorem pM:bj VS ["_law_cell"] (aO qY):=by walk_at "s"
theorem iG:bj VL RK (aO qZ):=by walk_at "s"
theorem kX:bj VJ DW (aO pL):=by walk_at "s"
theorem rh:bj VM DW (aO sZ):=by walk_at "s"
theorem Gg:bj VP DW (aO BV):=by walk_at "s"
theorem yR:bj aax NH (aO aay):=by walk_at "s"
theorem DY:bj lG lG (aO q5):=by walk_at "s"
theorem DD:bj VV yO (aO zB):=by walk_at "s"
theorem NN:bj eB eB (aO zC):=by walk_at "s"
theorem yS:bj eB eB (aO qx):=by walk_at "s"
theorem Au:bj lG lG (aO nU):=by walk_at "s"
theorem KR:bj vH vH (aO wu):=by walk_at "s"
theorem wz:bj VW wo (aO tj):=by walk_at "s"
theorem HU:bj wo wo (aO uN):=by walk_at "s"
theorem vh:bj lG lG (aO kj):=by walk_at "s"
theorem Gh:bj vH vH (aO ou):=by walk_at "s"
theorem NO:bj gL gL (aO uO):=by walk_at "s"
theorem Gi:bj gL gL (aO ow):=by walk_at "s"
theorem Av:bj eB eB (aO sk):=by walk_at "s"
theorem cb:bj VI J3 (aO jB):=by walk_at "s"
theorem DZ:bj gL gL (aO rf):=by walk_at "s"
theorem uR:bj J4 yO (aO xK):=by walk_at "s"
theorem wA:bj wm wm (aO oz):=by walk_at "s"
theorem KU:bj yN yN (aO wx):=by walk_at "s"
theorem yT:bj wk wk (aO qy):=by walk_at "s"
theorem Gj:bj eB eB (aO xM):=by walk_at "s"
theorem P8:bj eB eB (aO BW):=by walk_at "s"
theorem KW:bj qe qe (aO wy):=by walk_at "s"
theorem wB:bj Dz DX (aO tm):=by walk_at "s"
theorem Gk:bj VQ eB (aO xN):=by walk_at "s"
theorem HV:bj eB eB (aO qz):=by walk_at "s"
theorem P9:bj eB eB (aO xO):=by walk_at "s"
theorem NP:bj qe qe (aO uP):=by walk_at "s"
theorem HW:bj gL gL (aO uQ):=by walk_at "s"
structure CA where
  (ck Own Kept:ah)
structure EC where
  (Alike ur tJ j5 fE lF sL kI zW:ah)
structure XF (K:ae) (x1 x2 x3 x4 x5 x6 x7 x8 x9 D:ah) (b1 b2 b3 b4 b5 b6 b7:Bool):Prop where
 ex:Vm K D
 it:Jy K (.ref D) (.ref D)=some true
 ga:aJ K (.ref D) "__getattribute__"=some (some (.builtin "BaseException.__getattribute__"))
 gt:aJ K (.ref D) "__getattr__"=some none
 ha:aJ K (.ref D) "__class__"=some (some (.builtin "object.__class__"))
 hm:j8 K D (.type "object")=some true
 em:yL K (.ref D) (.ref x9)=some true
 k1:bp K (.ref D) (.ref x1)=some b1
 k2:bp K (.ref D) (.ref x2)=some b2
 k3:bp K (.ref D) (.ref x3)=some b3
 k4:bp K (.ref D) (.ref x4)=some false
 k5:bp K (.ref D) (.ref x5)=some b4
 k6:bp K (.ref D) (.ref x6)=some b5
 k7:bp K (.ref D) (.ref x7)=some b6
 k8:bp K (.ref D) (.ref x8)=some b7
 k9:bp K (.ref D) (.type "ValueError")=some true
structure Txt (K:ae) (mg:aL->Option aj) (C:ah) (A:CA) (X:EC):Prop where
 oN:Fg K C
 YE:mg "Wood"=some (.ref C)
 rP:dR K C "n"
 kJ:dR K C "rows"
 uu:Fg K A.ck
 Kc:mg "Levels"=some (.ref A.ck)
 fB:dR K A.ck "level_of"
 e9:dR K A.ck "weight_of"
 gT:dR K A.ck "wooden"
 iu:dR K A.ck "woods"
 i3:Fg K A.Own
 Hs:dR K A.Own "came"
 Bq:dR K A.Own "levels"
 Bp:dR K A.Own "looked"
 Ho:dR K A.Own "lost"
 R3:dR K A.Own "n"
 DN:dR K A.Own "risen"
 Hr:dR K A.Own "wood"
 RZ:mg "Kept"=some (.ref A.Kept)
 R6:mg "Alike"=some (.ref X.Alike)
 R4:mg "Fixed"=some (.ref X.ur)
 WH:mg "Joined"=some (.ref X.tJ)
 Kd:mg "NoCount"=some (.ref X.j5)
 Kb:mg "NoPlace"=some (.ref X.fE)
 Bo:mg "NoRow"=some (.ref X.lF)
 RX:mg "NoTie"=some (.ref X.sL)
 QR:mg "TieError"=some (.ref X.kI)
 WQ:mg "Tied"=some (.ref X.zW)
 pw:XF K X.j5 X.fE X.Alike X.tJ X.zW X.sL X.lF X.ur X.kI X.Alike false false true false false false false
 ph:XF K X.j5 X.fE X.Alike X.tJ X.zW X.sL X.lF X.ur X.kI X.ur false false false false false false true
 kK:XF K X.j5 X.fE X.Alike X.tJ X.zW X.sL X.lF X.ur X.kI X.j5 true false false false false false false
 kM:XF K X.j5 X.fE X.Alike X.tJ X.zW X.sL X.lF X.ur X.kI X.fE false true false false false false false
 kH:XF K X.j5 X.fE X.Alike X.tJ X.zW X.sL X.lF X.ur X.kI X.lF false false false false false true false
 pq:XF K X.j5 X.fE X.Alike X.tJ X.zW X.sL X.lF X.ur X.kI X.sL false false false false true false false
 sM:XF K X.j5 X.fE X.Alike X.tJ X.zW X.sL X.lF X.ur X.kI X.zW false false false true false false false
 xhn:i6 K (.builtin "object.__class__") "__get__"=some (some (.builtin "getset_descriptor.__get__"))
 QU:qJ K (.builtin "object.__class__")=some true
 Mv:mg "ValueError"=none
 aaM:mg "bool"=none
 OR:mg "int"=none
 en:mg "isinstance"=none
 DM:mg "len"=none
 R5:mg "range"=none
 OO:mg "sorted"=none
 lR:mg "str"=none
 acn:mg "sum"=none
 Jp:∃ t:T8,mg "MOST_PLACES"=some (.int 200 t)
 T7:∃ t:T8,mg "FIGURES"=some (.str "0123456789" t)
 Hv:∃ t:T8,mg "MOST_FIGURES"=some (.int 60 t)
def NUMD:List (aL×PyData):=[("new",.int 1),("put",.int 2),("out",.int 2),("joined",.int 2),("way",.int 2),("side",.int 1),("ties",.int 0),("weight",.int 0),("account",.int 0)]
abbrev Tu:List (PyData×PyData):=NUMD.map λp=>(PyData.str p.1,p.2)
structure zD (P:bC) (w:cW) (K:ae) (mg:aL->Option aj) (C:ah) (A B:CA) (Dk:ah) (X:EC):Prop where
 a:Txt K mg C A X
 b:Txt K mg C B X
 Dg:mg "Keeper"=some (.ref A.Own)
 pj:mg "Lightest"=some (.ref B.Own)
 YD:mg "Desk"=some (.ref Dk)
 gO:Fg K Dk
 pz:dR K Dk "kept"
 iA:bp K (.ref A.Own) (.ref B.Own)=some false
 iB:bp K (.ref B.Own) (.ref B.Own)=some true
 nums:∃ a,mg "NUMBERS"=some (.ref a)/\∀ h,K.In h->HC P w h a Tu
 Br:∃ f,mg "trail_text"=some (.ref f)/\bV K (.ref f)=true
 Hq:∃ f,mg "way_text"=some (.ref f)/\bV K (.ref f)=true
 xB:∃ f,mg "numbers_text"=some (.ref f)/\bV K (.ref f)=true
variable {P:bC}{w:cW}{K:ae}{mg:aL->Option aj}{base:dt}{f:ah}{fd:fv}{sp:Sp}{C:ah}{A B:CA}{Dk:ah}{X:EC}
def su (K:ae) (C:ah):TS :=
 cY (Aa (nO (XZ K) (ai (aq 0) (ai (tC (.ty "int")) aM))) (UJ (nO (XZ K) (ai (aq 0) (ai (tC (.ty "bool")) aM)))))
def sv (K:ae) (C:ah) (eS:Sp):TS :=
 cY (Aa (cu eS [] E0 (ai (aq 0) aM)) (Fy (yM λi j=>.bl (decide (i<=j))) (yM λi j=>.bl (decide (i<=j))) (tC (.int 1)) (aq 0) (tC (.int 200))))
def wC (K:ae) (C:ah) (eS:Sp):TS :=
 cY (Aa (cu eS [] E0 (ai (aq 1) aM)) (Fy (yM λi j=>.bl (decide (i<=j))) (yM λi j=>.bl (decide (i<j))) (tC (.int 0)) (aq 1) (aq 0)))
def NQ (K:ae) (C:ah):TS :=
 Pn (di (bT (yM λi j=>.bl (decide (i<=j))) (aq 2) (aq 0)))
 (bz (Xy 1 (tC (.int 1)) (yM λi j=>.int (i+j)))
 (Xy 2 (tC (.int 2)) (rI TZ λi j=>.int (i*j))))
def Qa (K:ae) (C:ah):TS :=
 bz (ft (tC (.int 0)) (bZ 1))
 (bz (ft (tC (.int 4)) (bZ 2))
 (bz (NQ K C)
 (cY (aq 1))))
def BY (K:ae) (C:ah):TS :=
 cY (Xu (di (bT (yM λi j=>.bl (decide (i<j))) (aq 0) (aq 1))) (kb (ai (aq 0) (ai (aq 1) aM))) (kb (ai (aq 1) (ai (aq 0) aM))))
def BZ (K:ae) (C:ah) (mq:Sp):TS :=
 cY (nO (Y8 K) (ai (oR 4 [0] (v3 K (aq 1)) (HK K 4 (lC (bZ 0) (lC (bZ 1) (lC (bZ 2) (lC (bZ 3) Kk))))) yi (bT (yM λi j=>.int (i-j)) (cu mq [] E0 (ai (aq 4) aM)) (aq 2))) aM))
def B9 (K:ae) (C:ah):TS :=
 bz (ft (HD K "list" (EY K) (aq 0) (ai (aq 1) aM)) (bZ 2))
 (cY (bT lD (Q8 (zq K) (aq 0) (qc (aq 2)) lT) (Q8 (zq K) (aq 0) (qc (tC (.int 1))) (qc (bT lD (aq 2) (tC (.int 1)))))))
def zE (K:ae) (C:ah) (mG:Sp):TS :=
 bz (ft (HD K "list" (EY K) (aq 0) (ai (aq 2) aM)) (bZ 4))
 (cY (bT lD (bT lD (Q8 (zq K) (aq 0) lT (qc (bT lD (aq 4) (tC (.int 1))))) (cu mG [] E0 (ai (aq 1) (ai (aq 3) aM)))) (Q8 (zq K) (aq 0) (qc (aq 4)) lT)))
def mr (K:ae) (C:ah) (eE:Sp):TS :=
 dQ (zg (jT K (cu eE [] E0 (ai (aq 0) (ai (aq 1) aM)))))
 gP
 cH
def lH (K:ae) (C:ah) (dJ:Sp):TS :=
 bz (gX (cu dJ [] E0 (ai (aq 0) (ai (aq 1) aM))))
 (gX (cu dJ [] E0 (ai (aq 0) (ai (aq 2) aM))))
def mR (K:ae) (C:ah) (cc:Sp):TS :=
 bz (gX (cu cc [] E0 (ai (aq 0) (ai (aq 1) (ai (aq 2) aM)))))
 (dQ (di (bT (iz K) (aq 1) (aq 2)))
 gP
 cH)
def sx (K:ae) (C:ah) (Pt:ah):TS :=
 cY (PQ Pt ⟨129,28,129,61⟩ ((("in_order":aL)++".<locals>.")++"<lambda>") 1 (ai (aq 0) aM))
def zF (K:ae) (C:ah) (cJ dH:Sp):TS :=
 bz (gX (cu cJ [] E0 (ai (aq 0) (ai (aq 2) (ai (aq 3) aM)))))
 (bz (ft (cu dH [] E0 (ai (aq 2) (ai (aq 3) aM))) (bZ 4))
 (bz (dQ (di (bT (U0 K false) (aq 4) (aq 1)))
 gP
 cH)
 (cY (aq 4))))
def rj (K:ae) (C:ah):TS :=
 bz (ft (oR 1 [] (Vu (aq 0)) (bZ 0) (di (bT rInS (aq 0) (tC (.str "0123456789")))) (aq 0)) (bZ 1))
 (cY (Aa (Fy (yM λi j=>.bl (decide (i<=j))) (yM λi j=>.bl (decide (i<=j))) (tC (.int 1)) (nO Vw (ai (aq 0) aM)) (tC (.int 60))) (Aa (bT (iz K) (nO (FL K) (ai (aq 1) aM)) (nO Vw (ai (aq 0) aM))) (Xt (bT (iz K) (aq 0) (tC (.str "0"))) (bT (yj K) (bT Zc (aq 0) (tC (.int 0))) (tC (.str "0")))))))
def uS (K:ae) (C:ah) (bQ:Sp):TS :=
 cY (Xt (cu bQ [] E0 (ai (aq 0) aM)) (Aa (bT (iz K) (Q8 aas (aq 0) lT (qc (tC (.int 1)))) (tC (.str "-"))) (Aa (bT (yj K) (aq 0) (tC (.str "-0"))) (cu bQ [] E0 (ai (Q8 aas (aq 0) (qc (tC (.int 1))) lT) aM)))))
def rk (K:ae) (C:ah) (bQ:Sp):TS :=
 bz (dQ (zg (jT K (cu bQ [] E0 (ai (aq 0) aM))))
 gP
 cH)
 (cY (nO Nx (ai (aq 0) aM)))
def uT (K:ae) (C:ah) (dM:Sp):TS :=
 bz (dQ (zg (jT K (cu dM [] E0 (ai (aq 0) aM))))
 gP
 cH)
 (cY (nO Nx (ai (aq 0) aM)))
def yU (K:ae) (C:ah) (eX cj:Sp):TS :=
 bz (ft (HD K "str" qV (aq 0) (ai (tC (.str "-")) aM)) (bZ 1))
 (bz (ft (HD K "str" qV (bT (d9 K) (aq 1) (tC (.int 2))) (ai (tC (.str ":")) aM)) (bZ 2))
 (cY (kb (ai (cu eX [] E0 (ai (bT (d9 K) (aq 1) (tC (.int 0))) aM)) (ai (cu eX [] E0 (ai (bT (d9 K) (aq 2) (tC (.int 0))) aM)) (ai (cu cj [] E0 (ai (bT (d9 K) (aq 2) (tC (.int 2))) aM)) aM))))))
def Ca (K:ae) (C:ah):TS :=
 cY (Xu (jT K (aq 0)) (HD K "str" (Za K) (tC (.str " ")) (ai (aq 0) aM)) (tC (.str "none")))
def pN (K:ae) (C:ah) (gM:Sp):TS :=
 cY (cu gM [] E0 (ai (oR 1 [] (v3 K (aq 0)) (bZ 0) yi (nO rR (ai (aq 0) aM))) aM))
def wD (K:ae) (C:ah):TS :=
 cY (tF3 "-" (aq 0) (aq 1))
def uU (K:ae) (C:ah) (jv:Sp):TS :=
 cY (bT df (bT df (bT df (cu jv [] E0 (ai (aq 0) (ai (aq 1) aM))) (tC (.str ":"))) (nO rR (ai (aq 2) aM))) (Xu (jT K (aq 3)) (tC (.str "*")) (tC (.str ""))))
def uV (K:ae) (C:ah) (gM iN:Sp):TS :=
 cY (cu gM [] E0 (ai (oR 4 [] (v3 K (aq 0)) (HK K 4 (lC (bZ 0) (lC (bZ 1) (lC (bZ 2) (lC (bZ 3) Kk))))) yi (cu iN [] E0 (ai (aq 0) (ai (aq 1) (ai (aq 2) (ai (aq 3) aM)))))) aM))
def pO (K:ae) (C:ah):TS :=
 bz (dQ (di (bT (yM λi j=>.bl (decide (i<j))) (aq 1) (nO (FL K) (ai (aq 0) aM))))
 (cY (bT (d9 K) (aq 0) (aq 1)))
 cH)
 (cY (tC (.int 9)))
def oA (K:ae) (C:ah) (X:EC):TS :=
 bz (ft (vV aM) (bZ 1))
 (bz (dQ (jT K (nO (v7 K) (ai (aq 0) (ai (tC (.ref X.j5)) aM))))
 (gX (HD K "list" lU (aq 1) (ai (tC (.str "count")) aM)))
 cH)
 (bz (dQ (jT K (nO (v7 K) (ai (aq 0) (ai (tC (.ref X.fE)) aM))))
 (gX (HD K "list" lU (aq 1) (ai (tC (.str "place")) aM)))
 cH)
 (bz (dQ (jT K (nO (v7 K) (ai (aq 0) (ai (tC (.ref X.Alike)) aM))))
 (gX (HD K "list" lU (aq 1) (ai (tC (.str "alike")) aM)))
 cH)
 (bz (dQ (jT K (nO (v7 K) (ai (aq 0) (ai (tC (.ref X.tJ)) aM))))
 (gX (HD K "list" lU (aq 1) (ai (tC (.str "joined")) aM)))
 cH)
 (bz (dQ (jT K (nO (v7 K) (ai (aq 0) (ai (tC (.ref X.zW)) aM))))
 (gX (HD K "list" lU (aq 1) (ai (tC (.str "tied")) aM)))
 cH)
 (bz (dQ (jT K (nO (v7 K) (ai (aq 0) (ai (tC (.ref X.sL)) aM))))
 (gX (HD K "list" lU (aq 1) (ai (tC (.str "tie")) aM)))
 cH)
 (bz (dQ (jT K (nO (v7 K) (ai (aq 0) (ai (tC (.ref X.lF)) aM))))
 (gX (HD K "list" lU (aq 1) (ai (tC (.str "row")) aM)))
 cH)
 (bz (dQ (jT K (nO (v7 K) (ai (aq 0) (ai (tC (.ref X.ur)) aM))))
 (gX (HD K "list" lU (aq 1) (ai (tC (.str "fixed")) aM)))
 cH)
 (bz (dQ (zg (jT K (nO (Y9 K) (ai (aq 0) (ai (tC (.ty "ValueError")) aM)))))
 (gX (HD K "list" lU (aq 1) (ai (tC (.str "other")) aM)))
 cH)
 (cY (aq 1)))))))))))
def pQ (K:ae) (C:ah) (A B:CA) (Dk:ah) (X:EC) (iY ib:Sp):TS :=
 bz (ft (vV aM) (bZ 2))
 (bz (Vs K (.ref X.kI) 3 4 (λE =>
 gX (dv Dk "say" iY [] E (aq 0) (ai (aq 1) aM)))
 (ft (cu ib [] E0 (ai (aq 3) aM)) (bZ 2)))
 (cY (aq 2)))
def uW (K:ae) (C:ah):TS :=
 bz (ft (bT df (bT df (nO rR (ai (aq 1) aM)) (tC (.str " "))) (nO rR (ai (aq 2) aM))) (bZ 3))
 (bz (ft (vV (ai (tC (.str "")) (ai (tC (.str " ")) (ai (bT df (bT df (tC (.str "put ")) (aq 3)) (tC (.str " "))) (ai (bT df (tC (.str " put ")) (aq 3)) (ai (bT df (tC (.str "put  ")) (aq 3)) (ai (bT df (tC (.str "Put ")) (aq 3)) (ai (bT df (tC (.str "put ")) (nO rR (ai (aq 1) aM))) aM)))))))) (bZ 4))
 (bz (ft (bT lD (aq 4) (vV (ai (bT df (bT df (tC (.str "put ")) (aq 3)) (tC (.str " 1"))) (ai (tC (.str "out")) (ai (bT df (tC (.str "out 0")) (aq 3)) (ai (bT df (bT df (tC (.str "out ")) (aq 3)) (tC (.str "x"))) (ai (bT df (tC (.str "joined -0 ")) (nO rR (ai (aq 2) aM))) aM))))))) (bZ 4))
 (bz (ft (bT lD (aq 4) (vV (ai (bT df (tC (.str "way +1 ")) (nO rR (ai (aq 2) aM))) (ai (tC (.str "side")) (ai (bT df (tC (.str "side ")) (aq 3)) aM))))) (bZ 4))
 (bz (ft (bT lD (aq 4) (vV (ai (tC (.str "ties 0")) (ai (tC (.str "ties ")) (ai (tC (.str "account 1")) (ai (tC (.str "weight 0")) (ai (tC (.str "new")) (ai (tC (.str "new x")) (ai (tC (.str "new 5 6")) (ai (tC (.str "weigh")) (ai (tC (.str "weigh ")) aM))))))))))) (bZ 4))
 (bz (ft (bT lD (aq 4) (vV (ai (tC (.str "weigh 5 0-1")) (ai (tC (.str "weigh 5 0-1:2 ")) (ai (tC (.str "weigh 5 -0-1:2")) (ai (tC (.str "weigh 5 0--1:2")) aM)))))) (bZ 4))
 (bz (ft (bT lD (aq 4) (vV (ai (bT df (tC (.str "put 0 ")) (bT Vv (tC (.str "7")) (tC (.int 61)))) (ai (bT df (tC (.str "weigh 5 0-1:-")) (bT Vv (tC (.str "8")) (tC (.int 61)))) aM)))) (bZ 4))
 (cY (bT (d9 K) (aq 4) (bT (rI (λ_ j=>0<j) λi j=>.int (i%j)) (aq 0) (tC (.int 30)))))))))))
def mS (K:ae) (C:ah):TS :=
 bz (dQ (di (bT (iz K) (bT (rI (λ_ j=>0<j) λi j=>.int (i%j)) (aq 1) (tC (.int 2))) (tC (.int 0))))
 (cY (nO rR (ai (bT (yM λi j=>.int (i-j)) (tUn (rU λi=>.int (-i)) (tC (.int 1))) (bT (rI (λ_ j=>0<j) λi j=>.int (i%j)) (bT (rI vG λi j=>.int (i/j)) (aq 1) (tC (.int 2))) (bT (rI Su λi j=>.int (i^j.toNat)) (tC (.int 10)) (tC (.int 30))))) aM)))
 cH)
 (cY (nO rR (ai (bT lD (aq 0) (bT (rI (λ_ j=>0<j) λi j=>.int (i%j)) (bT (rI vG λi j=>.int (i/j)) (aq 1) (tC (.int 2))) (bT (rI Su λi j=>.int (i^j.toNat)) (tC (.int 10)) (tC (.int 30))))) aM)))
def nV (K:ae) (C:ah):TS :=
 bz (ft (nO rR (ai (tUn (rU λi=>.int (-i)) (bT (rI (λ_ j=>0<j) λi j=>.int (i%j)) (bT (rI vG λi j=>.int (i/j)) (aq 0) (tC (.int 4))) (bT (rI Su λi j=>.int (i^j.toNat)) (tC (.int 10)) (tC (.int 30))))) aM)) (bZ 1))
 (bz (dQ (di (bT (iz K) (bT (rI (λ_ j=>0<j) λi j=>.int (i%j)) (aq 0) (tC (.int 2))) (tC (.int 1))))
 (ft (nO rR (ai (bT lD (tC (.int 201)) (bT (rI (λ_ j=>0<j) λi j=>.int (i%j)) (bT (rI vG λi j=>.int (i/j)) (aq 0) (tC (.int 4))) (bT (rI Su λi j=>.int (i^j.toNat)) (tC (.int 10)) (tC (.int 30))))) aM)) (bZ 1))
 cH)
 (bz (dQ (di (bT (iz K) (bT (rI (λ_ j=>0<j) λi j=>.int (i%j)) (bT (rI vG λi j=>.int (i/j)) (aq 0) (tC (.int 2))) (tC (.int 2))) (tC (.int 0))))
 (cY (kb (ai (bT df (tC (.str "new ")) (aq 1)) (ai (tC (.str "count")) aM))))
 cH)
 (cY (kb (ai (bT df (bT df (tC (.str "weigh ")) (aq 1)) (tC (.str " 0-0:1 0-1:5"))) (ai (tC (.str "count")) aM))))))
def nW (K:ae) (C:ah):TS :=
 bz (ft (bT df (bT df (tC (.str "weigh ")) (nO rR (ai (aq 1) aM))) (tC (.str " 0-1:-7 "))) (bZ 2))
 (bz (ft (vV (ai (kb (ai (tC (.str "1-1:5 0-1:2")) (ai (tC (.str "alike")) aM))) (ai (kb (ai (tC (.str "1-0:5 1-1:2")) (ai (tC (.str "tied")) aM))) (ai (kb (ai (tC (.str "0-1:9 0-777:2")) (ai (tC (.str "tied")) aM))) (ai (kb (ai (tC (.str "777-777:3 1-1:2")) (ai (tC (.str "place")) aM))) aM))))) (bZ 3))
 (bz (ft (bT lD (aq 3) (vV (ai (kb (ai (bT df (bT df (tC (.str "0-")) (nO rR (ai (aq 1) aM))) (tC (.str ":3 0-1:3"))) (ai (tC (.str "place")) aM))) (ai (kb (ai (tC (.str "0-0:1 1-0:3 -1-0:3")) (ai (tC (.str "row")) aM))) aM)))) (bZ 3))
 (bz (ft (bT (d9 K) (aq 3) (bT (rI (λ_ j=>0<j) λi j=>.int (i%j)) (aq 0) (tC (.int 6)))) (HK K 2 (lC (bZ 4) (lC (bZ 5) Kk))))
 (cY (kb (ai (bT df (aq 2) (aq 4)) (ai (aq 5) aM)))))))
def mT (K:ae) (C:ah) (eT:Sp):TS :=
 bz (ft (bT (d9 K) (vV (ai (tC (.str "out")) (ai (tC (.str "joined")) (ai (tC (.str "way")) aM)))) (bT (rI (λ_ j=>0<j) λi j=>.int (i%j)) (aq 0) (tC (.int 3)))) (bZ 3))
 (bz (ft (cu eT [] E0 (ai (aq 1) (ai (bT (rI vG λi j=>.int (i/j)) (aq 0) (tC (.int 18))) aM))) (bZ 4))
 (bz (ft (bT (rI (λ_ j=>0<j) λi j=>.int (i%j)) (bT (rI vG λi j=>.int (i/j)) (aq 0) (tC (.int 3))) (tC (.int 6))) (bZ 5))
 (bz (dQ (di (bT (iz K) (aq 5) (tC (.int 0))))
 (cY (kb (ai (bT df (tC (.str "side ")) (aq 4)) (ai (tC (.str "place")) aM))))
 cH)
 (bz (dQ (di (bT (iz K) (aq 5) (tC (.int 1))))
 (cY (kb (ai (bT df (bT df (bT df (aq 3) (tC (.str " "))) (aq 4)) (tC (.str " 0"))) (ai (tC (.str "place")) aM))))
 cH)
 (bz (dQ (di (bT (iz K) (aq 5) (tC (.int 2))))
 (cY (kb (ai (bT df (bT df (aq 3) (tC (.str " 0 "))) (aq 4)) (ai (tC (.str "place")) aM))))
 cH)
 (bz (dQ (di (bT (iz K) (aq 5) (tC (.int 3))))
 (cY (kb (ai (bT df (bT df (bT df (tC (.str "out ")) (aq 4)) (tC (.str " "))) (aq 4)) (ai (tC (.str "place")) aM))))
 cH)
 (bz (dQ (jT K (aq 2))
 (cY (kb (ai (bT df (tC (.str "put ")) (bT (d9 K) (vV (ai (tC (.str "0 1")) (ai (bT df (aq 4) (tC (.str " 0"))) (ai (tC (.str "1 1")) aM)))) (bT (rI (λ_ j=>0<j) λi j=>.int (i%j)) (aq 0) (tC (.int 3))))) (ai (tC (.str "fixed")) aM))))
 cH)
 (bz (dQ (di (bT (iz K) (aq 5) (tC (.int 4))))
 (cY (kb (ai (bT df (bT df (bT df (tC (.str "put ")) (aq 4)) (tC (.str " "))) (aq 4)) (ai (tC (.str "place")) aM))))
 cH)
 (cY (kb (ai (bT df (tC (.str "put 0 ")) (aq 4)) (ai (tC (.str "place")) aM))))))))))))
def pR (K:ae) (C:ah):TS :=
 bz (ft (bT (rI (λ_ j=>0<j) λi j=>.int (i%j)) (bT (rI vG λi j=>.int (i/j)) (aq 0) (tC (.int 4))) (aq 1)) (bZ 3))
 (bz (ft (bT (rI (λ_ j=>0<j) λi j=>.int (i%j)) (aq 0) (tC (.int 4))) (bZ 4))
 (bz (dQ (di (bT (iz K) (aq 4) (tC (.int 0))))
 (cY (kb (ai (bT df (bT df (bT df (tC (.str "out ")) (nO rR (ai (aq 3) aM))) (tC (.str " "))) (nO rR (ai (aq 3) aM))) (ai (tC (.str "alike")) aM))))
 cH)
 (bz (dQ (Pl (di (bT (iz K) (aq 4) (tC (.int 1)))) (zg (jT K (aq 2))))
 (cY (kb (ai (bT df (bT df (bT df (tC (.str "put ")) (nO rR (ai (aq 3) aM))) (tC (.str " "))) (nO rR (ai (aq 3) aM))) (ai (tC (.str "alike")) aM))))
 cH)
 (bz (dQ (Pl (di (bT (iz K) (aq 4) (tC (.int 2)))) (zg (jT K (aq 2))))
 (cY (kb (ai (tC (.str "put 1 0")) (ai (tC (.str "tied")) aM))))
 cH)
 (bz (dQ (di (bT (iz K) (aq 1) (tC (.int 2))))
 (cY (kb (ai (tC (.str "out 1 1")) (ai (tC (.str "alike")) aM))))
 cH)
 (cY (kb (ai (bT df (bT df (tC (.str "out ")) (nO rR (ai (bT (yM λi j=>.int (i-j)) (aq 1) (tC (.int 1))) aM))) (tC (.str " 0"))) (ai (tC (.str "tie")) aM)))))))))
def wF (K:ae) (C:ah) (fZ fc eU fM iO:Sp):TS :=
 bz (ft (bT (rI (λ_ j=>0<j) λi j=>.int (i%j)) (bT (rI (λ_ j=>0<j) λi j=>.int (i%j)) (bT lD (bT (rI TZ λi j=>.int (i*j)) (aq 0) (tC (.int 16807))) (tC (.int 3))) (tC (.int 2147483647))) (tC (.int 11))) (bZ 3))
 (bz (dQ (di (bT (yM λi j=>.bl (decide (i<j))) (aq 3) (tC (.int 3))))
 (cY (kb (ai (cu iO [] E0 (ai (bT (rI vG λi j=>.int (i/j)) (aq 0) (tC (.int 2))) (ai (bT (rI (λ_ j=>0<j) λi j=>.int (i%j)) (bT (rI vG λi j=>.int (i/j)) (aq 0) (tC (.int 60))) (aq 1)) (ai (bT (rI (λ_ j=>0<j) λi j=>.int (i%j)) (bT (rI vG λi j=>.int (i/j)) (aq 0) (tC (.int 70))) (aq 1)) aM)))) (ai (tC (.str "row")) aM))))
 cH)
 (bz (dQ (di (bT (iz K) (aq 3) (tC (.int 3))))
 (cY (cu fZ [] E0 (ai (bT (rI vG λi j=>.int (i/j)) (aq 0) (tC (.int 2))) aM)))
 cH)
 (bz (dQ (di (bT (iz K) (aq 3) (tC (.int 4))))
 (cY (cu fc [] E0 (ai (bT (rI vG λi j=>.int (i/j)) (aq 0) (tC (.int 2))) (ai (aq 1) aM))))
 cH)
 (bz (dQ (di (bT (yM λi j=>.bl (decide (i<j))) (aq 3) (tC (.int 8))))
 (cY (cu eU [] E0 (ai (bT (rI vG λi j=>.int (i/j)) (aq 0) (tC (.int 2))) (ai (aq 1) (ai (aq 2) aM)))))
 cH)
 (bz (dQ (di (bT (yM λi j=>.bl (decide (i<j))) (aq 3) (tC (.int 10))))
 (cY (cu fM [] E0 (ai (bT (rI vG λi j=>.int (i/j)) (aq 0) (tC (.int 2))) (ai (aq 1) (ai (aq 2) aM)))))
 cH)
 (bz (dQ (jT K (aq 2))
 (cY (kb (ai (tC (.str "put 0 x")) (ai (tC (.str "row")) aM))))
 cH)
 (cY (kb (ai (tC (.str "weight")) (ai (tC (.str "row")) aM))))))))))
def NR (K:ae) (C:ah) (A B:CA) (Dk:ah) (cC cz cO d0 cK:Sp):TS :=
 Km (v3 K (bT lD (Q8 (zq K) (aq 0) (qc (tC (.int 2))) (qc (tC (.int 32)))) (vV (ai (aq 1) aM)))) (bZ 7)
 (bz (ft (cu d0 [] E0 (ai (aq 7) (ai (aq 2) (ai (aq 3) aM)))) (HK K 2 (lC (bZ 8) (lC (bZ 9) Kk))))
 (bz (dQ (di (bT (yj K) (cu cK [] E0 (ai (aq 4) (ai (aq 8) aM))) (vV (ai (aq 9) aM))))
 (cY (tC (.bl false)))
 cH)
 (dQ (tOr (di (bT (yj K) (dv Dk "say" cO [] E0 (aq 4) (ai (tC (.str "ties")) aM)) (aq 5))) (di (bT (yj K) (dv Dk "say" cO [] E0 (aq 4) (ai (tC (.str "account")) aM)) (aq 6))))
 (cY (tC (.bl false)))
 cH)))
abbrev V0 (K:ae) (C:ah) (A B:CA) (Dk:ah) (cC cz cO d0 cK:Sp):TS :=
 bz (ft (dv Dk "say" cO [] E0 (aq 4) (ai (tC (.str "account")) aM)) (bZ 6))
 (bz (NR K C A B Dk cC cz cO d0 cK)
 (cY (bT (iz K) (aq 5) (tC (.str "0-1:0*")))))
abbrev V5 (K:ae) (C:ah) (A B:CA) (Dk:ah) (cC cz cO d0 cK:Sp):TS :=
  bz (dQ (jT K (aq 3))
   (dQ (di (bT (yj K) (dv Dk "say" cO [] E0 (aq 4) (ai (bT df (bT df (bT df (tC (.str "weigh ")) (nO rR (ai (aq 2) aM))) (tC (.str " 1-0:"))) (nO rR (ai (bT (rI (λ_ j=>0<j) λi j=>.int (i%j)) (cu cC [] E0 (ai (aq 0) (ai (tC (.int 1)) aM))) (bT (rI Su λi j=>.int (i^j.toNat)) (tC (.int 10)) (tC (.int 30)))) aM))) aM)) (tC (.str "ok"))))
   (cY (tC (.bl false)))
   cH)
   (dQ (tOr (di (bT (yj K) (dv Dk "say" cO [] E0 (aq 4) (ai (bT df (tC (.str "new ")) (nO rR (ai (aq 2) aM))) aM)) (tC (.str "ok")))) (di (bT (yj K) (dv Dk "say" cO [] E0 (aq 4) (ai (tC (.str "put 0 1")) aM)) (tC (.str "wood")))))
   (cY (tC (.bl false)))
   cH))
  (bz (ft (dv Dk "say" cO [] E0 (aq 4) (ai (tC (.str "ties")) aM)) (bZ 5))
  (V0 K C A B Dk cC cz cO d0 cK))
abbrev V6 (K:ae) (C:ah) (A B:CA) (Dk:ah) (cC cz cO d0 cK:Sp):TS :=
 bz (ft (bT (iz K) (bT (rI (λ_ j=>0<j) λi j=>.int (i%j)) (aq 1) (tC (.int 3))) (tC (.int 1))) (bZ 3))
 (bz (ft (vf Dk cz [] E0 aM) (bZ 4))
 (V5 K C A B Dk cC cz cO d0 cK))
def Qb (K:ae) (C:ah) (A B:CA) (Dk:ah) (cC cz cO d0 cK:Sp):TS :=
 bz (ft (cu cC [] E0 (ai (aq 0) (ai (tC (.int 0)) aM))) (bZ 1))
 (bz (ft (bT lD (tC (.int 2)) (bT (rI (λ_ j=>0<j) λi j=>.int (i%j)) (bT (rI vG λi j=>.int (i/j)) (aq 1) (tC (.int 3))) (tC (.int 20)))) (bZ 2))
 (V6 K C A B Dk cC cz cO d0 cK))
def nX (K:ae) (C:ah):TS :=
 bz (pG K (aq 0) (aq 1) "n")
 (pG K (aq 0) (oR 1 [] (Q4 (ai (aq 1) aM)) (bZ 0) yi (vV (ai (aq 0) aM))) "rows")
def wG (K:ae) (C:ah):TS :=
 Km (v3 K (aq 1)) (bZ 2)
 (ft (aq 1) (Kl (eQ K (aq 0) "rows") (aq 2) Ad))
def uX (K:ae) (C:ah):TS :=
 wG K C
def uY (K:ae) (C:ah) (cJ cU iP km:Sp):TS :=
 bz (gX (cu cJ [] E0 (ai (eQ K (aq 0) "n") (ai (aq 1) (ai (aq 2) aM)))))
 (bz (dQ (jT K (dv C "joined" cU [] E0 (aq 0) (ai (aq 1) (ai (aq 2) aM))))
 gP
 cH)
 (gX (dv C "keep" iP [] E0 (aq 0) (ai (cu km [] E0 (ai (bT (d9 K) (eQ K (aq 0) "rows") (aq 1)) (ai (bT (d9 K) (eQ K (aq 0) "rows") (aq 2)) (ai (aq 1) (ai (aq 2) aM))))) aM))))
def rm (K:ae) (C:ah) (cc:Sp):TS :=
 bz (gX (cu cc [] E0 (ai (eQ K (aq 0) "n") (ai (aq 1) (ai (aq 2) aM)))))
 (cY (bT (iz K) (bT (d9 K) (bT (d9 K) (eQ K (aq 0) "rows") (aq 1)) (tC (.int 0))) (bT (d9 K) (bT (d9 K) (eQ K (aq 0) "rows") (aq 2)) (tC (.int 0)))))
abbrev wH (K:ae) (C:ah) (A:CA) (dX mq:Sp):TS :=
 bz (pG K (aq 0) zr "weight_of")
 (pG K (aq 0) (oR 1 [1] (Q4 (ai (bT lD (cu mq [] E0 (ai (aq 1) aM)) (tC (.int 1))) aM)) (bZ 0) yi (vf C dX [] E0 (ai (aq 1) aM))) "woods")
def mv (K:ae) (C:ah) (A:CA) (dX mq:Sp):TS :=
 bz (pG K (aq 0) zr "level_of")
 (bz (pG K (aq 0) zr "wooden")
 (wH K C A dX mq))
abbrev D0 (K:ae) (C:ah) (A:CA) (cU eG:Sp):TS :=
  bz (ft (aq 2) (Kl (eQ K (aq 0) "weight_of") (aq 1) Ad))
  (bz (dQ (zg (jT K (dv C "joined" cU [] E0 (bT (d9 K) (eQ K (aq 0) "woods") (tC (.int 0))) (ai (bT (d9 K) (aq 1) (tC (.int 0))) (ai (bT (d9 K) (aq 1) (tC (.int 1))) aM)))))
   (gX (dv A.ck "adopt" eG [] E0 (aq 0) (ai (aq 1) aM)))
   cH)
  (cY (bT (d9 K) (eQ K (aq 0) "wooden") (aq 1))))
def tq (K:ae) (C:ah) (A:CA) (cU eG:Sp):TS :=
 bz (ft (tC (.int 0)) (Kl (eQ K (aq 0) "level_of") (aq 1) Ad))
 (bz (ft (tC (.bl false)) (Kl (eQ K (aq 0) "wooden") (aq 1) Ad))
 (D0 K C A cU eG))
def mU (K:ae) (C:ah) (A:CA) (gh:Sp):TS :=
 Km (v3 K (Q8 (zq K) (eQ K (aq 0) "woods") lT (qc (bT lD (bT (d9 K) (eQ K (aq 0) "level_of") (aq 1)) (tC (.int 1)))))) (bZ 2)
 (gX (dv C "link" gh [] E0 (aq 2) (ai (bT (d9 K) (aq 1) (tC (.int 0))) (ai (bT (d9 K) (aq 1) (tC (.int 1))) aM))))
def pS (K:ae) (C:ah) (A:CA) (gh:Sp):TS :=
 bz (ft (tC (.bl true)) (Kl (eQ K (aq 0) "wooden") (aq 1) Ad))
 (mU K C A gh)
def rn (K:ae) (C:ah) (A:CA):TS :=
 cY (kb (ai (bT (d9 K) (aq 1) (tC (.int 0))) (ai (bT (d9 K) (aq 1) (tC (.int 1))) (ai (bT (d9 K) (eQ K (aq 0) "level_of") (aq 1)) (ai (bT (d9 K) (eQ K (aq 0) "wooden") (aq 1)) aM)))))
abbrev zG (K:ae) (C:ah) (A:CA) (br cX:Sp):TS :=
 bz (pG K (aq 0) (tC (.int 0)) "risen")
 (pG K (aq 0) (tC (.int 0)) "lost")
abbrev zH (K:ae) (C:ah) (A:CA) (br cX:Sp):TS :=
 bz (pG K (aq 0) (tC (.int 0)) "came")
 (bz (pG K (aq 0) (tC (.int 0)) "looked")
 (zG K C A br cX))
abbrev zI (K:ae) (C:ah) (A:CA) (br cX:Sp):TS :=
 bz (pG K (aq 0) (vf A.ck br [] E0 (ai (aq 1) aM)) "levels")
 (bz (pG K (aq 0) (bT (d9 K) (eQ K (eQ K (aq 0) "levels") "woods") (tC (.int 0))) "wood")
 (zH K C A br cX))
def nY (K:ae) (C:ah) (A:CA) (br cX:Sp):TS :=
 bz (dQ (zg (jT K (cu cX [] E0 (ai (aq 1) aM))))
 gP
 cH)
 (bz (pG K (aq 0) (aq 1) "n")
 (zI K C A br cX))
def pT (K:ae) (C:ah) (A:CA) (ic:Sp):TS :=
 bz (Kn K (aq 0) (tC (.int 1)) rAdd "came")
 (cY (dv A.ck "add" ic [] E0 (eQ K (aq 0) "levels") (ai (aq 1) (ai (aq 2) aM))))
def uZ (K:ae) (C:ah) (A:CA) (gC:Sp):TS :=
 cY (nO (Np K) (ai (oR 1 [0] (iDT (eQ K (eQ K (aq 0) "levels") "level_of")) (bZ 0) yi (dv A.ck "told" gC [] E0 (eQ K (aq 1) "levels") (ai (aq 0) aM))) aM))
def pU (K:ae) (C:ah) (A:CA) (mH fz:Sp):TS :=
 cY (kb (ai (eQ K (aq 0) "came") (ai (eQ K (aq 0) "looked") (ai (eQ K (aq 0) "risen") (ai (eQ K (aq 0) "lost") (ai (cu mH [] E0 (ai (eQ K (aq 0) "n") (ai (dv A.Own "ties" fz [] E0 (aq 0) aM) aM))) aM))))))
def tu (K:ae) (C:ah) (A:CA) (aR dN:Sp):TS :=
 cY (dv A.Own "receive" aR [] E0 (aq 0) (ai (cu dN [] E0 (ai (eQ K (aq 0) "n") (ai (eQ K (eQ K (aq 0) "levels") "level_of") (ai (aq 1) (ai (aq 2) aM))))) (ai (tC (.int 0)) aM)))
def mV (K:ae) (C:ah) (A:CA) (cg cS dN aR:Sp):TS :=
 Km (v3 K (aq 2)) (HK K 3 (lC (bZ 4) (lC (bZ 5) (lC (bZ 6) Kk))))
 (bz (ft (cu dN [] E0 (ai (aq 1) (ai (aq 3) (ai (aq 4) (ai (aq 5) aM))))) (bZ 7))
 (ft (aq 6) (Kl (aq 3) (aq 7) Ad)))
def mW (K:ae) (C:ah) (A:CA) (cg cS dN aR:Sp):TS :=
 Km (v3 K (cu cS [] E0 (ai (aq 3) (ai (aq 3) aM)))) (bZ 7)
 (gX (dv A.Own "receive" aR [] E0 (aq 0) (ai (aq 7) (ai (bT (d9 K) (aq 3) (aq 7)) aM))))
def ko (K:ae) (C:ah) (A:CA) (cg cS dN aR:Sp):TS :=
 bz (gX (cu cg [] E0 (ai (aq 0) (ai (aq 1) aM))))
 (bz (ft zr (bZ 3))
 (bz (mV K C A cg cS dN aR)
 (mW K C A cg cS dN aR)))
def nZ (K:ae) (C:ah) (A B:CA) (Dk:ah) (sp_Kept___init___a:Sp):TS :=
 pG K (aq 0) (vf A.Own sp_Kept___init___a [] E0 (ai (tC (.int 1)) aM)) "kept"
def oV (K:ae) (C:ah) (A B:CA) (Dk:ah) (gE bJ fN cj:Sp):TS :=
 bz (ft (HD K "str" PR (aq 1) (ai (tC (.str " ")) aM)) (bZ 2))
 (bz (dQ (Pl (di (bT (iz K) (bT (d9 K) (aq 2) (tC (.int 0))) (tC (.str "weigh")))) (di (bT (yM λi j=>.bl (decide (j<i))) (nO (FL K) (ai (aq 2) aM)) (tC (.int 1)))))
 (cY (dv Dk "begin" bJ [] E0 (aq 0) (ai (dv Dk "weighed" fN [] E0 (aq 0) (ai (aq 2) aM)) aM)))
 cH)
 (bz (dQ (di (bT (yj K) (Rw Tu (ai (bT (d9 K) (aq 2) (tC (.int 0))) aM)) (bT (yM λi j=>.int (i-j)) (nO (FL K) (ai (aq 2) aM)) (tC (.int 1)))))
 gP
 cH)
 (cY (dv Dk "answer" gE [] E0 (aq 0) (ai (bT (d9 K) (aq 2) (tC (.int 0))) (ai (oR 1 [] (v3 K (Q8 (zq K) (aq 2) (qc (tC (.int 1))) lT)) (bZ 0) yi (cu cj [] E0 (ai (aq 0) aM))) aM))))))
def pV (K:ae) (C:ah) (A B:CA) (Dk:ah) (sp_Lightest___init___b cj gj:Sp):TS :=
 cY (vf B.Own sp_Lightest___init___b [] E0 (ai (cu cj [] E0 (ai (bT (d9 K) (aq 1) (tC (.int 1))) aM)) (ai (oR 1 [] (v3 K (Q8 (zq K) (aq 1) (qc (tC (.int 2))) lT)) (bZ 0) yi (cu gj [] E0 (ai (aq 0) aM))) aM)))
def tw (K:ae) (C:ah) (A B:CA) (Dk:ah):TS :=
 bz (pG K (aq 0) (aq 1) "kept")
 (cY (tC (.str "ok")))
def rA (K:ae) (C:ah) (A B:CA) (Dk:ah) (fO bJ jw iQ sp_Kept_account_a sp_Kept_account_b sp_Kept___init___a sp_Kept_ties_a sp_Kept_ties_b:Sp):TS :=
 bz (dQ (di (bT (iz K) (aq 1) (tC (.str "new"))))
 (cY (dv Dk "begin" bJ [] E0 (aq 0) (ai (vf A.Own sp_Kept___init___a [] E0 (ai (bT (d9 K) (aq 2) (tC (.int 0))) aM)) aM)))
 cH)
 (bz (dQ (di (bT (iz K) (aq 1) (tC (.str "put"))))
 (cY (dv Dk "put" jw [] E0 (aq 0) (ai (bT (d9 K) (aq 2) (tC (.int 0))) (ai (bT (d9 K) (aq 2) (tC (.int 1))) aM))))
 cH)
 (bz (dQ (di (bT (iz K) (aq 1) (tC (.str "out"))))
 gP
 cH)
 (bz (dQ (di (bT (iz K) (aq 1) (tC (.str "joined"))))
 gP
 cH)
 (bz (dQ (di (bT (iz K) (aq 1) (tC (.str "way"))))
 gP
 cH)
 (bz (dQ (di (bT (iz K) (aq 1) (tC (.str "side"))))
 gP
 cH)
 (bz (dQ (di (bT (iz K) (aq 1) (tC (.str "ties"))))
 (cY (cu iQ [] E0 (ai (Nz (dv A.Own "ties" sp_Kept_ties_a [] E0 (eQ K (aq 0) "kept") aM) (dv B.Own "ties" sp_Kept_ties_b [] E0 (eQ K (aq 0) "kept") aM)) aM)))
 cH)
 (bz (dQ (di (bT (iz K) (aq 1) (tC (.str "weight"))))
 gP
 cH)
 (cY (cu fO [] E0 (ai (Nz (dv A.Own "account" sp_Kept_account_a [] E0 (eQ K (aq 0) "kept") aM) (dv B.Own "account" sp_Kept_account_b [] E0 (eQ K (aq 0) "kept") aM)) aM))))))))))
def wI (K:ae) (C:ah) (A B:CA) (Dk:ah) (sp_Keeper_put_a:Sp):TS :=
 bz (dQ (jT K (nO (Ny K) (ai (eQ K (aq 0) "kept") (ai (tC (.ref B.Own)) aM))))
 gP
 cH)
 (cY (Xu (jT K (dv A.Own "put" sp_Keeper_put_a [] E0 (eQ K (aq 0) "kept") (ai (aq 1) (ai (aq 2) aM)))) (tC (.str "wood")) (tC (.str "beside"))))
def gF (K:ae) (C:ah) (X:EC) (E:XK) (eE:Sp):TS :=
 dQ (zg (jT K (cu eE [] E0 (ai (aq 0) (ai (aq 1) aM)))))
 (pI (.ref X.fE) E)
 cH
def fV (K:ae) (C:ah) (E:XK) (bA:Sp):TS :=
 bz (gX (cu bA [] E (ai (aq 0) (ai (aq 1) aM))))
 (gX (cu bA [] E (ai (aq 0) (ai (aq 2) aM))))
def fG (K:ae) (C:ah) (X:EC) (E:XK) (bB:Sp):TS :=
 bz (gX (cu bB [] E (ai (aq 0) (ai (aq 1) (ai (aq 2) aM)))))
 (dQ (di (bT (iz K) (aq 1) (aq 2)))
 (pI (.ref X.Alike) E)
 cH)
def kY (K:ae) (C:ah) (E:XK) (bB:Sp):TS :=
 bz (gX (cu bB [] E (ai (eQ K (aq 0) "n") (ai (aq 1) (ai (aq 2) aM)))))
 gP
def oB (K:ae) (C:ah) (E:XK) (cA:Sp):TS :=
 cY (Xu (jT K (dv C "joined" cA [] E (aq 0) (ai (aq 1) (ai (aq 2) aM)))) RA (tC .non))
def lX (K:ae) (C:ah) (E:XK) (bA:Sp):TS :=
 bz (gX (cu bA [] E (ai (eQ K (aq 0) "n") (ai (aq 1) aM))))
 gP
def qA (K:ae) (C:ah) (X:EC) (E:XK) (bL dH:Sp):TS :=
 bz (gX (cu bL [] E (ai (aq 0) (ai (aq 2) (ai (aq 3) aM)))))
 (bz (ft (cu dH [] E0 (ai (aq 2) (ai (aq 3) aM))) (bZ 4))
 (bz (dQ (di (bT (U0 K false) (aq 4) (aq 1)))
 (pI (.ref X.zW) E)
 cH)
 (cY (aq 4))))
def jZ (K:ae) (C:ah) (X:EC) (E:XK) (bL dH:Sp):TS :=
 bz (gX (cu bL [] E (ai (aq 0) (ai (aq 2) (ai (aq 3) aM)))))
 (bz (ft (cu dH [] E0 (ai (aq 2) (ai (aq 3) aM))) (bZ 4))
 (bz (dQ (di (bT (U0 K true) (aq 4) (aq 1)))
 (pI (.ref X.sL) E)
 cH)
 (cY (aq 4))))
def jC (K:ae) (C:ah) (A:CA) (X:EC) (E:XK) (br cX:Sp):TS :=
 bz (dQ (zg (jT K (cu cX [] E0 (ai (aq 1) aM))))
 (pI (.ref X.j5) E)
 cH)
 (bz (pG K (aq 0) (aq 1) "n")
 (bz (pG K (aq 0) (vf A.ck br [] E0 (ai (aq 1) aM)) "levels")
 (bz (pG K (aq 0) (bT (d9 K) (eQ K (eQ K (aq 0) "levels") "woods") (tC (.int 0))) "wood")
 (bz (pG K (aq 0) (tC (.int 0)) "came")
 (bz (pG K (aq 0) (tC (.int 0)) "looked")
 (bz (pG K (aq 0) (tC (.int 0)) "risen")
 (pG K (aq 0) (tC (.int 0)) "lost")))))))
def oC (K:ae) (C:ah) (A:CA) (E:XK) (eV:Sp):TS :=
 bz (ft (cu eV [] E (ai (eQ K (aq 0) "n") (ai (eQ K (eQ K (aq 0) "levels") "level_of") (ai (aq 1) (ai (aq 2) aM))))) (bZ 3))
 (bz gP
 (bz gP
 (bz gP
 (bz gP
 gP))))
def kZ (K:ae) (C:ah) (A:CA) (E:XK) (cA:Sp):TS :=
 cY (dv C "joined" cA [] E (eQ K (aq 0) "wood") (ai (aq 1) (ai (aq 2) aM)))
def oE (K:ae) (C:ah) (A:CA) (E:XK) (gn:Sp):TS :=
 cY (dv C "way" gn [] E (eQ K (aq 0) "wood") (ai (aq 1) (ai (aq 2) aM)))
def mX (K:ae) (C:ah) (A:CA) (E:XK) (fP:Sp):TS :=
 cY (dv C "group" fP [] E (eQ K (aq 0) "wood") (ai (aq 1) aM))
def lN (K:ae) (C:ah) (A:CA) (E:XK) (sp_Kept___init___o cS sp_new_tie_o aR:Sp):TS :=
 Km (v3 K (aq 2)) (HK K 3 (lC (bZ 4) (lC (bZ 5) (lC (bZ 6) Kk))))
 (bz (ft (cu sp_new_tie_o [] E (ai (aq 1) (ai (aq 3) (ai (aq 4) (ai (aq 5) aM))))) (bZ 7))
 (ft (aq 6) (Kl (aq 3) (aq 7) Ad)))
def tB (K:ae) (C:ah) (A:CA) (sp_Kept___init___o cS sp_new_tie_o aR:Sp):TS :=
 Km (v3 K (cu cS [] E0 (ai (aq 3) (ai (aq 3) aM)))) (bZ 7)
 (gX (dv A.Own "receive" aR [] E0 (aq 0) (ai (aq 7) (ai (bT (d9 K) (aq 3) (aq 7)) aM))))
def hJ (K:ae) (C:ah) (A:CA) (E:XK) (sp_Kept___init___o cS sp_new_tie_o aR:Sp):TS :=
 bz (gX (cu sp_Kept___init___o [] E (ai (aq 0) (ai (aq 1) aM))))
 (bz (ft zr (bZ 3))
 (bz (lN K C A E sp_Kept___init___o cS sp_new_tie_o aR)
 (tB K C A sp_Kept___init___o cS sp_new_tie_o aR)))
def lY (K:ae) (C:ah) (A:CA) (E:XK) (aR hU:Sp):TS :=
 cY (dv A.Own "receive" aR [] E0 (aq 0) (ai (cu hU [] E (ai (eQ K (aq 0) "n") (ai (eQ K (eQ K (aq 0) "levels") "level_of") (ai (aq 1) (ai (aq 2) aM))))) (ai (tC (.int 0)) aM)))
def lg (K:ae) (C:ah) (X:EC) (E:XK) (bQ:Sp):TS :=
 bz (dQ (zg (jT K (cu bQ [] E0 (ai (aq 0) aM))))
 (pI (.ref X.lF) E)
 cH)
 (cY (nO Nx (ai (aq 0) aM)))
def mY (K:ae) (C:ah) (X:EC) (E:XK) (dM:Sp):TS :=
 bz (dQ (zg (jT K (cu dM [] E0 (ai (aq 0) aM))))
 (pI (.ref X.lF) E)
 cH)
 (cY (nO Nx (ai (aq 0) aM)))
def iH (K:ae) (C:ah) (E:XK) (sp_unsigned_of_o sp_number_of_o:Sp):TS :=
 bz (ft (HD K "str" qV (aq 0) (ai (tC (.str "-")) aM)) (bZ 1))
 (bz (ft (HD K "str" qV (bT (d9 K) (aq 1) (tC (.int 2))) (ai (tC (.str ":")) aM)) (bZ 2))
 (cY (kb (ai (cu sp_unsigned_of_o [] E (ai (bT (d9 K) (aq 1) (tC (.int 0))) aM)) (ai (cu sp_unsigned_of_o [] E (ai (bT (d9 K) (aq 2) (tC (.int 0))) aM)) (ai (cu sp_number_of_o [] E (ai (bT (d9 K) (aq 2) (tC (.int 2))) aM)) aM))))))
def oF (K:ae) (C:ah) (A B:CA) (Dk:ah) (X:EC) (E:XK) (fe bJ eW sp_number_of_o:Sp):TS :=
 bz (ft (HD K "str" PR (aq 1) (ai (tC (.str " ")) aM)) (bZ 2))
 (bz (dQ (Pl (di (bT (iz K) (bT (d9 K) (aq 2) (tC (.int 0))) (tC (.str "weigh")))) (di (bT (yM λi j=>.bl (decide (j<i))) (nO (FL K) (ai (aq 2) aM)) (tC (.int 1)))))
 (cY (dv Dk "begin" bJ [] E0 (aq 0) (ai (dv Dk "weighed" eW [] E (aq 0) (ai (aq 2) aM)) aM)))
 cH)
 (bz (dQ (di (bT (yj K) (Rw Tu (ai (bT (d9 K) (aq 2) (tC (.int 0))) aM)) (bT (yM λi j=>.int (i-j)) (nO (FL K) (ai (aq 2) aM)) (tC (.int 1)))))
 (pI (.ref X.lF) E)
 cH)
 (cY (dv Dk "answer" fe [] E (aq 0) (ai (bT (d9 K) (aq 2) (tC (.int 0))) (ai (oR 1 [] (v3 K (Q8 (zq K) (aq 2) (qc (tC (.int 1))) lT)) (bZ 0) yi (cu sp_number_of_o [] E (ai (aq 0) aM))) aM))))))
def j0 (K:ae) (C:ah) (A B:CA) (Dk:ah) (E:XK) (sp_Lightest___init___x_b sp_number_of_o sp_weighed_of_o:Sp):TS :=
 cY (vf B.Own sp_Lightest___init___x_b [] E (ai (cu sp_number_of_o [] E (ai (bT (d9 K) (aq 1) (tC (.int 1))) aM)) (ai (oR 1 [] (v3 K (Q8 (zq K) (aq 1) (qc (tC (.int 2))) lT)) (bZ 0) yi (cu sp_weighed_of_o [] E (ai (aq 0) aM))) aM)))
def lh (K:ae) (C:ah) (A B:CA) (Dk:ah) (E:XK) (bJ ie fg sp_Kept___init___x_a sp_Kept_out_x_a sp_Kept_out_x_b sp_Kept_joined_x_a sp_Kept_joined_x_b sp_Kept_way_x_a sp_Kept_way_x_b sp_Kept_side_x_a sp_Kept_side_x_b:Sp):TS :=
 bz (dQ (di (bT (iz K) (aq 1) (tC (.str "new"))))
 (cY (dv Dk "begin" bJ [] E0 (aq 0) (ai (vf A.Own sp_Kept___init___x_a [] E (ai (bT (d9 K) (aq 2) (tC (.int 0))) aM)) aM)))
 cH)
 (bz (dQ (di (bT (iz K) (aq 1) (tC (.str "put"))))
 (cY (dv Dk "put" ie [] E (aq 0) (ai (bT (d9 K) (aq 2) (tC (.int 0))) (ai (bT (d9 K) (aq 2) (tC (.int 1))) aM))))
 cH)
 (bz (dQ (di (bT (iz K) (aq 1) (tC (.str "out"))))
 (cY (tNo (ai (Nz (dv A.Own "out" sp_Kept_out_x_a [] E (eQ K (aq 0) "kept") (ai (bT (d9 K) (aq 2) (tC (.int 0))) (ai (bT (d9 K) (aq 2) (tC (.int 1))) aM))) (dv B.Own "out" sp_Kept_out_x_b [] E (eQ K (aq 0) "kept") (ai (bT (d9 K) (aq 2) (tC (.int 0))) (ai (bT (d9 K) (aq 2) (tC (.int 1))) aM)))) aM)))
 cH)
 (bz (dQ (di (bT (iz K) (aq 1) (tC (.str "joined"))))
 (cY (Xu (jT K (Nz (dv A.Own "joined" sp_Kept_joined_x_a [] E (eQ K (aq 0) "kept") (ai (bT (d9 K) (aq 2) (tC (.int 0))) (ai (bT (d9 K) (aq 2) (tC (.int 1))) aM))) (dv B.Own "joined" sp_Kept_joined_x_b [] E (eQ K (aq 0) "kept") (ai (bT (d9 K) (aq 2) (tC (.int 0))) (ai (bT (d9 K) (aq 2) (tC (.int 1))) aM))))) (tC (.str "yes")) (tC (.str "no"))))
 cH)
 (bz (dQ (di (bT (iz K) (aq 1) (tC (.str "way"))))
 (cY (tNo (ai (Nz (dv A.Own "way" sp_Kept_way_x_a [] E (eQ K (aq 0) "kept") (ai (bT (d9 K) (aq 2) (tC (.int 0))) (ai (bT (d9 K) (aq 2) (tC (.int 1))) aM))) (dv B.Own "way" sp_Kept_way_x_b [] E (eQ K (aq 0) "kept") (ai (bT (d9 K) (aq 2) (tC (.int 0))) (ai (bT (d9 K) (aq 2) (tC (.int 1))) aM)))) aM)))
 cH)
 (bz (dQ (di (bT (iz K) (aq 1) (tC (.str "side"))))
 (cY (tNo (ai (Nz (dv A.Own "side" sp_Kept_side_x_a [] E (eQ K (aq 0) "kept") (ai (bT (d9 K) (aq 2) (tC (.int 0))) aM)) (dv B.Own "side" sp_Kept_side_x_b [] E (eQ K (aq 0) "kept") (ai (bT (d9 K) (aq 2) (tC (.int 0))) aM))) aM)))
 cH)
 (bz (dQ (di (bT (iz K) (aq 1) (tC (.str "ties"))))
 gP
 cH)
 (bz (dQ (di (bT (iz K) (aq 1) (tC (.str "weight"))))
 (cY (dv Dk "weight" fg [] E (aq 0) aM))
 cH)
 gP)))))))
def oG (K:ae) (C:ah) (A B:CA) (Dk:ah) (X:EC) (E:XK) (sp_Keeper_put_x_a:Sp):TS :=
 bz (dQ (jT K (nO (Ny K) (ai (eQ K (aq 0) "kept") (ai (tC (.ref B.Own)) aM))))
 (pI (.ref X.ur) E)
 cH)
 (cY (Xu (jT K (dv A.Own "put" sp_Keeper_put_x_a [] E (eQ K (aq 0) "kept") (ai (aq 1) (ai (aq 2) aM)))) (tC (.str "wood")) (tC (.str "beside"))))
def lj (K:ae) (C:ah) (A B:CA) (Dk:ah) (X:EC) (E:XK):TS :=
 bz (dQ (zg (jT K (nO (Ny K) (ai (eQ K (aq 0) "kept") (ai (tC (.ref B.Own)) aM)))))
 (pI (.ref X.lF) E)
 cH)
 gP
theorem NS (Fu:iy K "is_whole" "is_whole" BP f fd) (T:Txt K mg C A X)
 (len:Ln sp 1) (run:Rn sp (su K C) qg):cI P w K mg base dU 1 f fd qg sp :=
 Fu.oj P3 len run λ_ _ _ _ _ _ hr =>
 ay (bf (zi (d8 Nb rfl T.en BootT.fw (af (pv 0) (af (Ki rfl T.OR BootT.int rfl) au))) (zh (ZE (d8 Nb rfl T.en BootT.fw (af (pv 0) (af (Ki rfl T.aaM BootT.bool rfl) au)))))))
theorem NT (Fu:iy K "is_count" "is_count" BQ f fd) (T:Txt K mg C A X) {eS:Sp}(kr:lV P w K mg base dU 1 "is_whole" qg eS)
 (len:Ln sp 1) (run:Rn sp (sv K C eS) qg):cI P w K mg base dU 2 f fd qg sp :=
 Fu.oj P4 len run λ_ _ _ _ _ _ hr =>
 ay (bf (zi (lE kr hr.m rfl bP (af (pv 0) au)) (zh (Fz JE JE aF (pv 0) (iw rfl T.Jp.choose_spec ⟨_,rfl⟩)))))
theorem NU (Fu:iy K "is_place" "is_place" BR f fd) (T:Txt K mg C A X) {eS:Sp}(kr:lV P w K mg base dU 1 "is_whole" qg eS)
 (len:Ln sp 2) (run:Rn sp (wC K C eS) mE):cI P w K mg base dU 2 f fd mE sp :=
 Fu.oj P5 len run λ_ _ _ _ _ _ hr =>
 ay (bf (zi (lE kr hr.m rfl bP (af (pv 1) au)) (zh (Fz JE JD aF (pv 1) (pv 0)))))
theorem aaz (Fu:iy K "top" "top" stop f fd) (T:Txt K mg C A X)
 (len:Ln sp 1) (run:Rn sp (Qa K C) VU):cI P w K mg base dU 1 f fd ["n"] sp :=
 Fu.oj NI len run λ_ _ _ _ _ _ hr =>
 aw (eN NI.nd aF)
 (aw (eN NI.nd aF)
 (aw (UL jO (bR JE (pv 2) (pv 0) (cB _))
 (aw (UK (i:=1) NI.nd rfl (Or.inl rfl) aF XA)
 (ay (UK (i:=2) NI.nd rfl (Or.inl rfl) aF XB))))
 (ay (bf (pv 1)))))
theorem Tv (Fu:iy K "tie_of" "tie_of" KM f fd) (T:Txt K mg C A X)
 (len:Ln sp 2) (run:Rn sp (BY K C) qf):cI P w K mg base dU 1 f fd qf sp :=
 Fu.oj VX len run λ_ _ _ _ _ _ hr =>
 ay (bf (qS (bR JD (pv 0) (pv 1) (cB _)) (fo (af (pv 0) (af (pv 1) au))) (fo (af (pv 1) (af (pv 0) au)))))
theorem Tw (Fu:iy K "credit" "credit" KN f fd) (T:Txt K mg C A X) {mq:Sp}(Aw:lV P w K mg base dU 1 "top" ["n"] mq)
 (len:Ln sp 2) (run:Rn sp (BZ K C mq) Ga):cI P w K mg base dU 2 f fd Ga sp :=
 Fu.oj VY len run λ_ _ _ _ _ _ hr =>
 ay (bf (d8 (Tc rfl) rfl T.acn BootT.sum (af (r9 BO (ys:=["n"]) [0] rfl (mn (pv 1)) ⟨rfl,.inl rfl,rfl,trivial⟩ (λ_ _ _=>zj rfl (fU (ia (show (RG:List aL).Nodup by decide +kernel)) (fU (ia (show (RG:List aL).Nodup by decide +kernel)) (fU (ia (show (RG:List aL).Nodup by decide +kernel)) (fU (ia (show (RG:List aL).Nodup by decide +kernel)) xG))))) (λ_ _ _=>lK) (λ_ _ _=>a9 Fw (lE Aw hr.m rfl bP (af (pv 4) au)) (pv 2))) au)))
theorem Tx (Fu:iy K "turned" "turned" KO f fd) (T:Txt K mg C A X)
 (len:Ln sp 2) (run:Rn sp (B9 K C) ["row","a","k"]):cI P w K mg base dU 1 f fd ["row","a"] sp :=
 Fu.oj NJ len run λ_ _ _ _ _ _ hr =>
 aw (eN NJ.nd (mP cR mL MU (JR hr.units) (pv 0) (af (pv 1) au)))
 (ay (bf (a9 ix (jI oq (pv 0) (jW (pv 2)) oo) (jI oq (pv 0) (jW aF) (jW (a9 ix (pv 2) aF))))))
theorem Qc (Fu:iy K "spliced" "spliced" Gc f fd) (T:Txt K mg C A X) {mG:Sp}(wJ:lV P w K mg base dU 1 "turned" ["row","a"] mG)
 (len:Ln sp 4) (run:Rn sp (zE K C mG) VR):cI P w K mg base dU 2 f fd RI sp :=
 Fu.oj J5 len run λ_ _ _ _ _ _ hr =>
 aw (eN J5.nd (mP cR mL MU (JR hr.units) (pv 0) (af (pv 2) au)))
 (ay (bf (a9 ix (a9 ix (jI oq (pv 0) oo (jW (a9 ix (pv 4) aF))) (lE wJ hr.m rfl bP (af (pv 1) (af (pv 3) au)))) (jI oq (pv 0) (jW (pv 4)) oo))))
theorem zJ (Fu:iy K "refuse_no_place" "refuse_no_place" kU f fd) (T:Txt K mg C A X) {eE:Sp}(kx:lV P w K mg base dU 2 "is_place" mE eE)
 (len:Ln sp 2) (run:Rn sp (mr K C eE) mE):cI P w K mg base dU 3 f fd mE sp :=
 Fu.oj sq len run λ_ _ _ _ _ _ hr =>
 ay (cN (nR (eK (lE kx hr.m rfl bP (af (pv 0) (af (pv 1) au))) (λ_=>rfl)))
 (ay d7)
 bh)
theorem yl (Fu:iy K "refuse_no_places" "refuse_no_places" jY f fd) (T:Txt K mg C A X) {dJ:Sp}(gN:lV P w K mg base dU 3 "refuse_no_place" mE dJ)
 (len:Ln sp 3) (run:Rn sp (lH K C dJ) oU):cI P w K mg base dU 4 f fd oU sp :=
 Fu.oj rg len run λ_ _ _ _ _ _ hr =>
 aw (dS (lE gN hr.m rfl bP (af (pv 0) (af (pv 1) au))))
 (ay (dS (lE gN hr.m rfl bP (af (pv 0) (af (pv 2) au)))))
theorem Ax (Fu:iy K "refuse_no_pair" "refuse_no_pair" lW f fd) (T:Txt K mg C A X) {cc:Sp}(eF:lV P w K mg base dU 4 "refuse_no_places" oU cc)
 (len:Ln sp 3) (run:Rn sp (mR K C cc) oU):cI P w K mg base dU 5 f fd oU sp :=
 Fu.oj t7 len run λ_ _ _ _ _ _ hr =>
 aw (dS (lE eF hr.m rfl bP (af (pv 0) (af (pv 1) (af (pv 2) au)))))
 (ay (cN (bR (dD hr.units) (pv 1) (pv 2) (cB _))
 (ay d7)
 bh))
theorem NV (Fu:iy K "in_order" "in_order" BS f fd) (T:Txt K mg C A X) {c Pt:ah}(hcd:fd.code=.ref c) (CH:qM base c Pt) (B:base.BuiltinsAt mg Pt)
 (len:Ln sp 2) (run:Rn sp (sx K C Pt) DA):cI P w K mg base dU 1 f fd DA sp :=
 Fu.okC hcd P6 len λA0 outer s H vs Q E hr h=>⟨sx K C Pt,
 ay (bf (Vt rfl rfl CH B hr.depth hr.WI rfl T.OO (af (pv 0) au) rfl rfl)),run vs H Q E h⟩
theorem Qd (Fu:iy K "new_tie" "new_tie" Aq f fd) (T:Txt K mg C A X) {cJ:Sp}(fh:lV P w K mg base dU 5 "refuse_no_pair" oU cJ) {dH:Sp}(ky:lV P w K mg base dU 1 "tie_of" qf dH)
 (len:Ln sp 4) (run:Rn sp (zF K C cJ dH) Dz):cI P w K mg base dU 6 f fd DX sp :=
 Fu.oj xP len run λ_ _ _ _ _ _ hr =>
 aw (dS (lE fh hr.m rfl bP (af (pv 0) (af (pv 2) (af (pv 3) au)))))
 (aw (eN xP.nd (lE ky hr.m rfl bP (af (pv 2) (af (pv 3) au))))
 (aw (cN (bR (U1 hr.units) (pv 4) (pv 1) (by with_unfolding_all rfl))
 (ay d7)
 bh)
 (ay (bf (pv 4)))))
theorem Gm (Fu:iy K "is_unsigned" "is_unsigned" uL f fd) (T:Txt K mg C A X)
 (len:Ln sp 1) (run:Rn sp (rj K C) ["word","figures"]):cI P w K mg base dU 1 f fd gg sp :=
 Fu.oj yP len run λ_ _ _ _ _ _ hr =>
 aw (XU (i:=1) ["sign"] (ys:=[]) [] rfl yP.nd rfl rfl (Ye (pv 0)) trivial (λ_ _ _=>ia (show (["sign"]:List aL).Nodup by decide +kernel)) (λ_ _ _=>UZ (bR aat (pv 0) (iw rfl T.T7.choose_spec ⟨_,rfl⟩) (by with_unfolding_all rfl))) (λ_ _ _=>pv 0))
 (ay (bf (zi (Fz JE JE aF (d8 JW rfl T.DM BootT.len (af (pv 0) au)) (iw rfl T.Hv.choose_spec ⟨_,rfl⟩)) (zi (rY (dD hr.units) (d8 qO rfl T.DM BootT.len (af (pv 1) au)) (d8 JW rfl T.DM BootT.len (af (pv 0) au)) (cB _)) (zh (YW (rY (dD hr.units) (pv 0) aC (cB _)) (zh (rY (sQ hr.units) (aau (pv 0) aF (λ_ _=>rfl)) aC (cB _)))))))))
theorem KY (Fu:iy K "is_number" "is_number" zx f fd) (T:Txt K mg C A X) {bQ:Sp}(eI:lV P w K mg base dU 1 "is_unsigned" gg bQ)
 (len:Ln sp 1) (run:Rn sp (uS K C bQ) gg):cI P w K mg base dU 2 f fd gg sp :=
 Fu.oj NK len run λ_ _ _ _ _ _ hr =>
 ay (bf (YW (lE eI hr.m rfl bP (af (pv 0) au)) (zh (zi (rY (dD hr.units) (jI Rv (pv 0) oo (jW aF)) aC (cB _)) (zi (rY (sQ hr.units) (pv 0) aC (cB _)) (zh (lE eI hr.m rfl bP (af (jI Rv (pv 0) (jW aF) oo) au))))))))
theorem Gn (Fu:iy K "unsigned_of" "unsigned_of" qw f fd) (T:Txt K mg C A X) {bQ:Sp}(eI:lV P w K mg base dU 1 "is_unsigned" gg bQ)
 (len:Ln sp 1) (run:Rn sp (rk K C bQ) gg):cI P w K mg base dU 2 f fd gg sp :=
 Fu.oj yQ len run λ_ _ _ _ _ _ hr =>
 aw (cN (nR (eK (lE eI hr.m rfl bP (af (pv 0) au)) (λ_=>rfl)))
 (ay d7)
 bh)
 (ay (bf (dr xI rfl T.OR BootT.int (af (pv 0) au))))
theorem KZ (Fu:iy K "number_of" "number_of" uM f fd) (T:Txt K mg C A X) {dM:Sp}(jx:lV P w K mg base dU 2 "is_number" gg dM)
 (len:Ln sp 1) (run:Rn sp (uT K C dM) gg):cI P w K mg base dU 3 f fd gg sp :=
 Fu.oj DC len run λ_ _ _ _ _ _ hr =>
 aw (cN (nR (eK (lE jx hr.m rfl bP (af (pv 0) au)) (λ_=>rfl)))
 (ay d7)
 bh)
 (ay (bf (dr xI rfl T.OR BootT.int (af (pv 0) au))))
theorem HX (Fu:iy K "weighed_of" "weighed_of" sj f fd) (T:Txt K mg C A X) {eX:Sp}(jP:lV P w K mg base dU 2 "unsigned_of" gg eX) {cj:Sp}(gG:lV P w K mg base dU 3 "number_of" gg cj)
 (len:Ln sp 1) (run:Rn sp (yU K C eX cj) J2):cI P w K mg base dU 4 f fd gg sp :=
 Fu.oj kW len run λ_ _ _ _ _ _ hr =>
 aw (eN kW.nd (mP fI lA lB qu (pv 0) (af aC au)))
 (aw (eN kW.nd (mP fI lA lB qu (de (fb hr.units) (pv 1) aF (λ_ _=>rfl)) (af aC au)))
 (ay (bf (fo (af (lE jP hr.m rfl bP (af (de (fb hr.units) (pv 1) aF (λ_ _=>rfl)) au)) (af (lE jP hr.m rfl bP (af (de (fb hr.units) (pv 2) aF (λ_ _=>rfl)) au)) (af (lE gG hr.m rfl bP (af (de (fb hr.units) (pv 2) aF (λ_ _=>rfl)) au)) au)))))))
theorem Tz (Fu:iy K "listed" "listed" KQ f fd) (T:Txt K mg C A X)
 (len:Ln sp 1) (run:Rn sp (Ca K C) DB):cI P w K mg base dU 1 f fd DB sp :=
 Fu.oj VZ len run λ_ _ _ _ _ _ hr =>
 ay (bf (qS (eK (pv 0) (λ_=>rfl)) (mP fI PySem.F.slot_str_join PySem.F.type_str_join Yd aC (af (pv 0) au)) aC))
theorem D4 (Fu:iy K "numbers_text" "numbers_text" sW f fd) (T:Txt K mg C A X) {gM:Sp}(oW:lV P w K mg base dU 1 "listed" DB gM)
 (len:Ln sp 1) (run:Rn sp (pN K C gM) Gb):cI P w K mg base dU 2 f fd Gb sp :=
 Fu.oj Gd len run λ_ _ _ _ _ _ hr =>
 ay (bf (lE oW hr.m rfl bP (af (r9 ["number"] (ys:=[]) [] rfl (mn (pv 0)) trivial (λ_ _ _=>ia (show (["number"]:List aL).Nodup by decide +kernel)) (λ_ _ _=>lK) (λ_ _ _=>dr cM rfl T.lR BootT.str (af (pv 0) au))) au)))
theorem NW (Fu:iy K "tie_text" "tie_text" BU f fd) (T:Txt K mg C A X)
 (len:Ln sp 2) (run:Rn sp (wD K C) qf):cI P w K mg base dU 1 f fd qf sp :=
 Fu.oj P7 len run λ_ _ _ _ _ _ hr =>
 ay (bf (abW (pv 0) (pv 1)))
theorem K0 (Fu:iy K "kept_text" "kept_text" zy f fd) (T:Txt K mg C A X) {jv:Sp}(rB:lV P w K mg base dU 1 "tie_text" qf jv)
 (len:Ln sp 4) (run:Rn sp (uU K C jv) BO):cI P w K mg base dU 2 f fd BO sp :=
 Fu.oj NL len run λ_ _ _ _ _ _ hr =>
 ay (bf (a9 bM (a9 bM (a9 bM (lE rB hr.m rfl bP (af (pv 0) (af (pv 1) au))) aC) (dr cM rfl T.lR BootT.str (af (pv 2) au))) (qS (eK (pv 3) (λ_=>rfl)) aC aC)))
theorem K1 (Fu:iy K "ties_text" "ties_text" zz f fd) (T:Txt K mg C A X) {gM:Sp}(oW:lV P w K mg base dU 1 "listed" DB gM) {iN:Sp}(oX:lV P w K mg base dU 2 "kept_text" BO iN)
 (len:Ln sp 1) (run:Rn sp (uV K C gM iN) ["ties"]):cI P w K mg base dU 3 f fd ["ties"] sp :=
 Fu.oj NM len run λ_ _ _ _ _ _ hr =>
 ay (bf (lE oW hr.m rfl bP (af (r9 BO (ys:=[]) [] rfl (mn (pv 0)) trivial (λ_ _ _=>zj rfl (fU (ia (show (BO:List aL).Nodup by decide +kernel)) (fU (ia (show (BO:List aL).Nodup by decide +kernel)) (fU (ia (show (BO:List aL).Nodup by decide +kernel)) (fU (ia (show (BO:List aL).Nodup by decide +kernel)) xG))))) (λ_ _ _=>lK) (λ_ _ _=>lE oX hr.m rfl bP (af (pv 0) (af (pv 1) (af (pv 2) (af (pv 3) au)))))) au)))
theorem D5 (Fu:iy K "_law_cell_at" "_law_cell_at" sX f fd) (T:Txt K mg C A X)
 (len:Ln sp 2) (run:Rn sp (pO K C) F8):cI P w K mg base dU 1 f fd F8 sp :=
 Fu.oj Ge len run λ_ _ _ _ _ _ hr =>
 aw (cN (bR JD (pv 1) (d8 qO rfl T.DM BootT.len (af (pv 0) au)) (cB _))
 (ay (bf (de (fb hr.units) (pv 0) (pv 1) (λ_ _=>rfl))))
 bh)
 (ay (bf aF))
theorem HY (Fu:iy K "_law_words" "_law_words" wq f fd) (T:Txt K mg C A X)
 (len:Ln sp 1) (run:Rn sp (oA K C X) VT):JT P w K mg base 1 f fd ["_law_e"] sp :=
 Fu.okN Ar len λi4 A0 outer s H vs Q E hr h=>⟨oA K C X,
 aw (eN Ar.nd (mi au))
 (aw (cN (eK (d8 mD rfl T.en BootT.fw (af (pv 0) (af (iw rfl T.Kd rfl) au))) (λ_=>rfl))
 (ay (dS (mP cR dA dB je (pv 1) (af aC au))))
 bh)
 (aw (cN (eK (d8 mD rfl T.en BootT.fw (af (pv 0) (af (iw rfl T.Kb rfl) au))) (λ_=>rfl))
 (ay (dS (mP cR dA dB je (pv 1) (af aC au))))
 bh)
 (aw (cN (eK (d8 mD rfl T.en BootT.fw (af (pv 0) (af (iw rfl T.R6 rfl) au))) (λ_=>rfl))
 (ay (dS (mP cR dA dB je (pv 1) (af aC au))))
 bh)
 (aw (cN (eK (d8 mD rfl T.en BootT.fw (af (pv 0) (af (iw rfl T.WH rfl) au))) (λ_=>rfl))
 (ay (dS (mP cR dA dB je (pv 1) (af aC au))))
 bh)
 (aw (cN (eK (d8 mD rfl T.en BootT.fw (af (pv 0) (af (iw rfl T.WQ rfl) au))) (λ_=>rfl))
 (ay (dS (mP cR dA dB je (pv 1) (af aC au))))
 bh)
 (aw (cN (eK (d8 mD rfl T.en BootT.fw (af (pv 0) (af (iw rfl T.RX rfl) au))) (λ_=>rfl))
 (ay (dS (mP cR dA dB je (pv 1) (af aC au))))
 bh)
 (aw (cN (eK (d8 mD rfl T.en BootT.fw (af (pv 0) (af (iw rfl T.Bo rfl) au))) (λ_=>rfl))
 (ay (dS (mP cR dA dB je (pv 1) (af aC au))))
 bh)
 (aw (cN (eK (d8 mD rfl T.en BootT.fw (af (pv 0) (af (iw rfl T.R4 rfl) au))) (λ_=>rfl))
 (ay (dS (mP cR dA dB je (pv 1) (af aC au))))
 bh)
 (aw (cN (nR (eK (d8 Td rfl T.en BootT.fw (af (pv 0) (af (Ki rfl T.Mv aar rfl) au))) (λ_=>rfl)))
 (ay (dS (mP cR dA dB je (pv 1) (af aC au))))
 bh)
 (ay (bf (pv 1)))))))))))),run vs H Q E h⟩
theorem D6 (Fu:iy K "_law_refusal" "_law_refusal" sY f fd) (T:zD P w K mg C A B Dk X) {iY:Sp}(u1:iC P w K mg base (kd P w) 13 Dk "say" yO iY) {ib:Sp}(iR:CalN P w K mg base 1 "_law_words" ["_law_e"] ib)
 (len:Ln sp 2) (run:Rn sp (pQ K C A B Dk X iY ib) VO):cI P w K mg base dU 14 f fd RJ sp :=
 Fu.oj mQ len run λ_ _ _ _ _ _ hr =>
 aw (eN mQ.nd (mi au))
 (aw (Yc (i:=3) (λ_ E=>ay (dS (sU u1 T.gO hr.m (pv 0) Vr (af (pv 1) au)))) rfl ⟨rfl,rfl⟩ rfl T.a.QR mQ.nd rfl rfl (λ_=>ay (eN mQ.nd (Vn iR.G hr.nm rfl iR.m iR.kp iR.b (af (pv 3) au)))))
 (ay (bf (pv 2))))
theorem K3 (Fu:iy K "_law_none" "_law_none" zA f fd) (T:Txt K mg C A X)
 (len:Ln sp 3) (run:Rn sp (uW K C) VN):cI P w K mg base dU 1 f fd RH sp :=
 Fu.oj ju len run λ_ _ _ _ _ _ hr =>
 aw (eN ju.nd (a9 bM (a9 bM (dr cM rfl T.lR BootT.str (af (pv 1) au)) aC) (dr cM rfl T.lR BootT.str (af (pv 2) au))))
 (aw (eN ju.nd (mi (af aC (af aC (af (a9 bM (a9 bM aC (pv 3)) aC) (af (a9 bM aC (pv 3)) (af (a9 bM aC (pv 3)) (af (a9 bM aC (pv 3)) (af (a9 bM aC (dr cM rfl T.lR BootT.str (af (pv 1) au))) au)))))))))
 (aw (eN ju.nd (a9 ix (pv 4) (mi (af (a9 bM (a9 bM aC (pv 3)) aC) (af aC (af (a9 bM aC (pv 3)) (af (a9 bM (a9 bM aC (pv 3)) aC) (af (a9 bM aC (dr cM rfl T.lR BootT.str (af (pv 2) au))) au))))))))
 (aw (eN ju.nd (a9 ix (pv 4) (mi (af (a9 bM aC (dr cM rfl T.lR BootT.str (af (pv 2) au))) (af aC (af (a9 bM aC (pv 3)) au))))))
 (aw (eN ju.nd (a9 ix (pv 4) (mi (af aC (af aC (af aC (af aC (af aC (af aC (af aC (af aC (af aC au))))))))))))
 (aw (eN ju.nd (a9 ix (pv 4) (mi (af aC (af aC (af aC (af aC au)))))))
 (aw (eN ju.nd (a9 ix (pv 4) (mi (af (a9 bM aC (a9 Dy aC aF)) (af (a9 bM aC (a9 Dy aC aF)) au)))))
 (ay (bf (de (fb hr.units) (pv 4) (a9 iW (pv 0) aF) (λ_ _=>rfl))))))))))
theorem Ay (Fu:iy K "_law_bad_place" "_law_bad_place" pK f fd) (T:Txt K mg C A X)
 (len:Ln sp 2) (run:Rn sp (mS K C) F9):cI P w K mg base dU 1 f fd F9 sp :=
 Fu.oj BX len run λ_ _ _ _ _ _ hr =>
 aw (cN (bR (dD hr.units) (a9 iW (pv 1) aF) aF (cB _))
 (ay (bf (dr cM rfl T.lR BootT.str (af (a9 Fw (YX UN aF) (a9 iW (a9 i9 (pv 1) aF) (a9 Fx aF aF))) au))))
 bh)
 (ay (bf (dr cM rfl T.lR BootT.str (af (a9 ix (pv 0) (a9 iW (a9 i9 (pv 1) aF) (a9 Fx aF aF))) au))))
theorem Cb (Fu:iy K "_law_of_count" "_law_of_count" qY f fd) (T:Txt K mg C A X)
 (len:Ln sp 1) (run:Rn sp (nV K C) VS):cI P w K mg base dU 1 f fd ["_law_cell"] sp :=
 Fu.oj pM len run λ_ _ _ _ _ _ hr =>
 aw (eN pM.nd (dr cM rfl T.lR BootT.str (af (YX UN (a9 iW (a9 i9 (pv 0) aF) (a9 Fx aF aF))) au)))
 (aw (cN (bR (dD hr.units) (a9 iW (pv 0) aF) aF (cB _))
 (ay (eN pM.nd (dr cM rfl T.lR BootT.str (af (a9 ix aF (a9 iW (a9 i9 (pv 0) aF) (a9 Fx aF aF))) au))))
 bh)
 (aw (cN (bR (dD hr.units) (a9 iW (a9 i9 (pv 0) aF) aF) aF (cB _))
 (ay (bf (fo (af (a9 bM aC (pv 1)) (af aC au)))))
 bh)
 (ay (bf (fo (af (a9 bM (a9 bM aC (pv 1)) aC) (af aC au)))))))
theorem Cc (Fu:iy K "_law_of_weigh" "_law_of_weigh" qZ f fd) (T:Txt K mg C A X)
 (len:Ln sp 2) (run:Rn sp (nW K C) VL):cI P w K mg base dU 1 f fd RK sp :=
 Fu.oj iG len run λ_ _ _ _ _ _ hr =>
 by
 refine aw ?_ ?_
 · (with_reducible refine eN ?_ ?_ ?_ ?_ ?_ ?_);exact iG.nd;exact (a9 bM (a9 bM aC (dr cM rfl T.lR BootT.str (af (pv 1) au))) aC);exact rfl;exact .inl rfl;exact rfl;first|exact .inl rfl|exact .inr rfl
 with_reducible refine aw ?_ ?_
 · (with_reducible refine eN ?_ ?_ ?_ ?_ ?_ ?_);exact iG.nd;exact (mi (af (fo (af aC (af aC au))) (af (fo (af aC (af aC au))) (af (fo (af aC (af aC au))) (af (fo (af aC (af aC au))) au tY) tY) tY) tY));exact rfl;exact .inl rfl;exact rfl;first|exact .inl rfl|exact .inr rfl
 with_reducible refine aw ?_ ?_
 · (with_reducible refine eN ?_ ?_ ?_ ?_ ?_ ?_);exact iG.nd;exact (a9 ix (pv 3) (mi (af (fo (af (a9 bM (a9 bM aC (dr cM rfl T.lR BootT.str (af (pv 1) au))) aC) (af aC au))) (af (fo (af aC (af aC au))) au tY) tY)));exact rfl;exact .inl rfl;exact rfl;first|exact .inl rfl|exact .inr rfl
 with_reducible refine aw ?_ ?_
 · exact uF (de (fb hr.units) (pv 3) (a9 iW (pv 0) aF) (λ_ _=>rfl)) (zj rfl (fU (ia iG.nd) (fU (ia iG.nd) xG)))
 with_reducible refine ay ?_
 · exact bf (fo (af (a9 bM (pv 2) (pv 4)) (af (pv 5) au)))
theorem Az (Fu:iy K "_law_of_places" "_law_of_places" pL f fd) (T:Txt K mg C A X) {eT:Sp}(jg:lV P w K mg base dU 1 "_law_bad_place" F9 eT)
 (len:Ln sp 3) (run:Rn sp (mT K C eT) VJ):cI P w K mg base dU 2 f fd DW sp :=
 Fu.oj kX len run λ_ _ _ _ _ _ hr =>
 aw (eN kX.nd (de (fb hr.units) (mi (af aC (af aC (af aC au)))) (a9 iW (pv 0) aF) (λ_ _=>rfl)))
 (aw (eN kX.nd (lE jg hr.m rfl bP (af (pv 1) (af (a9 i9 (pv 0) aF) au))))
 (aw (eN kX.nd (a9 iW (a9 i9 (pv 0) aF) aF))
 (aw (cN (bR (dD hr.units) (pv 5) aF (cB _))
 (ay (bf (fo (af (a9 bM aC (pv 4)) (af aC au)))))
 bh)
 (aw (cN (bR (dD hr.units) (pv 5) aF (cB _))
 (ay (bf (fo (af (a9 bM (a9 bM (a9 bM (pv 3) aC) (pv 4)) aC) (af aC au)))))
 bh)
 (aw (cN (bR (dD hr.units) (pv 5) aF (cB _))
 (ay (bf (fo (af (a9 bM (a9 bM (pv 3) aC) (pv 4)) (af aC au)))))
 bh)
 (aw (cN (bR (dD hr.units) (pv 5) aF (cB _))
 (ay (bf (fo (af (a9 bM (a9 bM (a9 bM aC (pv 4)) aC) (pv 4)) (af aC au)))))
 bh)
 (aw (cN (eK (pv 2) (λ_=>rfl))
 (ay (bf (fo (af (a9 bM aC (de (fb hr.units) (mi (af aC (af (a9 bM (pv 4) aC) (af aC au)))) (a9 iW (pv 0) aF) (λ_ _=>rfl))) (af aC au)))))
 bh)
 (aw (cN (bR (dD hr.units) (pv 5) aF (cB _))
 (ay (bf (fo (af (a9 bM (a9 bM (a9 bM aC (pv 4)) aC) (pv 4)) (af aC au)))))
 bh)
 (ay (bf (fo (af (a9 bM aC (pv 4)) (af aC au)))))))))))))
theorem D7 (Fu:iy K "_law_of_ties" "_law_of_ties" sZ f fd) (T:Txt K mg C A X)
 (len:Ln sp 3) (run:Rn sp (pR K C) VM):cI P w K mg base dU 1 f fd DW sp :=
 Fu.oj rh len run λ_ _ _ _ _ _ hr =>
 aw (eN rh.nd (a9 iW (a9 i9 (pv 0) aF) (pv 1)))
 (aw (eN rh.nd (a9 iW (pv 0) aF))
 (aw (cN (bR (dD hr.units) (pv 4) aF (cB _))
 (ay (bf (fo (af (a9 bM (a9 bM (a9 bM aC (dr cM rfl T.lR BootT.str (af (pv 3) au))) aC) (dr cM rfl T.lR BootT.str (af (pv 3) au))) (af aC au)))))
 bh)
 (aw (cN (PW.pt (Kj (bR (dD hr.units) (pv 4) aF (cB _)) (EW (nR (eK (pv 2) (λ_=>rfl))))))
 (ay (bf (fo (af (a9 bM (a9 bM (a9 bM aC (dr cM rfl T.lR BootT.str (af (pv 3) au))) aC) (dr cM rfl T.lR BootT.str (af (pv 3) au))) (af aC au)))))
 bh)
 (aw (cN (PW.pt (Kj (bR (dD hr.units) (pv 4) aF (cB _)) (EW (nR (eK (pv 2) (λ_=>rfl))))))
 (ay (bf (fo (af aC (af aC au)))))
 bh)
 (aw (cN (bR (dD hr.units) (pv 1) aF (cB _))
 (ay (bf (fo (af aC (af aC au)))))
 bh)
 (ay (bf (fo (af (a9 bM (a9 bM aC (dr cM rfl T.lR BootT.str (af (a9 Fw (pv 1) aF) au))) aC) (af aC au))))))))))
theorem NX (Fu:iy K "_law_bad" "_law_bad" BV f fd) (T:Txt K mg C A X) {fZ:Sp}(jJ:lV P w K mg base dU 1 "_law_of_count" ["_law_cell"] fZ) {fc:Sp}(jK:lV P w K mg base dU 1 "_law_of_weigh" RK fc) {eU:Sp}(jh:lV P w K mg base dU 2 "_law_of_places" DW eU) {fM:Sp}(kA:lV P w K mg base dU 1 "_law_of_ties" DW fM) {iO:Sp}(oY:lV P w K mg base dU 1 "_law_none" RH iO)
 (len:Ln sp 3) (run:Rn sp (wF K C fZ fc eU fM iO) VP):cI P w K mg base dU 3 f fd DW sp :=
 Fu.oj Gg len run λ_ _ _ _ _ _ hr =>
 aw (eN Gg.nd (a9 iW (a9 iW (a9 ix (a9 ZJ (pv 0) aF) aF) aF) aF))
 (aw (cN (bR JD (pv 3) aF (cB _))
 (ay (bf (fo (af (lE oY hr.m rfl bP (af (a9 i9 (pv 0) aF) (af (a9 iW (a9 i9 (pv 0) aF) (pv 1)) (af (a9 iW (a9 i9 (pv 0) aF) (pv 1)) au)))) (af aC au)))))
 bh)
 (aw (cN (bR (dD hr.units) (pv 3) aF (cB _))
 (ay (bf (lE jJ hr.m rfl bP (af (a9 i9 (pv 0) aF) au))))
 bh)
 (aw (cN (bR (dD hr.units) (pv 3) aF (cB _))
 (ay (bf (lE jK hr.m rfl bP (af (a9 i9 (pv 0) aF) (af (pv 1) au)))))
 bh)
 (aw (cN (bR JD (pv 3) aF (cB _))
 (ay (bf (lE jh hr.m rfl bP (af (a9 i9 (pv 0) aF) (af (pv 1) (af (pv 2) au))))))
 bh)
 (aw (cN (bR JD (pv 3) aF (cB _))
 (ay (bf (lE kA hr.m rfl bP (af (a9 i9 (pv 0) aF) (af (pv 1) (af (pv 2) au))))))
 bh)
 (aw (cN (eK (pv 2) (λ_=>rfl))
 (ay (bf (fo (af aC (af aC au)))))
 bh)
 (ay (bf (fo (af aC (af aC au)))))))))))
theorem aaA (Fu:iy K "law" "law" aay f fd) (T:zD P w K mg C A B Dk X) {cC:Sp}(ji:lV P w K mg base dU 1 "_law_cell_at" F8 cC) {cz:Sp}(gR:HP P w K mg base dU 7 Dk gL cz) {cO:Sp}(ip:iC P w K mg base dU 13 Dk "say" yO cO) {d0:Sp}(rC:lV P w K mg base dU 3 "_law_bad" DW d0) {cK:Sp}(kB:lV P w K mg base dU 14 "_law_refusal" RJ cK)
 (len:Ln sp 1) (run:Rn sp (Qb K C A B Dk cC cz cO d0 cK) aax):cI P w K mg base dU 15 f fd NH sp :=
 Fu.oj yR len run λ_ _ _ _ _ _ hr =>
 aw (eN yR.nd (lE ji hr.m rfl bP (af (pv 0) (af aF au))))
 (aw (eN yR.nd (a9 ix aF (a9 iW (a9 i9 (pv 1) aF) aF)))
 (aw (eN yR.nd (rY (dD hr.units) (a9 iW (pv 1) aF) aF (cB _)))
 (aw (eN yR.nd (UT gR.m gR.G hr.m rfl T.YD gR.b .nil bP))
 (aw (cN (eK (pv 3) (λ_=>rfl))
 (ay (cN (bR (sQ hr.units) (sU ip T.gO hr.m (pv 4) bP (af (a9 bM (a9 bM (a9 bM aC (dr cM rfl T.a.lR BootT.str (af (pv 2) au))) aC) (dr cM rfl T.a.lR BootT.str (af (a9 iW (lE ji hr.m rfl bP (af (pv 0) (af aF au))) (a9 Fx aF aF)) au))) au)) aC (cB _))
 (ay (bf JA))
 bh))
 (ay (cN (PW.pt (YV (bR (sQ hr.units) (sU ip T.gO hr.m (pv 4) bP (af (a9 bM aC (dr cM rfl T.a.lR BootT.str (af (pv 2) au))) au)) aC (cB _)) (UI (bR (sQ hr.units) (sU ip T.gO hr.m (pv 4) bP (af aC au)) aC (cB _)))))
 (ay (bf JA))
 bh)))
 (aw (eN yR.nd (sU ip T.gO hr.m (pv 4) bP (af aC au)))
 (aw (eN yR.nd (sU ip T.gO hr.m (pv 4) bP (af aC au)))
 (aw (zl jO rfl (mn (a9 ix (jI oq (pv 0) (jW aF) (jW aF)) (mi (af (pv 1) au)))) (ia yR.nd)
 (aw (uF (lE rC hr.m rfl bP (af (pv 7) (af (pv 2) (af (pv 3) au)))) (zj rfl (fU (ia yR.nd) (fU (ia yR.nd) xG))))
 (aw (cN (bR (sQ hr.units) (lE kB hr.m rfl bP (af (pv 4) (af (pv 8) au))) (mi (af (pv 9) au)) (cB _))
 (ay (bf JA))
 bh)
 (ay (cN (PW.pt (YV (bR (sQ hr.units) (sU ip T.gO hr.m (pv 4) bP (af aC au)) (pv 5) (cB _)) (UI (bR (sQ hr.units) (sU ip T.gO hr.m (pv 4) bP (af aC au)) (pv 6) (cB _)))))
 (ay (bf JA))
 bh)))))
 (ay (bf (rY (dD hr.units) (pv 5) aC (cB _)))))))))))
theorem Cd (Fu:iy K "__init__" "Wood.__init__" q5 f fd) (T:Txt K mg C A X)
 (len:Ln sp 2) (run:Rn sp (nX K C) lG):cI P w K mg base dU 1 f fd lG sp :=
 Fu.oj DY len run λ_ _ _ _ _ _ hr =>
 aw (ik (pv 0) (pv 1) rfl)
 (ay (ik (pv 0) (r9 ["place"] (ys:=[]) [] rfl (JC rfl T.R5 (af (pv 1) au)) trivial (λ_ _ _=>ia (show (["place"]:List aL).Nodup by decide +kernel)) (λ_ _ _=>lK) (λ_ _ _=>mi (af (pv 0) au))) rfl))
theorem K4 (Fu:iy K "keep" "Wood.keep" zB f fd) (T:Txt K mg C A X)
 (len:Ln sp 2) (run:Rn sp (uX K C) VV):cI P w K mg base dU 1 f fd yO sp :=
 Fu.oj DD len run λ_ _ _ _ _ _ hr =>
 ay (zl jO rfl (mn (pv 1)) (ia DD.nd)
 (ay (uF (pv 1) (zk (cf (pv 0) rfl) (pv 2) (FK hr.units)))))
theorem K5 (Fu:iy K "link" "Wood.link" zC f fd) (T:Txt K mg C A X) {cJ:Sp}(fh:lV P w K mg base dU 5 "refuse_no_pair" oU cJ) {cU:Sp}(gu:iC P w K mg base dU 5 C "joined" eB cU) {iP:Sp}(oZ:iC P w K mg base dU 1 C "keep" yO iP) {km:Sp}(t8:lV P w K mg base dU 2 "spliced" RI km)
 (len:Ln sp 3) (run:Rn sp (uY K C cJ cU iP km) eB):cI P w K mg base dU 6 f fd eB sp :=
 Fu.oj NN len run λ_ _ _ _ _ _ hr =>
 aw (dS (lE fh hr.m rfl bP (af (cf (pv 0) rfl) (af (pv 1) (af (pv 2) au)))))
 (aw (cN (eK (sU gu T.oN hr.m (pv 0) bP (af (pv 1) (af (pv 2) au))) (λ_=>rfl))
 (ay d7)
 bh)
 (ay (dS (sU oZ T.oN hr.m (pv 0) bP (af (lE t8 hr.m rfl bP (af (de (fb hr.units) (cf (pv 0) rfl) (pv 1) (λ_ _=>rfl)) (af (de (fb hr.units) (cf (pv 0) rfl) (pv 2) (λ_ _=>rfl)) (af (pv 1) (af (pv 2) au))))) au)))))
theorem Gp (Fu:iy K "joined" "Wood.joined" qx f fd) (T:Txt K mg C A X) {cc:Sp}(eF:lV P w K mg base dU 4 "refuse_no_places" oU cc)
 (len:Ln sp 3) (run:Rn sp (rm K C cc) eB):cI P w K mg base dU 5 f fd eB sp :=
 Fu.oj yS len run λ_ _ _ _ _ _ hr =>
 aw (dS (lE eF hr.m rfl bP (af (cf (pv 0) rfl) (af (pv 1) (af (pv 2) au)))))
 (ay (bf (rY (dD hr.units) (de (fb hr.units) (de (fb hr.units) (cf (pv 0) rfl) (pv 1) (λ_ _=>rfl)) aF (λ_ _=>rfl)) (de (fb hr.units) (de (fb hr.units) (cf (pv 0) rfl) (pv 2) (λ_ _=>rfl)) aF (λ_ _=>rfl)) (cB _))))
theorem rD (Fu:iy K "__init__" "Levels.__init__" nU f fd) (T:Txt K mg C A X) {dX:Sp}(fQ:HP P w K mg base dU 1 C lG dX) {mq:Sp}(Aw:lV P w K mg base dU 1 "top" ["n"] mq)
 (len:Ln sp 2) (run:Rn sp (mv K C A dX mq) lG):cI P w K mg base dU 3 f fd lG sp :=
 Fu.oj Au len run λ_ _ _ _ _ _ hr =>
 aw (ik (pv 0) vX rfl)
 (aw (ik (pv 0) vX rfl)
 (aw (ik (pv 0) vX rfl)
 (ay (ik (pv 0) (r9 ["level"] (ys:=["n"]) [1] rfl (JC rfl T.R5 (af (a9 ix (lE Aw hr.m rfl bP (af (pv 1) au)) aF) au)) ⟨rfl,.inl rfl,rfl,trivial⟩ (λ_ _ _=>ia (show (["level","n"]:List aL).Nodup by decide +kernel)) (λ_ _ _=>lK) (λ_ _ _=>rZ fQ.m fQ.G hr.m rfl T.YE fQ.b .nil bP (af (pv 1) au))) rfl))))
theorem yV (Fu:iy K "add" "Levels.add" wu f fd) (T:Txt K mg C A X) {cU:Sp}(gu:iC P w K mg base dU 5 C "joined" eB cU) {eG:Sp}(rE:iC P w K mg base dU 7 A.ck "adopt" wo eG)
 (len:Ln sp 3) (run:Rn sp (tq K C A cU eG) vH):cI P w K mg base dU 8 f fd vH sp :=
 Fu.oj KR len run λ_ _ _ _ _ _ hr =>
 aw (uF aF (zk (cf (pv 0) rfl) (pv 1) (FK hr.units)))
 (aw (uF JA (zk (cf (pv 0) rfl) (pv 1) (FK hr.units)))
 (aw (uF (pv 2) (zk (cf (pv 0) rfl) (pv 1) (FK hr.units)))
 (aw (cN (nR (eK (sU gu T.oN hr.m (de (fb hr.units) (cf (pv 0) rfl) aF (λ_ _=>rfl)) bP (af (de (fb hr.units) (pv 1) aF (λ_ _=>rfl)) (af (de (fb hr.units) (pv 1) aF (λ_ _=>rfl)) au))) (λ_=>rfl)))
 (ay (dS (sU rE T.uu hr.m (pv 0) bP (af (pv 1) au))))
 bh)
 (ay (bf (de (fb hr.units) (cf (pv 0) rfl) (pv 1) (λ_ _=>rfl)))))))
theorem vi (Fu:iy K "adopt" "Levels.adopt" tj f fd) (T:Txt K mg C A X) {gh:Sp}(mI:iC P w K mg base dU 6 C "link" eB gh)
 (len:Ln sp 2) (run:Rn sp (pS K C A gh) VW):cI P w K mg base dU 7 f fd wo sp :=
 Fu.oj wz len run λ_ _ _ _ _ _ hr =>
 aw (uF JA (zk (cf (pv 0) rfl) (pv 1) (FK hr.units)))
 (ay (zl jO rfl (mn (jI oq (cf (pv 0) rfl) oo (jW (a9 ix (de (fb hr.units) (cf (pv 0) rfl) (pv 1) (λ_ _=>rfl)) aF)))) (ia wz.nd)
 (ay (dS (sU mI T.oN hr.m (pv 2) bP (af (de (fb hr.units) (pv 1) aF (λ_ _=>rfl)) (af (de (fb hr.units) (pv 1) aF (λ_ _=>rfl)) au)))))))
theorem wK (Fu:iy K "told" "Levels.told" uN f fd) (T:Txt K mg C A X)
 (len:Ln sp 2) (run:Rn sp (rn K C A) wo):cI P w K mg base dU 1 f fd wo sp :=
 Fu.oj HU len run λ_ _ _ _ _ _ hr =>
 ay (bf (fo (af (de (fb hr.units) (pv 1) aF (λ_ _=>rfl)) (af (de (fb hr.units) (pv 1) aF (λ_ _=>rfl)) (af (de (fb hr.units) (cf (pv 0) rfl) (pv 1) (λ_ _=>rfl)) (af (de (fb hr.units) (cf (pv 0) rfl) (pv 1) (λ_ _=>rfl)) au))))))
theorem t9 (Fu:iy K "__init__" "Kept.__init__" kj f fd) (T:Txt K mg C A X) {br:Sp}(ee:HP P w K mg base dU 3 A.ck lG br) {cX:Sp}(iZ:lV P w K mg base dU 2 "is_count" qg cX)
 (len:Ln sp 2) (run:Rn sp (nY K C A br cX) lG):cI P w K mg base dU 5 f fd lG sp :=
 Fu.oj vh len run λ_ _ _ _ _ _ hr =>
 aw (cN (nR (eK (lE iZ hr.m rfl bP (af (pv 1) au)) (λ_=>rfl)))
 (ay d7)
 bh)
 (aw (ik (pv 0) (pv 1) rfl)
 (aw (ik (pv 0) (rZ ee.m ee.G hr.m rfl T.Kc ee.b .nil bP (af (pv 1) au)) rfl)
 (aw (ik (pv 0) (de (fb hr.units) (cf (cf (pv 0) rfl) rfl) aF (λ_ _=>rfl)) rfl)
 (aw (ik (pv 0) aF rfl)
 (aw (ik (pv 0) aF rfl)
 (aw (ik (pv 0) aF rfl)
 (ay (ik (pv 0) aF rfl))))))))
theorem vj (Fu:iy K "receive" "Kept.receive" ou f fd) (T:Txt K mg C A X) {ic:Sp}(u2:iC P w K mg base dU 8 A.ck "add" vH ic)
 (len:Ln sp 3) (run:Rn sp (pT K C A ic) vH):cI P w K mg base dU 9 f fd vH sp :=
 Fu.oj Gh len run λ_ _ _ _ _ _ hr =>
 aw (Sz (pv 0) aF ZL)
 (ay (bf (sU u2 T.uu hr.m (cf (pv 0) rfl) bP (af (pv 1) (af (pv 2) au)))))
theorem AA (Fu:iy K "ties" "Kept.ties" uO f fd) (T:Txt K mg C A X) {gC:Sp}(tD:iC P w K mg base dU 1 A.ck "told" wo gC)
 (len:Ln sp 1) (run:Rn sp (uZ K C A gC) gL):cI P w K mg base dU 2 f fd gL sp :=
 Fu.oj NO len run λ_ _ _ _ _ _ hr =>
 ay (bf (d8 KG rfl T.OO BootT.U5 (af (r9 ["tie"] (ys:=gL) [0] rfl (abT (cf (cf (pv 0) rfl) rfl)) ⟨rfl,.inl rfl,rfl,trivial⟩ (λ_ _ _=>ia (show (["tie","self"]:List aL).Nodup by decide +kernel)) (λ_ _ _=>lK) (λ_ _ _=>sU tD T.uu hr.m (cf (pv 1) rfl) bP (af (pv 0) au))) au)))
theorem vk (Fu:iy K "account" "Kept.account" ow f fd) (T:Txt K mg C A X) {mH:Sp}(ua:lV P w K mg base dU 2 "credit" Ga mH) {fz:Sp}(NY:iC P w K mg base dU 2 A.Own "ties" gL fz)
 (len:Ln sp 1) (run:Rn sp (pU K C A mH fz) gL):cI P w K mg base dU 3 f fd gL sp :=
 Fu.oj Gi len run λ_ _ _ _ _ _ hr =>
 ay (bf (fo (af (cf (pv 0) rfl) (af (cf (pv 0) rfl) (af (cf (pv 0) rfl) (af (cf (pv 0) rfl) (af (lE ua hr.m rfl bP (af (cf (pv 0) rfl) (af (SX NY T.i3 hr.m (pv 0) bP) au))) au)))))))
theorem HZ (Fu:iy K "put" "Keeper.put" sk f fd) (T:Txt K mg C A X) {aR:Sp}(iq:iC P w K mg base dU 9 A.Own "receive" vH aR) {dN:Sp}(mJ:lV P w K mg base dU 6 "new_tie" DX dN)
 (len:Ln sp 3) (run:Rn sp (tu K C A aR dN) eB):cI P w K mg base dU 10 f fd eB sp :=
 Fu.oj Av len run λ_ _ _ _ _ _ hr =>
 ay (bf (sU iq T.i3 hr.m (pv 0) bP (af (lE mJ hr.m rfl bP (af (cf (pv 0) rfl) (af (cf (cf (pv 0) rfl) rfl) (af (pv 1) (af (pv 2) au))))) (af aF au))))
theorem wL (Fu:iy K "__init__" "Lightest.__init__" jB f fd) (T:Txt K mg C A X) {cg:Sp}(D8:Ta P w K mg base dU 5 A.Kept "__init__" lG cg) {cS:Sp}(kC:lV P w K mg base dU 1 "in_order" DA cS) {dN:Sp}(mJ:lV P w K mg base dU 6 "new_tie" DX dN) {aR:Sp}(iq:iC P w K mg base dU 9 A.Own "receive" vH aR)
 (len:Ln sp 3) (run:Rn sp (ko K C A cg cS dN aR) VI):cI P w K mg base dU 10 f fd J3 sp :=
 Fu.oj cb len run λ_ _ _ _ _ _ hr =>
 aw (dS (pcb D8 hr.m (iw rfl T.RZ rfl) bP (af (pv 0) (af (pv 1) au))))
 (aw (eN cb.nd vX)
 (aw (zl jO rfl (mn (pv 2)) (zj rfl (fU (ia cb.nd) (fU (ia cb.nd) (fU (ia cb.nd) xG))))
 (aw (eN cb.nd (lE mJ hr.m rfl bP (af (pv 1) (af (pv 3) (af (pv 4) (af (pv 5) au))))))
 (ay (uF (pv 6) (zk (pv 3) (pv 7) (FK hr.units))))))
 (ay (zl jO rfl (mn (lE kC hr.m rfl bP (af (pv 3) (af (pv 3) au)))) (ia cb.nd)
 (ay (dS (sU iq T.i3 hr.m (pv 0) bP (af (pv 7) (af (de (fb hr.units) (pv 3) (pv 7) (λ_ _=>rfl)) au)))))))))
theorem Ce (Fu:iy K "__init__" "Desk.__init__" rf f fd) (T:zD P w K mg C A B Dk X) {sp_Kept___init___a:Sp}(cZ:HP P w K mg base dU 5 A.Own lG sp_Kept___init___a)
 (len:Ln sp 1) (run:Rn sp (nZ K C A B Dk sp_Kept___init___a) gL):cI P w K mg base dU 7 f fd gL sp :=
 Fu.oj DZ len run λ_ _ _ _ _ _ hr =>
 ay (ik (pv 0) (rZ cZ.m cZ.G hr.m rfl T.Dg cZ.b .nil bP (af aF au)) rfl)
theorem NZ (Fu:iy K "say" "Desk.say" xK f fd) (T:zD P w K mg C A B Dk X) {gE:Sp}(lO:iC P w K mg base dU 12 Dk "answer" wk gE) {bJ:Sp}(eg:iC P w K mg base dU 1 Dk "begin" yN bJ) {fN:Sp}(kD:iC P w K mg base dU 12 Dk "weighed" wm fN) {cj:Sp}(gG:lV P w K mg base dU 3 "number_of" gg cj)
 (len:Ln sp 2) (run:Rn sp (oV K C A B Dk gE bJ fN cj) J4):cI P w K mg base dU 13 f fd yO sp :=
 Fu.oj uR len run λ_ _ _ _ _ _ hr =>
 aw (eN uR.nd (mP fI O5 O6 Nu (pv 1) (af aC au)))
 (aw (cN (PW.pt (Kj (bR (dD hr.units) (de (fb hr.units) (pv 2) aF (λ_ _=>rfl)) aC (cB _)) (EW (bR YY (d8 qO rfl T.a.DM BootT.len (af (pv 2) au)) aF (cB _)))))
 (ay (bf (sU eg T.gO hr.m (pv 0) bP (af (sU kD T.gO hr.m (pv 0) bP (af (pv 2) au)) au))))
 bh)
 (aw (cN (bR (sQ hr.units) (Ry T.nums.choose_spec.2 (iw rfl T.nums.choose_spec.1 rfl) (af (de (fb hr.units) (pv 2) aF (λ_ _=>rfl)) au)) (a9 Fw (d8 qO rfl T.a.DM BootT.len (af (pv 2) au)) aF) (cB _))
 (ay d7)
 bh)
 (ay (bf (sU lO T.gO hr.m (pv 0) bP (af (de (fb hr.units) (pv 2) aF (λ_ _=>rfl)) (af (r9 gg (ys:=[]) [] rfl (mn (jI oq (pv 2) (jW aF) oo)) trivial (λ_ _ _=>ia (show (gg:List aL).Nodup by decide +kernel)) (λ_ _ _=>lK) (λ_ _ _=>lE gG hr.m rfl bP (af (pv 0) au))) au)))))))
theorem D9 (Fu:iy K "weighed" "Desk.weighed" oz f fd) (T:zD P w K mg C A B Dk X) {sp_Lightest___init___b:Sp}(fW:HP P w K mg base dU 10 B.Own J3 sp_Lightest___init___b) {cj:Sp}(gG:lV P w K mg base dU 3 "number_of" gg cj) {gj:Sp}(mZ:lV P w K mg base dU 4 "weighed_of" gg gj)
 (len:Ln sp 2) (run:Rn sp (pV K C A B Dk sp_Lightest___init___b cj gj) wm):cI P w K mg base dU 12 f fd wm sp :=
 Fu.oj wA len run λ_ _ _ _ _ _ hr =>
 ay (bf (rZ fW.m fW.G hr.m rfl T.pj fW.b .nil bP (af (lE gG hr.m rfl bP (af (de (fb hr.units) (pv 1) aF (λ_ _=>rfl)) au)) (af (r9 gg (ys:=[]) [] rfl (mn (jI oq (pv 1) (jW aF) oo)) trivial (λ_ _ _=>ia (show (gg:List aL).Nodup by decide +kernel)) (λ_ _ _=>lK) (λ_ _ _=>lE mZ hr.m rfl bP (af (pv 0) au))) au))))
theorem Ia (Fu:iy K "begin" "Desk.begin" wx f fd) (T:zD P w K mg C A B Dk X)
 (len:Ln sp 2) (run:Rn sp (tw K C A B Dk) yN):cI P w K mg base dU 1 f fd yN sp :=
 Fu.oj KU len run λ_ _ _ _ _ _ hr =>
 aw (ik (pv 0) (pv 1) rfl)
 (ay (bf aC))
theorem Gq (Fu:iy K "answer" "Desk.answer" qy f fd) (T:zD P w K mg C A B Dk X) {fO:Sp}(kE:lV P w K mg base dU 2 "numbers_text" Gb fO) {bJ:Sp}(eg:iC P w K mg base dU 1 Dk "begin" yN bJ) {jw:Sp}(rF:iC P w K mg base dU 11 Dk "put" eB jw) {iQ:Sp}(pb:lV P w K mg base dU 3 "ties_text" ["ties"] iQ) {sp_Kept_account_a:Sp}(jj:iC P w K mg base dU 3 A.Own "account" gL sp_Kept_account_a) {sp_Kept_account_b:Sp}(jk:iC P w K mg base dU 3 B.Own "account" gL sp_Kept_account_b) {sp_Kept___init___a:Sp}(cZ:HP P w K mg base dU 5 A.Own lG sp_Kept___init___a) {sp_Kept_ties_a:Sp}(jQ:iC P w K mg base dU 2 A.Own "ties" gL sp_Kept_ties_a) {sp_Kept_ties_b:Sp}(jR:iC P w K mg base dU 2 B.Own "ties" gL sp_Kept_ties_b)
 (len:Ln sp 3) (run:Rn sp (rA K C A B Dk fO bJ jw iQ sp_Kept_account_a sp_Kept_account_b sp_Kept___init___a sp_Kept_ties_a sp_Kept_ties_b) wk):cI P w K mg base dU 12 f fd wk sp :=
 Fu.oj yT len run λ_ _ _ _ _ _ hr =>
 aw (cN (bR (dD hr.units) (pv 1) aC (cB _))
 (ay (bf (sU eg T.gO hr.m (pv 0) bP (af (rZ cZ.m cZ.G hr.m rfl T.Dg cZ.b .nil bP (af (de (fb hr.units) (pv 2) aF (λ_ _=>rfl)) au)) au))))
 bh)
 (aw (cN (bR (dD hr.units) (pv 1) aC (cB _))
 (ay (bf (sU rF T.gO hr.m (pv 0) bP (af (de (fb hr.units) (pv 2) aF (λ_ _=>rfl)) (af (de (fb hr.units) (pv 2) aF (λ_ _=>rfl)) au)))))
 bh)
 (aw (cN (bR (dD hr.units) (pv 1) aC (cB _))
 (ay d7)
 bh)
 (aw (cN (bR (dD hr.units) (pv 1) aC (cB _))
 (ay d7)
 bh)
 (aw (cN (bR (dD hr.units) (pv 1) aC (cB _))
 (ay d7)
 bh)
 (aw (cN (bR (dD hr.units) (pv 1) aC (cB _))
 (ay d7)
 bh)
 (aw (cN (bR (dD hr.units) (pv 1) aC (cB _))
 (ay (bf (lE pb hr.m rfl bP (af (BI (SX jQ T.a.i3 hr.m (cf (pv 0) rfl) bP) (SX jR T.b.i3 hr.m (cf (pv 0) rfl) bP)) au))))
 bh)
 (aw (cN (bR (dD hr.units) (pv 1) aC (cB _))
 (ay d7)
 bh)
 (ay (bf (lE kE hr.m rfl bP (af (BI (SX jj T.a.i3 hr.m (cf (pv 0) rfl) bP) (SX jk T.b.i3 hr.m (cf (pv 0) rfl) bP)) au)))))))))))
theorem N0 (Fu:iy K "put" "Desk.put" xM f fd) (T:zD P w K mg C A B Dk X) {sp_Keeper_put_a:Sp}(rG:iC P w K mg base dU 10 A.Own "put" eB sp_Keeper_put_a)
 (len:Ln sp 3) (run:Rn sp (wI K C A B Dk sp_Keeper_put_a) eB):cI P w K mg base dU 11 f fd eB sp :=
 Fu.oj Gj len run λ_ _ _ _ _ _ hr =>
 aw (cN (eK (d8 BH rfl T.a.en BootT.fw (af (cf (pv 0) rfl) (af (iw rfl T.pj rfl) au))) (λ_=>rfl))
 (ay d7)
 bh)
 (ay (bf (qS (eK (sU rG T.a.i3 hr.m (cf (pv 0) rfl) bP (af (pv 1) (af (pv 2) au))) (λ_=>rfl)) aC aC)))
theorem wM (Fu:iy K "refuse_no_place" "refuse_no_place" kU f fd) (T:Txt K mg C A X) {eE:Sp}(kx:lV P w K mg base dU 2 "is_place" mE eE)
 (len:Ln sp 2) (run:Rx sp (λE=>gF K C X E eE) mE):cI P w K mg base (kd P w) 3 f fd mE sp :=
 Fu.Hx sq len λi4 A0 outer s H vs Q E hr h=>⟨gF K C X E eE,
 ay (cN (nR (eK (lE kx hr.m rfl bP (af (pv 0) (af (pv 1) au))) (λ_=>rfl)))
 (ay (lM rfl rfl ⟨T.Kb,T.kM.ex⟩ h9))
 bh),run vs H Q E h⟩
theorem vI (Fu:iy K "refuse_no_places" "refuse_no_places" jY f fd) (T:Txt K mg C A X) {bA:Sp}(eR:lV P w K mg base (kd P w) 3 "refuse_no_place" mE bA)
 (len:Ln sp 3) (run:Rx sp (λE=>fV K C E bA) oU):cI P w K mg base (kd P w) 4 f fd oU sp :=
 Fu.Hx rg len λi4 A0 outer s H vs Q E hr h=>⟨fV K C E bA,
 aw (dS (lE eR hr.m rfl gK (af (pv 0) (af (pv 1) au))))
 (ay (dS (lE eR hr.m rfl gK (af (pv 0) (af (pv 2) au))))),run vs H Q E h⟩
theorem ym (Fu:iy K "refuse_no_pair" "refuse_no_pair" lW f fd) (T:Txt K mg C A X) {bB:Sp}(fi:lV P w K mg base (kd P w) 4 "refuse_no_places" oU bB)
 (len:Ln sp 3) (run:Rx sp (λE=>fG K C X E bB) oU):cI P w K mg base (kd P w) 5 f fd oU sp :=
 Fu.Hx t7 len λi4 A0 outer s H vs Q E hr h=>⟨fG K C X E bB,
 aw (dS (lE fi hr.m rfl gK (af (pv 0) (af (pv 1) (af (pv 2) au)))))
 (ay (cN (bR (dD hr.units) (pv 1) (pv 2) (cB _))
 (ay (lM rfl rfl ⟨T.R6,T.pw.ex⟩ h9))
 bh)),run vs H Q E h⟩
theorem Cg (Fu:iy K "joined" "Wood.joined" qx f fd) (T:Txt K mg C A X) {bB:Sp}(fi:lV P w K mg base (kd P w) 4 "refuse_no_places" oU bB)
 (len:Ln sp 3) (run:Rx sp (λE=>kY K C E bB) eB):cI P w K mg base (kd P w) 5 f fd eB sp :=
 Fu.Hx yS len λi4 A0 outer s H vs Q E hr h=>⟨kY K C E bB,
 aw (dS (lE fi hr.m rfl gK (af (cf (pv 0) rfl) (af (pv 1) (af (pv 2) au)))))
 (ay d7),run vs H Q E h⟩
theorem Ib (Fu:iy K "way" "Wood.way" BW f fd) (T:Txt K mg C A X) {cA:Sp}(gS:iC P w K mg base (kd P w) 5 C "joined" eB cA)
 (len:Ln sp 3) (run:Rx sp (λE=>oB K C E cA) eB):cI P w K mg base (kd P w) 6 f fd eB sp :=
 Fu.Hx P8 len λi4 A0 outer s H vs Q E hr h=>⟨oB K C E cA,
 ay (bf (qS (eK (sU gS T.oN hr.m (pv 0) gK (af (pv 1) (af (pv 2) au))) (λ_=>rfl)) Vx ZD)),run vs H Q E h⟩
theorem Ea (Fu:iy K "group" "Wood.group" wy f fd) (T:Txt K mg C A X) {bA:Sp}(eR:lV P w K mg base (kd P w) 3 "refuse_no_place" mE bA)
 (len:Ln sp 2) (run:Rx sp (λE=>lX K C E bA) qe):cI P w K mg base (kd P w) 4 f fd qe sp :=
 Fu.Hx KW len λi4 A0 outer s H vs Q E hr h=>⟨lX K C E bA,
 aw (dS (lE eR hr.m rfl gK (af (cf (pv 0) rfl) (af (pv 1) au))))
 (ay d7),run vs H Q E h⟩
theorem K6 (Fu:iy K "new_tie" "new_tie" Aq f fd) (T:Txt K mg C A X) {bL:Sp}(f9:lV P w K mg base (kd P w) 5 "refuse_no_pair" oU bL) {dH:Sp}(ky:lV P w K mg base dU 1 "tie_of" qf dH)
 (len:Ln sp 4) (run:Rx sp (λE=>qA K C X E bL dH) Dz):cI P w K mg base (kd P w) 6 f fd DX sp :=
 Fu.Hx xP len λi4 A0 outer s H vs Q E hr h=>⟨qA K C X E bL dH,
 aw (dS (lE f9 hr.m rfl gK (af (pv 0) (af (pv 2) (af (pv 3) au)))))
 (aw (eN xP.nd (lE ky hr.m rfl bP (af (pv 2) (af (pv 3) au))))
 (aw (cN (bR (U1 hr.units) (pv 4) (pv 1) (by with_unfolding_all rfl))
 (ay (lM rfl rfl ⟨T.WQ,T.sM.ex⟩ h9))
 bh)
 (ay (bf (pv 4))))),run vs H Q E h⟩
theorem AB (Fu:iy K "standing_tie" "standing_tie" tm f fd) (T:Txt K mg C A X) {bL:Sp}(f9:lV P w K mg base (kd P w) 5 "refuse_no_pair" oU bL) {dH:Sp}(ky:lV P w K mg base dU 1 "tie_of" qf dH)
 (len:Ln sp 4) (run:Rx sp (λE=>jZ K C X E bL dH) Dz):cI P w K mg base (kd P w) 6 f fd DX sp :=
 Fu.Hx wB len λi4 A0 outer s H vs Q E hr h=>⟨jZ K C X E bL dH,
 aw (dS (lE f9 hr.m rfl gK (af (pv 0) (af (pv 2) (af (pv 3) au)))))
 (aw (eN wB.nd (lE ky hr.m rfl bP (af (pv 2) (af (pv 3) au))))
 (aw (cN (bR (SI hr.units) (pv 4) (pv 1) (by with_unfolding_all rfl))
 (ay (lM rfl rfl ⟨T.RX,T.pq.ex⟩ h9))
 bh)
 (ay (bf (pv 4))))),run vs H Q E h⟩
theorem rH (Fu:iy K "__init__" "Kept.__init__" kj f fd) (T:Txt K mg C A X) {br:Sp}(ee:HP P w K mg base dU 3 A.ck lG br) {cX:Sp}(iZ:lV P w K mg base dU 2 "is_count" qg cX)
 (len:Ln sp 2) (run:Rx sp (λE=>jC K C A X E br cX) lG):cI P w K mg base (kd P w) 5 f fd lG sp :=
 Fu.Hx vh len λi4 A0 outer s H vs Q E hr h=>⟨jC K C A X E br cX,
 aw (cN (nR (eK (lE iZ hr.m rfl bP (af (pv 1) au)) (λ_=>rfl)))
 (ay (lM rfl rfl ⟨T.Kd,T.kK.ex⟩ h9))
 bh)
 (aw (ik (pv 0) (pv 1) rfl)
 (aw (ik (pv 0) (rZ ee.m ee.G hr.m rfl T.Kc ee.b .nil bP (af (pv 1) au)) rfl)
 (aw (ik (pv 0) (de (fb hr.units) (cf (cf (pv 0) rfl) rfl) aF (λ_ _=>rfl)) rfl)
 (aw (ik (pv 0) aF rfl)
 (aw (ik (pv 0) aF rfl)
 (aw (ik (pv 0) aF rfl)
 (ay (ik (pv 0) aF rfl)))))))),run vs H Q E h⟩
theorem yW (Fu:iy K "out" "Kept.out" xN f fd) (T:Txt K mg C A X) {eV:Sp}(ll:lV P w K mg base (kd P w) 6 "standing_tie" DX eV)
 (len:Ln sp 3) (run:Rx sp (λE=>oC K C A E eV) VQ):cI P w K mg base (kd P w) 7 f fd eB sp :=
 Fu.Hx Gk len λi4 A0 outer s H vs Q E hr h=>⟨oC K C A E eV,
 aw (eN Gk.nd (lE ll hr.m rfl gK (af (cf (pv 0) rfl) (af (cf (cf (pv 0) rfl) rfl) (af (pv 1) (af (pv 2) au))))))
 (aw d7
 (aw d7
 (aw d7
 (aw d7
 (ay d7))))),run vs H Q E h⟩
theorem ub (Fu:iy K "joined" "Kept.joined" qz f fd) (T:Txt K mg C A X) {cA:Sp}(gS:iC P w K mg base (kd P w) 5 C "joined" eB cA)
 (len:Ln sp 3) (run:Rx sp (λE=>kZ K C A E cA) eB):cI P w K mg base (kd P w) 6 f fd eB sp :=
 Fu.Hx HV len λi4 A0 outer s H vs Q E hr h=>⟨kZ K C A E cA,
 ay (bf (sU gS T.oN hr.m (cf (pv 0) rfl) gK (af (pv 1) (af (pv 2) au)))),run vs H Q E h⟩
theorem yX (Fu:iy K "way" "Kept.way" xO f fd) (T:Txt K mg C A X) {gn:Sp}(qB:iC P w K mg base (kd P w) 6 C "way" eB gn)
 (len:Ln sp 3) (run:Rx sp (λE=>oE K C A E gn) eB):cI P w K mg base (kd P w) 7 f fd eB sp :=
 Fu.Hx P9 len λi4 A0 outer s H vs Q E hr h=>⟨oE K C A E gn,
 ay (bf (sU qB T.oN hr.m (cf (pv 0) rfl) gK (af (pv 1) (af (pv 2) au)))),run vs H Q E h⟩
theorem wO (Fu:iy K "side" "Kept.side" uP f fd) (T:Txt K mg C A X) {fP:Sp}(m5:iC P w K mg base (kd P w) 4 C "group" qe fP)
 (len:Ln sp 2) (run:Rx sp (λE=>mX K C A E fP) qe):cI P w K mg base (kd P w) 5 f fd qe sp :=
 Fu.Hx NP len λi4 A0 outer s H vs Q E hr h=>⟨mX K C A E fP,
 ay (bf (sU m5 T.oN hr.m (cf (pv 0) rfl) gK (af (pv 1) au))),run vs H Q E h⟩
theorem u3 (Fu:iy K "__init__" "Lightest.__init__" jB f fd) (T:Txt K mg C A X) {sp_Kept___init___o:Sp}(AC:Ta P w K mg base (kd P w) 5 A.Kept "__init__" lG sp_Kept___init___o) {cS:Sp}(kC:lV P w K mg base dU 1 "in_order" DA cS) {sp_new_tie_o:Sp}(wQ:lV P w K mg base (kd P w) 6 "new_tie" DX sp_new_tie_o) {aR:Sp}(iq:iC P w K mg base dU 9 A.Own "receive" vH aR)
 (len:Ln sp 3) (run:Rx sp (λE=>hJ K C A E sp_Kept___init___o cS sp_new_tie_o aR) VI):cI P w K mg base (kd P w) 10 f fd J3 sp :=
 Fu.Hx cb len λi4 A0 outer s H vs Q E hr h=>⟨hJ K C A E sp_Kept___init___o cS sp_new_tie_o aR,
 aw (dS (pcb AC hr.m (iw rfl T.RZ rfl) gK (af (pv 0) (af (pv 1) au))))
 (aw (eN cb.nd vX)
 (aw (zl PassesOwn.leaving rfl (mn (pv 2)) (zj rfl (fU (ia cb.nd) (fU (ia cb.nd) (fU (ia cb.nd) xG))))
 (aw (eN cb.nd (lE wQ hr.m rfl gK (af (pv 1) (af (pv 3) (af (pv 4) (af (pv 5) au))))))
 (ay (uF (pv 6) (zk (pv 3) (pv 7) (FK hr.units))))))
 (ay (PS.WK (zl jO rfl (mn (lE kC hr.m rfl bP (af (pv 3) (af (pv 3) au)))) (ia cb.nd)
 (ay (dS (sU iq T.i3 hr.m (pv 0) bP (af (pv 7) (af (de (fb hr.units) (pv 3) (pv 7) (λ_ _=>rfl)) au)))))))))),run vs H Q E h⟩
theorem Eb (Fu:iy K "put" "Keeper.put" sk f fd) (T:Txt K mg C A X) {aR:Sp}(iq:iC P w K mg base dU 9 A.Own "receive" vH aR) {hU:Sp}(wR:lV P w K mg base (kd P w) 6 "new_tie" DX hU)
 (len:Ln sp 3) (run:Rx sp (λE=>lY K C A E aR hU) eB):cI P w K mg base (kd P w) 10 f fd eB sp :=
 Fu.Hx Av len λi4 A0 outer s H vs Q E hr h=>⟨lY K C A E aR hU,
 ay (bf (sU iq T.i3 hr.m (pv 0) bP (af (lE wR hr.m rfl gK (af (cf (pv 0) rfl) (af (cf (cf (pv 0) rfl) rfl) (af (pv 1) (af (pv 2) au))))) (af aF au)))),run vs H Q E h⟩
theorem Ci (Fu:iy K "unsigned_of" "unsigned_of" qw f fd) (T:Txt K mg C A X) {bQ:Sp}(eI:lV P w K mg base dU 1 "is_unsigned" gg bQ)
 (len:Ln sp 1) (run:Rx sp (λE=>lg K C X E bQ) gg):cI P w K mg base (kd P w) 2 f fd gg sp :=
 Fu.Hx yQ len λi4 A0 outer s H vs Q E hr h=>⟨lg K C X E bQ,
 aw (cN (nR (eK (lE eI hr.m rfl bP (af (pv 0) au)) (λ_=>rfl)))
 (ay (lM rfl rfl ⟨T.Bo,T.kH.ex⟩ h9))
 bh)
 (ay (bf (dr xI rfl T.OR BootT.int (af (pv 0) au)))),run vs H Q E h⟩
theorem Gr (Fu:iy K "number_of" "number_of" uM f fd) (T:Txt K mg C A X) {dM:Sp}(jx:lV P w K mg base dU 2 "is_number" gg dM)
 (len:Ln sp 1) (run:Rx sp (λE=>mY K C X E dM) gg):cI P w K mg base (kd P w) 3 f fd gg sp :=
 Fu.Hx DC len λi4 A0 outer s H vs Q E hr h=>⟨mY K C X E dM,
 aw (cN (nR (eK (lE jx hr.m rfl bP (af (pv 0) au)) (λ_=>rfl)))
 (ay (lM rfl rfl ⟨T.Bo,T.kH.ex⟩ h9))
 bh)
 (ay (bf (dr xI rfl T.OR BootT.int (af (pv 0) au)))),run vs H Q E h⟩
theorem Ec (Fu:iy K "weighed_of" "weighed_of" sj f fd) (T:Txt K mg C A X) {sp_unsigned_of_o:Sp}(lZ:lV P w K mg base (kd P w) 2 "unsigned_of" gg sp_unsigned_of_o) {sp_number_of_o:Sp}(gw:lV P w K mg base (kd P w) 3 "number_of" gg sp_number_of_o)
 (len:Ln sp 1) (run:Rx sp (λE=>iH K C E sp_unsigned_of_o sp_number_of_o) J2):cI P w K mg base (kd P w) 4 f fd gg sp :=
 Fu.Hx kW len λi4 A0 outer s H vs Q E hr h=>⟨iH K C E sp_unsigned_of_o sp_number_of_o,
 aw (eN kW.nd (mP fI lA lB qu (pv 0) (af aC au)))
 (aw (eN kW.nd (mP fI lA lB qu (de (fb hr.units) (pv 1) aF (λ_ _=>rfl)) (af aC au)))
 (ay (bf (fo (af (lE lZ hr.m rfl gK (af (de (fb hr.units) (pv 1) aF (λ_ _=>rfl)) au)) (af (lE lZ hr.m rfl gK (af (de (fb hr.units) (pv 2) aF (λ_ _=>rfl)) au)) (af (lE gw hr.m rfl gK (af (de (fb hr.units) (pv 2) aF (λ_ _=>rfl)) au)) au))))))),run vs H Q E h⟩
theorem Ic (Fu:iy K "say" "Desk.say" xK f fd) (T:zD P w K mg C A B Dk X) {fe:Sp}(pW:iC P w K mg base (kd P w) 12 Dk "answer" wk fe) {bJ:Sp}(eg:iC P w K mg base dU 1 Dk "begin" yN bJ) {eW:Sp}(oa:iC P w K mg base (kd P w) 12 Dk "weighed" wm eW) {sp_number_of_o:Sp}(gw:lV P w K mg base (kd P w) 3 "number_of" gg sp_number_of_o)
 (len:Ln sp 2) (run:Rx sp (λE=>oF K C A B Dk X E fe bJ eW sp_number_of_o) J4):cI P w K mg base (kd P w) 13 f fd yO sp :=
 Fu.Hx uR len λi4 A0 outer s H vs Q E hr h=>⟨oF K C A B Dk X E fe bJ eW sp_number_of_o,
 aw (eN uR.nd (mP fI O5 O6 Nu (pv 1) (af aC au)))
 (aw (cN (PW.pt (Kj (bR (dD hr.units) (de (fb hr.units) (pv 2) aF (λ_ _=>rfl)) aC (cB _)) (EW (bR YY (d8 qO rfl T.a.DM BootT.len (af (pv 2) au)) aF (cB _)))))
 (ay (bf (sU eg T.gO hr.m (pv 0) bP (af (sU oa T.gO hr.m (pv 0) gK (af (pv 2) au)) au))))
 bh)
 (aw (cN (bR (sQ hr.units) (Ry T.nums.choose_spec.2 (iw rfl T.nums.choose_spec.1 rfl) (af (de (fb hr.units) (pv 2) aF (λ_ _=>rfl)) au)) (a9 Fw (d8 qO rfl T.a.DM BootT.len (af (pv 2) au)) aF) (cB _))
 (ay (lM rfl rfl ⟨T.a.Bo,T.a.kH.ex⟩ h9))
 bh)
 (ay (bf (sU pW T.gO hr.m (pv 0) gK (af (de (fb hr.units) (pv 2) aF (λ_ _=>rfl)) (af (Nw gg (ys:=[]) [] ⟨rfl,rfl⟩ Zb rfl (mn (jI oq (pv 2) (jW aF) oo)) trivial (λ_ _ _=>ia (show (gg:List aL).Nodup by decide +kernel)) (λ_ _ _=>lK) (λ_ _ _=>lE gw hr.m rfl Vr (af (pv 0) au))) au))))))),run vs H Q E h⟩
theorem AD (Fu:iy K "weighed" "Desk.weighed" oz f fd) (T:zD P w K mg C A B Dk X) {sp_Lightest___init___x_b:Sp}(fj:HP P w K mg base (kd P w) 10 B.Own J3 sp_Lightest___init___x_b) {sp_number_of_o:Sp}(gw:lV P w K mg base (kd P w) 3 "number_of" gg sp_number_of_o) {sp_weighed_of_o:Sp}(rJ:lV P w K mg base (kd P w) 4 "weighed_of" gg sp_weighed_of_o)
 (len:Ln sp 2) (run:Rx sp (λE=>j0 K C A B Dk E sp_Lightest___init___x_b sp_number_of_o sp_weighed_of_o) wm):cI P w K mg base (kd P w) 12 f fd wm sp :=
 Fu.Hx wA len λi4 A0 outer s H vs Q E hr h=>⟨j0 K C A B Dk E sp_Lightest___init___x_b sp_number_of_o sp_weighed_of_o,
 ay (bf (rZ fj.m fj.G hr.m rfl T.pj fj.b .nil gK (af (lE gw hr.m rfl gK (af (de (fb hr.units) (pv 1) aF (λ_ _=>rfl)) au)) (af (Nw gg (ys:=[]) [] ⟨rfl,rfl⟩ Zb rfl (mn (jI oq (pv 1) (jW aF) oo)) trivial (λ_ _ _=>ia (show (gg:List aL).Nodup by decide +kernel)) (λ_ _ _=>lK) (λ_ _ _=>lE rJ hr.m rfl Vr (af (pv 0) au))) au)))),run vs H Q E h⟩
theorem Cj (Fu:iy K "answer" "Desk.answer" qy f fd) (T:zD P w K mg C A B Dk X) {bJ:Sp}(eg:iC P w K mg base dU 1 Dk "begin" yN bJ) {ie:Sp}(u4:iC P w K mg base (kd P w) 11 Dk "put" eB ie) {fg:Sp}(pX:iC P w K mg base (kd P w) 1 Dk "weight" gL fg) {sp_Kept___init___x_a:Sp}(gY:HP P w K mg base (kd P w) 5 A.Own lG sp_Kept___init___x_a) {sp_Kept_out_x_a:Sp}(rK:iC P w K mg base (kd P w) 7 A.Own "out" eB sp_Kept_out_x_a) {sp_Kept_out_x_b:Sp}(rL:iC P w K mg base (kd P w) 7 B.Own "out" eB sp_Kept_out_x_b) {sp_Kept_joined_x_a:Sp}(m6:iC P w K mg base (kd P w) 6 A.Own "joined" eB sp_Kept_joined_x_a) {sp_Kept_joined_x_b:Sp}(m9:iC P w K mg base (kd P w) 6 B.Own "joined" eB sp_Kept_joined_x_b) {sp_Kept_way_x_a:Sp}(rM:iC P w K mg base (kd P w) 7 A.Own "way" eB sp_Kept_way_x_a) {sp_Kept_way_x_b:Sp}(rN:iC P w K mg base (kd P w) 7 B.Own "way" eB sp_Kept_way_x_b) {sp_Kept_side_x_a:Sp}(pY:iC P w K mg base (kd P w) 5 A.Own "side" qe sp_Kept_side_x_a) {sp_Kept_side_x_b:Sp}(pZ:iC P w K mg base (kd P w) 5 B.Own "side" qe sp_Kept_side_x_b)
 (len:Ln sp 3) (run:Rx sp (λE=>lh K C A B Dk E bJ ie fg sp_Kept___init___x_a sp_Kept_out_x_a sp_Kept_out_x_b sp_Kept_joined_x_a sp_Kept_joined_x_b sp_Kept_way_x_a sp_Kept_way_x_b sp_Kept_side_x_a sp_Kept_side_x_b) wk):cI P w K mg base (kd P w) 12 f fd wk sp :=
 Fu.Hx yT len λi4 A0 outer s H vs Q E hr h=>⟨lh K C A B Dk E bJ ie fg sp_Kept___init___x_a sp_Kept_out_x_a sp_Kept_out_x_b sp_Kept_joined_x_a sp_Kept_joined_x_b sp_Kept_way_x_a sp_Kept_way_x_b sp_Kept_side_x_a sp_Kept_side_x_b,
 aw (cN (bR (dD hr.units) (pv 1) aC (cB _))
 (ay (bf (sU eg T.gO hr.m (pv 0) bP (af (rZ gY.m gY.G hr.m rfl T.Dg gY.b .nil gK (af (de (fb hr.units) (pv 2) aF (λ_ _=>rfl)) au)) au))))
 bh)
 (aw (cN (bR (dD hr.units) (pv 1) aC (cB _))
 (ay (bf (sU u4 T.gO hr.m (pv 0) gK (af (de (fb hr.units) (pv 2) aF (λ_ _=>rfl)) (af (de (fb hr.units) (pv 2) aF (λ_ _=>rfl)) au)))))
 bh)
 (aw (cN (bR (dD hr.units) (pv 1) aC (cB _))
 (ay (bf (BG rfl T.Br.choose_spec.1 T.Br.choose_spec.2 (af (BI (sU rK T.a.i3 hr.m (cf (pv 0) rfl) gK (af (de (fb hr.units) (pv 2) aF (λ_ _=>rfl)) (af (de (fb hr.units) (pv 2) aF (λ_ _=>rfl)) au))) (sU rL T.b.i3 hr.m (cf (pv 0) rfl) gK (af (de (fb hr.units) (pv 2) aF (λ_ _=>rfl)) (af (de (fb hr.units) (pv 2) aF (λ_ _=>rfl)) au)))) au))))
 bh)
 (aw (cN (bR (dD hr.units) (pv 1) aC (cB _))
 (ay (bf (qS (eK (BI (sU m6 T.a.i3 hr.m (cf (pv 0) rfl) gK (af (de (fb hr.units) (pv 2) aF (λ_ _=>rfl)) (af (de (fb hr.units) (pv 2) aF (λ_ _=>rfl)) au))) (sU m9 T.b.i3 hr.m (cf (pv 0) rfl) gK (af (de (fb hr.units) (pv 2) aF (λ_ _=>rfl)) (af (de (fb hr.units) (pv 2) aF (λ_ _=>rfl)) au)))) (λ_=>rfl)) aC aC)))
 bh)
 (aw (cN (bR (dD hr.units) (pv 1) aC (cB _))
 (ay (bf (BG rfl T.Hq.choose_spec.1 T.Hq.choose_spec.2 (af (BI (sU rM T.a.i3 hr.m (cf (pv 0) rfl) gK (af (de (fb hr.units) (pv 2) aF (λ_ _=>rfl)) (af (de (fb hr.units) (pv 2) aF (λ_ _=>rfl)) au))) (sU rN T.b.i3 hr.m (cf (pv 0) rfl) gK (af (de (fb hr.units) (pv 2) aF (λ_ _=>rfl)) (af (de (fb hr.units) (pv 2) aF (λ_ _=>rfl)) au)))) au))))
 bh)
 (aw (cN (bR (dD hr.units) (pv 1) aC (cB _))
 (ay (bf (BG rfl T.xB.choose_spec.1 T.xB.choose_spec.2 (af (BI (sU pY T.a.i3 hr.m (cf (pv 0) rfl) gK (af (de (fb hr.units) (pv 2) aF (λ_ _=>rfl)) au)) (sU pZ T.b.i3 hr.m (cf (pv 0) rfl) gK (af (de (fb hr.units) (pv 2) aF (λ_ _=>rfl)) au))) au))))
 bh)
 (aw (cN (bR (dD hr.units) (pv 1) aC (cB _))
 (ay d7)
 bh)
 (aw (cN (bR (dD hr.units) (pv 1) aC (cB _))
 (ay (bf (SX pX T.gO hr.m (pv 0) gK)))
 bh)
 (ay d7)))))))),run vs H Q E h⟩
theorem Ie (Fu:iy K "put" "Desk.put" xM f fd) (T:zD P w K mg C A B Dk X) {sp_Keeper_put_x_a:Sp}(og:iC P w K mg base (kd P w) 10 A.Own "put" eB sp_Keeper_put_x_a)
 (len:Ln sp 3) (run:Rx sp (λE=>oG K C A B Dk X E sp_Keeper_put_x_a) eB):cI P w K mg base (kd P w) 11 f fd eB sp :=
 Fu.Hx Gj len λi4 A0 outer s H vs Q E hr h=>⟨oG K C A B Dk X E sp_Keeper_put_x_a,
 aw (cN (eK (d8 BH rfl T.a.en BootT.fw (af (cf (pv 0) rfl) (af (iw rfl T.pj rfl) au))) (λ_=>rfl))
 (ay (lM rfl rfl ⟨T.a.R4,T.a.ph.ex⟩ h9))
 bh)
 (ay (bf (qS (eK (sU og T.a.i3 hr.m (cf (pv 0) rfl) gK (af (pv 1) (af (pv 2) au))) (λ_=>rfl)) aC aC))),run vs H Q E h⟩
theorem Ck (Fu:iy K "weight" "Desk.weight" uQ f fd) (T:zD P w K mg C A B Dk X)
 (len:Ln sp 1) (run:Rx sp (λE=>lj K C A B Dk X E) gL):cI P w K mg base (kd P w) 1 f fd gL sp :=
 Fu.Hx HW len λi4 A0 outer s H vs Q E hr h=>⟨lj K C A B Dk X E,
 aw (cN (nR (eK (d8 BH rfl T.a.en BootT.fw (af (cf (pv 0) rfl) (af (iw rfl T.pj rfl) au))) (λ_=>rfl)))
 (ay (lM rfl rfl ⟨T.a.Bo,T.a.kH.ex⟩ h9))
 bh)
 (ay d7),run vs H Q E h⟩
end K72
section
open PySem PySem.Spec PyProof.Rows L2
local macro_rules | `(tactic| walk_at "c")=>`(tactic| first|(show (0:Int)<_;lia)|exact ⟨by lia,by lia⟩|exact Or.inl ⟨by lia,by lia⟩|exact Or.inr ⟨by lia,by lia⟩|exact ⟨by lia,by lia,by lia⟩)
local macro_rules | `(tactic| k_ne)=>`(tactic| first|(with_reducible first|refine tW ?_|refine U2 ?_|refine Re ?_|refine ZW ?_)|((with_reducible refine' il ?hv ?_);(case hv=>exact rfl))|(with_reducible first|refine Uy ?_|refine Ae ?_|refine nQ ?_|refine ZX ?_|refine vZ ?_|refine qT ?_|refine x_if ?_|refine sR ?_|refine x_tB ?_|refine x_isN ?_|refine x_notN ?_|refine Y3 ?_|refine ZY ?_|refine Y4 ?_|refine ZZ ?_|refine abI ?_|refine Z0 ?_|refine FM ?_|refine Y5 ?_|refine qd ?_|refine iF ?_|refine abJ ?_|refine abK ?_|refine Kw ?_|refine PD ?_|refine x_bm ?_|refine x_sl ?_|refine U3 ?_|refine Z1 ?_|refine Rg ?_)|((with_reducible refine x_rI ?hc ?_);(case hc=>walk_at "c"))|(with_reducible first|refine Z2 ?_|refine x_addHI ?_|refine abL ?_|refine Y6 ?_|refine Z6 ?_|refine abN ?_|refine Z7 ?_|refine Z5 ?_|refine x_min ?_|refine x_max ?_|refine x_un ?_|refine x_rU ?_|refine X0 ?_|refine x_eqB ?_|refine x_rev ?_|refine x_dnew ?_|refine X1 ?_|refine Z8 ?_)|((with_reducible refine' abO ?hv ?_);(case hv=>exact rfl))|with_reducible refine ⟨_,rfl,?_⟩)
local macro_rules | `(tactic| lk)=>`(tactic| (k_ne;repeat k_ne))
namespace K72
variable {K:ae}{C:ah}{A:CA}{Pt p dx l:ah}{H H':Hp}{n T:Nat}{ts:List Rm.Ti}{Q:VK}{R:Nat->Nat->List Int}{as:Nat->List ah}{us:List (Rm.Ti×ah)}{zs:List Zt}
open Rm
variable {X:EC}
def pdZ (t:Int×Int):PyData:=.tuple [.int t.1,.int t.2]
theorem N8:∀ L:List (Int×Int),oS (L.map pdZ)=true
 | []=>rfl
 | t::ts=>by simp only [bx,oS,cq];exact ⟨by simp [pdZ,sT,oS],N8 ts⟩
theorem N9:∀ L:List (Int×Int),ka (L.map pdZ)<=2
 | []=>by simp [ka]
 | t::ts=>by
  have:=N9 ts;simp only [bx,ka]
  have e:(pdZ t).depth<=2:=by simp [pdZ,Pk,ka]
  lia
theorem Ym (L:List (Int×Int)):Na (.list (L.map pdZ)):=⟨JP _ (by simp only [sT];exact N8 L),by have:=N9 L;simp only [Pk];lia⟩
inductive mG (K:ae) (C:ah) (vs:List V) (H:Hp) (Q:VK) (E:XK):Prop
 | mk (p:_) (r:List Int) (a:Int):vs=[.ref p,.int a]->gb K H p (r.map V.int)->a∈r->r.length<=1000->(∀ l H',bI H H'->H l=none->H' l=some (.lst ((tn r (r.idxOf a)).map V.int))->Q (.ref l) H')->mG K C vs H Q E
theorem Qe:Rn (mG K C) (B9 K C) ["row","a","k"]:=by
 rintro vs H Q E ⟨p,r,a,rfl,hp,ha,hl,q⟩;unfold B9;lk;refine ⟨.inl ⟨rfl,_,hp⟩,?_⟩;lk;refine Ri hp ha ?_;lk;refine Nc hp rfl λp1 h1=>?_;have S1:=bI.cV (o:=.lst ((r.drop (r.idxOf a)).map V.int)) h1;lk;refine Rj (j:=1) (j':=r.idxOf a+1) (S1.seq hp) rfl (by lia) λp2 h2=>?_;have S2:=bI.cV (o:=.lst (((r.drop 1).take (r.idxOf a+1-1)).map V.int)) h2;refine KB (S2 _ _ aH) aH ?_ λp3 h3=>?_
 .rw [c8,cE,c8];lia
 .have S3:=bI.cV (o:=.lst (((r.drop (r.idxOf a))++((r.drop 1).take (r.idxOf a+1-1))).map V.int)) h3;have S:=(S1.trans S2).trans S3;exact q p3 _ S ((S1.trans S2).free h3) aH
inductive km (K:ae) (C:ah) (vs:List V) (H:Hp) (Q:VK) (E:XK):Prop
 | mk (p q:_) (r1 r2:List Int) (a b:Int):vs=[.ref p,.ref q,.int a,.int b]->gb K H p (r1.map V.int)->gb K H q (r2.map V.int)->a∈r1->b∈r2->r1.length<=1000->r2.length<=1000->(∀ l H',bI H H'->H l=none->H' l=some (.lst ((spl r1 r2 a b).map V.int))->Q (.ref l) H')->km K C vs H Q E
theorem Oa:Rn (km K C) (zE K C (mG K C)) VR:=by
 rintro vs H Q E ⟨p,q,r1,r2,a,b,rfl,hp,hq,ha,hb,hl1,hl2,k⟩;unfold zE;lk;refine ⟨.inl ⟨rfl,_,hp⟩,?_⟩;lk;refine Ri hp ha ?_;lk;refine aah (j:=r1.idxOf a+1) hp (by lia) λp1 h1=>?_;generalize eu_:upd _ p1 _=H1;obtain ⟨S1,g1⟩:=news eu_ h1;lk;refine ⟨q,r2,b,rfl,S1.seq hq,hb,hl2,λt H2 S2 ht gt=>?_⟩;have hlt:(tn r2 (r2.idxOf b)).length=r2.length:=Vy (PY hb);refine KB (S2 _ _ g1) gt (by rw [cE];lia) λp3 h3=>?_;generalize eu_:upd _ p3 _=H3;obtain ⟨S3,g3⟩:=news eu_ h3;lk;have S13:=S1.trans (S2.trans S3);refine Nc (j:=r1.idxOf a) (S13.seq hp) rfl λp4 h4=>?_;generalize eu_:upd _ p4 _=H4;obtain ⟨S4,g4⟩:=news eu_ h4;refine KB (S4 _ _ g3) g4 (by rw [bN,cE,c8];lia) λp5 h5=>?_;have S5:=bI.cV (o:=.lst ((r1.take (r1.idxOf a+1)++tn r2 (r2.idxOf b)++r1.drop (r1.idxOf a)).map V.int)) h5;refine k p5 _ ((S13.trans S4).trans S5) ((S13.trans S4).free h5) ?_;unfold spl;rw [← eD];exact aH
inductive Th:V->Prop
 | int (i:Int):Th (.int i)
 | bl (b:Bool):Th (.bl b)
 | non:Th .non
 | str (x:aL):Th (.str x)
def isW:V->Bool
 | .int _=>true
 | _=>false
def pe (n:Nat):V->Bool
 | .int i=>decide (0<=i) && decide (i<n)
 | _=>false
theorem Ob {i:Nat}(h:i<n):pe n (.int i)=true:=by
 unfold pe;rw [cq,decide_eq_true_iff,decide_eq_true_iff];lia
theorem Yn {v:V}(h:pe n v=true):∃ i:Nat,i<n/\v=.int i:=by
 cases v with
 | int i =>
  unfold pe at h;rw [cq,decide_eq_true_iff,decide_eq_true_iff] at h
  exact ⟨i.toNat,by lia,by rw [Int.toNat_of_nonneg h.1]⟩
 | _=>cases h
def eS (K:ae) (C:ah):Sp:=λvs H Q _=>(∃ v:V,vs=[v]/\Th v/\Q (.bl (isW v)) H)\/∃ (a:ah) (xs:List V),vs=[.ref a]/\H a=some (.lst xs)/\Q (.bl false) H
theorem K7:Ln (eS K C) 1:=by
 rintro vs H Q E (⟨i,rfl,_⟩|⟨i,j,rfl,_⟩)<;>rfl
theorem K8:Rn (eS K C) (su K C) qg:=by
 rintro vs H Q E (⟨v,rfl,hv,k⟩|⟨a,xs,rfl,ha,k⟩);rotate_left
 .unfold su;lk;refine FO (.lst ha) aaf ?_;lk;refine jA ?_;exact k
 unfold su;lk
 cases hv with
 | int i =>
  refine FO (.int i) Z9 ?_;lk;refine kT ?_;lk;refine FO (.int i) aaa ?_;lk
  exact k
 | bl b =>
  refine FO (.bl b) aab ?_;lk;refine kT ?_;lk;refine FO (.bl b) aac ?_;lk
  exact k
 | non =>
  refine FO .non aad ?_;lk;refine jA ?_
  exact k
 | str x =>
  refine FO (.str x) aae ?_;lk;refine jA ?_;exact k
inductive eE (K:ae) (C:ah) (vs:List V) (H:Hp) (Q:VK) (E:XK):Prop
 | mk (n:Nat) (v:_):vs=[.int n,v]->Th v->Q (.bl (pe n v)) H->eE K C vs H Q E
theorem K9:Rn (eE K C) (wC K C (eS K C)) mE:=by
 rintro vs H Q E ⟨n,v,rfl,hv,k⟩;unfold wC;lk;refine .inl ⟨v,rfl,hv,?_⟩;refine ⟨isW v,rfl,?_⟩
 cases hv with
 | int i =>
  refine kT ?_;lk;refine yk (λh=>?_) λh=>?_
  .lk
   have:pe n (.int i)=decide (i<n):=by show (decide (0<=i) && decide (i<n))=_;rw [decide_eq_true h,kP]
   rw [← this];exact k
  .have:pe n (.int i)=false:=by show (decide (0<=i) && decide (i<n))=_;rw [decide_eq_false h,jF]
   rw [← this];exact k
 | bl b=>refine jA ?_;exact k
 | non=>refine jA ?_;exact k
 | str x=>refine jA ?_;exact k
inductive dJ (K:ae) (C:ah) (vs:List V) (H:Hp) (Q:VK) (E:XK):Prop
 | mk (n i:Nat):vs=[.int n,.int i]->i<n->Q .non H->dJ K C vs H Q E
theorem yn:Rn (dJ K C) (mr K C (eE K C)) mE:=by
 rintro vs H Q E ⟨n,i,rfl,hi,k⟩;unfold mr;lk;refine ⟨n,.int i,rfl,.int _,?_⟩;rw [Ob hi];refine ⟨true,rfl,?_⟩;refine jA ?_;lk;exact k
inductive cc (K:ae) (C:ah) (vs:List V) (H:Hp) (Q:VK) (E:XK):Prop
 | mk (n i j:Nat):vs=[.int n,.int i,.int j]->i<n->j<n->Q .non H->cc K C vs H Q E
theorem wU:Rn (cc K C) (lH K C (dJ K C)) oU:=by
 rintro vs H Q E ⟨n,i,j,rfl,hi,hj,k⟩;unfold lH;lk;refine ⟨n,i,rfl,hi,?_⟩;lk;refine ⟨n,j,rfl,hj,?_⟩;exact k
inductive cJ (K:ae) (C:ah) (vs:List V) (H:Hp) (Q:VK) (E:XK):Prop
 | mk (n i j:Nat):vs=[.int n,.int i,.int j]->i<n->j<n->i≠j->Q .non H->cJ K C vs H Q E
theorem zK:Rn (cJ K C) (mR K C (cc K C)) oU:=by
 rintro vs H Q E ⟨n,i,j,rfl,hi,hj,hij,k⟩;unfold mR;lk;refine ⟨n,i,j,rfl,hi,hj,?_⟩;lk;refine yk (λz=>absurd (ml.mp z) (by lia)) λ_=>?_;lk;exact k
theorem mw {ta tv:TE}{f:aL}{D:vT}{Z:L2.St}(h:tv Z H λy H1=>ta Z H1 λx H2=>∃ a C dx fs,x=.ref a/\H2 a=some (.ins C dx fs)/\Fg K C/\dR K C f/\fs.length<1000/\D.nx Z (upd H2 a (.ins C dx (eP f y fs)))):pG K ta tv f D Z H:=h
theorem kn:¬ (("n":aL)="rows"):=by decide +kernel
def La (n:Nat) (l:ah):List (aL×V):=eP "rows" (.ref l) (eP "n" (.int n) [])
theorem qP (n:Nat) (l:ah):(La n l).lookup ("rows":aL)=some (.ref l):=by unfold La;rw [fJ,if_pos rfl]
theorem Gs (n:Nat) (l:ah):(La n l).lookup ("n":aL)=some (.int n):=by unfold La;rw [fJ,if_neg kn,fJ,if_pos rfl]
theorem sC (n:Nat) (l:ah) {m:aL}(h1:¬ m="rows":=by decide +kernel) (h2:¬ m="n":=by decide +kernel):(La n l).lookup m=none:=by
 unfold La;rw [fJ,if_neg h1,fJ,if_neg h2];rfl
structure CT (K:ae) (C:ah):Prop where
 cl:Fg K C
 n:dR K C "n"
 rows:dR K C "rows"
structure WA (C:ah) (H:Hp) (p dx l:ah) (n:Nat) (as:List ah) (R:Nat->List Int):Prop where
 ob:H p=some (.ins C dx (La n l))
 rl:H l=some (.lst (as.map V.ref))
 len:as.length=n
 at_:∀ i a,as[i]?=some a->H a=some (.lst ((R i).map V.int))
 ne:∀ a∈as,a≠l
theorem WA.get {as:List ah}{R:Nat->List Int}(W:WA C H p dx l n as R) {i:Nat}(hi:i<n):∃ a,as[i]?=some a/\H a=some (.lst ((R i).map V.int))/\a≠l:=by
 have h:i<as.length:=by rw [W.len];exact hi
 exact ⟨as[i],bc h,W.at_ i _ (bc h),W.ne _ (jH h)⟩
theorem WA.same {as:List ah}{R:Nat->List Int}(W:WA C H p dx l n as R) (S:bI H H'):WA C H' p dx l n as R :=
 ⟨S _ _ W.ob,S _ _ W.rl,W.len,λi a h=>S _ _ (W.at_ i a h),W.ne⟩
inductive dX (K:ae) (C:ah) (vs:List V) (H:Hp) (Q:VK) (E:XK):Prop
 | mk (p dx:_) (n:Nat):vs=[.ref p,.int n]->H p=some (.ins C dx [])->CT K C->n<=1000->(∀ (l:ah) (as:List ah) (H':Hp),WA C H' p dx l n as (λi=>[(i:Int)])->H l=none->bD p H H'->Q .non H')->dX K C vs H Q E
theorem AE:Rn (dX K C) (nX K C) lG:=by
 rintro vs H Q E ⟨p,dx,n,rfl,hp,ct,hn,k⟩;unfold nX;k_ne;refine mw ?_;lk;refine ⟨p,C,dx,[],rfl,hp,ct.cl,ct.n,by decide,?_⟩;dsimp only;refine mw ?_;lk;refine ⟨by lia,by lia,λacc hacc=>?_⟩
 have e0:((n:Int)).toNat=n:=by lia
 rw [e0]
 have hap:acc≠p:=λe=>by rw [e,aH] at hacc;cases hacc
 have hacc0:H acc=none:=by rw [aI hap] at hacc;exact hacc
 have g0:(upd H p (.ins C dx (eP "n" (.int n) []))) p=some (.ins C dx (eP "n" (.int n) [])):=aH;have B0:bD p H (upd H p (.ins C dx (eP "n" (.int n) []))):=bD.upd;generalize upd H p (.ins C dx (eP "n" (.int n) []))=H0 at hacc g0 B0;refine se (n:=n) (λt ys H1=>∃ as:List ah,ys=as.map V.ref/\as.length=t/\H1 acc=some (.lst ys)/\bI H0 H1/\∀ (i:Nat) a,as[i]?=some a->a≠acc/\H1 a=some (.lst ([(i:Int)].map V.int))) (λZ=>∃ o,Z=[o]) ⟨[],rfl,rfl,aH,bI.cV hacc,λi a h=>by simp at h⟩ ⟨_,rfl⟩ ?_ ?_ ?_ ?_
 .rintro t ys H1 ⟨_,_,_,h,_⟩;exact h
 .rintro ys H1 ⟨as,rfl,hl,g1,S1,hA⟩;refine ⟨aE n,?_⟩;lk;refine ⟨p,C,dx,_,rfl,S1 _ _ g0,ct.cl,ct.rows,by show 1<1000;decide,?_⟩;have hb:bD p H1 (upd H1 p (.ins C dx (La n acc))):=bD.upd
  have nl:∀ {b:ah}{xs:List V},H1 b=some (.lst xs)->b≠p:=λe z=>by rw [z,S1 _ _ g0] at e;cases e
  refine k acc as _ ⟨aH,hb _ _ g1 hap,hl,λi a ha=>hb _ _ (hA i a ha).2 (nl (hA i a ha).2),λa ha=>?_⟩ hacc0 λb o e hne=>hb _ _ (S1 _ _ (B0 _ _ e hne)) hne;obtain ⟨i,hi⟩:=eC.mp ha;exact (hA i a hi).1
 .rintro t ys H1 ht _;exact ht
 .rintro t ys σ' H1 x H2 ht ⟨as,rfl,hl,g1,S1,hA⟩ ⟨o,rfl⟩ ⟨eH,ex⟩;subst eH ex;lk;refine kT ?_;lk;refine ⟨sf,λq hq=>?_⟩;have T:=bI.cV (o:=.lst [.int (0+(t:Int))]) hq
  have u:(upd H2 q (.lst [.int (0+(t:Int))])) q=some (.lst ([(t:Int)].map V.int)):=by rw [aH];simp
  generalize upd H2 q (.lst [.int (0+(t:Int))])=H3 at T u;have hqa:q≠acc:=Ne.symm (aG g1 hq);refine ⟨T _ _ g1,iM (m:=10000) (by rw [ao];lia),qp.mk' ht ⟨_,rfl⟩ ⟨as++[q],by simp,by simp [hl],aH,λb o e=>by rw [aI (aG e hacc)];exact T _ _ (S1 _ _ e),λi a ha=>?_⟩⟩
  by_cases hi:i<as.length
  .rw [gA hi] at ha;obtain ⟨h1,h2⟩:=hA i a ha;exact ⟨h1,by rw [aI h1];exact T _ _ h2⟩
  .rw [eM (by lia)] at ha
   have:i=as.length:=by
    have:=(aP.mp ha).1;simp at this;lia
   subst this;simp at ha;subst ha;rw [hl];exact ⟨hqa,by rw [aI hqa];exact u⟩
inductive iP (K:ae) (C:ah) (vs:List V) (H:Hp) (Q:VK) (E:XK):Prop
 | mk (p dx l q:_) (n:Nat) (as:List ah) (s:List Int):vs=[.ref p,.ref q]->CT K C->H p=some (.ins C dx (La n l))->H l=some (.lst (as.map V.ref))->as.length=n->H q=some (.lst (s.map V.int))->q≠l->(∀ x∈s,∃ j:Nat,j<n/\x=(j:Int))->(∀ (as':List ah) H',as'.length=n->(∀ (i:Nat) (a:ah),as[i]?=some a->as'[i]?=some (if (i:Int)∈s then q else a))->H' l=some (.lst (as'.map V.ref))->bD l H H'->Q .non H')->iP K C vs H Q E
theorem Ig:Rn (iP K C) (uX K C) VV:=by
 rintro vs H Q E ⟨p,dx,l,q,n,as,s,rfl,ct,hp,hl,hn,hq,hql,hs,k⟩;have hpl:p≠l:=mM hp hl;unfold uX wG;lk
 refine .inl ⟨⟨_,gb.of hq⟩,tT (K:=K) (a:=q) (xs:=s.map V.int) (λi Z H1=>∃ (as':List ah) (o:Option V),Z=[some (.ref p),some (.ref q),o]/\as'.length=n/\(∀ (j:Nat) (a:ah),as[j]?=some a->as'[j]?=some (if (j:Int)∈s.take i then q else a))/\H1 l=some (.lst (as'.map V.ref))/\bD l H H1)
  ⟨as,_,rfl,hn,λj a h=>by simpa using h,hl,bD.refl _ _⟩ ?_ ?_ ?_⟩
 .rintro i Z H1 _ ⟨as',o,_,_,_,_,B⟩;exact gb.of (B _ _ hq hql)
 .rintro i x Z H1 hi ⟨as',o,rfl,hn',hA,g1,B⟩;obtain ⟨c,hc,ex⟩:=gm hi;have ex:x=V.int c:=ex.symm;subst ex;obtain ⟨j,hj,rfl⟩:=hs c (b8 hc);k_go;refine ⟨p,C,dx,_,_,rfl,B _ _ hp hpl,ct.cl,ct.rows,qP _ _,?_⟩;lk;refine Z3 g1 (aag (j:=j) rfl (by rw [ao];lia)) ?_;refine ⟨as'.set j q,_,rfl,by simpa using hn',λk' a ha=>?_,?_,λb o' e hb=>by rw [aI hb];exact B _ _ e hb⟩
  .have e1:s.take (i+1)=s.take i++[(j:Int)]:=by rw [List.take_succ,hc];rfl
   rw [e1]
   by_cases hk:k'=j
   .subst hk;rw [j6 (by rw [hn',← hn];exact (aP.mp ha).1),if_pos (by simp)]
   .rw [qQ (Ne.symm hk),hA k' a ha]
    have:((k':Int)∈s.take i++[(j:Int)])↔(k':Int)∈s.take i:=by
     simp only [bX,aK];exact ⟨λh=>h.elim id λe=>absurd (by lia) hk,.inl⟩
    by_cases c1:(k':Int)∈s.take i
    .rw [if_pos c1,if_pos (this.mpr c1)]
    .rw [if_neg c1,if_neg (λh=>c1 (this.mp h))]
  .rw [aH,List.map_set]
 .rintro Z H1 ⟨as',o,rfl,hn',hA,g1,B⟩;rw [ao,Zv] at hA;exact k as' H1 hn' hA g1 B
inductive cU (K:ae) (C:ah) (vs:List V) (H:Hp) (Q:VK) (E:XK):Prop
 | mk (p dx l:_) (n a b:Nat) (as R:_):vs=[.ref p,.int a,.int b]->CT K C->WA C H p dx l n as R->Wd n R->a<n->b<n->Q (.bl (decide ((b:Int)∈R a))) H->cU K C vs H Q E
theorem Ee:Rn (cU K C) (rm K C (cc K C)) eB:=by
 rintro vs H Q E ⟨p,dx,l,n,a,b,as,R,rfl,ct,W,D,ha,hb,k⟩;obtain ⟨ra,e1,e2,_⟩:=W.get ha;obtain ⟨rb,f1,f2,_⟩:=W.get hb
 have hd:∀ i,i<n->∃ x,(R i)[0]?=some x/\(R i).head?=some x:=λi hi=>by
  cases h:R i with
  | nil=>exact absurd h (D.r i hi).ne
  | cons x t=>exact ⟨x,rfl,rfl⟩
 obtain ⟨x,hx,hx'⟩:=hd a ha;obtain ⟨y,hy,hy'⟩:=hd b hb;have hj:=D.head ha hb;rw [hx',hy'] at hj;unfold rm;k_go;refine ⟨p,C,dx,_,_,rfl,W.ob,ct.cl,ct.n,Gs _ _,?_⟩;lk;refine ⟨n,a,b,rfl,ha,hb,?_⟩;k_go;refine ⟨p,C,dx,_,_,rfl,W.ob,ct.cl,ct.rows,qP _ _,?_⟩;lk;refine sd (gb.of W.rl) (jf (j:=a) rfl (by rw [bO,e1];rfl)) ?_;lk;refine Dv (gb.of e2) (j:=0) rfl hx ?_;k_go;refine ⟨p,C,dx,_,_,rfl,W.ob,ct.cl,ct.rows,qP _ _,?_⟩;lk;refine sd (gb.of W.rl) (jf (j:=b) rfl (by rw [bO,f1];rfl)) ?_;lk;refine Dv (gb.of f2) (j:=0) rfl hy ?_;lk
 have e:decide (V.int x=V.int y)=decide ((b:Int)∈R a):=by
  rw [nH,decide_eq_true_iff,decide_eq_true_iff,ml,← hj];exact ⟨λh=>by rw [h],λh=>aD h⟩
 rw [e];exact k
inductive gh (K:ae) (C:ah) (vs:List V) (H:Hp) (Q:VK) (E:XK):Prop
 | mk (p dx l:_) (n a b:Nat) (as R:_):vs=[.ref p,.int a,.int b]->CT K C->WA C H p dx l n as R->Wd n R->n<=200->a<n->b<n->(b:Int)∉R a->(∀ (as':List ah) H',WA C H' p dx l n as' (lk R a b)->bD l H H'->Q .non H')->gh K C vs H Q E
theorem Ih:Rn (gh K C) (uY K C (cJ K C) (cU K C) (iP K C) (km K C)) eB:=by
 rintro vs H Q E ⟨p,dx,l,n,a,b,as,R,rfl,ct,W,D,hn,ha,hb,hm,k⟩;obtain ⟨ra,e1,e2,_⟩:=W.get ha;obtain ⟨rb,f1,f2,_⟩:=W.get hb;have hla:=D.len ha;have hlb:=D.len hb;have hab:a≠b:=λe=>hm (e▸D.me a ha);obtain ⟨T2,D2,E2⟩:=D.link ha hb hm;unfold uY;k_go;refine ⟨p,C,dx,_,_,rfl,W.ob,ct.cl,ct.n,Gs _ _,?_⟩;lk;refine ⟨n,a,b,rfl,ha,hb,hab,?_⟩;k_in;refine ⟨p,dx,_,rfl,W.ob,sC _ _,?_⟩;lk;refine ⟨p,dx,l,n,a,b,as,R,rfl,ct,W,D,ha,hb,?_⟩;refine ⟨_,rfl,?_⟩;refine yk (λz=>absurd z hm) λ_=>?_;k_in;refine ⟨p,dx,_,rfl,W.ob,sC _ _,?_⟩;k_go;refine ⟨p,C,dx,_,_,rfl,W.ob,ct.cl,ct.rows,qP _ _,?_⟩;lk;refine sd (gb.of W.rl) (jf (j:=a) rfl (by rw [bO,e1];rfl)) ?_;k_go;refine ⟨p,C,dx,_,_,rfl,W.ob,ct.cl,ct.rows,qP _ _,?_⟩;lk;refine sd (gb.of W.rl) (jf (j:=b) rfl (by rw [bO,f1];rfl)) ?_;lk;refine ⟨ra,rb,R a,R b,a,b,rfl,gb.of e2,gb.of f2,D.me a ha,D.me b hb,by lia,by lia,λq H1 S1 hq gq=>?_⟩;lk;have W1:=W.same S1;have hql:q≠l:=Ne.symm (aG W.rl hq);refine ⟨p,dx,l,q,n,as,_,rfl,ct,W1.ob,W1.rl,W.len,gq,hql,λx hx=>?_,λas' H2 hl2 hA g2 B2=>?_⟩
 .rcases (T2.mem x).mp hx with h|h
  .obtain ⟨j,hj,e,_⟩:=D.Zh a ha x h;exact ⟨j,hj,e⟩
  .obtain ⟨j,hj,e,_⟩:=D.Zh b hb x h;exact ⟨j,hj,e⟩
 .have hpl:p≠l:=mM W.ob W.rl
  have hAt:∀ (i:Nat) (c:ah),as'[i]?=some c->∃ c0,as[i]?=some c0/\c=if (i:Int)∈spl (R a) (R b) a b then q else c0:=λi c hc=>by
   have hi:i<as.length:=by rw [W.len,← hl2];exact (aP.mp hc).1
   have:=hA i _ (bc hi);rw [hc] at this;exact ⟨_,bc hi,aD this⟩
  refine k as' H2 ⟨B2 _ _ W1.ob hpl,g2,hl2,λi c hc=>?_,λc hc=>?_⟩ (λb' o e hne=>B2 _ _ (S1 _ _ e) hne)
  .obtain ⟨c0,h0,ec⟩:=hAt i c hc
   show H2 c=some (.lst ((if (i:Int)∈spl (R a) (R b) a b then spl (R a) (R b) a b else R i).map V.int))
   by_cases ci:(i:Int)∈spl (R a) (R b) a b
   .rw [if_pos ci] at ec ⊢;rw [ec];exact B2 _ _ gq hql
   .rw [if_neg ci] at ec ⊢;rw [ec];exact B2 _ _ (W1.at_ i c0 h0) (W.ne _ (b8 h0))
  .obtain ⟨i,hi⟩:=eC.mp hc;obtain ⟨c0,h0,ec⟩:=hAt i c hi
   by_cases ci:(i:Int)∈spl (R a) (R b) a b
   .rw [if_pos ci] at ec;rw [ec];exact hql
   .rw [if_neg ci] at ec;rw [ec];exact W.ne _ (b8 h0)
variable {X:EC}
def Lb:V->Bool
 | .int i=>decide (1<=i) && decide (i<=200)
 | _=>false
theorem V7 (h1:1<=n) (h2:n<=200):Lb (.int n)=true:=by
 unfold Lb;rw [cq,decide_eq_true_iff,decide_eq_true_iff];lia
def cX (K:ae) (C:ah):Sp:=λvs H Q _=>(∃ v:V,vs=[v]/\Th v/\Q (.bl (Lb v)) H)\/∃ (a:ah) (xs:List V),vs=[.ref a]/\H a=some (.lst xs)/\Q (.bl false) H
theorem Lc:Ln (cX K C) 1:=by
 rintro vs H Q E (⟨n,rfl,_⟩|⟨i,j,rfl,_⟩)<;>rfl
theorem Ld:Rn (cX K C) (sv K C (eS K C)) qg:=by
 rintro vs H Q E (⟨v,rfl,hv,k⟩|⟨a,xs,rfl,ha,k⟩);rotate_left
 .unfold sv;lk;refine .inr ⟨a,xs,rfl,ha,?_⟩;exact ⟨false,rfl,jA k⟩
 unfold sv;lk;refine .inl ⟨v,rfl,hv,?_⟩;refine ⟨isW v,rfl,?_⟩
 cases hv with
 | int i =>
  refine kT ?_;lk;refine yk (λh=>?_) λh=>?_
  .lk
   have:Lb (.int i)=decide (i<=200):=by show (decide (1<=i) && decide (i<=200))=_;rw [decide_eq_true h,kP]
   rw [← this];exact k
  .have:Lb (.int i)=false:=by show (decide (1<=i) && decide (i<=200))=_;rw [decide_eq_false h,jF]
   rw [← this];exact k
 | bl b=>refine jA ?_;exact k
 | non=>refine jA ?_;exact k
 | str x=>refine jA ?_;exact k
def Top (n:Int) (j:Nat):Prop:=(j=0\/2*(2:Int)^j<=n)/\n<4*(2:Int)^j
def mq (K:ae) (C:ah):Sp:=λvs H Q _=>∃ n:Int,vs=[.int n]/\∀ j:Nat,Top n j->Q (.int j) H
theorem Oc (j:Nat):(0:Int)<2^j:=Int.pow_pos (by decide)
theorem Yo:Rn (mq K C) (Qa K C) VU:=by
 rintro vs H Q E ⟨n,rfl,k⟩;unfold Qa;lk;unfold NQ;refine U7 (λZ H'=>H'=H/\∃ j:Nat,Z=[some (.int n),some (.int j),some (.int (4*2^j))]/\(j=0\/2*(2:Int)^j<=n)) (λZ _=>match Z with|[_,_,some (.int p)]=>(n+1-p).toNat|_=>0) ⟨rfl,0,rfl,.inl rfl⟩ ?_;rintro Z H' ⟨rfl,j,rfl,hj⟩;have hp:=Oc j;lk;refine yk (λh=>⟨_,abM,?_⟩) λh=>?_
 .lk;refine ⟨⟨rfl,j+1,?_,.inr ?_⟩,?_⟩
  .have e:(4*2^j*2:Int)=4*2^(j+1):=by rw [Uw];lia
   show [some (V.int n),some (V.int ((j:Int)+1)),some (V.int (4*2^j*2))]=_
   rw [e];rfl
  .rw [Uw];lia
  .show (n+1-4*2^j*2).toNat<(n+1-4*2^j).toNat
   lia
 .lk;exact k j ⟨hj,by lia⟩
inductive dH (K:ae) (C:ah) (vs:List V) (H:Hp) (Q:VK) (E:XK):Prop
 | mk (a b:Nat):vs=[.int a,.int b]->(∀ p,H p=none->Q (.ref p) (upd H p (.tup [.int (min a b:Nat),.int (max a b:Nat)])))->dH K C vs H Q E
theorem Qg:Rn (dH K C) (BY K C) qf:=by
 rintro vs H Q E ⟨a,b,rfl,k⟩;unfold BY;lk;refine yk (λh=>?_) λh=>?_
 .rw [show min a b=a by lia,show max a b=b by lia] at k;lk;exact ⟨sf,k⟩
 .rw [show min a b=b by lia,show max a b=a by lia] at k;lk;exact ⟨sf,k⟩
abbrev pk (x y:Nat):List ig:=[bK (x:Int),bK (y:Int)]
inductive dN (K:ae) (C:ah) (vs:List V) (H:Hp) (Q:VK) (E:XK):Prop
 | mk (n a b:Nat) (d:_) (kvs:List (List ig×V)):vs=[.int n,.ref d,.int a,.int b]->a<n->b<n->a≠b->H d=some (.dT kvs)->iL kvs (pk (min a b) (max a b))=none->(∀ p,H p=none->Q (.ref p) (upd H p (.tup [.int (min a b:Nat),.int (max a b:Nat)])))->dN K C vs H Q E
theorem Od:Rn (dN K C) (zF K C (cJ K C) (dH K C)) Dz:=by
 rintro vs H Q E ⟨n,a,b,d,kvs,rfl,ha,hb,hab,hd,hk,k⟩;unfold zF;lk;refine ⟨n,a,b,rfl,ha,hb,hab,?_⟩;lk;refine ⟨a,b,rfl,λp hp=>?_⟩;lk
 have gd:(upd H p (.tup [.int (min a b:Nat),.int (max a b:Nat)])) d=some (.dT kvs):=by rw [aI (aG hd hp)];exact hd
 refine .inr ⟨d,_,rfl,Hw.t (k:=pk (min a b) (max a b)) gd aH,?_⟩;rw [hk];lk;rw [if_neg (by simp)];lk;exact k p hp
def kf (f:Ti->V) (ts:List Ti):List (List ig×V):=ts.map λt=>(pk t.x t.y,f t)
abbrev kl:List Ti->List (List ig×V):=kf λt=>.int t.qq
abbrev kw:List Ti->List (List ig×V):=kf λt=>.bl t.wd
abbrev kv (g:Int->Int->Int):List Ti->List (List ig×V):=kf λt=>.int (g t.x t.y)
theorem Le {x y u v:Nat}:pk x y=pk u v↔((x:Int),(y:Int))=((u:Int),(v:Int)):=by
 constructor
 .intro h;obtain ⟨h1,h2⟩:=dZ h;rw [QW h1,QW (dZ h2).1]
 .intro h;obtain ⟨h1,h2⟩:=jG h
  show [bK (x:Int),bK (y:Int)]=_
  rw [h1,h2]
section
variable {f:Ti->V}{g:Ti->Ti}{t:Ti}
theorem zL (hn:(ts.map Ti.key).Nodup) (ht:t∈ts):iL (kf f ts) (pk t.x t.y)=some (f t):=by
 induction ts with
 | nil=>nomatch ht
 | cons s ts ih =>
  rw [bx,eO] at hn
  by_cases e:pk s.x s.y=pk t.x t.y
  .have:s=t:=by
    rcases az.mp ht with q|q
    .exact q.symm
    .have e':t.key=s.key:=(Le.mp e).symm;exact absurd (e'▸cF q) hn.1
   subst this;exact vW (p:=(pk s.x s.y,f s)) rfl
  .refine (tU (p:=(pk s.x s.y,f s)) e).trans (ih hn.2 ?_);exact (az.mp ht).resolve_left λq=>e (q▸rfl)
theorem Lg {x y:Nat}(h:((x:Int),(y:Int))∉ts.map Ti.key):iL (kf f ts) (pk x y)=none:=by
 induction ts with
 | nil=>rfl
 | cons s ts ih =>
  rw [bx,az] at h;exact (tU (p:=(pk s.x s.y,f s)) λe=>h (.inl (Le.mp e).symm)).trans (ih λq=>h (.inr q))
theorem aaB (hn:(ts.map Ti.key).Nodup) (ht:t∈ts) (hg:∀ t,(g t).key=t.key):yg (kf f ts) (pk t.x t.y) (f (g t))=kf f (qW ts t.key g):=by
 unfold yg
 have hm:((kf f ts).any λkv=>decide (kv.1=pk t.x t.y))=true:=by rw [tV,zL hn ht];rfl
 rw [if_pos hm];unfold kf qW;rw [dj,dj];refine fY λu hu=>?_
 show (if pk u.x u.y=pk t.x t.y then (pk u.x u.y,f (g t)) else (pk u.x u.y,f u))=(pk (if u.key=t.key then g u else u).x (if u.key=t.key then g u else u).y,f (if u.key=t.key then g u else u))
 by_cases c:u.key=t.key
 .rw [if_pos c,if_pos (Le.mpr c),PZ hn hu ht c];obtain ⟨e1,e2⟩:=Ti.WR (hg t);rw [e1,e2]
 .rw [if_neg c,if_neg λe=>c (Le.mp e)]
theorem RL (hg:∀ t,(g t).key=t.key) (hf:∀ t,f (g t)=f t) (k:Int×Int):kf f (qW ts k g)=kf f ts:=by
 unfold kf qW;rw [dj];refine fY λu hu=>?_
 show (pk (if u.key=k then g u else u).x (if u.key=k then g u else u).y,f (if u.key=k then g u else u))=_
 by_cases c:u.key=k
 .obtain ⟨e1,e2⟩:=Ti.WR (hg u);rw [if_pos c,e1,e2,hf]
 .rw [if_neg c]
theorem Cm:(kf f ts).length=ts.length:=ao _
end
abbrev HE (Pt:ah) (H:Hp):Prop:=OT Pt ⟨129,28,129,61⟩ ((("in_order":aL)++".<locals>.")++"<lambda>") H
inductive cS (K:ae) (C:ah) (Pt:ah) (vs:List V) (H:Hp) (Q:VK) (E:XK):Prop
 | mk (p d:_) (OU:List (List ig×V)):vs=[.ref p,.ref d]->H d=some (.dT OU)->HE Pt H->((∃ zs:List Zn,H p=some (.lst (zs.map uI))/\(∀ z∈zs,∃ w x y:Int,z.1=[w,x,y]/\H z.2=some (.tup [.int x,.int y])/\iL OU [bK x,bK y]=some (.int w))/\zs.length<64/\∀ (l:ah) (zs':List Zn) (H2:Hp),H2 l=none->JQ Pt H H2->HE Pt H2->zs'.Perm zs->Q (.ref l) (upd H2 l (.lst (zs'.map uI))))\/∃ (kvs:List (List ig×V)) (g:Int->Int->Int),H p=some (.dT kvs)/\(∀ q∈kvs,∃ x y:Int,q.1=[bK x,bK y]/\iL OU q.1=some (.int (g x y)))/\kvs.length<64/\∀ (l:ah) (zs:List Zn) (H2:Hp),H2 l=none->JQ Pt H H2->HE Pt H2->(∀ z∈zs,∃ x y,z.1=[g x y,x,y]/\H2 z.2=some (.tup [.int x,.int y]))->(zs.map λz=>([bK (z.1.getD 1 0),bK (z.1.getD 2 0)]:List ig)).Perm (kvs.map (·.1))->Q (.ref l) (upd H2 l (.lst (zs.map uI))))->cS K C Pt vs H Q E
theorem Lh:Rn (cS K C Pt) (sx K C Pt) DA:=by
 rintro vs H Q E ⟨p,d,OU,rfl,hd,hT,k⟩;unfold sx;lk;unfold PQ;lk;exact ⟨p,d,OU,rfl,rfl,hd,hT,k.imp (λ⟨zs,hp,hkv,hl,k⟩=>⟨zs,hp,hkv,hl,λl zs' H2 h1 h2 h3 h4 _=>k l zs' H2 h1 h2 h3 h4⟩) λ⟨kvs,g,hp,hkv,hl,k⟩=>⟨kvs,g,hp,hkv,hl,λl zs H2 h1 h2 h3 h4 h5 _=>k l zs H2 h1 h2 h3 h4 h5⟩⟩
theorem Top.one {n:Int}{i j:Nat}(h:Top n i) (h':Top n j):i=j:=by
 have key:∀ {i j:Nat},Top n i->Top n j->¬ i<j:=λ{i j} h h' c=>by
  rcases h'.1 with z|z
  .lia
  .have p:(2:Int)^(i+1)<=2^j:=by
    have:=WY (n:=2) (by decide) (show i+1<=j from c)
    exact_mod_cast this
   have:=h.2;rw [Uw] at p;lia
 have:=key h h';have:=key h' h;lia
theorem Yp {ys:List V}{P:Nat->Int->Prop}(h:∀ i y,ys[i]?=some y->∃ c,y=.int c/\P i c):∃ cs:List Int,ys=cs.map V.int/\∀ i c,cs[i]?=some c->P i c:=by
 induction ys generalizing P with
 | nil=>exact ⟨[],rfl,λi c e=>by simp at e⟩
 | cons y ys ih =>
  obtain ⟨c,rfl,hc⟩:=h 0 y rfl;obtain ⟨cs,rfl,hcs⟩:=ih (P:=λi c=>P (i+1) c) λi y e=>h (i+1) y (by simpa using e);refine ⟨c::cs,rfl,λi d e=>?_⟩
  cases i with
  | zero=>cases e;exact hc
  | succ i=>exact hcs i d (by simpa using e)
inductive mH (K:ae) (C:ah) (vs:List V) (H:Hp) (Q:VK) (E:XK):Prop
 | mk (n:Int) (p:_) (zs:List (Int×ah)):vs=[.int n,.ref p]->H p=some (.lst (zs.map λz=>.ref z.2))->(∀ z∈zs,∃ (x y:Int) (b:Bool),H z.2=some (.tup [.int x,.int y,.int z.1,.bl b]))->zs.length<=1000->(∀ (c:Int) H',(∀ j,Top n j->c=(zs.map λz=>(j:Int)-z.1).sum)->bI H H'->Q (.int c) H')->mH K C vs H Q E
theorem Qh:Rn (mH K C) (BZ K C (mq K C)) Ga:=by
 rintro vs H Q E ⟨n,p,zs,rfl,hp,hz,hl,k⟩;unfold BZ;lk;refine .inl ⟨⟨_,gb.of hp⟩,λacc hacc=>?_⟩;refine Vd (λi y _=>∃ c:Int,y=.int c/\∃ (j:Nat) (z:Int×ah),Top n j/\zs[i]?=some z/\c=j-z.1) (λZ=>∃ o o1 o2 o3,Z=[o,o1,o2,o3,some (.int n)]) (gb.of hp) hacc ⟨_,_,_,_,rfl⟩ (by rw [ao];lia) (λi y H2 H3 ws _ _ e=>e) (λi v σ' H2 G hi hx S2 hS done=>?_) λys H2 hly gy S2 hE=>?_
 .obtain ⟨o,o1,o2,o3,rfl⟩:=hS;obtain ⟨z,hzi,rfl⟩:=gm hx;obtain ⟨x,y,b,hq⟩:=hz z (b8 hzi);refine Kz (.of (S2 _ _ hq)) rfl ?_;lk;refine ⟨n,rfl,λj hj=>?_⟩;lk;exact done _ _ _ ⟨_,_,_,_,rfl⟩ (λ_ _ e=>e) ⟨_,rfl,j,z,hj,hzi,rfl⟩
 .obtain ⟨cs,rfl,hcs⟩:=Yp hE;rw [ao,ao] at hly;lk;refine ⟨acc,cs,rfl,gb.of gy,k _ H2 (λj hj=>?_) S2⟩
  congr 1
  refine Fo λi=>?_;rw [bO]
  cases hc:cs[i]? with
  | none =>
   rw [O0,hly] at hc
   rw [kQ hc];rfl
  | some c =>
   obtain ⟨j',z,hj',hzi,rfl⟩:=hcs i c hc;rw [hzi,hj.one hj'];rfl
variable {X:EC}
theorem nc {f g:aL}{v x:V}{r:List (aL×V)}(h:¬ g=f):eP f v ((g,x)::r)=(g,x)::eP f v r:=by show (if g=f then _ else _)=_;rw [if_neg h]
theorem Li {f:aL}{v x:V}{r:List (aL×V)}:eP f v ((f,x)::r)=(f,v)::r:=by show (if f=f then _ else _)=_;rw [if_pos rfl]
theorem vm {f:aL}{x:V}{r:List (aL×V)}:du f ((f,x)::r)=some x:=by rw [c9,beq_self_eq_true]
theorem fA {f g:aL}{x:V}{r:List (aL×V)}(h:¬ g=f):du g ((f,x)::r)=du g r:=by
 rw [c9]
 have:(g == f)=false:=by simpa using h
 rw [this]
structure Ii (K:ae) (C:ah) (A:CA):Prop where
 w:CT K C
 lc:Fg K A.ck
 l1:dR K A.ck "level_of"
 l2:dR K A.ck "wooden"
 l3:dR K A.ck "weight_of"
 l4:dR K A.ck "woods"
 kc:Fg K A.Own
 k1:dR K A.Own "n"
 k2:dR K A.Own "levels"
 k3:dR K A.Own "wood"
 k4:dR K A.Own "came"
 k5:dR K A.Own "looked"
 k6:dR K A.Own "risen"
 k7:dR K A.Own "lost"
def fL (d1 d2 d3 L:ah):List (aL×V):=[("level_of",.ref d1),("wooden",.ref d2),("weight_of",.ref d3),("woods",.ref L)]
theorem fL1 {d1 d2 d3 L:ah}:(fL d1 d2 d3 L).lookup ("level_of":aL)=some (.ref d1):=vm
theorem fL2 {d1 d2 d3 L:ah}:(fL d1 d2 d3 L).lookup ("wooden":aL)=some (.ref d2):=by unfold fL;rw [fA (by decide +kernel)];exact vm
theorem fL3 {d1 d2 d3 L:ah}:(fL d1 d2 d3 L).lookup ("weight_of":aL)=some (.ref d3):=by unfold fL;rw [fA (by decide +kernel),fA (by decide +kernel)];exact vm
theorem fL4 {d1 d2 d3 L:ah}:(fL d1 d2 d3 L).lookup ("woods":aL)=some (.ref L):=by unfold fL;rw [fA (by decide +kernel),fA (by decide +kernel),fA (by decide +kernel)];exact vm
theorem fL0 {d1 d2 d3 L:ah}{m:aL}(h1:¬ m="level_of":=by decide +kernel) (h2:¬ m="wooden":=by decide +kernel) (h3:¬ m="weight_of":=by decide +kernel) (h4:¬ m="woods":=by decide +kernel):(fL d1 d2 d3 L).lookup m=none:=by unfold fL;rw [fA h1,fA h2,fA h3,fA h4];rfl
structure AL where
 (q dq d1 d2 d3 L:ah) (ws:List (ah×ah×ah)) (g:Int->Int->Int)
variable {a:AL}
def fp (a:AL):List ah:=a.d1::a.d2::a.d3::a.ws.map (·.2.2)
def Fm (X:List ah) (H H':Hp):Prop:=∀ b o,b∉X->H b=some o->H' b=some o
theorem Fm.refl {X:List ah}:Fm X H H:=λ_ _ _ e=>e
theorem Fm.trans {X:List ah}{H1 H2:Hp}(x:Fm X H H1) (y:Fm X H1 H2):Fm X H H2:=λb o h e=>y b o h (x b o h e)
theorem Fm.of {X:List ah}(S:bI H H'):Fm X H H':=λb o _ e=>S b o e
theorem Fm.but {X:List ah}{c:ah}(hc:c∈X) (S:bD c H H'):Fm X H H':=λb o h e=>S b o e λz=>h (z▸hc)
theorem Fm.upd {X:List ah}{c:ah}{o:HO}(hc:c∈X):Fm X H (upd H c o):=Fm.but hc bD.upd
theorem Fm.mono {X Y:List ah}(S:Fm X H H') (h:∀ b∈X,b∈Y):Fm Y H H':=λb o hb e=>S b o (λz=>hb (h b z)) e
theorem Fm.tail {X:List ah}{c:ah}(S:Fm X H H'):Fm (c::X) H H':=S.mono λ_=>ag _
structure LV (C:ah) (A:CA) (H:Hp) (a:AL) (n T:Nat) (ts:List Ti) (as:Nat->List ah) (R:Nat->Nat->List Int):Prop where
 ob:H a.q=some (.ins A.ck a.dq (fL a.d1 a.d2 a.d3 a.L))
 e1:H a.d1=some (.dT (kl ts))
 e2:H a.d2=some (.dT (kw ts))
 e3:H a.d3=some (.dT (kv a.g ts))
 ls:H a.L=some (.lst (a.ws.map λw=>.ref w.1))
 len:a.ws.length=T+1
 wa:∀ (i:Nat) w,a.ws[i]?=some w->WA C H w.1 w.2.1 w.2.2 n (as i) (R i)
 wd:∀ i,i<=T->Wd n (R i)
 n1:1<=n
 UB:a.d1≠a.d2
 Xb:a.d1≠a.d3
 WO:a.d2≠a.d3
 nl:(a.ws.map (·.2.2)).Nodup
 nL:∀ w∈a.ws,a.L≠w.2.2
section
variable {ts':List Ti}
theorem LV.at (h:LV C A H a n T ts as R) {w:ah×ah×ah}(hw:w∈a.ws):∃ i,i<=T/\a.ws[i]?=some w:=by
 obtain ⟨i,hi⟩:=eC.mp hw;have:=(aP.mp hi).1;rw [h.len] at this;exact ⟨i,by lia,hi⟩
theorem LV.get (h:LV C A H a n T ts as R) {i:Nat}(hi:i<=T):∃ w,a.ws[i]?=some w/\w∈a.ws:=by
 have hl:i<a.ws.length:=by rw [h.len];lia
 exact ⟨_,bc hl,jH hl⟩
theorem LV.rows (h:LV C A H a n T ts as R) {w:ah×ah×ah}(hw:w∈a.ws):∃ bs:List ah,bs.length=n/\H w.2.2=some (.lst (bs.map V.ref)):=by
 obtain ⟨i,_,hi⟩:=h.at hw;exact ⟨_,(h.wa i w hi).len,(h.wa i w hi).rl⟩
theorem LV.kind (h:LV C A H a n T ts as R) {b:ah}(hb:b∈fp a):(∃ ks,H b=some (.dT ks))\/∃ bs:List ah,bs.length=n/\H b=some (.lst (bs.map V.ref)):=by
 unfold fp at hb;simp only [az,cQ] at hb
 rcases hb with rfl|rfl|rfl|⟨w,hw,rfl⟩
 .exact .inl ⟨_,h.e1⟩
 .exact .inl ⟨_,h.e2⟩
 .exact .inl ⟨_,h.e3⟩
 .exact .inr (h.rows hw)
theorem LV.out (h:LV C A H a n T ts as R) {b:ah}{o:HO}(e:H b=some o) (h1:∀ ks,o≠.dT ks) (h2:∀ bs:List ah,bs.length=n->o≠.lst (bs.map V.ref)):b∉fp a:=λhb=>by
 rcases h.kind hb with ⟨ks,q⟩|⟨bs,hl,q⟩
 .rw [e] at q;exact h1 ks (aD q)
 .rw [e] at q;exact h2 bs hl (aD q)
theorem LV.aaT (h:LV C A H a n T ts as R) {b:ah}{xs:List V}(e:H b=some (.tup xs)):b∉fp a:=h.out e (λ_ z=>nomatch z) (λ_ _ z=>nomatch z)
theorem LV.outI (h:LV C A H a n T ts as R) {b x y:ah}{fs:List (aL×V)}(e:H b=some (.ins x y fs)):b∉fp a:=h.out e (λ_ z=>nomatch z) (λ_ _ z=>nomatch z)
theorem LV.outL (h:LV C A H a n T ts as R) {b:ah}{r:List Int}(e:H b=some (.lst (r.map V.int))):b∉fp a:=h.out e (λ_ z=>nomatch z) λbs hl z=>by
 have n1:=h.n1
 injection z with z
 match r,bs,hl with
 | [],c::bs,_=>cases z
 | x::r,c::bs,_=>cases (dZ z).1
 | x::r,[],_=>cases z
 | [],[],hl=>rw [← hl] at n1;cases n1
theorem LV.aaO (h:LV C A H a n T ts as R) {b:ah}(e:H b=none):b∉fp a:=λhb=>by
 rcases h.kind hb with ⟨ks,q⟩|⟨bs,hl,q⟩<;>rw [e] at q<;>cases q
theorem LV.keep (h:LV C A H a n T ts as R) {X:List ah}(S:Fm X H H') (hq:∀ x fs,H x=some fs->(∃ c d f,fs=.ins c d f/\f≠[])->(x=a.q\/∃ w∈a.ws,x=w.1)->x∉X) (hd:∀ b∈fp a,b∉X) (hL:a.L∉X) (hr:∀ (b:ah) (r:List Int),r≠[]->H b=some (.lst (r.map V.int))->b∉X):LV C A H' a n T ts as R:=by
 have m1:a.d1∈fp a:=ak;have m2:a.d2∈fp a:=ag _ ak;have m3:a.d3∈fp a:=ag _ (ag _ ak);refine ⟨S _ _ (hq _ _ h.ob ⟨_,_,_,rfl,by simp [fL]⟩ (.inl rfl)) h.ob,S _ _ (hd _ m1) h.e1,S _ _ (hd _ m2) h.e2,S _ _ (hd _ m3) h.e3,S _ _ hL h.ls,h.len,λi w hw=>?_,h.wd,h.n1,h.UB,h.Xb,h.WO,h.nl,h.nL⟩;have hm:=b8 hw;have W:=h.wa i w hw
 have hi:i<=T:=by have:=(aP.mp hw).1;rw [h.len] at this;lia
 refine ⟨S _ _ (hq _ _ W.ob ⟨_,_,_,rfl,?_⟩ (.inr ⟨w,hm,rfl⟩)) W.ob,S _ _ (hd _ ?_) W.rl,W.len,λj c hc=>?_,W.ne⟩
 .intro z;have:=Gs n w.2.2;rw [z] at this;cases this
 .exact ag _ (ag _ (ag _ (cF hm)))
 .have hj:j<n:=by rw [← W.len];exact (aP.mp hc).1
  exact S _ _ (hr _ _ ((h.wd i hi).r j hj).ne (W.at_ j c hc)) (W.at_ j c hc)
theorem LV.same (h:LV C A H a n T ts as R) (S:bI H H'):LV C A H' a n T ts as R:=h.keep (X:=[]) (λb o _ e=>S b o e) (λ_ _ _ _ _=>dG) (λ_ _=>dG) dG λ_ _ _ _=>dG
theorem LV.sets (h:LV C A H a n T ts as R) (B:Fm [a.d1,a.d2,a.d3] H H') (e1:H' a.d1=some (.dT (kl ts'))) (e2:H' a.d2=some (.dT (kw ts'))) (e3:H' a.d3=some (.dT (kv a.g ts'))):LV C A H' a n T ts' as R:=by
 have ne:∀ {b:ah}{o:HO},H b=some o->(∀ ks,o≠.dT ks)->H' b=some o:=λ{b o} e q=>B _ _ (λhb=>by
  simp only [az,dG,or_false] at hb
  rcases hb with rfl|rfl|rfl
  .rw [h.e1] at e;cases e;exact q _ rfl
  .rw [h.e2] at e;cases e;exact q _ rfl
  .rw [h.e3] at e;cases e;exact q _ rfl) e
 exact ⟨ne h.ob (λ_ z=>nomatch z),e1,e2,e3,ne h.ls (λ_ z=>nomatch z),h.len,λi w hw=>⟨ne (h.wa i w hw).ob (λ_ z=>nomatch z),ne (h.wa i w hw).rl (λ_ z=>nomatch z),(h.wa i w hw).len,λj c hc=>ne ((h.wa i w hw).at_ j c hc) (λ_ z=>nomatch z),(h.wa i w hw).ne⟩,h.wd,h.n1,h.UB,h.Xb,h.WO,h.nl,h.nL⟩
theorem LV.set2 (h:LV C A H a n T ts as R) (e1:kl ts'=kl ts) (e3:kv a.g ts'=kv a.g ts):LV C A (upd H a.d2 (.dT (kw ts'))) a n T ts' as R :=
 h.sets (Fm.upd (ag _ ak)) (by rw [aI h.UB,e1];exact h.e1) aH (by rw [aI h.WO.symm,e3];exact h.e3)
theorem LV.wood (h:LV C A H a n T ts as R) {i:Nat}{w:ah×ah×ah}{bs:List ah}{R1:Nat->List Int}(hw:a.ws[i]?=some w) (W:WA C H' w.1 w.2.1 w.2.2 n bs R1) (D:Wd n R1) (B:bD w.2.2 H H') :
  LV C A H' a n T ts (λj=>if j=i then bs else as j) (λj=>if j=i then R1 else R j):=by
 have hm:=b8 hw;obtain ⟨cs,hcl,hcs⟩:=h.rows hm
 have nt:∀ {b:ah}{o:HO},H b=some o->(∀ xs,o≠.lst xs)->H' b=some o:=λ{b o} e q=>B _ _ e λz=>by rw [z,hcs] at e;cases e;exact q _ rfl
 refine ⟨nt h.ob (λ_ z=>nomatch z),nt h.e1 (λ_ z=>nomatch z),nt h.e2 (λ_ z=>nomatch z),nt h.e3 (λ_ z=>nomatch z),B _ _ h.ls (h.nL w hm),h.len,λj v hv=>?_,λj hj=>?_,h.n1,h.UB,h.Xb,h.WO,h.nl,h.nL⟩
 .by_cases c:j=i
  .subst c;rw [hw] at hv;cases hv;simp only [if_pos];exact W
  .simp only [if_neg c];have V:=h.wa j v hv
   have hjT:j<=T:=by have:=(aP.mp hv).1;rw [h.len] at this;lia
   have nvl:v.2.2≠w.2.2:=λe=>c ((List.getElem?_inj (by rw [ao];exact (aP.mp hv).1) h.nl).mp (by rw [bO,bO,hv,hw];simp [e]));refine ⟨nt V.ob (λ_ z=>nomatch z),B _ _ V.rl nvl,V.len,λx b hb=>B _ _ (V.at_ x b hb) λz=>?_,V.ne⟩
   have hx:x<n:=by rw [← V.len];exact (aP.mp hb).1
   have e:=V.at_ x b hb;rw [z] at e;exact h.outL e (ag _ (ag _ (ag _ (cF hm))))
 .by_cases c:j=i
  .simp only [if_pos c];exact D
  .simp only [if_neg c];exact h.wd j hj
end
inductive gC (K:ae) (C:ah) (A:CA) (vs:List V) (H:Hp) (Q:VK) (E:XK):Prop
 | mk (q dq d1 d2 d3 L t:_) (kl kw:List (List ig×V)) (x y:Int) (v1 v2:_):vs=[.ref q,.ref t]->Ii K C A->H q=some (.ins A.ck dq (fL d1 d2 d3 L))->Rd H d1 (.dT kl)->Rd H d2 (.dT kw)->H t=some (.tup [.int x,.int y])->iL kl [bK x,bK y]=some v1->iL kw [bK x,bK y]=some v2->(∀ p,H p=none->Q (.ref p) (upd H p (.tup [.int x,.int y,v1,v2])))->gC K C A vs H Q E
theorem vn:Rn (gC K C A) (rn K C A) wo:=by
 rintro vs H Q E ⟨q,dq,d1,d2,d3,L,t,kl,kw,x,y,v1,v2,rfl,ct,hq,r1,r2,ht,h1,h2,k⟩;unfold rn;lk;refine tX (tK.of ht) (jf (j:=0) rfl rfl) ?_;lk;refine tX (tK.of ht) (jf (j:=1) rfl rfl) ?_;k_go;refine ⟨q,A.ck,dq,_,_,rfl,hq,ct.lc,ct.l1,fL1,?_⟩;lk;refine .inr ⟨d1,v1,rfl,.inr ⟨kl,[bK x,bK y],t,r1,rfl,ht,h1.symm⟩,?_⟩;k_go;refine ⟨q,A.ck,dq,_,_,rfl,hq,ct.lc,ct.l2,fL2,?_⟩;lk;refine .inr ⟨d2,v2,rfl,.inr ⟨kw,[bK x,bK y],t,r2,rfl,ht,h2.symm⟩,?_⟩;lk;exact ⟨sf,k⟩
variable {X:EC}
theorem fp1:a.d1∈fp a:=ak
theorem fp2:a.d2∈fp a:=ag _ ak
theorem fp3:a.d3∈fp a:=ag _ (ag _ ak)
theorem fpw {w:ah×ah×ah}(h:w∈a.ws):w.2.2∈fp a:=ag _ (ag _ (ag _ (cF h)))
theorem V8 {k:Int×Int}:kl (qW ts k Ti.Fi)=kl ts:=RL (g:=Ti.Fi) (λ_=>rfl) (λ_=>rfl) k
theorem aaD {h:Int->Int->Int}{k:Int×Int}:kv h (qW ts k Ti.Fi)=kv h ts:=RL (g:=Ti.Fi) (λ_=>rfl) (λ_=>rfl) k
theorem LV.cast {R':Nat->Nat->List Int}(h:LV C A H a n T ts as R) (e:∀ j,R j=R' j):LV C A H a n T ts as R':=(funext e:R=R')▸h
structure Up (C:ah) (A:CA) (a:AL) (n T:Nat) (ts:List Ti) (R:Nat->Nat->List Int) (f:(Nat->List Int)->Nat->List Int) (H:Hp) (i:Nat) (H1:Hp):Prop where
 ex:∃ as R',LV C A H1 a n T ts as R'/\∀ j,R' j=if j<i then f (R j) else R j
 fm:Fm (fp a) H H1
theorem Up.step {R':Nat->Nat->List Int}{f:(Nat->List Int)->Nat->List Int}{H1 H2:Hp}{i:Nat}{w:ah×ah×ah}{bs:List ah}(L:LV C A H1 a n T ts as R') (e:∀ j,R' j=if j<i then f (R j) else R j) (F:Fm (fp a) H H1)
  (hw:a.ws[i]?=some w) (W:WA C H2 w.1 w.2.1 w.2.2 n bs (f (R' i))) (D:Wd n (f (R' i))) (B:bD w.2.2 H1 H2):Up C A a n T ts R f H (i+1) H2:=by
 refine ⟨⟨_,_,L.wood hw W D B,λj=>?_⟩,F.trans (Fm.but (fpw (b8 hw)) B)⟩
 have ei:R' i=R i:=by rw [e,if_neg (iE i)]
 by_cases c:j=i
 .subst c;rw [if_pos rfl,if_pos (Jv j),ei]
 .rw [if_neg c,e]
  by_cases d:j<i
  .rw [if_pos d,if_pos (by lia)]
  .rw [if_neg d,if_neg (by lia)]
inductive eG (K:ae) (C:ah) (A:CA) (vs:List V) (H:Hp) (Q:VK) (E:XK):Prop
 | mk (a:_) (n T:Nat) (ts as R t:_) (u:Ti):vs=[.ref a.q,.ref t]->Ii K C A->LV C A H a n T ts as R->n<=200->u∈ts->(ts.map Ti.key).Nodup->u.x<n->u.y<n->u.qq<=T->(∀ i,i<=u.qq->(u.y:Int)∉R i u.x)->H t=some (.tup [.int u.x,.int u.y])->ts.length<100->(∀ as' H',LV C A H' a n T (qW ts u.key Ti.Fi) as' (W8 R u.qq u.x u.y)->Fm (fp a) H H'->Q .non H')->eG K C A vs H Q E
theorem uc:Rn (eG K C A) (pS K C A (gh K C)) VW:=by
 rintro vs H Q E ⟨a,n,T,ts,as,R,t,u,rfl,ct,h,hn,hu,hnd,hx,hy,hl,hap,ht,hlen,k⟩;unfold pS;k_go;refine ⟨a.q,A.ck,a.dq,_,_,rfl,h.ob,ct.lc,ct.l2,fL2,?_⟩;lk;refine .inr ⟨a.d2,_,rfl,Jq.t (k:=pk u.x u.y) h.e2 ht (iM (m:=100) (by rw [Cm];exact hlen)),?_⟩;have e:=aaB (f:=λt=>V.bl t.wd) (g:=Ti.Fi) hnd hu (λ_=>rfl);rw [show (V.bl true)=(λt:Ti=>V.bl t.wd) u.Fi from rfl,e];have h1:=h.set2 (ts':=qW ts u.key Ti.Fi) V8 aaD
 have ht1:(upd H a.d2 (.dT (kw (qW ts u.key Ti.Fi)))) t=some (.tup [.int u.x,.int u.y]):=by rw [aI (mM ht h.e2)];exact ht
 have S1:Fm (fp a) H (upd H a.d2 (.dT (kw (qW ts u.key Ti.Fi)))):=Fm.upd fp2
 have hl1:iL (kl (qW ts u.key Ti.Fi)) (pk u.x u.y)=some (.int u.qq):=by rw [V8];exact zL hnd hu
 change (mU K C A _) _ _ (upd H a.d2 (.dT (kw (qW ts u.key Ti.Fi))));generalize upd H a.d2 (.dT (kw (qW ts u.key Ti.Fi)))=H1 at h1 ht1 S1;generalize qW ts u.key Ti.Fi=ts1 at h1 hl1 k;unfold mU;k_go;refine ⟨a.q,A.ck,a.dq,_,_,rfl,h1.ob,ct.lc,ct.l4,fL4,?_⟩;k_go;refine ⟨a.q,A.ck,a.dq,_,_,rfl,h1.ob,ct.lc,ct.l1,fL1,?_⟩;lk;refine .inr ⟨a.d1,.int u.qq,rfl,.inr ⟨_,pk u.x u.y,t,.inl h1.e1,rfl,ht1,hl1.symm⟩,?_⟩;lk;refine Du (gb.of h1.ls) λs hs=>?_;rw [Vb (j:=u.qq+1) (by lia),← Pd];have S2:=bI.cV (o:=.lst ((a.ws.take (u.qq+1)).map λw=>V.ref w.1)) hs;have gs:(upd H1 s (.lst ((a.ws.take (u.qq+1)).map λw=>V.ref w.1))) s=some (.lst ((a.ws.take (u.qq+1)).map λw=>V.ref w.1)):=aH;have nsf:=h1.aaO hs;generalize upd H1 s (.lst ((a.ws.take (u.qq+1)).map λw=>V.ref w.1))=H2 at S2 gs;have h2:=h1.same S2;have ht2:=S2 _ _ ht1
 have hlt:(a.ws.take (u.qq+1)).length=u.qq+1:=by rw [cE,h.len];lia
 refine ⟨s,rfl,?_⟩
 refine .inl ⟨⟨_,gb.of gs⟩,tT (K:=K) (a:=s) (xs:=(a.ws.take (u.qq+1)).map λw=>V.ref w.1)
  (λi Z H3=>Up C A a n T ts1 R (λr=>lk r u.x u.y) H2 i H3/\∃ o,Z=[some (.ref a.q),some (.ref t),o])
  ⟨⟨⟨as,R,h2,λj=>by rw [if_neg (by lia)]⟩,Fm.refl⟩,_,rfl⟩ ?_ ?_ ?_⟩
 .rintro i Z H3 _ ⟨U,_⟩;exact gb.of (U.fm _ _ nsf gs)
 .rintro i z Z H3 hi ⟨U,o,rfl⟩;obtain ⟨w,hw,rfl⟩:=gm hi
  have hi:i<u.qq+1:=by rw [← hlt];exact (aP.mp hw).1
  rw [List.getElem?_take,if_pos hi] at hw;obtain ⟨as1,R1,L1,e1⟩:=U.ex;have W1:=L1.wa i w hw;have ht3:=U.fm _ _ (h2.aaT ht2) ht2;k_in;refine ⟨w.1,w.2.1,_,rfl,W1.ob,sC _ _,?_⟩;lk;refine tX (tK.of ht3) (jf (j:=0) rfl rfl) ?_;lk;refine tX (tK.of ht3) (jf (j:=1) rfl rfl) ?_;lk
  have ei:R1 i=R i:=by rw [e1,if_neg (iE i)]
  have D1:=L1.wd i (by lia)
  have hap1:(u.y:Int)∉R1 i u.x:=by rw [ei];exact hap i (by lia)
  refine ⟨w.1,w.2.1,w.2.2,n,u.x,u.y,as1 i,R1 i,rfl,ct.w,W1,D1,hn,hx,hy,hap1,λbs H4 W' B'=>?_⟩;exact ⟨Up.step (f:=λr=>lk r u.x u.y) L1 e1 U.fm hw W' (D1.lk hx hy hap1) B',_,rfl⟩
 .rintro Z H3 ⟨U,o,rfl⟩;rw [ao,hlt] at U;obtain ⟨as1,R1,L1,e1⟩:=U.ex;refine k as1 H3 (L1.cast λj=>?_) ((S1.trans (Fm.of S2)).trans U.fm);rw [e1]
  show _=if j<=u.qq then _ else _
  by_cases c:j<=u.qq
  .rw [if_pos c,if_pos (by lia)]
  .rw [if_neg c,if_neg (by lia)]
variable {X:EC}
inductive ic (K:ae) (C:ah) (A:CA) (vs:List V) (H:Hp) (Q:VK) (E:XK):Prop
 | mk (a:_) (n T:Nat) (ts as R t:_) (x y:Nat):vs=[.ref a.q,.ref t,.int (a.g x y)]->Ii K C A->LV C A H a n T ts as R->n<=200->x<n->y<n->H t=some (.tup [.int x,.int y])->(ts.map Ti.key).Nodup->((x:Int),(y:Int))∉ts.map Ti.key->ts.length<99->(∀ b ts' as' R' H',LV C A H' a n T ts' as' R'->(((y:Int)∈R 0 x/\ts'=ts++[⟨x,y,0,false⟩]/\R'=R/\b=false)\/((y:Int)∉R 0 x/\ts'=qW (ts++[⟨x,y,0,false⟩]) ((x:Int),(y:Int)) Ti.Fi/\R'=W8 R 0 x y/\b=true))->Fm (fp a) H H'->Q (.bl b) H')->ic K C A vs H Q E
theorem wV:Rn (ic K C A) (tq K C A (cU K C) (eG K C A)) vH:=by
 rintro vs H Q E ⟨a,n,T,ts,as,R,t,x,y,rfl,ct,h,hn,hx,hy,ht,hnd,hk,hlen,k⟩
 have td:∀ {H:Hp}{d:ah}{ks ks':List (List ig×V)},H t=some (.tup [.int x,.int y])->H d=some (.dT ks)->upd H d (.dT ks') t=some (.tup [.int x,.int y]):=λe1 e2=>by rw [aI (mM e1 e2)];exact e1
 have kn:∀ (f:Ti->V) (v:V),f ⟨x,y,0,false⟩=v->yg (kf f ts) (pk x y) v=kf f (ts++[⟨x,y,0,false⟩]):=λf v e=>by rw [FH _ (Lg hk),← e];unfold kf;rw [bY];rfl
 have hnd':((ts++[(⟨x,y,0,false⟩:Ti)]).map Ti.key).Nodup:=by
  rw [bY,jd];exact ⟨hnd,by simp,λp hp q hq e=>hk (by rw [DR,aK] at hq;have e2:p=((x:Int),(y:Int)):=e.trans hq;rw [← e2];exact hp)⟩
 have hu:(⟨x,y,0,false⟩:Ti)∈ts++[⟨x,y,0,false⟩]:=aU _ ak;unfold tq;k_go;refine ⟨a.q,A.ck,a.dq,_,_,rfl,h.ob,ct.lc,ct.l1,fL1,?_⟩;lk;refine .inr ⟨a.d1,_,rfl,Jq.t (k:=pk x y) h.e1 ht (iM (m:=100) (by rw [Cm];lia)),?_⟩;rw [kn (λt=>V.int t.qq) (.int 0) rfl];have ht1:=td (ks':=kl (ts++[⟨x,y,0,false⟩])) ht h.e1;have o1:(upd H a.d1 (.dT (kl (ts++[⟨x,y,0,false⟩])))) a.q=_:=(aI (mM h.ob h.e1)).trans h.ob;have p1:(upd H a.d1 (.dT (kl (ts++[⟨x,y,0,false⟩])))) a.d1=_:=aH;have p2:(upd H a.d1 (.dT (kl (ts++[⟨x,y,0,false⟩])))) a.d2=_:=(aI h.UB.symm).trans h.e2;have p3:(upd H a.d1 (.dT (kl (ts++[⟨x,y,0,false⟩])))) a.d3=_:=(aI h.Xb.symm).trans h.e3;have F1:Fm [a.d1,a.d2,a.d3] H (upd H a.d1 (.dT (kl (ts++[⟨x,y,0,false⟩])))):=Fm.upd ak;generalize upd H a.d1 (.dT (kl (ts++[⟨x,y,0,false⟩])))=H1 at ht1 o1 p1 p2 p3 F1;k_go;refine ⟨a.q,A.ck,a.dq,_,_,rfl,o1,ct.lc,ct.l2,fL2,?_⟩;lk;refine .inr ⟨a.d2,_,rfl,Jq.t (k:=pk x y) p2 ht1 (iM (m:=100) (by rw [Cm];lia)),?_⟩;rw [kn (λt=>V.bl t.wd) (.bl false) rfl];have ht2:=td (ks':=kw (ts++[⟨x,y,0,false⟩])) ht1 p2;have o2:(upd H1 a.d2 (.dT (kw (ts++[⟨x,y,0,false⟩])))) a.q=_:=(aI (mM o1 p2)).trans o1;have q1:(upd H1 a.d2 (.dT (kw (ts++[⟨x,y,0,false⟩])))) a.d1=_:=(aI h.UB).trans p1;have q2:(upd H1 a.d2 (.dT (kw (ts++[⟨x,y,0,false⟩])))) a.d2=_:=aH;have q3:(upd H1 a.d2 (.dT (kw (ts++[⟨x,y,0,false⟩])))) a.d3=_:=(aI h.WO.symm).trans p3;have F2:Fm [a.d1,a.d2,a.d3] H (upd H1 a.d2 (.dT (kw (ts++[⟨x,y,0,false⟩])))):=F1.trans (Fm.upd (ag _ ak));generalize upd H1 a.d2 (.dT (kw (ts++[⟨x,y,0,false⟩])))=H2 at ht2 o2 q1 q2 q3 F2;k_go;refine ⟨a.q,A.ck,a.dq,_,_,rfl,o2,ct.lc,ct.l3,fL3,?_⟩;lk;refine .inr ⟨a.d3,_,rfl,Jq.t (k:=pk x y) q3 ht2 (iM (m:=100) (by rw [Cm];lia)),?_⟩;rw [kn (λt=>V.int (a.g t.x t.y)) (.int (a.g x y)) rfl];have ht3:=td (ks':=kv a.g (ts++[⟨x,y,0,false⟩])) ht2 q3;have F3:Fm [a.d1,a.d2,a.d3] H (upd H2 a.d3 (.dT (kv a.g (ts++[⟨x,y,0,false⟩])))):=F2.trans (Fm.upd (ag _ (ag _ ak)));have h3:LV C A (upd H2 a.d3 (.dT (kv a.g (ts++[⟨x,y,0,false⟩])))) a n T (ts++[⟨x,y,0,false⟩]) as R:=h.sets F3 ((aI h.Xb).trans q1) ((aI h.WO).trans q2) aH
 have S3:Fm (fp a) H (upd H2 a.d3 (.dT (kv a.g (ts++[⟨x,y,0,false⟩])))):=F3.mono λb hb=>by
  simp only [az,dG,or_false] at hb
  rcases hb with rfl|rfl|rfl
  .exact fp1
  .exact fp2
  .exact fp3
 generalize upd H2 a.d3 (.dT (kv a.g (ts++[⟨x,y,0,false⟩])))=H3 at ht3 h3 S3;obtain ⟨w,hw,hwm⟩:=h3.get (dm _);have W3:=h3.wa 0 w hw;have D3:=h3.wd 0 (dm _);k_in;refine kh ?_;lk;refine ⟨a.q,A.ck,a.dq,_,_,rfl,h3.ob,ct.lc,ct.l4,fL4,?_⟩;lk;refine sd (gb.of h3.ls) (jf (j:=0) rfl (by rw [bO,hw];rfl)) ?_;refine ⟨w.1,w.2.1,_,rfl,W3.ob,sC _ _,?_⟩;lk;refine tX (tK.of ht3) (jf (j:=0) rfl rfl) ?_;lk;refine tX (tK.of ht3) (jf (j:=1) rfl rfl) ?_;lk;refine ⟨w.1,w.2.1,w.2.2,n,x,y,as 0,R 0,rfl,ct.w,W3,D3,hx,hy,?_⟩;refine ⟨_,rfl,?_⟩
 by_cases hj:(y:Int)∈R 0 x
 .rw [decide_eq_true hj];rw [if_neg (by simp)];k_go;refine ⟨a.q,A.ck,a.dq,_,_,rfl,h3.ob,ct.lc,ct.l2,fL2,?_⟩;lk;refine .inr ⟨a.d2,.bl false,rfl,.inr ⟨_,pk x y,t,.inl h3.e2,rfl,ht3,(zL (f:=λt=>V.bl t.wd) hnd' hu).symm⟩,?_⟩;exact k _ _ as R H3 h3 (.inl ⟨hj,rfl,rfl,rfl⟩) S3
 .rw [decide_eq_false hj];rw [if_pos (by simp)];k_in;refine ⟨a.q,a.dq,_,rfl,h3.ob,fL0,?_⟩;lk;refine ⟨a,n,T,_,as,R,t,⟨x,y,0,false⟩,rfl,ct,h3,hn,hu,hnd',hx,hy,dm _,λi hi=>by rw [W2.mp hi];exact hj,ht3,by simp;lia,λas' H4 h4 S4=>?_⟩;have ht4:H4 t=some (.tup [.int x,.int y]):=S4 _ _ (h3.aaT ht3) ht3;k_go;refine ⟨a.q,A.ck,a.dq,_,_,rfl,h4.ob,ct.lc,ct.l2,fL2,?_⟩;lk;refine .inr ⟨a.d2,.bl true,rfl,.inr ⟨_,pk x y,t,.inl h4.e2,rfl,ht4,(zL (f:=λt=>V.bl t.wd) (t:=⟨x,y,0,true⟩) (by rw [JY (f:=Ti.Fi) (λ_=>rfl)];exact hnd') ((FV (f:=Ti.Fi) hnd' hu _).mpr (.inl rfl))).symm⟩,?_⟩;exact k _ _ as' _ H4 h4 (.inr ⟨hj,rfl,rfl,rfl⟩) (S3.trans S4)
variable {X:EC}
theorem wW {sp:Sp}{dvs:List V}{E:XK}{t:TA}{Z:L2.St}(h:t Z H λvs H1=>∀ x dx,H1 x=none->H1 dx=none->dx≠x->sp (.ref x::(vs++dvs)) (upd (upd H1 dx (.own x)) x (.ins C dx [])) (λv H2=>v=.non/\Q (.ref x) H2) E):vf C sp dvs E t Z H Q:=h
theorem AF {Z:L2.St}(h:∀ p,H p=none->Q (.ref p) (upd H p (.dT []))):zr Z H Q:=h
theorem Top.small {n:Int}{j:Nat}(h:Top n j) (hn:n<=200):j<8:=by
 rcases h.1 with z|z
 .lia
 .by_cases c:j<8
  .exact c
  .have:(2:Int)^8<=2^j:=by
    have e:(2:Int)^j=2^(j-8)*2^8:=by rw [← Int.pow_add];congr 1;lia
    have h1:(1:Int)<=2^(j-8):=Oc (j-8);rw [e];have:=Int.mul_le_mul_of_nonneg_right h1 (show (0:Int)<=2^8 by decide);lia
   have e8:(2:Int)^8=256:=by decide
   lia
theorem WA.out {c:ah}{as:List ah}{R:Nat->List Int}{o:HO}(W:WA C H p dx l n as R) (h1:p≠c) (h2:l≠c) (h3:∀ a∈as,a≠c):WA C (upd H c o) p dx l n as R :=
 ⟨by rw [aI h1];exact W.ob,by rw [aI h2];exact W.rl,W.len,λi a h=>by rw [aI (h3 a (b8 h))];exact W.at_ i a h,W.ne⟩
inductive br (K:ae) (C:ah) (A:CA) (vs:List V) (H:Hp) (Q:VK) (E:XK):Prop
 | mk (q dq:_) (n:Nat):vs=[.ref q,.int n]->H q=some (.ins A.ck dq [])->Ii K C A->1<=n->n<=200->(∀ (a:AL) (T:Nat) (as:Nat->List ah) (H':Hp),a.q=q->a.dq=dq->LV C A H' a n T [] as (λ_ i=>[(i:Int)])->Top n T->bD q H H'->(∀ b∈a.L::fp a,H b=none)->Q .non H')->br K C A vs H Q E
theorem qh:Rn (br K C A) (mv K C A (dX K C) (mq K C)) lG:=by
 rintro vs H Q E ⟨q,dq,n,rfl,hq,ct,hn1,hn2,k⟩;unfold mv;k_ne;refine mw (AF λd1 hd1=>?_);lk;have nq1:q≠d1:=aG hq hd1;refine ⟨q,A.ck,dq,[],rfl,by rw [aI nq1];exact hq,ct.lc,ct.l1,by decide,?_⟩;have g1:(upd (upd H d1 (.dT [])) q (.ins A.ck dq (eP "level_of" (.ref d1) []))) q=some (.ins A.ck dq [("level_of",.ref d1)]):=aH
 have e1:(upd (upd H d1 (.dT [])) q (.ins A.ck dq (eP "level_of" (.ref d1) []))) d1=some (.dT []):=by rw [aI (Ne.symm nq1)];exact aH
 have B1:bD q H (upd (upd H d1 (.dT [])) q (.ins A.ck dq (eP "level_of" (.ref d1) []))):=λb o e hb=>by rw [aI hb,aI (aG e hd1)];exact e
 generalize upd (upd H d1 (.dT [])) q (.ins A.ck dq (eP "level_of" (.ref d1) []))=H1 at g1 e1 B1;dsimp only;k_ne;refine mw (AF λd2 hd2=>?_);lk;have nq2:q≠d2:=aG g1 hd2;refine ⟨q,A.ck,dq,_,rfl,by rw [aI nq2];exact g1,ct.lc,ct.l2,by show 1<1000;decide,?_⟩;rw [nc (by decide +kernel)];have g2:(upd (upd H1 d2 (.dT [])) q (.ins A.ck dq (("level_of",.ref d1)::eP "wooden" (.ref d2) []))) q=some (.ins A.ck dq [("level_of",.ref d1),("wooden",.ref d2)]):=aH
 have e2:(upd (upd H1 d2 (.dT [])) q (.ins A.ck dq (("level_of",.ref d1)::eP "wooden" (.ref d2) []))) d2=some (.dT []):=by rw [aI (Ne.symm nq2)];exact aH
 have B2:bD q H1 (upd (upd H1 d2 (.dT [])) q (.ins A.ck dq (("level_of",.ref d1)::eP "wooden" (.ref d2) []))):=λb o e hb=>by rw [aI hb,aI (aG e hd2)];exact e
 have UB:d1≠d2:=aG e1 hd2;generalize upd (upd H1 d2 (.dT [])) q (.ins A.ck dq (("level_of",.ref d1)::eP "wooden" (.ref d2) []))=H2 at g2 e2 B2;dsimp only;k_ne;refine mw (AF λd3 hd3=>?_);lk;have nq3:q≠d3:=aG g2 hd3;refine ⟨q,A.ck,dq,_,rfl,by rw [aI nq3];exact g2,ct.lc,ct.l3,by show 2<1000;decide,?_⟩;rw [nc (by decide +kernel),nc (by decide +kernel)];have g3:(upd (upd H2 d3 (.dT [])) q (.ins A.ck dq (("level_of",.ref d1)::("wooden",.ref d2)::eP "weight_of" (.ref d3) []))) q=some (.ins A.ck dq [("level_of",.ref d1),("wooden",.ref d2),("weight_of",.ref d3)]):=aH
 have e3:(upd (upd H2 d3 (.dT [])) q (.ins A.ck dq (("level_of",.ref d1)::("wooden",.ref d2)::eP "weight_of" (.ref d3) []))) d3=some (.dT []):=by rw [aI (Ne.symm nq3)];exact aH
 have B3:bD q H2 (upd (upd H2 d3 (.dT [])) q (.ins A.ck dq (("level_of",.ref d1)::("wooden",.ref d2)::eP "weight_of" (.ref d3) []))):=λb o e hb=>by rw [aI hb,aI (aG e hd3)];exact e
 have WO:d2≠d3:=aG e2 hd3;have Xb:d1≠d3:=aG (B2 _ _ e1 (Ne.symm nq1)) hd3;generalize upd (upd H2 d3 (.dT [])) q (.ins A.ck dq (("level_of",.ref d1)::("wooden",.ref d2)::eP "weight_of" (.ref d3) []))=H3 at g3 e3 B3;have B:=(B1.trans B2).trans B3;have f1:=B3 _ _ (B2 _ _ e1 (Ne.symm nq1)) (Ne.symm nq1);have f2:=B3 _ _ e2 (Ne.symm nq2)
 have fr:∀ {b:ah},b≠q->H3 b=none->H b=none:=λ{b} hb e=>by
  cases z:H b with
  | none=>rfl
  | some o=>rw [B _ _ z hb] at e;cases e
 have fr2:∀ {b:ah},b≠q->H2 b=none->H b=none:=λ{b} hb e=>by
  cases z:H b with
  | none=>rfl
  | some o=>rw [(B1.trans B2) _ _ z hb] at e;cases e
 have fr1:∀ {b:ah},b≠q->H1 b=none->H b=none:=λ{b} hb e=>by
  cases z:H b with
  | none=>rfl
  | some o=>rw [B1 _ _ z hb] at e;cases e
 dsimp only;refine mw ?_;lk;refine ⟨n,rfl,λj hj=>?_⟩;have hj8:=hj.small (by lia);lk;refine ⟨by lia,by lia,λacc hacc=>?_⟩
 have e0:(((j:Int)+1)).toNat=j+1:=by lia
 rw [e0];refine se (n:=j+1) (λt ys H4=>H4 acc=some (.lst ys)/\bI H3 H4/\∃ (ws:List (ah×ah×ah)) (as:Nat->List ah),ys=ws.map (λw=>V.ref w.1)/\ws.length=t/\(ws.map (·.2.2)).Nodup/\∀ (i:Nat) w,ws[i]?=some w->WA C H4 w.1 w.2.1 w.2.2 n (as i) (λi=>[(i:Int)])/\H3 w.2.2=none/\w.1≠acc/\w.2.2≠acc/\∀ b∈as i,b≠acc) (λZ=>∃ o,Z=[o,some (.int n)]) ⟨aH,bI.cV hacc,[],λ_=>[],rfl,rfl,MP,λi w hw=>nomatch hw⟩ ⟨_,rfl⟩ ?_ ?_ ?_ ?_
 .rintro t ys H4 ⟨h,_⟩;exact h
 .rintro ys H4 ⟨g4,S4,ws,as,rfl,hl,nd,hw⟩;refine ⟨aE _,?_⟩;lk;refine ⟨q,A.ck,dq,_,rfl,S4 _ _ g3,ct.lc,ct.l4,by show 3<1000;decide,?_⟩;rw [nc (by decide +kernel),nc (by decide +kernel),nc (by decide +kernel)]
  have naq:acc≠q:=λz=>by rw [z,g3] at hacc;cases hacc
  have hb:bD q H4 (upd H4 q (.ins A.ck dq (("level_of",.ref d1)::("wooden",.ref d2)::("weight_of",.ref d3)::eP "woods" (.ref acc) []))):=bD.upd
  have nl:∀ {b:ah}{o:HO},H4 b=some o->(∀ x y z,o≠.ins x y z)->b≠q:=λ{b o} e hno z=>by rw [z,S4 _ _ g3] at e;cases e;exact hno _ _ _ rfl
  refine k ⟨q,dq,d1,d2,d3,acc,ws,λ_ _=>0⟩ j as _ rfl rfl ⟨aH,hb _ _ (S4 _ _ f1) (Ne.symm nq1),hb _ _ (S4 _ _ f2) (Ne.symm nq2),hb _ _ (S4 _ _ e3) (Ne.symm nq3),hb _ _ g4 naq,hl,λi w hi=>?_,λ_ _=>Wd.start n,hn1,UB,Xb,WO,nd,λw hm=>?_⟩ hj (λb o e hne=>hb _ _ (S4 _ _ (B _ _ e hne)) hne) λb hb=>?_
  .obtain ⟨W,_⟩:=hw i w hi;refine W.out (λz=>?_) (nl W.rl (λ_ _ _ z=>nomatch z)) λa ha=>?_
   .have:=W.ob;rw [z,S4 _ _ g3] at this;cases this
   .obtain ⟨i,hi⟩:=eC.mp ha;exact nl (W.at_ i a hi) (λ_ _ _ z=>nomatch z)
  .obtain ⟨i,hi⟩:=eC.mp hm;exact Ne.symm (hw i w hi).2.2.2.1
  .simp only [fp,az,cQ] at hb
   rcases hb with rfl|rfl|rfl|rfl|⟨w,hm,rfl⟩
   .exact fr naq hacc
   .exact hd1
   .exact fr1 (Ne.symm nq2) hd2
   .exact fr2 (Ne.symm nq3) hd3
   .obtain ⟨i,hi⟩:=eC.mp hm;obtain ⟨W,h3,_⟩:=hw i w hi;exact fr (nl W.rl (λ_ _ _ z=>nomatch z)) h3
 .rintro t ys H4 ht _;exact ht
 .rintro t ys σ' H4 x H5 ht ⟨g4,S4,ws,as,rfl,hl,nd,hw⟩ ⟨o,rfl⟩ ⟨eH,ex⟩;subst eH ex;lk;refine kT ?_;refine wW ?_;lk;intro xw dxw hx hdx hne
  have T0:bI H5 (upd (upd H5 dxw (.own xw)) xw (.ins C dxw [])):=λb o e=>by rw [aI (aG e hx),aI (aG e hdx)];exact e
  refine ⟨xw,dxw,n,rfl,aH,ct.w,by lia,λl bs H6 W hl6 B6=>⟨rfl,?_⟩⟩;have T:bI H5 H6:=λb o e=>B6 _ _ (T0 _ _ e) (aG e hx);have hl5:=T0.free hl6;have nxa:xw≠acc:=Ne.symm (aG g4 hx);have nla:l≠acc:=Ne.symm (aG g4 hl5)
  have naa:∀ a∈bs,a≠acc:=λa ha z=>by
   obtain ⟨i,hi⟩:=eC.mp ha;have h1:=W.at_ i a hi;rw [z,T _ _ g4] at h1;cases ws<;>cases h1
  have SA:bI H3 (upd H6 acc (.lst (ws.map (λw=>V.ref w.1)++[.ref xw]))):=λb o e=>by rw [aI (aG e hacc)];exact T _ _ (S4 _ _ e)
  refine ⟨T _ _ g4,iM (m:=100) (by rw [ao];lia),qp.mk' ht ⟨_,rfl⟩ ⟨aH,SA,ws++[(xw,dxw,l)],(λi=>if i=t then bs else as i),by rw [bY];rfl,by rw [bN,hl];rfl,?_,λi w hi=>?_⟩⟩
  .rw [bY,jd];refine ⟨nd,by simp,λp hp q hq e=>?_⟩;obtain ⟨w,hm,rfl⟩:=cQ.mp hp;obtain ⟨i,hi⟩:=eC.mp hm;have:=(hw i w hi).1.rl;rw [DR,aK] at hq;rw [e.trans hq,hl5] at this;cases this
  .by_cases c:i=t
   .subst c;rw [← hl,eM (aE _),Ui] at hi;cases hi;dsimp only;rw [if_pos rfl];exact ⟨W.out nxa nla naa,S4.free hl5,nxa,nla,naa⟩
   .have hi':i<t:=by
     have:=(aP.mp hi).1;rw [bN,hl] at this;simp at this;lia
    rw [gA (by lia)] at hi;dsimp only;rw [if_neg c];obtain ⟨W',m1,m2,m3,m4⟩:=hw i w hi;exact ⟨(W'.same T).out m2 m3 m4,m1,m2,m3,m4⟩
variable {X:EC}
theorem V9 {ta tv:TE}{rd:V->V->Hp->VK->Prop}{f:aL}{D:vT}{Z:L2.St}(h:ta Z H λx H1=>∃ a C dx fs v,x=.ref a/\H1 a=some (.ins C dx fs)/\Fg K C/\dR K C f/\fs.lookup f=some v /\
 tv Z H1 λy H2=>rd v y H2 λz H3=>∃ dx' fs',H3 a=some (.ins C dx' fs')/\fs'.length<1000/\D.nx Z (upd H3 a (.ins C dx' (eP f z fs')))):Kn K ta tv rd f D Z H:=h
def fK (n:Nat) (q w:ah) (c1 c2 c3 c4:Int):List (aL×V):=eP "lost" (.int c4) (eP "risen" (.int c3) (eP "looked" (.int c2) (eP "came" (.int c1) (eP "wood" (.ref w) (eP "levels" (.ref q) (eP "n" (.int n) []))))))
section
variable {q w:ah}{c1 c2 c3 c4 c:Int}
theorem Wa {f:aL}{v:V}:eP f v []=[(f,v)]:=rfl
theorem wX:fK n q w c1 c2 c3 c4=([("n",.int n),("levels",.ref q),("wood",.ref w),("came",.int c1),("looked",.int c2),("risen",.int c3),("lost",.int c4)]:List (aL×V)):=by
 unfold fK
 repeat (first|rw [Wa]|rw [nc (by decide +kernel)])
theorem fK1:(fK n q w c1 c2 c3 c4).lookup ("n":aL)=some (.int n):=by rw [wX];exact vm
theorem fK2:(fK n q w c1 c2 c3 c4).lookup ("levels":aL)=some (.ref q):=by rw [wX,fA (by decide +kernel)];exact vm
theorem fK3:(fK n q w c1 c2 c3 c4).lookup ("wood":aL)=some (.ref w):=by rw [wX,fA (by decide +kernel),fA (by decide +kernel)];exact vm
theorem fK4:(fK n q w c1 c2 c3 c4).lookup ("came":aL)=some (.int c1):=by rw [wX,fA (by decide +kernel),fA (by decide +kernel),fA (by decide +kernel)];exact vm
theorem fK5:(fK n q w c1 c2 c3 c4).lookup ("looked":aL)=some (.int c2):=by rw [wX,fA (by decide +kernel),fA (by decide +kernel),fA (by decide +kernel),fA (by decide +kernel)];exact vm
theorem fK6:(fK n q w c1 c2 c3 c4).lookup ("risen":aL)=some (.int c3):=by rw [wX,fA (by decide +kernel),fA (by decide +kernel),fA (by decide +kernel),fA (by decide +kernel),fA (by decide +kernel)];exact vm
theorem fK7:(fK n q w c1 c2 c3 c4).lookup ("lost":aL)=some (.int c4):=by rw [wX,fA (by decide +kernel),fA (by decide +kernel),fA (by decide +kernel),fA (by decide +kernel),fA (by decide +kernel),fA (by decide +kernel)];exact vm
theorem Qi {m:aL}(h1:¬ m="n":=by decide +kernel) (h2:¬ m="levels":=by decide +kernel) (h3:¬ m="wood":=by decide +kernel) (h4:¬ m="came":=by decide +kernel) (h5:¬ m="looked":=by decide +kernel) (h6:¬ m="risen":=by decide +kernel) (h7:¬ m="lost":=by decide +kernel):(fK n q w c1 c2 c3 c4).lookup m=none:=by rw [wX,fA h1,fA h2,fA h3,fA h4,fA h5,fA h6,fA h7];rfl
theorem fKl:(fK n q w c1 c2 c3 c4).length<1000:=by rw [wX];show 7<1000;decide
theorem fKp4:eP "came" (.int c) (fK n q w c1 c2 c3 c4)=fK n q w c c2 c3 c4:=by rw [wX,wX,nc (by decide +kernel),nc (by decide +kernel),nc (by decide +kernel),Li]
end
theorem Top.lo (h:Top n T):2^(T+1)<=n\/T=0:=by
 rcases h.1 with z|z
 .exact .inr z
 .left
  have:((2^(T+1):Nat):Int)=2*(2:Int)^T:=by rw [Nat.pow_succ,Int.natCast_mul,Int.natCast_pow];exact Int.mul_comm _ _
  lia
theorem LV.inst {c d:ah}{fs:List (aL×V)}{o:HO}(h:LV C A H a n T ts as R) (hp:H p=some (.ins c d fs)) (h1:fs.lookup ("rows":aL)=none) (h2:fs.lookup ("woods":aL)=none):LV C A (upd H p o) a n T ts as R :=
 h.keep (X:=[p]) (Fm.upd ak) (λx f e _ hx hm=>by
  rw [aK.mp hm] at e hx
  rcases hx with z|⟨w,hw,z⟩
  .have:=h.ob;rw [← z,hp] at this;cases this;rw [fL4] at h2;cases h2
  .obtain ⟨i,_,hi⟩:=h.at hw;have:=(h.wa i w hi).ob;rw [← z,hp] at this;cases this
   rw [qP] at h1;cases h1) (λb hb hm=>h.outI hp (aK.mp hm▸hb)) (λhm=>by
   have:=h.ls
   rw [aK.mp hm,hp] at this;cases this) λb r _ e hm=>by rw [aK.mp hm,hp] at e;cases e
structure KP (C:ah) (A:CA) (H:Hp) (p dx:ah) (a:AL) (n T:Nat) (ts:List Ti) (as:Nat->List ah) (R:Nat->Nat->List Int):Prop where
 cn:∃ w:ah×ah×ah,a.ws[0]?=some w/\H p=some (.ins A.Own dx (fK n a.q w.1 ts.length 0 0 0))
 lv:LV C A H a n T ts as R
 iv:Lv n T ts R
 jn:Jn ts R
 tp:Top n T
theorem KP.ob (h:KP C A H p dx a n T ts as R):∃ (w:ah×ah×ah) (c1 c2 c3 c4:Int),a.ws[0]?=some w/\H p=some (.ins A.Own dx (fK n a.q w.1 c1 c2 c3 c4)):=let ⟨w,hw,hp⟩:=h.cn;⟨w,_,_,_,_,hw,hp⟩
theorem KP.same (h:KP C A H p dx a n T ts as R) (S:bI H H'):KP C A H' p dx a n T ts as R:=by
 obtain ⟨w,hw,hp⟩:=h.cn;exact ⟨⟨w,hw,S _ _ hp⟩,h.lv.same S,h.iv,h.jn,h.tp⟩
structure KS (C:ah) (A:CA) (a:AL) (n T:Nat) (as:Nat->List ah) (p dx:ah) (H0:Hp) (m:Nat) (fs:List (aL×V)) (H:Hp):Prop where
 g:H p=some (.ins A.Own dx fs)
 lv:LV C A H a n T [] as (λ_ i=>[(i:Int)])
 r:fs.lookup ("rows":aL)=none
 w:fs.lookup ("woods":aL)=none
 len:fs.length<=m
 b:bD p H0 H
theorem Gu (f:aL) (v:V):∀ fs:List (aL×V),(eP f v fs).length<=fs.length+1
 | []=>aE _
 | (g,x)::r=>by
  by_cases c:g=f
  .subst c;rw [Li];exact Bv _
  .rw [nc c];exact qN (Gu f v r)
theorem KS.put {H0:Hp}{m:Nat}{fs:List (aL×V)}(s:KS C A a n T as p dx H0 m fs H) (f:aL) (v:V) (h1:¬ ("rows":aL)=f:=by decide +kernel) (h2:¬ ("woods":aL)=f:=by decide +kernel):KS C A a n T as p dx H0 (m+1) (eP f v fs) (upd H p (.ins A.Own dx (eP f v fs))) :=
 ⟨aH,s.lv.inst s.g s.r s.w,by rw [fJ,if_neg h1];exact s.r,by rw [fJ,if_neg h2];exact s.w,bU (Gu f v fs) (qN s.len),s.b.trans bD.upd⟩
inductive cg (K:ae) (C:ah) (A:CA) (vs:List V) (H:Hp) (Q:VK) (E:XK):Prop
 | mk (p dx:_) (n:Nat):vs=[.ref p,.int n]->H p=some (.ins A.Own dx [])->Ii K C A->1<=n->n<=200->(∀ (a:AL) (T:Nat) (as:Nat->List ah) (H':Hp),KP C A H' p dx a n T [] as (λ_ i=>[(i:Int)])->bD p H H'->(∀ b∈a.L::fp a,H b=none)->Q .non H')->cg K C A vs H Q E
theorem sD:Rn (cg K C A) (nY K C A (br K C A) (cX K C)) lG:=by
 rintro vs H Q E ⟨p,dx,n,rfl,hp,ct,hn1,hn2,k⟩;unfold nY;lk;refine .inl ⟨.int n,rfl,.int _,?_⟩;rw [V7 hn1 hn2];refine ⟨_,rfl,?_⟩;rw [if_neg (by simp)];lk;refine mw ?_;lk;refine ⟨p,A.Own,dx,[],rfl,hp,ct.kc,ct.k1,by decide,?_⟩;have g1:(upd H p (.ins A.Own dx (eP "n" (.int n) []))) p=some (.ins A.Own dx (eP "n" (.int n) [])):=aH;have B1:bD p H (upd H p (.ins A.Own dx (eP "n" (.int n) []))):=bD.upd;generalize upd H p (.ins A.Own dx (eP "n" (.int n) []))=H1 at g1 B1;dsimp only;k_ne;refine mw (wW ?_);lk;intro q dq hq hdq hne
 have T0:bI H1 (upd (upd H1 dq (.own q)) q (.ins A.ck dq [])):=λb o e=>by rw [aI (aG e hq),aI (aG e hdq)];exact e
 refine ⟨q,dq,n,rfl,aH,ct,hn1,hn2,λa T as H2 ea ed L tp B2 fr=>⟨rfl,?_⟩⟩;subst ea ed;have T1:bI H1 H2:=λb o e=>B2 _ _ (T0 _ _ e) (aG e hq);have g2:=T1 _ _ g1
 have s2:KS C A a n T as p dx H 1 (eP "n" (.int n) []) H2:=⟨g2,L,by rw [fJ,if_neg (by decide +kernel)];rfl,by rw [fJ,if_neg (by decide +kernel)];rfl,Gu _ _ _,λb o e hb=>T1 _ _ (B1 _ _ e hb)⟩
 have frH:∀ b∈a.L::fp a,H b=none:=λb hb=>by
  have:=fr b hb
  cases z:H b with
  | none=>rfl
  | some o =>
   by_cases c:b=p
   .have e:=T0 _ _ g1;rw [← c,this] at e;cases e
   .rw [T0 _ _ (B1 _ _ z c)] at this;cases this
 obtain ⟨w,hw,hwm⟩:=L.get (dm _);lk;refine ⟨p,A.Own,dx,_,rfl,s2.g,ct.kc,ct.k2,aV s2.len (by decide),?_⟩;have s3:=s2.put "levels" (.ref a.q);generalize upd H2 p (.ins A.Own dx (eP "levels" (.ref a.q) (eP "n" (.int n) [])))=H3 at s3;dsimp only;k_ne;refine mw ?_;lk;refine kh ?_;refine kh ?_;lk;refine ⟨p,A.Own,dx,_,_,rfl,s3.g,ct.kc,ct.k2,by rw [fJ,if_pos rfl],?_⟩;refine ⟨a.q,A.ck,a.dq,_,_,rfl,s3.lv.ob,ct.lc,ct.l4,fL4,?_⟩;lk;refine sd (gb.of s3.lv.ls) (jf (j:=0) rfl (by rw [bO,hw];rfl)) ?_;lk;refine ⟨p,A.Own,dx,_,rfl,s3.g,ct.kc,ct.k3,aV s3.len (by decide),?_⟩;have s4:=s3.put "wood" (.ref w.1);generalize e4:eP ("wood":aL) (V.ref w.1) (eP "levels" (.ref a.q) (eP "n" (.int n) []))=f4 at s4;generalize upd H3 p (.ins A.Own dx f4)=H4 at s4;dsimp only;k_ne;refine mw ?_;lk;refine ⟨p,A.Own,dx,_,rfl,s4.g,ct.kc,ct.k4,aV s4.len (by decide),?_⟩;have s5:=s4.put "came" (.int 0);generalize e5:eP ("came":aL) (V.int 0) f4=f5 at s5;generalize upd H4 p (.ins A.Own dx f5)=H5 at s5;dsimp only;k_ne;refine mw ?_;lk;refine ⟨p,A.Own,dx,_,rfl,s5.g,ct.kc,ct.k5,aV s5.len (by decide),?_⟩;have s6:=s5.put "looked" (.int 0);generalize e6:eP ("looked":aL) (V.int 0) f5=f6 at s6;generalize upd H5 p (.ins A.Own dx f6)=H6 at s6;dsimp only;k_ne;refine mw ?_;lk;refine ⟨p,A.Own,dx,_,rfl,s6.g,ct.kc,ct.k6,aV s6.len (by decide),?_⟩;have s7:=s6.put "risen" (.int 0);generalize e7:eP ("risen":aL) (V.int 0) f6=f7 at s7;generalize upd H6 p (.ins A.Own dx f7)=H7 at s7;dsimp only;refine mw ?_;lk;refine ⟨p,A.Own,dx,_,rfl,s7.g,ct.kc,ct.k7,aV s7.len (by decide),?_⟩;have s8:=s7.put "lost" (.int 0);subst e4 e5 e6 e7;exact k a T as _ ⟨⟨w,hw,s8.g⟩,s8.lv,Lv.start n T tp.lo,(λt ht=>nomatch ht),tp⟩ s8.b frH
variable {X:EC}
theorem KP.p0 (h:KP C A H p dx a n T ts as R):∃ fs,H p=some (.ins A.Own dx fs):=let ⟨w,c1,c2,c3,c4,_,hp⟩:=h.ob;⟨_,hp⟩
inductive aR (K:ae) (C:ah) (A:CA) (vs:List V) (H:Hp) (Q:VK) (E:XK):Prop
 | mk (p dx a:_) (n T:Nat) (ts as R t:_) (x y:Nat):vs=[.ref p,.ref t,.int (a.g x y)]->Ii K C A->KP C A H p dx a n T ts as R->n<=200->x<y->y<n->H t=some (.tup [.int x,.int y])->((x:Int),(y:Int))∉ts.map Ti.key->ts.length<99->(∀ b as' R' H',b=!decide ((y:Int)∈R 0 x)->KP C A H' p dx a n T (ts++[⟨x,y,0,b⟩]) as' R'->Fm (p::fp a) H H'->Q (.bl b) H')->aR K C A vs H Q E
theorem ud:Rn (aR K C A) (pT K C A (ic K C A)) vH:=by
 rintro vs H Q E ⟨p,dx,a,n,T,ts,as,R,t,x,y,rfl,ct,h,hn,hxy,hy,ht,hk,hl,k⟩;obtain ⟨w,hw,hp⟩:=h.cn;generalize hc1:(ts.length:Int)=c1 at hp
 obtain ⟨c2,e2⟩:∃ c:Int,c=0:=⟨_,rfl⟩
 have hp:H p=some (.ins A.Own dx (fK n a.q w.1 c1 c2 c2 c2)):=by rw [e2];exact hp
 unfold pT;lk;refine V9 ?_;lk;refine ⟨p,A.Own,dx,_,_,rfl,hp,ct.kc,ct.k4,fK4,?_⟩;lk;refine ⟨c1,1,rfl,rfl,dx,_,hp,fKl,?_⟩;rw [fKp4];have L1:=h.lv.inst (o:=.ins A.Own dx (fK n a.q w.1 (c1+1) c2 c2 c2)) hp Qi Qi;have p1:(upd H p (.ins A.Own dx (fK n a.q w.1 (c1+1) c2 c2 c2))) p=_:=aH;have ht1:(upd H p (.ins A.Own dx (fK n a.q w.1 (c1+1) c2 c2 c2))) t=_:=(aI (mM ht hp)).trans ht;have F1:Fm (p::fp a) H (upd H p (.ins A.Own dx (fK n a.q w.1 (c1+1) c2 c2 c2))):=Fm.upd ak;generalize upd H p (.ins A.Own dx (fK n a.q w.1 (c1+1) c2 c2 c2))=H1 at L1 p1 ht1 F1;dsimp only;lk;refine gQ ?_;refine kh ?_;lk;refine ⟨p,A.Own,dx,_,_,rfl,p1,ct.kc,ct.k2,fK2,?_⟩;refine ⟨a.q,a.dq,_,rfl,L1.ob,fL0,?_⟩;lk;refine ⟨a,n,T,ts,as,R,t,x,y,rfl,ct,L1,hn,by lia,hy,ht1,h.iv.nd,hk,hl,λb ts' as' R' H2 L2 hc F2=>?_⟩
 have hkk:(ts++[(⟨x,y,0,false⟩:Ti)]).map Ti.key=ts.map Ti.key++[((x:Int),(y:Int))]:=by rw [bY];rfl
 have V:=h.iv.put hxy hy hk;have hu:(⟨x,y,0,false⟩:Ti)∈ts++[⟨x,y,0,false⟩]:=aU _ ak
 have ob:∀ b:Bool,∃ w:ah×ah×ah,a.ws[0]?=some w/\H2 p=some (.ins A.Own dx (fK n a.q w.1 (ts++[(⟨x,y,0,b⟩:Ti)]).length 0 0 0)):=λb=>⟨w,hw,by rw [bN,Int.natCast_add,hc1,← e2];exact F2 _ _ (L1.outI p1) p1⟩
 rcases hc with ⟨hj,rfl,rfl,rfl⟩|⟨hj,rfl,rfl,rfl⟩
 .refine k _ as' _ H2 (by rw [decide_eq_true hj];rfl) ⟨ob _,L2,V,λu hu=>?_,h.tp⟩ (F1.trans F2.tail)
  rcases bX.mp hu with q|q
  .exact h.jn u q
  .rw [aK.mp q];exact hj
 .have hap:∀ i,i<=(⟨x,y,0,false⟩:Ti).qq->(((⟨x,y,0,false⟩:Ti).y:Nat):Int)∉R i (⟨x,y,0,false⟩:Ti).x:=λi hi=>by rw [W2.mp hi];exact hj
  have W0:=h.iv.wd 0 (dm _)
  have V':=V.adopt hu rfl hap λi hi=>by
   have e:=W2.mp hi;subst e
   have l:=((W0.lk (a:=x) (b:=y) (by lia) hy hj).len (i:=x) (by lia))
   rw [(W0.WN (x:=x) (by lia) hy hj (.inl (W0.me x (by lia)))).2] at l
   show ((R 0 x).length+(R 0 y).length+2)*2^0<=2*n
   lia
  have es:qW (ts++[(⟨x,y,0,false⟩:Ti)]) ((x:Int),(y:Int)) Ti.Fi=ts++[⟨x,y,0,true⟩]:=by
   unfold qW;rw [bY]
   congr 1
   .exact (fY λt ht=>if_neg λe=>hk (by rw [← e];exact cF ht)).trans (List.map_id _)
   .show [if ((x:Int),(y:Int))=((x:Int),(y:Int)) then _ else _]=_
    rw [if_pos rfl];rfl
  refine k _ as' _ H2 (by rw [decide_eq_false hj];rfl) ⟨ob _,es▸L2,es▸V',λu hu'=>?_,h.tp⟩ (F1.trans F2.tail);rw [← es] at hu'
  rcases (FV (f:=Ti.Fi) V.nd hu u).mp hu' with rfl|⟨q,_⟩
  .have e:W8 R 0 x y 0=lk (R 0) x y:=if_pos (aE _)
   show (y:Int)∈W8 R 0 x y 0 x
   rw [e];exact ((W0.WN (x:=x) (by lia) hy hj (.inl (W0.me x (by lia)))).1 _).mpr (.inr (W0.me y hy))
  .rcases bX.mp q with q|q
   .obtain ⟨q1,q2,q3⟩:=h.iv.lt u q;exact V.WL hu hap q3 (by lia) _ (h.jn u q)
   .rename_i hne
    exact absurd (by rw [aK.mp q]) hne
inductive tE (K:ae) (C:ah) (A:CA) (vs:List V) (H:Hp) (Q:VK) (E:XK):Prop
 | mk (p dx a:_) (n T:Nat) (ts as R:_) (x y:Nat):vs=[.ref p,.int x,.int y]->Ii K C A->KP C A H p dx a n T ts as R->n<=200->x<n->y<n->x≠y->(((min x y:Nat):Int),((max x y:Nat):Int))∉ts.map Ti.key->ts.length<99->(a.g=λ_ _=>0)->(∀ b as' R' H',b=!decide (((max x y:Nat):Int)∈R 0 (min x y))->KP C A H' p dx a n T (ts++[⟨min x y,max x y,0,b⟩]) as' R'->Fm (p::fp a) H H'->Q (.bl b) H')->tE K C A vs H Q E
theorem Gv:Rn (tE K C A) (tu K C A (aR K C A) (dN K C)) eB:=by
 rintro vs H Q E ⟨p,dx,a,n,T,ts,as,R,x,y,rfl,ct,h,hn,hx,hy,hxy,hk,hl,hg,k⟩;obtain ⟨w,c1,c2,c3,c4,hw,hp⟩:=h.ob;unfold tu;k_in;refine ⟨p,dx,_,rfl,hp,Qi,?_⟩;k_go;refine ⟨p,A.Own,dx,_,_,rfl,hp,ct.kc,ct.k1,fK1,?_⟩;lk;refine kh ?_;refine kh ?_;lk;refine ⟨p,A.Own,dx,_,_,rfl,hp,ct.kc,ct.k2,fK2,?_⟩;refine ⟨a.q,A.ck,a.dq,_,_,rfl,h.lv.ob,ct.lc,ct.l1,fL1,?_⟩;lk;refine ⟨n,x,y,a.d1,kl ts,rfl,hx,hy,hxy,h.lv.e1,Lg hk,λt ht=>?_⟩;generalize eu_:upd _ t _=H1;obtain ⟨S1,g1⟩:=news eu_ ht;lk;exact ⟨p,dx,a,n,T,ts,as,R,t,min x y,max x y,by rw [hg];rfl,ct,h.same S1,hn,by lia,by lia,g1,hk,hl,λb as' R' H' hb h' F'=>k b as' R' H' hb h' ((Fm.of S1).trans F')⟩
variable {X:EC}
def bA (K:ae) (C:ah) (X:EC):Sp:=λvs H Q E=>(∃ (n i:Nat),vs=[.int n,.int i]/\i<n/\Q .non H)\/∃ (n:Nat) (v:V),vs=[.int n,v]/\Th v/\pe n v=false/\E (.ref X.fE) none H
theorem vJ:Ln (bA K C X) 2:=by
 rintro vs H Q E (⟨n,i,rfl,_⟩|⟨n,i,rfl,_⟩)<;>rfl
theorem vK:Rx (bA K C X) (λE=>gF K C X E (eE K C)) mE:=by
 rintro vs H Q E (⟨n,i,rfl,hi,k⟩|⟨n,v,rfl,hv,hp,k⟩)
 .unfold gF;lk;refine ⟨n,.int i,rfl,.int _,?_⟩;rw [Ob hi];refine ⟨true,rfl,?_⟩;refine jA ?_;lk;exact k
 .unfold gF;lk;refine ⟨n,v,rfl,hv,?_⟩;rw [hp];refine ⟨false,rfl,?_⟩;refine kT ?_;exact k
def bB (K:ae) (C:ah) (X:EC):Sp:=λvs H Q E=>(∃ (n i j:Nat),vs=[.int n,.int i,.int j]/\i<n/\j<n/\Q .non H)\/∃ (n:Nat) (v u:V),vs=[.int n,v,u]/\Th v/\Th u/\(pe n v && pe n u)=false/\E (.ref X.fE) none H
theorem u5:Ln (bB K C X) 3:=by
 rintro vs H Q E (⟨n,i,j,rfl,_⟩|⟨n,i,j,rfl,_⟩)<;>rfl
theorem u6:Rx (bB K C X) (λE=>fV K C E (bA K C X)) oU:=by
 rintro vs H Q E (⟨n,i,j,rfl,hi,hj,k⟩|⟨n,v,u,rfl,hv,hu,hp,k⟩)
 .unfold fV;lk;refine .inl ⟨n,i,rfl,hi,?_⟩;lk;refine .inl ⟨n,j,rfl,hj,?_⟩;exact k
 .unfold fV;lk
  cases h1:pe n v with
  | false=>exact .inr ⟨n,v,rfl,hv,h1,k⟩
  | true =>
   obtain ⟨i,hi,rfl⟩:=Yn h1;refine .inl ⟨n,i,rfl,hi,?_⟩;lk;rw [h1,kP] at hp;exact .inr ⟨n,u,rfl,hu,hp,k⟩
def bL (K:ae) (C:ah) (X:EC):Sp:=λvs H Q E=>(∃ (n i j:Nat),vs=[.int n,.int i,.int j]/\i<n/\j<n/\i≠j/\Q .non H)\/(∃ (n:Nat) (v u:V),vs=[.int n,v,u]/\Th v/\Th u/\(pe n v && pe n u)=false/\E (.ref X.fE) none H) \/
 ∃ (n i:Nat),vs=[.int n,.int i,.int i]/\i<n/\E (.ref X.Alike) none H
theorem wY:Ln (bL K C X) 3:=by
 rintro vs H Q E (⟨n,i,j,rfl,_⟩|⟨n,i,j,rfl,_⟩|⟨n,i,rfl,_⟩)<;>rfl
theorem wZ:Rx (bL K C X) (λE=>fG K C X E (bB K C X)) oU:=by
 rintro vs H Q E (⟨n,i,j,rfl,hi,hj,hij,k⟩|⟨n,v,u,rfl,hv,hu,hp,k⟩|⟨n,i,rfl,hi,k⟩)
 .unfold fG;lk;refine .inl ⟨n,i,j,rfl,hi,hj,?_⟩;lk;refine yk (λz=>absurd (ml.mp z) (by lia)) λ_=>?_;lk;exact k
 .unfold fG;lk;exact .inr ⟨n,v,u,rfl,hv,hu,hp,k⟩
 .unfold fG;lk;refine .inl ⟨n,i,i,rfl,hi,hi,?_⟩;lk;refine yk (λ_=>?_) λz=>absurd rfl z;exact k
def Wb (X:EC) (n:Nat) (kvs:List (List ig×V)) (v u:V) (put:Bool) (D:ah):Prop :=
 (D=X.fE/\Th v/\Th u/\(pe n v && pe n u)=false)\/(D=X.Alike/\∃ i:Nat,i<n/\v=.int i/\u=.int i) \/
 ∃ x y:Nat,v=.int x/\u=.int y/\x<n/\y<n/\x≠y/\(iL kvs (pk (min x y) (max x y))).isSome=put/\D=if put then X.zW else X.sL
def hU (K:ae) (C:ah) (X:EC):Sp:=λvs H _ E=>∃ (n:Nat) (d D:ah) (kvs:List (List ig×V)) (v u:V),vs=[.int n,.ref d,v,u]/\H d=some (.dT kvs)/\Wb X n kvs v u true D/\∀ H',bI H H'->E (.ref D) none H'
theorem Ij:Rx (hU K C X) (λE=>qA K C X E (bL K C X) (dH K C)) Dz:=by
 rintro vs H Q E ⟨n,d,D,kvs,v,u,rfl,hd,gU,k⟩;have k0:=k H λ_ _ e=>e;unfold qA;lk
 rcases gU with ⟨rfl,hv,hu,hp⟩|⟨rfl,i,hi,rfl,rfl⟩|⟨x,y,rfl,rfl,hx,hy,hxy,hk,rfl⟩
 .exact .inr (.inl ⟨n,v,u,rfl,hv,hu,hp,k0⟩)
 .exact .inr (.inr ⟨n,i,rfl,hi,k0⟩)
 .refine .inl ⟨n,x,y,rfl,hx,hy,hxy,?_⟩;lk;refine ⟨x,y,rfl,λp hp=>?_⟩;lk;have S:=bI.cV (o:=.tup [.int (min x y:Nat),.int (max x y:Nat)]) hp;refine .inr ⟨d,_,rfl,Hw.t (k:=pk (min x y) (max x y)) (S _ _ hd) aH,?_⟩;refine ⟨_,rfl,?_⟩;rw [show (if false=true then !(iL kvs (pk (min x y) (max x y))).isSome else (iL kvs (pk (min x y) (max x y))).isSome)=true from hk];exact kT (qt (k _ S))
def eV (K:ae) (C:ah) (X:EC):Sp:=λvs H _ E=>∃ (n:Nat) (d D:ah) (kvs:List (List ig×V)) (v u:V),vs=[.int n,.ref d,v,u]/\H d=some (.dT kvs)/\Wb X n kvs v u false D/\∀ H',bI H H'->E (.ref D) none H'
theorem zM:Rx (eV K C X) (λE=>jZ K C X E (bL K C X) (dH K C)) Dz:=by
 rintro vs H Q E ⟨n,d,D,kvs,v,u,rfl,hd,gU,k⟩;have k0:=k H λ_ _ e=>e;unfold jZ;lk
 rcases gU with ⟨rfl,hv,hu,hp⟩|⟨rfl,i,hi,rfl,rfl⟩|⟨x,y,rfl,rfl,hx,hy,hxy,hk,rfl⟩
 .exact .inr (.inl ⟨n,v,u,rfl,hv,hu,hp,k0⟩)
 .exact .inr (.inr ⟨n,i,rfl,hi,k0⟩)
 .refine .inl ⟨n,x,y,rfl,hx,hy,hxy,?_⟩;lk;refine ⟨x,y,rfl,λp hp=>?_⟩;lk;have S:=bI.cV (o:=.tup [.int (min x y:Nat),.int (max x y:Nat)]) hp;refine .inr ⟨d,_,rfl,Hw.t (k:=pk (min x y) (max x y)) (S _ _ hd) aH,?_⟩;refine ⟨_,rfl,?_⟩;rw [show (if true=true then !(iL kvs (pk (min x y) (max x y))).isSome else (iL kvs (pk (min x y) (max x y))).isSome)=true from by rw [hk];rfl];exact kT (qt (k _ S))
def cA (K:ae) (C:ah) (X:EC):Sp:=λvs H _ E=>∃ (p dx l:ah) (n:Nat) (as:List ah) (R:Nat->List Int) (v u:V),vs=[.ref p,v,u]/\CT K C/\WA C H p dx l n as R/\Th v/\Th u/\(pe n v && pe n u)=false/\E (.ref X.fE) none H
theorem AG:Rx (cA K C X) (λE=>kY K C E (bB K C X)) eB:=by
 rintro vs H Q E ⟨p,dx,l,n,as,R,v,u,rfl,ct,W,hv,hu,hp,k⟩;unfold kY;k_go;refine ⟨p,C,dx,_,_,rfl,W.ob,ct.cl,ct.n,Gs _ _,?_⟩;lk;exact .inr ⟨n,v,u,rfl,hv,hu,hp,k⟩
def gn (K:ae) (C:ah) (X:EC):Sp:=cA K C X
theorem Gw:Ln (gn K C X) 3:=(by walk_at "l")
theorem Gx:Rx (gn K C X) (λE=>oB K C E (cA K C X)) eB:=by
 rintro vs H Q E ⟨p,dx,l,n,as,R,v,u,rfl,ct,W,hv,hu,hp,k⟩;unfold oB;k_in;refine ⟨p,dx,_,rfl,W.ob,sC _ _,?_⟩;lk;exact ⟨p,dx,l,n,as,R,v,u,rfl,ct,W,hv,hu,hp,k⟩
def fP (K:ae) (C:ah) (X:EC):Sp:=λvs H _ E=>∃ (p dx l:ah) (n:Nat) (as:List ah) (R:Nat->List Int) (v:V),vs=[.ref p,v]/\CT K C/\WA C H p dx l n as R/\Th v/\pe n v=false/\E (.ref X.fE) none H
theorem Cn:Rx (fP K C X) (λE=>lX K C E (bA K C X)) qe:=by
 rintro vs H Q E ⟨p,dx,l,n,as,R,v,rfl,ct,W,hv,hp,k⟩;unfold lX;k_go;refine ⟨p,C,dx,_,_,rfl,W.ob,ct.cl,ct.n,Gs _ _,?_⟩;lk;exact .inr ⟨n,v,rfl,hv,hp,k⟩
def NoCt (H:Hp) (v:V):Prop:=Th v/\Lb v=false\/∃ (a:ah) (xs:List V),v=.ref a/\H a=some (.lst xs)
def ir (K:ae) (C:ah) (A:CA) (X:EC):Sp:=λvs H _ E=>∃ (p:ah) (v:V),vs=[.ref p,v]/\NoCt H v/\E (.ref X.j5) none H
theorem qi:Rx (ir K C A X) (λE=>jC K C A X E (br K C A) (cX K C)) lG:=by
 rintro vs H Q E ⟨p,v,rfl,hc,k⟩;unfold jC;lk
 rcases hc with ⟨hv,hc⟩|⟨a,xs,rfl,ha⟩
 .refine .inl ⟨v,rfl,hv,?_⟩;rw [hc];exact ⟨_,rfl,kT (qt k)⟩
 .exact .inr ⟨a,xs,rfl,ha,_,rfl,kT (qt k)⟩
section
variable {X:EC}
def oH (K:ae) (C:ah) (A:CA) (X:EC):Sp:=λvs H _ E=>∃ (p dx:ah) (a:AL) (n T:Nat) (ts:List Ti) (as:Nat->List ah) (R:Nat->Nat->List Int) (v u:V) (D:ah),vs=[.ref p,v,u]/\Ii K C A/\KP C A H p dx a n T ts as R/\Wb X n (kl ts) v u false D/\∀ H',bI H H'->E (.ref D) none H'
theorem w8:Rx (oH K C A X) (λE=>oC K C A E (eV K C X)) VQ:=by
 rintro vs H Q E ⟨p,dx,a,n,T,ts,as,R,v,u,D,rfl,ct,h,gU,k⟩;obtain ⟨w,c1,c2,c3,c4,hw,hp⟩:=h.ob;unfold oC;k_go;refine ⟨p,A.Own,dx,_,_,rfl,hp,ct.kc,ct.k1,fK1,?_⟩;lk;refine kh ?_;refine kh ?_;lk;refine ⟨p,A.Own,dx,_,_,rfl,hp,ct.kc,ct.k2,fK2,?_⟩;refine ⟨a.q,A.ck,a.dq,_,_,rfl,h.lv.ob,ct.lc,ct.l1,fL1,?_⟩;lk;exact ⟨n,a.d1,D,kl ts,v,u,rfl,h.lv.e1,gU,k⟩
def jl (K:ae) (C:ah) (A:CA) (X:EC):Sp:=λvs H _ E=>∃ (p dx:ah) (a:AL) (n T:Nat) (ts:List Ti) (as:Nat->List ah) (R:Nat->Nat->List Int) (v u:V),vs=[.ref p,v,u]/\Ii K C A/\KP C A H p dx a n T ts as R/\Th v/\Th u/\(pe n v && pe n u)=false/\E (.ref X.fE) none H
theorem sE:Rx (jl K C A X) (λE=>kZ K C A E (cA K C X)) eB:=by
 rintro vs H Q E ⟨p,dx,a,n,T,ts,as,R,v,u,rfl,ct,h,hv,hu,hpl,k⟩;obtain ⟨w,c1,c2,c3,c4,hw,hp⟩:=h.ob;have W:=h.lv.wa 0 w hw;unfold kZ;lk;refine gQ ?_;refine kh ?_;lk;refine ⟨p,A.Own,dx,_,_,rfl,hp,ct.kc,ct.k3,fK3,?_⟩;refine ⟨w.1,w.2.1,_,rfl,W.ob,sC _ _,?_⟩;lk;exact ⟨w.1,w.2.1,w.2.2,n,as 0,R 0,v,u,rfl,ct.w,W,hv,hu,hpl,k⟩
def lP (K:ae) (C:ah) (A:CA) (X:EC):Sp:=jl K C A X
theorem xa:Ln (lP K C A X) 3:=(by walk_at "l")
theorem xb:Rx (lP K C A X) (λE=>oE K C A E (gn K C X)) eB:=by
 rintro vs H Q E ⟨p,dx,a,n,T,ts,as,R,v,u,rfl,ct,h,hv,hu,hpl,k⟩;obtain ⟨w,c1,c2,c3,c4,hw,hp⟩:=h.ob;have W:=h.lv.wa 0 w hw;unfold oE;lk;refine gQ ?_;refine kh ?_;lk;refine ⟨p,A.Own,dx,_,_,rfl,hp,ct.kc,ct.k3,fK3,?_⟩;refine ⟨w.1,w.2.1,_,rfl,W.ob,sC _ _,?_⟩;lk;exact ⟨w.1,w.2.1,w.2.2,n,as 0,R 0,v,u,rfl,ct.w,W,hv,hu,hpl,k⟩
def ng (K:ae) (C:ah) (A:CA) (X:EC):Sp:=λvs H _ E=>∃ (p dx:ah) (a:AL) (n T:Nat) (ts:List Ti) (as:Nat->List ah) (R:Nat->Nat->List Int) (v:V),vs=[.ref p,v]/\Ii K C A/\KP C A H p dx a n T ts as R/\Th v/\pe n v=false/\E (.ref X.fE) none H
theorem vo:Rx (ng K C A X) (λE=>mX K C A E (fP K C X)) qe:=by
 rintro vs H Q E ⟨p,dx,a,n,T,ts,as,R,v,rfl,ct,h,hv,hpl,k⟩;obtain ⟨w,c1,c2,c3,c4,hw,hp⟩:=h.ob;have W:=h.lv.wa 0 w hw;unfold mX;lk;refine gQ ?_;refine kh ?_;lk;refine ⟨p,A.Own,dx,_,_,rfl,hp,ct.kc,ct.k3,fK3,?_⟩;refine ⟨w.1,w.2.1,_,rfl,W.ob,sC _ _,?_⟩;lk;exact ⟨w.1,w.2.1,w.2.2,n,as 0,R 0,v,rfl,ct.w,W,hv,hpl,k⟩
end
variable {X:EC}
theorem Wc {α β:Type} {f:α->β}{m l:List β}(h:m.Perm l):∀ us:List α,m=us.map f->∃ us':List α,us'.Perm us/\l=us'.map f:=by
 induction h with
 | nil=>exact λus e=>⟨us,.refl _,e⟩
 | cons x _ ih =>
  intro us e
  match us,e with
  | u::us,e =>
   obtain ⟨e1,e2⟩:=dZ e;obtain ⟨us',h1,h2⟩:=ih us e2
   exact ⟨u::us',h1.cons u,by rw [e1,h2];rfl⟩
 | swap x y l =>
  intro us e
  match us,e with
  | u::v::us,e =>
   obtain ⟨e1,e2⟩:=dZ e;obtain ⟨e2,e3⟩:=dZ e2
   exact ⟨v::u::us,.swap _ _ _,by rw [e1,e2,e3];rfl⟩
 | trans _ _ ih1 ih2 =>
  intro us e;obtain ⟨us1,h1,e1⟩:=ih1 us e;obtain ⟨us2,h2,e2⟩:=ih2 us1 e1;exact ⟨us2,h2.trans h1,e2⟩
theorem We {l m:List Int}(h:l.Perm m):l.sum=m.sum:=by
 induction h with
 | nil=>rfl
 | cons x _ ih=>simp [ih]
 | swap x y l=>simp;lia
 | trans _ _ h1 h2=>rw [h1,h2]
def J6 (H:Hp) (u:Ti×ah):Prop:=H u.2=some (.tup [.int u.1.x,.int u.1.y,.int u.1.qq,.bl u.1.wd])
def Wg (u:Ti×ah):V:=.ref u.2
inductive tF (K:ae) (C:ah) (A:CA) (vs:List V) (H:Hp) (Q:VK) (E:XK):Prop
 | mk (p dx a:_) (n T:Nat) (ts as R:_):vs=[.ref p]->Ii K C A->KP C A H p dx a n T ts as R->ts.length<64->(∀ (q:ah) (us:List (Ti×ah)) (o:jo) (H':Hp),H q=none->H' q=some (.lst (us.map Wg))->(∀ u∈us,J6 H' u)->(us.map (·.1)).Perm ts->H' a.d1=some (.frz o (.dT (kl ts)))->bD a.d1 H H'->Q (.ref q) H')->tF K C A vs H Q E
inductive fz (K:ae) (C:ah) (A:CA) (vs:List V) (H:Hp) (Q:VK) (E:XK):Prop
 | mk (p dx a:_) (n T:Nat) (ts as R:_):vs=[.ref p]->Ii K C A->KP C A H p dx a n T ts as R->ts.length<64->(∀ (q:ah) (us:List (Ti×ah)) (H':Hp),H q=none->H' q=some (.lst (us.map Wg))->(∀ u∈us,J6 H' u)->(us.map (·.1)).Perm ts->bI H H'->Q (.ref q) H')->fz K C A vs H Q E
theorem xc:∀ vs H Q E,fz K C A vs H Q E->tF K C A vs H (aal H Q) E:=by
 rintro vs H Q E ⟨p,dx,a,n,T,ts,as,R,rfl,ct,h,hl,k⟩;refine ⟨p,dx,a,n,T,ts,as,R,rfl,ct,h,hl,λq us o H' hq gq fl pm gd B=>.inr ⟨a.d1,o,kl ts,(λo' u' e=>by rw [h.lv.e1] at e;cases e),gd,?_⟩⟩;have hqd:q≠a.d1:=Ne.symm (aG h.lv.e1 hq);refine k q us _ hq (by rw [aI hqd];exact gq) (λu hu=>(aI (mM (fl u hu) gd)).trans (fl u hu)) pm λb ob e=>?_
 by_cases hb:b=a.d1
 .subst hb;rw [aH,← h.lv.e1,e]
 .rw [aI hb];exact B _ _ e hb
theorem xf:Rn (tF K C A) (uZ K C A (gC K C A)) gL:=by
 rintro vs H Q E ⟨p,dx,a,n,T,ts,as,R,rfl,ct,h,hl,k⟩;obtain ⟨w,c1,c2,c3,c4,hw,hp⟩:=h.ob;have hnd:=h.iv.nd;unfold uZ;lk;refine abS ?_;refine kh ?_;refine kh ?_;lk;refine ⟨p,A.Own,dx,_,_,rfl,hp,ct.kc,ct.k2,fK2,?_⟩;refine ⟨a.q,A.ck,a.dq,_,_,rfl,h.lv.ob,ct.lc,ct.l1,fL1,?_⟩;refine ⟨a.d1,kl ts,rfl,.inl ⟨h.lv.e1,λo=>?_⟩⟩;have g1:(upd H a.d1 (.frz o (.dT (kl ts)))) a.d1=some (.frz o (.dT (kl ts))):=aH;have B1:bD a.d1 H (upd H a.d1 (.frz o (.dT (kl ts)))):=bD.upd;generalize upd H a.d1 (.frz o (.dT (kl ts)))=H1 at g1 B1;have p1:=B1 _ _ hp (mM hp h.lv.e1);have q1:=B1 _ _ h.lv.ob (mM h.lv.ob h.lv.e1);have w1:=B1 _ _ h.lv.e2 (Ne.symm h.lv.UB);intro acc hacc;refine se (n:=ts.length) (λt ys H4=>H4 acc=some (.lst ys)/\bI H1 H4/\∃ us:List (Ti×ah),ys=us.map Wg/\us.map (·.1)=ts.take t/\∀ u∈us,J6 H4 u) (λZ=>∃ o,Z=[o,some (.ref p)]) ⟨aH,bI.cV hacc,[],rfl,rfl,λz hz=>nomatch hz⟩ ⟨_,rfl⟩ ?_ ?_ ?_ ?_
 .rintro t ys H4 ⟨e,_⟩;exact e
 .rintro ys H4 ⟨g4,S4,us,rfl,hu,fl⟩;refine ⟨⟨by rw [Cm];exact aE _,S4 _ _ g1⟩,?_⟩;rw [bS (aE _)] at hu
  have hul:us.length=ts.length:=by have:=congrArg qR hu;simpa using this
  lk;refine ⟨acc,us.map (λu=>([(u.1.x:Int),(u.1.y:Int),(u.1.qq:Int),b2i u.1.wd],u.2)),[false,false,true],rfl,by rw [dj];exact gb.of g4,λz hz=>?_,by rw [ao];lia,λl zs' hl4 hperm _=>?_⟩
  .obtain ⟨u,hum,rfl⟩:=cQ.mp hz;exact ⟨_,fl u hum,.int _ (.int _ (.int _ (.bl _ .nil)))⟩
  obtain ⟨us',hp',rfl⟩:=Wc hperm.symm us rfl
  have hlf:H l=none:=by
   cases z:H l with
   | none=>rfl
   | some ob =>
    by_cases hb:l=a.d1
    .rw [hb,S4 _ _ g1] at hl4;cases hl4
    .rw [S4 _ _ (B1 _ _ z hb)] at hl4;cases hl4
  have U:∀ {b:ah}{u:HO}{xs:List V},H4 b=some u->(upd H4 l (.lst xs)) b=some u:=λe=>by rw [aI (aG e hl4)];exact e
  refine k l us' o _ hlf (by rw [aH,dj];rfl) (λu hum=>U (fl u (hp'.mem_iff.mp hum))) (by rw [← hu];exact hp'.map _) (U (S4 _ _ g1)) λb ob e hb=>U (S4 _ _ (B1 _ _ e hb))
 .rintro t ys H4 ht ⟨_,S4,_⟩;exact ⟨by rw [Cm];exact ht,S4 _ _ g1⟩
 .rintro t ys σ' H4 x H5 ht ⟨g4,S4,us,rfl,hu,fl⟩ ⟨o',rfl⟩ ⟨eH,key,v,b,hk,ex,hb⟩;subst eH ex
  obtain ⟨u,hu',eu⟩:∃ u,ts[t]?=some u/\(pk u.x u.y,V.int u.qq)=(key,v):=by
   have hk:(ts.map λt=>(pk t.x t.y,V.int t.qq))[t]?=some (key,v):=hk;rw [bO] at hk;exact jS.mp hk
  cases eu;have hum:=b8 hu';lk;refine kT ?_;refine gQ ?_;refine kh ?_;lk;refine ⟨p,A.Own,dx,_,_,rfl,S4 _ _ p1,ct.kc,ct.k2,fK2,?_⟩;refine ⟨a.q,a.dq,_,rfl,S4 _ _ q1,fL0,?_⟩;lk;refine ⟨a.q,a.dq,a.d1,a.d2,a.d3,a.L,b,kl ts,kw ts,u.x,u.y,_,_,rfl,ct,S4 _ _ q1,.inr ⟨o,S4 _ _ g1⟩,.inl (S4 _ _ w1),hb,zL (f:=λt=>V.int t.qq) hnd hum,zL (f:=λt=>V.bl t.wd) hnd hum,λr hr=>?_⟩;generalize eu_:upd _ r _=H6;obtain ⟨T,gr⟩:=news eu_ hr
  have hul:us.length=t:=by
   have:=congrArg qR hu;rw [ao,cE] at this;lia
  refine ⟨T _ _ g4,iM (m:=100) (by rw [ao];lia),qp.mk' ht ⟨_,rfl⟩ ⟨aH,λb' ob e=>by rw [aI (aG e hacc)];exact T _ _ (S4 _ _ e),us++[(u,r)],by simp [Wg],?_,λz hz'=>?_⟩⟩
  .rw [bY,hu,jb,hu'];rfl
  .have tn:∀ {z:Ti×ah},J6 H6 z->J6 (upd H6 acc (.lst (us.map Wg++[.ref r]))) z:=λ{z} e=>(aI (mM e (T _ _ g4))).trans e
   rcases bX.mp hz' with hz'|hz'
   .exact tn (T _ _ (fl z hz'))
   .rw [aK.mp hz'];exact tn gr
inductive jL (K:ae) (C:ah) (A:CA) (vs:List V) (H:Hp) (Q:VK) (E:XK):Prop
 | mk (p dx a:_) (n T:Nat) (ts as R w:_) (c1 c2 c3 c4:Int):vs=[.ref p]->Ii K C A->KP C A H p dx a n T ts as R->H p=some (.ins A.Own dx (fK n a.q w c1 c2 c3 c4))->ts.length<64->(∀ (q:ah) (H':Hp),H q=none->H' q=some (.tup [.int c1,.int c2,.int c3,.int c4,.int (ts.map λt=>(T:Int)-t.qq).sum])->bI H H'->Q (.ref q) H')->jL K C A vs H Q E
theorem ue:Rn (jL K C A) (pU K C A (mH K C) (fz K C A)) gL:=by
 rintro vs H Q E ⟨p,dx,a,n,T,ts,as,R,w,c1,c2,c3,c4,rfl,ct,h,hp,hl,k⟩;unfold pU;k_go;refine ⟨p,A.Own,dx,_,_,rfl,hp,ct.kc,ct.k4,fK4,?_⟩;k_go;refine ⟨p,A.Own,dx,_,_,rfl,hp,ct.kc,ct.k5,fK5,?_⟩;k_go;refine ⟨p,A.Own,dx,_,_,rfl,hp,ct.kc,ct.k6,fK6,?_⟩;k_go;refine ⟨p,A.Own,dx,_,_,rfl,hp,ct.kc,ct.k7,fK7,?_⟩;k_go;refine ⟨p,A.Own,dx,_,_,rfl,hp,ct.kc,ct.k1,fK1,?_⟩;k_in;refine ⟨p,dx,_,rfl,hp,Qi,?_⟩;lk;refine ⟨p,dx,a,n,T,ts,as,R,rfl,ct,h,hl,λq us H1 hq gq fl pm S1=>?_⟩;lk
 have hul:us.length=ts.length:=by have:=pm.length_eq;rwa [ao] at this
 refine ⟨n,q,us.map (λu=>((u.1.qq:Int),u.2)),rfl,by rw [dj];exact gq,λz hz=>let ⟨u,hu,e⟩:=cQ.mp hz;e▸⟨_,_,_,fl u hu⟩,by rw [ao];lia,λc H2 hc S2=>?_⟩;have ec:=hc T h.tp;rw [dj] at ec
 have es:c=(ts.map λt=>(T:Int)-t.qq).sum:=by
  rw [ec,← We (pm.map _),dj];rfl
 rw [es];lk;refine ⟨sf,λr hr=>?_⟩;have S12:=S1.trans S2;exact k r _ (S12.free hr) aH (S12.trans (bI.cV hr))
theorem HE.keep (h:HE Pt H) (S:∀ b o,(∀ ks,o≠.dT ks)->(∀ xs,o≠.lst xs)->(∀ x y z,o≠.ins x y z)->(∀ o' ks,o≠.frz o' (.dT ks))->H b=some o->H' b=some o):HE Pt H':=by
 rcases h with h|⟨c',oc,vs,t,h1,h2,h3⟩
 .exact .inl (S _ _ (λ_ z=>nomatch z) (λ_ z=>nomatch z) (λ_ _ _ z=>nomatch z) (λ_ _ z=>nomatch z) h)
 .exact .inr ⟨c',oc,vs,t,S _ _ (λ_ z=>nomatch z) (λ_ z=>nomatch z) (λ_ _ _ z=>nomatch z) (λ_ _ z=>nomatch z) h1,S _ _ (λ_ z=>nomatch z) (λ_ z=>nomatch z) (λ_ _ _ z=>nomatch z) (λ_ _ z=>nomatch z) h2,h3⟩
theorem HE.same (h:HE Pt H) (S:bI H H'):HE Pt H':=h.keep λb o _ _ _ _ e=>S b o e
theorem HE.ne (h:HE Pt H) {b:ah}{o:HO}(e:H b=some o) (hn:∀ ps,o≠.tbl ps):b≠Pt:=λz=>by
 obtain ⟨ps,q⟩:=h.tbl;rw [z,q] at e;exact hn ps (aD e).symm
theorem LV.acu (h:LV C A H a n T ts as R) (hP:HE Pt H) (S:JQ Pt H H'):LV C A H' a n T ts as R :=
 h.keep (X:=[Pt]) (λb o hb e=>S b o (λz=>hb (aK.mpr z)) e) (λx fs e hf _ hx=>hP.ne e (by obtain ⟨c,d,f,rfl,_⟩:=hf;exact λ_ z=>nomatch z) (aK.mp hx)) (λb hb hx=>by
  rcases h.kind hb with ⟨ks,q⟩|⟨bs,_,q⟩
  .exact hP.ne q (λ_ z=>nomatch z) (aK.mp hx)
  .exact hP.ne q (λ_ z=>nomatch z) (aK.mp hx)) (λhx=>hP.ne h.ls (λ_ z=>nomatch z) (aK.mp hx)) λb r _ e hx=>hP.ne e (λ_ z=>nomatch z) (aK.mp hx)
variable {X:EC}
theorem KP.lt1 (h:KP C A H p dx a n T ts as R) (hP:HE Pt H) (F:Fm (p::fp a) H H'):HE Pt H' :=
 hP.keep λb o h1 h2 h3 _ e=>F b o (λz=>by
  rcases az.mp z with rfl|z
  .obtain ⟨fs,hp⟩:=h.p0;rw [hp] at e;cases e;exact h3 _ _ _ rfl
  .exact h.lv.out e h1 (λ_ _=>h2 _) z) e
theorem KP.gv (h:KP C A H p dx a n T [] as R) (g:Int->Int->Int):KP C A H p dx { a with g:=g } n T [] as R:=⟨h.cn,⟨h.lv.ob,h.lv.e1,h.lv.e2,h.lv.e3,h.lv.ls,h.lv.len,h.lv.wa,h.lv.wd,h.lv.n1,h.lv.UB,h.lv.Xb,h.lv.WO,h.lv.nl,h.lv.nL⟩,h.iv,h.jn,h.tp⟩
abbrev Tr:=Nat×Nat×Int×ah
def lo (t:Tr):Nat:=min t.1 t.2.1
def up (t:Tr):Nat:=max t.1 t.2.1
def RM (t:Tr):Int×Int:=((lo t:Int),(up t:Int))
def Ik (t:Tr):List ig×V:=(pk (lo t) (up t),.int t.2.2.1)
def fk:List ig->Int×Int
 | [bK x,bK y]=>(x,y)
 | _=>(0,0)
def refR (t:Tr):V:=.ref t.2.2.2
def TrAt (n:Nat) (H:Hp) (t:Tr):Prop:=H t.2.2.2=some (.tup [.int t.1,.int t.2.1,.int t.2.2.1])/\t.1≠t.2.1/\t.1<n/\t.2.1<n
theorem RN {kvs:List (List ig×V)}{k:List ig}(h:k∉kvs.map (·.1)):iL kvs k=none:=by
 cases e:iL kvs k with
 | none=>rfl
 | some v=>exact absurd (XT e) h
def Lj (kvs:List (List ig×V)) (x y:Int):Int:=match iL kvs [bK x,bK y] with|some (.int w)=>w|_=>0
inductive kF (K:ae) (C:ah) (A:CA) (Pt:ah) (vs:List V) (H:Hp) (Q:VK) (E:XK):Prop
 | mk (p dx W:_) (n:Nat) (ts:List Tr):vs=[.ref p,.int n,.ref W]->H p=some (.ins A.Own dx [])->Ii K C A->1<=n->n<=200->H W=some (.lst (ts.map refR))->(∀ t∈ts,TrAt n H t)->(ts.map λt=>(Ik t).1).Nodup->ts.length<64->HE Pt H->(∀ (a:AL) (T:Nat) (us:List Ti) (as:Nat->List ah) (R:Nat->Nat->List Int) H',KP C A H' p dx a n T us as R->(us.map Ti.key).Perm (ts.map RM)->(ts.length=1->∃ x y,us=[⟨x,y,0,true⟩])->HE Pt H'->(∀ b∈a.L::fp a,H b=none)->(∀ b o,b≠p->b≠Pt->H b=some o->H' b=some o)->Q .non H')->kF K C A Pt vs H Q E
theorem vL:Rn (kF K C A Pt) (ko K C A (cg K C A) (cS K C Pt) (dN K C) (aR K C A)) VI:=by
 rintro vs H Q E ⟨p,dx,W,n,ts,rfl,hp,ct,hn1,hn2,hW,htr,hnd,hlen,hT,k⟩;unfold ko;lk;refine ⟨p,dx,n,rfl,hp,ct,hn1,by lia,λa T as H1 h1 B1 fr1=>?_⟩;have pP:p≠Pt:=hT.ne hp (λ_ z=>nomatch z)
 have ni:∀ {b:ah}{o:HO},H b=some o->(∀ x y z,o≠.ins x y z)->H1 b=some o:=λ{b o} e hno=>B1 _ _ e λz=>by rw [z,hp] at e;cases e;exact hno _ _ _ rfl
 have hW1:=ni hW (λ_ _ _ z=>nomatch z)
 have htr1:∀ t∈ts,TrAt n H1 t:=λt ht=>⟨ni (htr t ht).1 (λ_ _ _ z=>nomatch z),(htr t ht).2⟩
 have hT1:HE Pt H1:=hT.keep λb o _ _ h3 _ e=>ni e h3;have h1:=h1.gv (Lj (ts.map Ik));have ef:fp { a with g:=Lj (ts.map Ik) }=fp a:=rfl;have hg:(AL.g { a with g:=Lj (ts.map Ik) })=Lj (ts.map Ik):=rfl;have fr1:∀ b∈({ a with g:=Lj (ts.map Ik) }:AL).L::fp { a with g:=Lj (ts.map Ik) },H b=none:=fr1;generalize ({ a with g:=Lj (ts.map Ik) }:AL)=a at h1 hg fr1;lk;refine AF λdW hdW=>?_;lk;have S2:=bI.cV (o:=.dT []) hdW;have gd:(upd H1 dW (.dT [])) dW=some (.dT []):=aH;have nd:dW∉fp a:=h1.lv.aaO hdW;generalize upd H1 dW (.dT [])=H2 at S2 gd;unfold mV;lk
 refine .inl ⟨⟨_,gb.of (S2 _ _ hW1)⟩,tT (K:=K) (a:=W) (xs:=ts.map refR)
  (λi Z H3=>bD dW H2 H3/\H3 dW=some (.dT ((ts.take i).map Ik))/\∃ o4 o5 o6 o7,Z=[some (.ref p),some (.int n),some (.ref W),some (.ref dW),o4,o5,o6,o7])
  ⟨bD.refl _ _,gd,_,_,_,_,rfl⟩ ?_ ?_ ?_⟩
 .rintro i Z H3 _ ⟨B,_⟩;exact gb.of (B _ _ (S2 _ _ hW1) (mM (S2 _ _ hW1) gd))
 .rintro i z Z H3 hi ⟨B,g3,o4,o5,o6,o7,rfl⟩;obtain ⟨t,ht,rfl⟩:=gm hi;have hm:=b8 ht;obtain ⟨b0,b3,b1,b2⟩:=htr1 t hm;have g2:=S2 _ _ b0;have g4:=B _ _ g2 (mM g2 gd);refine ⟨t.2.2.2,_,rfl,tK.of g4,rfl,?_⟩;lk
  have et:ts.take (i+1)=ts.take i++[t]:=by rw [jb,ht];rfl
  have hkn:pk (lo t) (up t)∉((ts.take i).map Ik).map (·.1):=λhmem=>by
   have h2:((ts.take i++[t]).map λt=>(Ik t).1).Nodup:=by rw [← et];exact ((Fn _ _).map _).nodup hnd
   rw [bY,jd] at h2;rw [dj] at hmem;exact h2.2.2 _ hmem _ ak rfl
  refine ⟨n,t.1,t.2.1,dW,_,rfl,b1,b2,b3,g3,RN hkn,λr hr=>?_⟩;lk;have nr:dW≠r:=aG g3 hr;refine .inr ⟨dW,_,rfl,Jq.t (k:=pk (lo t) (up t)) (by rw [aI nr];exact g3) aH (iM (m:=100) (by rw [ao,cE];lia)),?_⟩;refine ⟨λb o e hb=>?_,?_,_,_,_,_,rfl⟩
  .have e3:=B b o e hb;rw [aI hb,aI (aG e3 hr)];exact e3
  .rw [aH,FH _ (RN hkn),et,bY];rfl
 .rintro Z H3 ⟨B3,g3,o4,o5,o6,o7,rfl⟩;rw [bS (by rw [ao];exact aE _)] at g3;have S13:bI H1 H3:=λb o e=>B3 _ _ (S2 _ _ e) (aG e hdW);have h3:=h1.same S13;have hT3:HE Pt H3:=hT1.same S13;unfold mW;lk
  have hkeys:(ts.map Ik).map (·.1)=ts.map λt=>(Ik t).1:=by rw [dj];rfl
  have hvT:∀ t∈ts,iL (ts.map Ik) (pk (lo t) (up t))=some (.int t.2.2.1):=λt ht=>by
   obtain ⟨j,hj⟩:=eC.mp (cF (f:=Ik) ht);exact Dw (by rw [hkeys];exact hnd) hj
  have hwT:∀ t∈ts,Lj (ts.map Ik) (lo t:Nat) (up t:Nat)=t.2.2.1:=λt ht=>by
   unfold Lj;rw [show iL (ts.map Ik) [bK ((lo t:Nat):Int),bK ((up t:Nat):Int)]=some (.int t.2.2.1) from hvT t ht]
  refine ⟨dW,dW,ts.map Ik,rfl,g3,hT3,.inr ⟨ts.map Ik,a.g,g3,λq hq=>?_,by rw [ao];lia,λl zs H4 hl S4 hT4 hz pm=>?_⟩⟩
  .obtain ⟨t,ht,rfl⟩:=cQ.mp hq;exact ⟨(lo t:Nat),(up t:Nat),rfl,by rw [hg,hwT t ht];exact hvT t ht⟩
  have hzt:∀ z∈zs,∃ t∈ts,z.1=[a.g (lo t:Nat) (up t:Nat),(lo t:Int),(up t:Int)]/\H4 z.2=some (.tup [.int (lo t:Nat),.int (up t:Nat)]):=λz hzm=>by
   obtain ⟨x,y,e1,e2⟩:=hz z hzm;have hk:([bK (z.1.getD 1 0),bK (z.1.getD 2 0)]:List ig)∈(ts.map Ik).map (·.1):=pm.mem_iff.mp (cF (f:=λz:Zn=>([bK (z.1.getD 1 0),bK (z.1.getD 2 0)]:List ig)) hzm);rw [hkeys] at hk;obtain ⟨t,ht,et⟩:=cQ.mp hk;rw [e1] at et;have et:([bK ((lo t:Nat):Int),bK ((up t:Nat):Int)]:List ig)=[bK x,bK y]:=et
   injection et with ex et
   injection et with ey _
   injection ex with ex
   injection ey with ey
   subst ex ey;exact ⟨t,ht,e1,e2⟩
  have hzl:zs.length=ts.length:=by have:=pm.length_eq;simpa using this
  have hnz:(zs.map λz:Zn=>([bK (z.1.getD 1 0),bK (z.1.getD 2 0)]:List ig)).Nodup:=pm.nodup_iff.mpr (by rw [hkeys];exact hnd);have S5:=bI.cV (o:=.lst (zs.map uI)) hl;have gl:(upd H4 l (.lst (zs.map uI))) l=some (.lst (zs.map uI)):=aH
  have h4:KP C A H4 p dx a n T [] as _:=let ⟨w,hw,hp⟩:=h3.cn;⟨⟨w,hw,S4 _ _ pP hp⟩,h3.lv.acu hT3 S4,h3.iv,h3.jn,h3.tp⟩
  have nl:l∉fp a:=h4.lv.aaO hl;have g5:=S4 _ _ (hT3.ne g3 (λ_ z=>nomatch z)) g3;generalize upd H4 l (.lst (zs.map uI))=H5 at S5 gl;have h5:=h4.same S5;have hT5:=hT4.same S5;have g5:=S5 _ _ g5
  have tup5:∀ {b:ah}{xs:List V}{H6:Hp},H5 b=some (.tup xs)->Fm (p::fp a) H5 H6->H6 b=some (.tup xs):=λe F=>F _ _ (λz=>by
   obtain ⟨fs,hp⟩:=h5.p0
   exact (az.mp z).elim (mM e hp) (h5.lv.aaT e)) e
  have out5:∀ {b:ah}{o:HO}{H6:Hp},H5 b=some o->(∀ x y z,o≠.ins x y z)->b∉fp a->Fm (p::fp a) H5 H6->H6 b=some o:=λ{b o H6} e hno hb F=>F _ _ (λz=>(az.mp z).elim (λz=>by
   obtain ⟨fs,hp⟩:=h5.p0
   rw [z,hp] at e;cases e;exact hno _ _ _ rfl) hb) e
  refine ⟨l,rfl,.inl ⟨⟨_,gb.of gl⟩,tT (K:=K) (a:=l) (xs:=zs.map uI)
   (λi Z H6=>∃ (us:List Ti) (as:Nat->List ah) (R:Nat->Nat->List Int),KP C A H6 p dx a n T us as R/\us.map Ti.key=(zs.take i).map (λz=>(z.1.getD 1 0,z.1.getD 2 0))/\(i=0->R=λ(_ j:Nat)=>[(j:Int)])/\(i=1->∃ x y,us=[⟨x,y,0,true⟩])/\Fm (p::fp a) H5 H6/\∃ o4 o5 o6 o7,Z=[some (.ref p),some (.int n),some (.ref W),some (.ref dW),o4,o5,o6,o7])
   ⟨[],as,_,h5,rfl,(by intro _;rfl),(by intro z;cases z),Fm.refl,_,_,_,_,rfl⟩ ?_ ?_ ?_⟩⟩
  .rintro i Z H6 _ ⟨us,as6,R,h6,ku,_,_,F,_⟩;exact gb.of (out5 gl (λ_ _ _ z=>nomatch z) nl F)
  .rintro i zv Z H6 hi ⟨us,as6,R,h6,ku,hR,_,F,o4,o5,o6,o7,rfl⟩;obtain ⟨z,hzi,rfl⟩:=gm hi;have hzm:=b8 hzi;obtain ⟨t,ht,e1,e2⟩:=hzt z hzm;have e6:=tup5 (S5 _ _ e2) F;have d6:=out5 g5 (λ_ _ _ z=>nomatch z) nd F;obtain ⟨_,b3,b1,b2⟩:=htr1 t ht
   have hlu:lo t<up t:=by unfold lo up;lia
   have hun:up t<n:=by unfold up;lia
   obtain ⟨w,c1,c2,c3,c4,hw,hp6⟩:=h6.ob;have hilt:i<zs.length:=(aP.mp hzi).1
   have hul:us.length=i:=by have:=congrArg qR ku;rw [ao,ao,cE] at this;lia
   have ez:zs.take (i+1)=zs.take i++[z]:=by rw [jb,hzi];rfl
   have hnew:((lo t:Int),(up t:Int))∉us.map Ti.key:=λhmem=>by
    rw [ku] at hmem;obtain ⟨z',hz',e'⟩:=cQ.mp hmem
    have h2:((zs.take i++[z]).map λz:Zn=>([bK (z.1.getD 1 0),bK (z.1.getD 2 0)]:List ig)).Nodup:=by rw [← ez];exact ((Fn _ _).map _).nodup hnz
    rw [bY,jd] at h2;obtain ⟨q1,q2⟩:=jG e';exact h2.2.2 _ (cF hz') _ ak (by rw [q1,q2];show _=([bK (z.1.getD 1 0),bK (z.1.getD 2 0)]:List ig);rw [e1];rfl)
   k_in;refine ⟨p,dx,_,rfl,hp6,Qi,?_⟩;lk;refine .inr ⟨dW,.int (a.g (lo t:Nat) (up t:Nat)),rfl,.inr ⟨ts.map Ik,pk (lo t) (up t),z.2,.inl d6,rfl,e6,by rw [hg,hwT t ht];exact (hvT t ht).symm⟩,?_⟩;lk;refine ⟨p,dx,a,n,T,us,as6,R,z.2,lo t,up t,rfl,ct,h6,by lia,hlu,hun,e6,hnew,by lia,λb as7 R7 H7 hb7 h7 F7=>?_⟩;refine ⟨_,as7,R7,h7,?_,nofun,λz=>?_,F.trans F7,_,_,_,_,rfl⟩;rotate_left
   .have i0:i=0:=by lia
    subst i0;rw [hR rfl,decide_eq_false (by rw [aK];lia)] at hb7;rw [hZ.mp hul,hb7];exact ⟨_,_,rfl⟩
   rw [ez,bY,bY,ku]
   show _++[((lo t:Int),(up t:Int))]=_++[(z.1.getD 1 0,z.1.getD 2 0)]
   rw [e1];rfl
  .rintro Z H6 ⟨us,as6,R,h6,ku,_,hone,F,_⟩;rw [bS (by rw [ao];exact aE _)] at ku;refine k a T us as6 R H6 h6 ?_ (λz=>hone (by rw [ao,hzl,z])) (h5.lt1 hT5 F) fr1 λb o hb hbP e=>?_
   .have:=pm.map fk;rw [dj,dj,dj] at this;rw [ku];exact this
   refine F _ _ (λz=>(az.mp z).elim hb λz=>aG e (fr1 b (ag _ z)) rfl) (S5 _ _ (S4 _ _ hbP (S13 _ _ (B1 _ _ e hb))))
variable {X:EC}
theorem Oe {i j:aL}(h:Q (.bl (decide (V.str i=V.str j))) H):iz K (.str i) (.str j) H Q:=.inl ⟨rfl,h⟩
theorem Gy {i j:aL}(h:Q (.bl (!decide (V.str i=V.str j))) H):yj K (.str i) (.str j) H Q:=.inl ⟨rfl,h⟩
def Bl (X:EC) (D:ah) (w:aL):Prop:=(D=X.fE/\w="place")\/(D=X.Alike/\w="alike")\/(D=X.zW/\w="tied")\/(D=X.sL/\w="tie")\/(D=X.j5/\w="count")\/(D=X.lF/\w="row")\/(D=X.ur/\w="fixed")
section
variable {X:EC}{mg:aL->Option aj}
theorem sF {a D Zzq:ah}{b:Bool}{xs:List V}{w:aL}{Dn:vT}(i:Mu K D) (kk:bp K (.ref D) (.ref Zzq)=some b) (ha:H a=some (W7 a (.ref D))) (hl:H l=some (.lst xs)) (hx:xs.length<100)
  (k:∀ H',H' a=some (W7 a (.ref D))->H' l=some (.lst (xs++if b then [.str w] else []))->bD l H H'->Dn.nx [some (.ref a),some (.ref l)] H') :
  dQ (jT K (nO (v7 K) (ai (aq 0) (ai (tC (.ref Zzq)) aM)))) (gX (HD K "list" lU (aq 1) (ai (tC (.str w)) aM))) cH Dn [some (.ref a),some (.ref l)] H:=by
 refine qT (FM (PD (iF (il rfl (iF (Uy (qd (aap ha i kk ⟨b,rfl,?_⟩))))))))
 cases b with
 | false=>exact jA (k H ha (by rw [hl];simp) λ_ _ e _=>e)
 | true =>
  refine kT ?_;lk;refine ⟨.inl ⟨rfl,_,gb.of hl⟩,?_⟩;lk;exact U4 hl (iM (m:=100) hx) (k _ ((aI (mM ha hl)).trans ha) aH bD.upd)
inductive ib (K:ae) (C:ah) (X:EC) (vs:List V) (H:Hp) (Q:VK) (E:XK):Prop
 | mk (a D:_) (w:aL):vs=[.ref a]->H a=some (W7 a (.ref D))->Bl X D w->(∀ q H',bI H H'->H q=none->H' q=some (.lst [.str w])->Q (.ref q) H')->ib K C X vs H Q E
theorem Gz (T:Txt K mg C A X):Rn (ib K C X) (oA K C X) VT:=by
 rintro vs H Q E ⟨a,D,w,rfl,ha,hD,k⟩
 obtain ⟨b1,b2,b3,b4,b5,b6,b7,F,e⟩:∃ b1 b2 b3 b4 b5 b6 b7:Bool,XF K X.j5 X.fE X.Alike X.tJ X.zW X.sL X.lF X.ur X.kI D b1 b2 b3 b4 b5 b6 b7 /\
   ((((((((([]:List V)++if b1 then [.str "count"] else [])++if b2 then [.str "place"] else [])++if b3 then [.str "alike"] else [])++if false then [.str "joined"] else [])++if b4 then [.str "tied"] else [])++if b5 then [.str "tie"] else [])++if b6 then [.str "row"] else [])++if b7 then [.str "fixed"] else [])=[.str w]:=by
  rcases hD with ⟨rfl,rfl⟩|⟨rfl,rfl⟩|⟨rfl,rfl⟩|⟨rfl,rfl⟩|⟨rfl,rfl⟩|⟨rfl,rfl⟩|⟨rfl,rfl⟩
  .exact ⟨_,_,_,_,_,_,_,T.kM,rfl⟩
  .exact ⟨_,_,_,_,_,_,_,T.pw,rfl⟩
  .exact ⟨_,_,_,_,_,_,_,T.sM,rfl⟩
  .exact ⟨_,_,_,_,_,_,_,T.pq,rfl⟩
  .exact ⟨_,_,_,_,_,_,_,T.kK,rfl⟩
  .exact ⟨_,_,_,_,_,_,_,T.kH,rfl⟩
  .exact ⟨_,_,_,_,_,_,_,T.ph,rfl⟩
 have i:Mu K D:=⟨F.ex,F.it,F.ga,F.gt,F.ha,T.xhn,T.QU,F.hm⟩
 have sh:∀ {xs:List V}{b:Bool}{w:aL}{m:Nat},xs.length<=m->(xs++if b then [V.str w] else []).length<=m+1:=λ{xs b w m} h=>by
  cases b with
  | false=>rw [if_neg (by decide),ke];exact vD h
  | true=>rw [if_pos rfl,bN];exact qN h
 unfold oA;lk;refine ⟨sf,λl hl=>?_⟩;generalize eu_:upd _ l _=H0;obtain ⟨S0,g0⟩:=news eu_ hl;k_ne;have l1:=sh (xs:=[]) (b:=b1) (w:="count") (aE 0);have l2:=sh (b:=b2) (w:="place") l1;have l3:=sh (b:=b3) (w:="alike") l2;have l4:=sh (b:=false) (w:="joined") l3;have l5:=sh (b:=b4) (w:="tied") l4;have l6:=sh (b:=b5) (w:="tie") l5;have l7:=sh (b:=b6) (w:="row") l6
 with_reducible refine tW ?_
 refine sF i F.k1 (S0 _ _ ha) g0 (by decide) λH1 a1 g1 B1=>?_
 with_reducible refine tW ?_
 refine sF i F.k2 a1 g1 (aV l1 (by decide)) λH2 a2 g2 B2=>?_
 with_reducible refine tW ?_
 refine sF i F.k3 a2 g2 (aV l2 (by decide)) λH3 a3 g3 B3=>?_
 with_reducible refine tW ?_
 refine sF i F.k4 a3 g3 (aV l3 (by decide)) λH4 a4 g4 B4=>?_
 with_reducible refine tW ?_
 refine sF i F.k5 a4 g4 (aV l4 (by decide)) λH5 a5 g5 B5=>?_
 with_reducible refine tW ?_
 refine sF i F.k6 a5 g5 (aV l5 (by decide)) λH6 a6 g6 B6=>?_
 with_reducible refine tW ?_
 refine sF i F.k7 a6 g6 (aV l6 (by decide)) λH7 a7 g7 B7=>?_
 with_reducible refine tW ?_
 refine sF i F.k8 a7 g7 (aV l7 (by decide)) λH8 a8 g8 B8=>?_;rw [e] at g8;lk;refine ⟨a,D,"ValueError",true,rfl,a8,i,F.k9,⟨true,rfl,jA ?_⟩⟩;lk
 exact k l H8 (λb o e=>by
  have hb:=aG e hl
  exact B8 _ _ (B7 _ _ (B6 _ _ (B5 _ _ (B4 _ _ (B3 _ _ (B2 _ _ (B1 _ _ (S0 _ _ e) hb) hb) hb) hb) hb) hb) hb) hb) hl g8
theorem Bl.em (T:Txt K mg C A X) {D:ah}{w:aL}(h:Bl X D w):yL K (.ref D) (.ref X.kI)=some true:=by
 rcases h with ⟨rfl,_⟩|⟨rfl,_⟩|⟨rfl,_⟩|⟨rfl,_⟩|⟨rfl,_⟩|⟨rfl,_⟩|⟨rfl,_⟩
 .exact T.kM.em
 .exact T.pw.em
 .exact T.sM.em
 .exact T.pq.em
 .exact T.kK.em
 .exact T.kH.em
 .exact T.ph.em
def Wok (ws:List aL):Prop:=ws=[]\/∃ w,ws=[w]/\PyData.strOk w=true
theorem Wok.rep {ws:List aL}(h:Wok ws) {H:Hp}{b:ah}(e:H b=some (.lst (ws.map V.str))):∃ d,Rep K H d (.ref b)/\Na d/\d=.list (ws.map PyData.str):=by
 rcases h with rfl|⟨w,rfl,ok⟩
 .exact ⟨_,.lst (gb.of e) .nil,Ym [],rfl⟩
 .refine ⟨.list [.str w],?_,⟨by simp [zc,kN,ok],by simp [Pk,ka]⟩,rfl⟩;simp only [Rep];refine ⟨b,_,rfl,gb.of e,?_⟩;simp only [jV,Rep];exact ⟨_,_,rfl,rfl,rfl⟩
theorem Wok.ne {ws:List aL}(h:Wok ws) {H:Hp}{b c:ah}{Q:VK}(e:H b=some (.lst (ws.map V.str))) (e':H c=some (.lst (ws.map V.str))) (k:Q (.bl false) H):yj K (.ref b) (.ref c) H Q:=by
 obtain ⟨d,h1,h2,rfl⟩:=h.rep (K:=K) e;obtain ⟨_,h3,h4,rfl⟩:=h.rep (K:=K) e';refine abP h1 h3 h2 h4 ?_;rw [SeqAt.eqv_refl _ h2.lay];exact k
end
open Rs Rn Rd
variable {X:EC}
theorem Yq {tl:TE}{Z:L2.St}{R:It->Hp->Prop}(h:tl Z H λx H1=>∃ a:aL,x=.str a/\a.cps.all (·<128)=true/\R (Its a) H1):Vu tl Z H R:=h
abbrev sS (w:aL):List Nat:=w.cps.toList
def As (w:aL):Prop:=∀ c∈sS w,c<128
theorem As.all {w:aL}(h:As w):w.cps.all (·<128)=true:=by
 rw [← YO,mh];exact λc hc=>decide_eq_true (h c hc)
theorem gH (w:aL):(sS w).length=w.length:=by simp [EV]
theorem figs:(aa "0123456789").cps.toList=[48,49,50,51,52,53,54,55,56,57]:=by decide
def dg (c:Nat):Bool:=decide (48<=c/\c<=57)
theorem aaE (c:Nat):decide (c∈(aa "0123456789").cps.toList)=dg c:=by
 rw [figs];unfold dg;refine decide_eq_decide.mpr ?_;simp only [az,dG,or_false];omega
theorem rS {m:Nat}(h:m<=100000):m<=aT:=gB (m:=100000) h
theorem xg {w:aL}{s:String}{l:List Nat}(hs:(aa s).cps.toList=l):(V.str w=V.str (aa s))↔sS w=l:=by
 constructor
 .intro e;rw [V.str.inj e];exact hs
 .intro e;rw [Rs.ext (a:=w) (b:=aa s) (e.trans hs.symm)]
section
variable {X:EC}
inductive bQ (K:ae) (C:ah) (vs:List V) (H:Hp) (Q:VK) (E:XK):Prop
 | mk (w:aL):vs=[.str w]->As w->w.length<=1000->(∀ H',bI H H'->Q (.bl (An (sS w))) H')->bQ K C vs H Q E
theorem Eg:Rn (bQ K C) (rj K C) ["word","figures"]:=by
 rintro vs H Q E ⟨w,rfl,ha,hl,k⟩;have hsz:w.cps.size=w.length:=rfl;unfold rj;lk;refine Yq ?_;lk;refine ⟨ha.all,λacc hacc=>?_⟩;refine se (n:=w.cps.size) (λt ys H'=>∃ cs:List Nat,ys=cs.map (λc=>V.str ⟨#[c]⟩)/\cs=((sS w).take t).filter dg/\H' acc=some (.lst ys)/\bI H H') (λZ=>∃ o,Z=[o]) ⟨[],rfl,by simp,aH,bI.cV hacc⟩ ⟨_,rfl⟩ ?_ ?_ ?_ ?_
 .rintro t ys H' ⟨_,_,_,h,_⟩;exact h
 .rintro ys H1 ⟨cs,rfl,ec,g1,S1⟩;refine ⟨aE _,?_⟩;rw [show w.cps.size=(sS w).length from by simp,Zv] at ec
  have kq:∀ {b:Bool},b=An (sS w)->Q (.bl b) H1:=λe=>by rw [e];exact k H1 S1
  have no:∀ {P:Prop},(An (sS w)=true->P)->¬ P->An (sS w)=false:=λh1 h2=>by
   cases e:An (sS w) with
   | false=>rfl
   | true=>exact absurd (h1 e) h2
  lk;refine ⟨w,rfl,rS (by lia),?_⟩;lk;refine yk (λh1=>?_) λh1=>?_;rotate_left
  .refine ⟨_,rfl,jA (kq (no (λz=>(uK z).1) ?_).symm)⟩;rw [gH];lia
  lk;refine yk (λh2=>?_) λh2=>?_;rotate_left
  .refine kq (no (λz=>(uK z).2.1) ?_).symm;rw [gH];lia
  lk;refine .inl ⟨acc,_,rfl,.inl (gb.of g1),?_⟩;lk;refine ⟨w,rfl,rS (by lia),?_⟩;lk;refine yk (λh3=>?_) λh3=>?_;rotate_left
  .refine kq (no (λz=>(uK z).2.2.1) λz=>h3 (ml.mpr ?_)).symm;rw [ao,ec,List.filter_eq_self (p:=dg) |>.mpr λc hc=>decide_eq_true (z c hc),gH]
  have h3:=ml.mp h3;rw [ao,ec] at h3;have hall:NumText.AllDigits (sS w):=λc hc=>of_decide_eq_true ((List.length_filter_eq_length_iff (p:=dg)).mp (by rw [gH];lia) c hc);lk;refine Oe ⟨_,rfl,?_⟩;refine yk (λh4=>?_) λh4=>?_
  .exact kq (P1 (by rw [gH];lia) (by rw [gH];lia) hall (.inl ((xg (by decide)).mp h4))).symm
  have h4:sS w≠[48]:=λz=>h4 ((xg (by decide)).mpr z)
  cases ew:sS w with
  | nil=>have:=gH w;rw [ew] at this;simp at this;lia
  | cons c r =>
   lk;refine ⟨w,0,c,rfl,rfl,by decide,by decide,by lia,by rw [← kO];show (sS w)[0]?=_;rw [ew];rfl,?_⟩;lk;refine Gy ?_;have e0:(V.str ⟨#[c]⟩=V.str (aa "0"))↔c=48:=(xg (w:=⟨#[c]⟩) (l:=[48]) (by decide)).trans ⟨λz=>(dZ z).1,λz=>by rw [z]⟩;refine kq ?_;rw [decide_eq_decide.mpr e0]
   by_cases hc:c=48
   .rw [decide_eq_true hc];refine (no (λz=>(uK z).2.2.2) λz=>?_).symm
    rcases z with z|z
    .exact h4 z
    .exact z (by rw [ew,hc];rfl)
   .rw [decide_eq_false hc];exact (P1 (by rw [gH];lia) (by rw [gH];lia) hall (.inr (by rw [ew];simpa using hc))).symm
 .rintro t ys H1 ht ⟨cs,_⟩;exact ht
 .rintro t ys σ' H1 x H2 ht ⟨cs,rfl,ec,g1,S1⟩ ⟨o,rfl⟩ ⟨rfl,c,hc,rfl⟩
  have et:((sS w).take (t+1)).filter dg=cs++(if dg c=true then [c] else []):=by
   have hc':(sS w)[t]?=some c:=by simpa using hc
   rw [jb,hc',DP,← ec]
   by_cases q:dg c=true<;>simp [q]
  have hcl:cs.length<=1000:=by
   rw [ec];refine bU (Uh _ _) ?_;rw [cE,gH];lia
  lk;refine ⟨_,_,rfl,rfl,?_⟩;rw [StrLaws.found_one,aaE];refine ⟨_,rfl,?_⟩
  cases q:dg c with
  | true =>
   refine kT ?_;lk
   refine ⟨g1,iM (m:=100000) (by rw [ao];lia),qp.mk' ht ⟨_,rfl⟩ ⟨cs++[c],by simp,by rw [et,q];rfl,aH,λb o e=>by rw [aI (aG e hacc)];exact S1 _ _ e⟩⟩
  | false=>exact jA (qp.mk' ht ⟨_,rfl⟩ ⟨cs,rfl,by rw [et,q];simp,g1,S1⟩)
end
variable {X:EC}
theorem dash:aa "-"=⟨#[45]⟩:=Rs.ext (by decide)
theorem ab7:aa ":"=⟨#[58]⟩:=Rs.ext (by decide)
theorem RO:aa " "=⟨#[32]⟩:=Rs.ext (by decide)
section
variable {X:EC}
inductive dM (K:ae) (C:ah) (vs:List V) (H:Hp) (Q:VK) (E:XK):Prop
 | mk (w:aL):vs=[.str w]->As w->w.length<=1000->(∀ H',bI H H'->Q (.bl (wc (sS w))) H')->dM K C vs H Q E
theorem Il:Rn (dM K C) (uS K C (bQ K C)) gg:=by
 rintro vs H Q E ⟨w,rfl,ha,hl,k⟩;have et:=Yk w;have ed:=Yl w;unfold uS;lk;refine ⟨w,rfl,ha,hl,λH1 S1=>⟨_,rfl,?_⟩⟩;have k0:=k;have k:=k H1 S1;unfold wc at k
 cases hu:An (sS w) with
 | true=>rw [hu] at k;exact kT k
 | false =>
  rw [hu,Dp] at k;refine jA ?_;lk;refine ⟨w,rfl,rS (by lia),?_⟩;lk;refine Oe ⟨_,rfl,?_⟩;have e1:(V.str (Txt.slice w none (some 1))=V.str (aa "-"))↔(sS w).take 1=[45]:=(xg (l:=[45]) (by decide)).trans (by rw [show sS (Txt.slice w none (some 1))=_ from et]);refine yk (λh1=>?_) λh1=>?_;rotate_left
  .rw [show ((sS w).take 1 == [45])=false from beq_eq_false_iff_ne.mpr λz=>h1 (e1.mpr z),jF,jF] at k;exact k
  rw [show ((sS w).take 1 == [45])=true from beq_iff_eq.mpr (e1.mp h1),kP] at k;lk;refine Gy ⟨_,rfl,?_⟩;have e2:(V.str w=V.str (aa "-0"))↔sS w=[45,48]:=xg (by decide)
  by_cases h2:sS w=[45,48]
  .rw [decide_eq_true (e2.mpr h2)];rw [show (sS w != [45,48])=false from by rw [h2];rfl,jF] at k;exact jA k
  .rw [decide_eq_false λz=>h2 (e2.mp z)];rw [show (sS w != [45,48])=true from bne_iff_ne.mpr h2,kP] at k;refine kT ?_;lk;refine ⟨w,rfl,rS (by lia),?_⟩;lk;refine ⟨_,rfl,λc hc=>ha c ?_,bU (Txt.slice_le w _ _) hl,λH2 S2=>?_⟩
   .rw [show sS (Txt.slice w (some 1) none)=_ from ed] at hc;exact z9 hc
   .rw [show sS (Txt.slice w (some 1) none)=_ from ed];have k:=k0 H2 (S1.trans S2);unfold wc at k;rw [hu,Dp,show ((sS w).take 1 == [45])=true from beq_iff_eq.mpr (e1.mp h1),kP,show (sS w != [45,48])=true from bne_iff_ne.mpr h2,kP] at k;exact k
theorem ab8 {w:List Nat}(h:An w=true):wc w=true:=by unfold wc;rw [h,Sg]
inductive eX (K:ae) (C:ah) (vs:List V) (H:Hp) (Q:VK) (E:XK):Prop
 | mk (w:aL):vs=[.str w]->As w->w.length<=1000->An (sS w)=true->(∀ H',bI H H'->Q (.int (ki (sS w))) H')->eX K C vs H Q E
theorem Eh:Rn (eX K C) (rk K C (bQ K C)) gg:=by
 rintro vs H Q E ⟨w,rfl,ha,hl,hu,k⟩;obtain ⟨r1,r2⟩:=VD (ab8 hu);unfold rk;lk;refine ⟨w,rfl,ha,hl,λH1 S1=>⟨_,rfl,?_⟩⟩;rw [hu];refine jA ?_;lk;exact ⟨w,_,rfl,by lia,r1,k H1 S1⟩
def uf (K:ae) (C:ah) (X:EC):Sp:=λvs H _ E=>∃ w:aL,vs=[.str w]/\As w/\w.length<=1000/\An (sS w)=false/\∀ H',bI H H'->E (.ref X.lF) none H'
theorem AH:Rx (uf K C X) (λE=>lg K C X E (bQ K C)) gg:=by
 rintro vs H Q E ⟨w,rfl,ha,hl,hu,k⟩;unfold lg;lk;refine ⟨w,rfl,ha,hl,λH1 S1=>⟨_,rfl,?_⟩⟩;rw [hu];exact kT (qt (k H1 S1))
inductive cj (K:ae) (C:ah) (vs:List V) (H:Hp) (Q:VK) (E:XK):Prop
 | mk (w:aL):vs=[.str w]->As w->w.length<=1000->wc (sS w)=true->(∀ H',bI H H'->Q (.int (ki (sS w))) H')->cj K C vs H Q E
theorem Im:Rn (cj K C) (uT K C (dM K C)) gg:=by
 rintro vs H Q E ⟨w,rfl,ha,hl,hu,k⟩;obtain ⟨r1,r2⟩:=VD hu;unfold uT;lk;refine ⟨w,rfl,ha,hl,λH1 S1=>⟨_,rfl,?_⟩⟩;rw [hu];refine jA ?_;lk;exact ⟨w,_,rfl,by lia,r1,k H1 S1⟩
def nh (K:ae) (C:ah) (X:EC):Sp:=λvs H _ E=>∃ w:aL,vs=[.str w]/\As w/\w.length<=1000/\wc (sS w)=false/\∀ H',bI H H'->E (.ref X.lF) none H'
theorem Ei:Rx (nh K C X) (λE=>mY K C X E (dM K C)) gg:=by
 rintro vs H Q E ⟨w,rfl,ha,hl,hu,k⟩;unfold mY;lk;refine ⟨w,rfl,ha,hl,λH1 S1=>⟨_,rfl,?_⟩⟩;rw [hu];exact kT (qt (k H1 S1))
end
theorem prt (w:aL) (c:Nat):sS (Txt.partition w ⟨#[c]⟩).1=Fh c (sS w)/\sS (Txt.partition w ⟨#[c]⟩).2.2=z7 c (sS w):=Ap w c
theorem As.Fh {w:aL}(h:As w) (c:Nat):As (Txt.partition w ⟨#[c]⟩).1:=λd hd=>h d (by
 rw [show sS (Txt.partition w ⟨#[c]⟩).1=_ from (Ap w c).1] at hd
 exact Sl _ |>.mem hd)
theorem As.z7 {w:aL}(h:As w) (c:Nat):As (Txt.partition w ⟨#[c]⟩).2.2:=λd hd=>h d (by
 rw [show sS (Txt.partition w ⟨#[c]⟩).2.2=_ from (Ap w c).2] at hd
 exact Sm _ |>.mem (z9 hd))
theorem AI (w:aL) (c:Nat):(Txt.partition w ⟨#[c]⟩).1.length<=w.length/\(Txt.partition w ⟨#[c]⟩).2.2.length<=w.length:=by
 rw [← gH,← gH,← gH,show sS (Txt.partition w ⟨#[c]⟩).1=_ from (Ap w c).1,show sS (Txt.partition w ⟨#[c]⟩).2.2=_ from (Ap w c).2]
 constructor
 .exact (Sl _).length_le
 .show (((sS w).dropWhile (· != c)).drop 1).length<=_
  rw [c8];exact bU (Nat.sub_le _ _) (Sm (· != c)).length_le
section
variable {X:EC}
theorem J7 {w:aL}{D:vT}{s1 s2:Sp}{E:XK}(hl:w.length<=1000)
  (k:∀ (p q:ah) (H':Hp),bI H H'->H' p=some (.tup [.str (Txt.partition w ⟨#[45]⟩).1,.str (Txt.partition w ⟨#[45]⟩).2.1,.str (Txt.partition w ⟨#[45]⟩).2.2]) ->
   H' q=some (.tup [.str (Txt.partition (Txt.partition w ⟨#[45]⟩).2.2 ⟨#[58]⟩).1,.str (Txt.partition (Txt.partition w ⟨#[45]⟩).2.2 ⟨#[58]⟩).2.1,.str (Txt.partition (Txt.partition w ⟨#[45]⟩).2.2 ⟨#[58]⟩).2.2]) ->
   cY (kb (ai (cu s1 [] E (ai (bT (d9 K) (aq 1) (tC (.int 0))) aM)) (ai (cu s1 [] E (ai (bT (d9 K) (aq 2) (tC (.int 0))) aM)) (ai (cu s2 [] E (ai (bT (d9 K) (aq 2) (tC (.int 2))) aM)) aM)))) D [some (.str w),some (.ref p),some (.ref q)] H') :
  iH K C E s1 s2 D (start J2 [.str w]) H:=by
 unfold iH;lk;refine ⟨rfl,?_⟩;lk;refine ⟨w,_,rfl,rfl,by decide,rS (by lia),λp hp=>?_⟩;rw [dash];generalize eu_:upd _ p _=H1;obtain ⟨S1,g1⟩:=news eu_ hp;have hl2:=(AI w 45).2;lk;refine tX (tK.of g1) rfl ⟨rfl,?_⟩;lk;refine ⟨_,_,rfl,rfl,by decide,rS (by lia),λq hq=>?_⟩;rw [ab7];k_ne;exact k p q _ (S1.trans (bI.cV hq)) ((aI (aG g1 hq)).trans g1) aH
theorem ab9 {w:List Nat}{t:Int×Int×Int}(h:wt w=some t):An (Fh 45 w)=true/\An (Fh 58 (z7 45 w))=true/\wc (z7 58 (z7 45 w))=true/\t=(ki (Fh 45 w),ki (Fh 58 (z7 45 w)),ki (z7 58 (z7 45 w))):=by
 unfold wt at h
 split at h
 .rename_i hc
  rw [cq,cq] at hc;exact ⟨hc.1.1,hc.1.2,hc.2,(aD h).symm⟩
 .cases h
inductive gj (K:ae) (C:ah) (vs:List V) (H:Hp) (Q:VK) (E:XK):Prop
 | mk (w:aL) (t:Int×Int×Int):vs=[.str w]->As w->w.length<=1000->wt (sS w)=some t->(∀ q H',bI H H'->H' q=some (.tup [.int t.1,.int t.2.1,.int t.2.2])->Q (.ref q) H')->gj K C vs H Q E
theorem GA:Rn (gj K C) (yU K C (eX K C) (cj K C)) J2:=by
 rintro vs H Q E ⟨w,t,rfl,ha,hl,ht,k⟩;obtain ⟨h1,h2,h3,rfl⟩:=ab9 ht;have e1:=prt w 45;have e2:=prt (Txt.partition w ⟨#[45]⟩).2.2 58;have l1:=AI w 45;have l2:=AI (Txt.partition w ⟨#[45]⟩).2.2 58;rw [e1.2] at e2
 show iH K C E0 _ _ _ _ H
 refine J7 hl λp q H1 S1 gp gq=>?_;lk;refine tX (tK.of gp) rfl ?_;lk;refine ⟨_,rfl,ha.Fh 45,by lia,by rw [e1.1];exact h1,λH2 S2=>?_⟩;lk;refine tX (tK.of (S2 _ _ gq)) rfl ?_;lk;refine ⟨_,rfl,(ha.z7 45).Fh 58,by lia,by rw [e2.1];exact h2,λH3 S3=>?_⟩;lk;refine tX (tK.of (S3 _ _ (S2 _ _ gq))) rfl ?_;lk;refine ⟨_,rfl,(ha.z7 45).z7 58,by lia,by rw [e2.2];exact h3,λH4 S4=>?_⟩;lk;refine ⟨sf,λr hr=>?_⟩;refine k r _ (((S1.trans S2).trans S3).trans (S4.trans (bI.cV hr))) ?_;rw [aH,e1.1,e2.1,e2.2]
def vp (K:ae) (C:ah) (X:EC):Sp:=λvs H _ E=>∃ w:aL,vs=[.str w]/\As w/\w.length<=1000/\wt (sS w)=none/\∀ H',bI H H'->E (.ref X.lF) none H'
theorem Co:Rx (vp K C X) (λE=>iH K C E (KH (eX K C) (uf K C X)) (KH (cj K C) (nh K C X))) J2:=by
 rintro vs H Q E ⟨w,rfl,ha,hl,ht,k⟩;have e1:=prt w 45;have e2:=prt (Txt.partition w ⟨#[45]⟩).2.2 58;have l1:=AI w 45;have l2:=AI (Txt.partition w ⟨#[45]⟩).2.2 58;rw [e1.2] at e2;refine J7 hl λp q H1 S1 gp gq=>?_;lk;refine tX (tK.of gp) rfl ?_;lk
 cases h1:An (Fh 45 (sS w)) with
 | false=>exact .inr ⟨_,rfl,ha.Fh 45,by lia,by rw [e1.1];exact h1,λH2 S2=>k _ (S1.trans S2)⟩
 | true =>
 refine .inl ⟨_,rfl,ha.Fh 45,by lia,by rw [e1.1];exact h1,λH2 S2=>?_⟩;lk;refine tX (tK.of (S2 _ _ gq)) rfl ?_;lk
 cases h2:An (Fh 58 (z7 45 (sS w))) with
 | false=>exact .inr ⟨_,rfl,(ha.z7 45).Fh 58,by lia,by rw [e2.1];exact h2,λH3 S3=>k _ ((S1.trans S2).trans S3)⟩
 | true =>
 refine .inl ⟨_,rfl,(ha.z7 45).Fh 58,by lia,by rw [e2.1];exact h2,λH3 S3=>?_⟩;lk;refine tX (tK.of (S3 _ _ (S2 _ _ gq))) rfl ?_;lk;refine .inr ⟨_,rfl,(ha.z7 45).z7 58,by lia,?_,λH4 S4=>k _ (((S1.trans S2).trans S3).trans S4)⟩;rw [e2.2]
 cases h3:wc (z7 58 (z7 45 (sS w))) with
 | false=>rfl
 | true=>unfold wt at ht;rw [h1,h2,h3] at ht;cases ht
end
variable {X:EC}
section
variable {X:EC}
inductive gM (K:ae) (C:ah) (vs:List V) (H:Hp) (Q:VK) (E:XK):Prop
 | mk (p:_) (ws:List aL):vs=[.ref p]->H p=some (.lst (ws.map V.str))->ws≠[]->(ws.map (·.length)).sum+ws.length<=100000->Q (.str (Txt.join (aa " ") ws)) H->gM K C vs H Q E
theorem Qj:Rn (gM K C) (Ca K C) DB:=by
 rintro vs H Q E ⟨p,ws,rfl,hp,hne,hl,k⟩;unfold Ca;lk;refine ⟨true,.inl ⟨_,gb.of hp,?_⟩,kT ?_⟩
 .cases ws with
  | nil=>exact absurd rfl hne
  | cons a r=>rfl
 lk;refine ⟨rfl,?_⟩;lk;exact ⟨_,p,ws,rfl,rfl,gb.of hp,by rw [RO];show _+_*1<=_;lia,k⟩
theorem j1 {i:Int}(h:i.natAbs<10^60):(aa (toString i)).length<=61/\i.natAbs.log2<1920:=by
 constructor
 .rw [← gH,show sS (aa (toString i))=_ from Rn.signs i];have:=Am (k:=60) (by decide) h
  split
  .rw [bo];lia
  .lia
 .by_cases z:i.natAbs=0
  .rw [z];decide
  .rw [Nat.log2_lt z];exact Nat.lt_trans h (by decide)
inductive fO (K:ae) (C:ah) (vs:List V) (H:Hp) (Q:VK) (E:XK):Prop
 | mk (p:_) (is:List Int):vs=[.ref p]->H p=some (.tup (is.map V.int))->is≠[]->is.length<=5->(∀ i∈is,i.natAbs<10^60)->(∀ H',bI H H'->Q (.str (Txt.join (aa " ") (is.map λi=>aa (toString i)))) H')->fO K C vs H Q E
theorem Cp:Rn (fO K C) (pN K C (gM K C)) Gb:=by
 rintro vs H Q E ⟨p,is,rfl,hp,hne,hl,hi,k⟩;unfold pN;lk;refine .inr (.inl ⟨⟨_,tK.of hp⟩,λacc hacc=>?_⟩);refine se (n:=is.length) (λt ys H'=>ys=((is.take t).map λi=>aa (toString i)).map V.str/\H' acc=some (.lst ys)/\bI H H') (λZ=>∃ o,Z=[o]) ⟨by simp,aH,bI.cV hacc⟩ ⟨_,rfl⟩ ?_ ?_ ?_ ?_
 .rintro i ys H' ⟨_,h,_⟩;exact h
 .rintro ys H' ⟨rfl,h,S'⟩;rw [bS (aE _)] at h;refine ⟨⟨_,S'.aaU (tK.of hp),by rw [ao];exact aE _⟩,?_⟩;lk;refine ⟨acc,_,rfl,h,λz=>hne (WZ.mp z),?_,k H' S'⟩
  have:∀ l:List Int,(∀ i∈l,i.natAbs<10^60)->((l.map λi=>aa (toString i)).map (·.length)).sum<=61*l.length:=λl=>by
   induction l with
   | nil=>exact λ_=>aE _
   | cons a r ih =>
    intro hh;have h1:=(j1 (hh a ak)).1;have h2:=ih λi hi=>hh i (ag _ hi);rw [bx,bx,Ph,bo];lia
  have:=this is hi;rw [ao];lia
 .rintro i ys H' ht ⟨e,h,S'⟩;exact ⟨_,_,S'.aaU (tK.of hp),bc (by rw [ao];exact ht)⟩
 .rintro i ys σ' H' v H2 ht ⟨rfl,h,S'⟩ ⟨o,rfl⟩ ⟨e2,hx⟩;subst e2;have hxi:=hx _ (S'.aaU (tK.of hp))
  obtain ⟨a,ha⟩:∃ a,is[i]?=some a:=⟨_,bc ht⟩
  rw [bO,ha] at hxi;obtain rfl:=(aD hxi).symm
  have et:is.take (i+1)=is.take i++[a]:=by rw [jb,ha];rfl
  lk;refine kT ?_;lk;refine lL (j1 (hi a (b8 ha))).2 ?_;refine ⟨h,iM (m:=10) (by rw [ao,ao,cE];lia),qp.mk' ht ⟨_,rfl⟩ ⟨?_,aH,λb o q=>by rw [aI (aG q hacc)];exact S' _ _ q⟩⟩;rw [et,bY,bY]
  rfl
def jv (K:ae) (C:ah):Sp:=λvs H Q _=>vs=[.int 0,.int 1]/\Q (.str (aa "0-1")) H
theorem Lk:Ln (jv K C) 2:=by
 rintro vs H Q E ⟨rfl,_⟩;rfl
theorem Ll:Rn (jv K C) (wD K C) qf:=by
 rintro vs H Q E ⟨rfl,k⟩;unfold wD;k_ne;have e:aa (toString (0:Int))++aa "-"++aa (toString (1:Int))=aa "0-1":=Rs.ext (by decide);refine ⟨_,rfl,0,rfl,by decide,by decide,by decide,?_⟩;refine ⟨_,rfl,1,rfl,by decide,by decide,?_⟩;rw [e];exact k
def iN (K:ae) (C:ah):Sp:=λvs H Q _=>vs=[.int 0,.int 1,.int 0,.bl true]/\Q (.str (aa "0-1:0*")) H
theorem Io:Ln (iN K C) 4:=by
 rintro vs H Q E ⟨rfl,_⟩;rfl
theorem Ip:Rn (iN K C) (uU K C (jv K C)) BO:=by
 rintro vs H Q E ⟨rfl,k⟩;unfold uU;lk;refine ⟨rfl,?_⟩;lk;refine ⟨_,_,rfl,rfl,rS (by decide),?_⟩;lk;refine lL (by decide) ?_;refine ⟨_,_,rfl,rfl,rS (by decide),?_⟩;lk;refine ⟨true,rfl,kT ?_⟩;lk;refine ⟨_,_,rfl,rfl,rS (by decide),?_⟩;have e:aa "0-1"++aa ":"++aa (toString (0:Int))++aa "*"=aa "0-1:0*":=Rs.ext (by decide);rw [show (aa "0-1"++aa ":"++(toString (0:Int):aL)++aa "*")=_ from e];exact k
inductive iQ (K:ae) (C:ah) (vs:List V) (H:Hp) (Q:VK) (E:XK):Prop
 | mk (p r:_):vs=[.ref p]->H p=some (.lst [.ref r])->H r=some (.tup [.int 0,.int 1,.int 0,.bl true])->(∀ H',bI H H'->Q (.str (aa "0-1:0*")) H')->iQ K C vs H Q E
theorem Iq:Rn (iQ K C) (uV K C (gM K C) (iN K C)) ["ties"]:=by
 rintro vs H Q E ⟨p,r,rfl,hp,hr,k⟩;unfold uV;lk;refine .inl ⟨⟨_,gb.of hp⟩,λacc hacc=>?_⟩;refine X2 (K:=K) [()] (λ_=>true) (λ_=>.str (aa "0-1:0*")) (λZ=>∃ o o1 o2 o3,Z=[o,o1,o2,o3]) rfl (gb.of hp) hacc ⟨_,_,_,_,rfl⟩ (by show 1<=100000;decide) ?_ λH1 S1 g1=>?_
 .rintro i z x σ' H' G G' hz hx S' ⟨o,o1,o2,o3,rfl⟩ hG hG'
  obtain ⟨rfl⟩:i=0:=by
   have:=(aP.mp hz).1
   simpa using this
  cases hx;refine Kz (.of (S' _ _ hr)) rfl ?_;lk;refine kT ?_;lk;exact ⟨rfl,hG rfl _ ⟨_,_,_,_,rfl⟩⟩
 .lk;refine ⟨acc,[aa "0-1:0*"],rfl,g1,by simp,by decide,?_⟩;have e:Txt.join (aa " ") [aa "0-1:0*"]=aa "0-1:0*":=rfl;rw [e];exact k H1 S1
end
variable {X:EC}
abbrev Tg:=Int×Int×Int×ah
def aaF (t:Tg):V:=.ref t.2.2.2
def TgAt (H:Hp) (t:Tg):Prop:=H t.2.2.2=some (.tup [.int t.1,.int t.2.1,.int t.2.2.1])
def TB (t:Tg):Tr:=(t.1.toNat,t.2.1.toNat,t.2.2.1,t.2.2.2)
def t3 (t:Tg):Int×Int×Int:=(t.1,t.2.1,t.2.2.1)
def kG (t:Tg):Int×Int:=(min t.1 t.2.1,max t.1 t.2.1)
theorem acb {t:Tg}{x y:Nat}(e1:t.1=x) (e2:t.2.1=y):RM (TB t)=kG t:=by
 unfold RM TB kG lo up;rw [e1,e2];simp only [pB];refine Prod.ext ?_ ?_
 .show ((min x y:Nat):Int)=min (x:Int) (y:Int);lia
 .show ((max x y:Nat):Int)=max (x:Int) (y:Int);lia
theorem E4 (n:Nat) (a:Int):pe n (.int a)=pl n a:=rfl
theorem Og (n:Nat) (a b:Int):(pd n a b=some "place"/\(pe n (.int a) && pe n (.int b))=false)\/(pd n a b=some "alike"/\∃ i:Nat,i<n/\a=i/\b=i)\/(pd n a b=none/\∃ i j:Nat,i<n/\j<n/\i≠j/\a=i/\b=j):=by
 unfold pd;rw [E4,E4]
 cases h:pl n a && pl n b with
 | false=>exact .inl ⟨rfl,rfl⟩
 | true =>
  rw [cq] at h;obtain ⟨h1,h2⟩:=h;unfold pl at h1 h2;rw [cq,decide_eq_true_iff,decide_eq_true_iff] at h1 h2;rw [if_pos rfl]
  by_cases e:a=b
  .rw [if_pos e];exact .inr (.inl ⟨rfl,a.toNat,by lia,by lia,by lia⟩)
  .rw [if_neg e];exact .inr (.inr ⟨rfl,a.toNat,b.toNat,by lia,by lia,by lia,by lia,by lia⟩)
def kdF (f:Tr->V) (us:List Tr):List (List ig×V):=us.map λu=>(pk (lo u) (up u),f u)
theorem Wh {t u:Tr}:pk (lo t) (up t)=pk (lo u) (up u)↔RM t=RM u:=by
 unfold pk RM
 constructor
 .intro e
  injection e with e1 e
  injection e with e2 _
  injection e1 with e1
  injection e2 with e2
  rw [e1,e2]
 .intro e;obtain ⟨e1,e2⟩:=jG e;rw [e1,e2]
theorem Wi (f:Tr->V) (us:List Tr) (t:Tr):(iL (kdF f us) (pk (lo t) (up t))).isSome=decide (RM t∈us.map RM):=by
 rw [← tV,nH,Zk,decide_eq_true_iff];unfold kdF
 constructor
 .rintro ⟨q,hq,e⟩;obtain ⟨u,hu,rfl⟩:=cQ.mp hq;exact cQ.mpr ⟨u,hu,Wh.mp (of_decide_eq_true e)⟩
 .intro h;obtain ⟨u,hu,e⟩:=cQ.mp h;exact ⟨_,cF hu,decide_eq_true (Wh.mpr e)⟩
theorem Oh {f:Tr->V}{us:List Tr}{t:Tr}(h:RM t∉us.map RM):iL (kdF f us) (pk (lo t) (up t))=none:=by
 have:=Wi f us t
 cases e:iL (kdF f us) (pk (lo t) (up t)) with
 | none=>rfl
 | some v=>rw [e,decide_eq_false h] at this;cases this
section
variable {X:EC}{mg:aL->Option aj}
theorem Bl.one {D D':ah}{w:aL}(h:Bl X D w) (h':Bl X D' w):D=D':=by
 rcases h with ⟨rfl,rfl⟩|⟨rfl,rfl⟩|⟨rfl,rfl⟩|⟨rfl,rfl⟩|⟨rfl,rfl⟩|⟨rfl,rfl⟩|⟨rfl,rfl⟩<;>rcases h' with ⟨rfl,e⟩|⟨rfl,e⟩|⟨rfl,e⟩|⟨rfl,e⟩|⟨rfl,e⟩|⟨rfl,e⟩|⟨rfl,e⟩<;>first|rfl|exact absurd e (by decide +kernel)
def nj (K:ae) (C:ah) (A:CA) (X:EC):Sp:=λvs H _ E=>∃ (p dx W D:ah) (c:Int) (ts:List Tg) (w:aL),vs=[.ref p,.int c,.ref W]/\H p=some (.ins A.Own dx [])/\Ii K C A/\H W=some (.lst (ts.map aaF))/\(∀ t∈ts,TgAt H t)/\ts.length<=60/\Bl X D w /\
 ((Lb (.int c)=false/\w="count")\/∃ n:Nat,c=n/\1<=n/\n<=200/\wg n [] (ts.map t3)=some w)/\∀ H',(∀ b o,b≠p->H b=some o->H' b=some o)->E (.ref D) none H'
theorem ug {s1 s2:Sp}:Rx (nj K C A X) (λE=>hJ K C A E (KH (cg K C A) (ir K C A X)) s1 (KH (dN K C) (hU K C X)) s2) VI:=by
 rintro vs H Q E ⟨p,dx,W,D,c,ts,w,rfl,hp,ct,hW,htr,hlen,hdw,hc,k⟩;unfold hJ;lk
 rcases hc with ⟨hc,rfl⟩|⟨n,rfl,hn1,hn2,hdue⟩
 .refine .inr ⟨p,.int c,rfl,.inl ⟨.int _,hc⟩,?_⟩;rw [← hdw.one (.inr (.inr (.inr (.inr (.inl ⟨rfl,rfl⟩)))))];exact k H λ_ _ _ e=>e
 refine .inl ⟨p,dx,n,rfl,hp,ct,hn1,by lia,λa T as H1 h1 B1 fr1=>?_⟩
 have ni:∀ {b:ah}{o:HO},H b=some o->(∀ x y z,o≠.ins x y z)->H1 b=some o:=λ{b o} e hno=>B1 _ _ e λz=>by rw [z,hp] at e;cases e;exact hno _ _ _ rfl
 have hW1:=ni hW (λ_ _ _ z=>nomatch z);lk;refine AF λdW hdW=>?_;lk;generalize eu_:upd _ dW _=H2;obtain ⟨S2,gd⟩:=news eu_ hdW;have fr:∀ {H3 H':Hp},bD dW H2 H3->bI H3 H'->∀ b o,b≠p->H b=some o->H' b=some o:=λB S b o hb e=>S _ _ (B _ _ (S2 _ _ (B1 _ _ e hb)) (aG (B1 _ _ e hb) hdW));unfold lN;lk
 refine .inl ⟨⟨_,gb.of (S2 _ _ hW1)⟩,tT (K:=K) (a:=W) (xs:=ts.map aaF)
  (λi Z H3=>bD dW H2 H3/\H3 dW=some (.dT (kdF (λu=>.int u.2.2.1) ((ts.take i).map TB)))/\wg n ((ts.take i).map kG) ((ts.drop i).map t3)=some w/\(∀ t∈ts.take i,RM (TB t)=kG t)/\∃ o4 o5 o6 o7,Z=[some (.ref p),some (.int n),some (.ref W),some (.ref dW),o4,o5,o6,o7])
  ⟨bD.refl _ _,gd,hdue,(λt ht=>nomatch ht),_,_,_,_,rfl⟩ ?_ ?_ ?_⟩
 .rintro i Z H3 _ ⟨B,_⟩;exact gb.of (B _ _ (S2 _ _ hW1) (mM (S2 _ _ hW1) gd))
 .rintro i z Z H3 hi ⟨B,g3,hd,hky,o4,o5,o6,o7,rfl⟩;obtain ⟨t,ht,rfl⟩:=gm hi;have hm:=b8 ht;have hil:=(aP.mp ht).1;have b0:=htr t hm;have g2:=S2 _ _ (ni b0 (λ_ _ _ z=>nomatch z));have g4:=B _ _ g2 (mM g2 gd)
  have et:ts.take (i+1)=ts.take i++[t]:=by rw [jb,ht];rfl
  have ed:ts.drop i=t::ts.drop (i+1):=by rw [List.drop_eq_getElem_cons hil,(aP.mp ht).2]
  rw [ed,bx] at hd;unfold wg at hd
  have hmap:((ts.take i).map TB).map RM=(ts.take i).map kG:=by rw [dj];exact fY hky
  refine ⟨t.2.2.2,_,rfl,tK.of g4,rfl,?_⟩;lk;have hd:(pd n t.1 t.2.1).or (if kG t∈(ts.take i).map kG then some "tied" else wg n ((ts.take i).map kG++[kG t]) ((ts.drop (i+1)).map t3))=some w:=hd
  rcases Og n t.1 t.2.1 with ⟨ef,hpl⟩|⟨ef,x,hx,e1,e2⟩|⟨ef,x,y,hx,hy,hxy,e1,e2⟩
  .rw [ef] at hd;obtain rfl:=aD hd;obtain rfl:=hdw.one (.inl ⟨rfl,rfl⟩);exact .inr ⟨n,dW,X.fE,_,.int t.1,.int t.2.1,rfl,g3,.inl ⟨rfl,.int _,.int _,hpl⟩,λH' S=>k H' (fr B S)⟩
  .rw [ef] at hd;obtain rfl:=aD hd;obtain rfl:=hdw.one (.inr (.inl ⟨rfl,rfl⟩));exact .inr ⟨n,dW,X.Alike,_,.int t.1,.int t.2.1,rfl,g3,.inr (.inl ⟨rfl,x,hx,by rw [e1],by rw [e2]⟩),λH' S=>k H' (fr B S)⟩
  .rw [ef,Zw] at hd
   have elo:min x y=lo (TB t):=by unfold lo TB;rw [e1,e2];simp
   have eup:max x y=up (TB t):=by unfold up TB;rw [e1,e2];simp
   have ek:=acb e1 e2
   by_cases hk:kG t∈(ts.take i).map kG
   .rw [if_pos hk] at hd;obtain rfl:=aD hd;obtain rfl:=hdw.one (.inr (.inr (.inl ⟨rfl,rfl⟩)));exact .inr ⟨n,dW,X.zW,_,.int t.1,.int t.2.1,rfl,g3,.inr (.inr ⟨x,y,by rw [e1],by rw [e2],hx,hy,hxy,by rw [elo,eup,Wi,hmap,ek,decide_eq_true hk],rfl⟩),λH' S=>k H' (fr B S)⟩
   .rw [if_neg hk] at hd
    have hk':RM (TB t)∉((ts.take i).map TB).map RM:=by rw [hmap,ek];exact hk
    refine .inl ⟨n,x,y,dW,_,by rw [e1,e2];rfl,hx,hy,hxy,g3,by rw [elo,eup];exact Oh hk',λr hr=>?_⟩;rw [elo,eup];lk;have nr:dW≠r:=aG g3 hr;refine .inr ⟨dW,_,rfl,Jq.t (k:=pk (lo (TB t)) (up (TB t))) (by rw [aI nr];exact g3) aH (iM (m:=100) (by unfold kdF;rw [ao,ao,cE];lia)),?_⟩;refine ⟨λb o e hb=>?_,?_,?_,λu hu=>?_,_,_,_,_,rfl⟩
    .have e3:=B b o e hb;rw [aI hb,aI (aG e3 hr)];exact e3
    .rw [aH,FH _ (Oh hk'),et,bY];unfold kdF;rw [bY];rfl
    .rw [et,bY];exact hd
    .rw [et] at hu
     rcases bX.mp hu with hu|hu
     .exact hky u hu
     .rw [aK.mp hu];exact ek
 .rintro Z H3 ⟨B3,g3,hd,_⟩;rw [ao,List.drop_length] at hd;cases hd
def vq (K:ae) (C:ah) (A:CA) (X:EC):Sp:=λvs H _ E=>∃ (p dx:ah) (a:AL) (n T:Nat) (ts:List Ti) (as:Nat->List ah) (R:Nat->Nat->List Int) (v u:V) (D:ah),vs=[.ref p,v,u]/\Ii K C A/\KP C A H p dx a n T ts as R/\Wb X n (kl ts) v u true D/\∀ H',bI H H'->E (.ref D) none H'
theorem Cq {s1:Sp}:Rx (vq K C A X) (λE=>lY K C A E s1 (hU K C X)) eB:=by
 rintro vs H Q E ⟨p,dx,a,n,T,ts,as,R,v,u,D,rfl,ct,h,gU,k⟩;obtain ⟨w,c1,c2,c3,c4,hw,hp⟩:=h.ob;unfold lY;k_in;refine ⟨p,dx,_,rfl,hp,Qi,?_⟩;k_go;refine ⟨p,A.Own,dx,_,_,rfl,hp,ct.kc,ct.k1,fK1,?_⟩;lk;refine kh ?_;refine kh ?_;lk;refine ⟨p,A.Own,dx,_,_,rfl,hp,ct.kc,ct.k2,fK2,?_⟩;refine ⟨a.q,A.ck,a.dq,_,_,rfl,h.lv.ob,ct.lc,ct.l1,fL1,?_⟩;lk;exact ⟨n,a.d1,D,kl ts,v,u,rfl,h.lv.e1,gU,k⟩
end
variable {X:EC}
structure EN (K:ae) (C:ah) (A B:CA) (Dk:ah):Prop where
 a:Ii K C A
 b:Ii K C B
 dc:Fg K Dk
 d1:dR K Dk "kept"
 iA:bp K (.ref A.Own) (.ref B.Own)=some false
 iB:bp K (.ref B.Own) (.ref B.Own)=some true
 hA:aJ K (.ref A.Own) "__class__"=some (some (.builtin "object.__class__"))
 hB:aJ K (.ref B.Own) "__class__"=some (some (.builtin "object.__class__"))
 mA:j8 K A.Own (.type "object")=some true
 mB:j8 K B.Own (.type "object")=some true
 hn:i6 K (.builtin "object.__class__") "__get__"=some (some (.builtin "getset_descriptor.__get__"))
 htk:qJ K (.builtin "object.__class__")=some true
def fD (k:ah):List (aL×V):=[("kept",.ref k)]
theorem fD1 {k:ah}:(fD k).lookup ("kept":aL)=some (.ref k):=vm
theorem J8 {k:ah}{m:aL}(h:¬ m="kept":=by decide +kernel):(fD k).lookup m=none:=by unfold fD;rw [fA h];rfl
theorem fDp {k k':ah}:eP "kept" (.ref k') (fD k)=fD k':=Li
abbrev qj:List Ti:=[⟨0,1,0,true⟩]
abbrev sel (wd:Bool) (A B:CA):CA:=bif wd then B else A
structure DS (C:ah) (A B:CA) (Dk:ah) (H:Hp) (p dx k dk:ah) (a:AL) (n T:Nat) (as:Nat->List ah) (R:Nat->Nat->List Int) (wd:Bool):Prop where
 d:H p=some (.ins Dk dx (fD k))
 kp:KP C (sel wd A B) H k dk a n T qj as R
theorem EN.s {B:CA}{Dk:ah}(h:EN K C A B Dk) (wd:Bool):Ii K C (sel wd A B):=by cases wd;exact h.a;exact h.b
theorem EN.i {B:CA}{Dk:ah}(h:EN K C A B Dk) (wd:Bool):bp K (.ref (sel wd A B).Own) (.ref B.Own)=some wd:=by cases wd;exact h.iA;exact h.iB
theorem EN.h {B:CA}{Dk:ah}(h:EN K C A B Dk) (wd:Bool):aJ K (.ref (sel wd A B).Own) "__class__"=some (some (.builtin "object.__class__")):=by cases wd;exact h.hA;exact h.hB
theorem EN.m {B:CA}{Dk:ah}(h:EN K C A B Dk) (wd:Bool):j8 K (sel wd A B).Own (.type "object")=some true:=by cases wd;exact h.mA;exact h.mB
section
variable {B:CA}{Dk:ah}{k dk:ah}{wd:Bool}
theorem DS.same (h:DS C A B Dk H p dx k dk a n T as R wd) (S:bI H H'):DS C A B Dk H' p dx k dk a n T as R wd:=⟨S _ _ h.d,h.kp.same S⟩
end
theorem kl01 (x y:Nat):(iL (kl qj) (pk x y)).isSome=decide (x=0/\y=1):=by
 have nd:(qj.map Ti.key).Nodup:=by decide
 by_cases h:x=0/\y=1
 .obtain ⟨rfl,rfl⟩:=h;have e:=zL (f:=λt=>V.int t.qq) nd (t:=⟨0,1,0,true⟩) ak;have e:iL (kl qj) (pk 0 1)=some (.int 0):=e;rw [e];rfl
 .rw [decide_eq_false h,show iL (kl qj) (pk x y)=none from Lg ?_]
  .rfl
  .intro hm;have:=aK.mp hm;obtain ⟨e1,e2⟩:=jG this;have e1:(x:Int)=((0:Nat):Int):=e1;have e2:(y:Int)=((1:Nat):Int):=e2;exact h ⟨by lia,by lia⟩
theorem aaI (x y:Nat):VE x y=decide (min x y=0/\max x y=1):=by
 unfold VE;rw [← Kh];refine decide_eq_decide.mpr ?_;lia
section
variable {X:EC}{a b:Int}{D:ah}{w:aL}
theorem Oi {put:Bool}(hD:Bl X D w) (h:(pd n a b).or (if VE a b=put then some (if put then "tied" else "tie") else none)=some w):Wb X n (kl qj) (.int a) (.int b) put D:=by
 rcases Og n a b with ⟨ef,hpl⟩|⟨ef,x,hx,e1,e2⟩|⟨ef,x,y,hx,hy,hxy,e1,e2⟩
 .rw [ef] at h;obtain rfl:=aD h;exact .inl ⟨hD.one (.inl ⟨rfl,rfl⟩),.int _,.int _,hpl⟩
 .rw [ef] at h;obtain rfl:=aD h;exact .inr (.inl ⟨hD.one (.inr (.inl ⟨rfl,rfl⟩)),x,hx,by rw [e1],by rw [e2]⟩)
 .rw [ef,Zw] at h;subst e1 e2;refine .inr (.inr ⟨x,y,rfl,rfl,hx,hy,hxy,?_,?_⟩)
  .rw [kl01];rw [aaI] at h
   by_cases c:decide (min x y=0/\max x y=1)=put
   .exact c
   .rw [if_neg c] at h;cases h
  .by_cases c:VE (x:Int) (y:Int)=put
   .rw [if_pos c] at h;have h:=aD h
    cases put with
    | true=>subst h;exact hD.one (.inr (.inr (.inl ⟨rfl,rfl⟩)))
    | false=>subst h;exact hD.one (.inr (.inr (.inr (.inl ⟨rfl,rfl⟩))))
   .rw [if_neg c] at h;cases h
end
section
variable {B:CA}{Dk:ah}{X:EC}
inductive bJ (K:ae) (C:ah) (A B:CA) (Dk:ah) (vs:List V) (H:Hp) (Q:VK) (E:XK):Prop
 | mk (p dx k k':_):vs=[.ref p,.ref k']->EN K C A B Dk->H p=some (.ins Dk dx (fD k))->Q (.str (aa "ok")) (upd H p (.ins Dk dx (fD k')))->bJ K C A B Dk vs H Q E
theorem GB:Rn (bJ K C A B Dk) (tw K C A B Dk) yN:=by
 rintro vs H Q E ⟨p,dx,k,k',rfl,ct,hp,q⟩;unfold tw;k_ne;refine mw ?_;lk;refine ⟨p,Dk,dx,_,rfl,hp,ct.dc,ct.d1,(by show 1<1000;decide),?_⟩;rw [fDp];lk;exact q
inductive cz (K:ae) (C:ah) (A B:CA) (Dk:ah) (vs:List V) (H:Hp) (Q:VK) (E:XK):Prop
 | mk (p dx:_):vs=[.ref p]->EN K C A B Dk->H p=some (.ins Dk dx [])->(∀ k H',H' p=some (.ins Dk dx (fD k))->bD p H H'->Q .non H')->cz K C A B Dk vs H Q E
theorem AJ:Rn (cz K C A B Dk) (nZ K C A B Dk (cg K C A)) gL:=by
 rintro vs H Q E ⟨p,dx,rfl,ct,hp,q⟩;unfold nZ;refine mw (wW ?_);lk;intro k dk hk hdk hne
 have T0:bI H (upd (upd H dk (.own k)) k (.ins A.Own dk [])):=λb o e=>by rw [aI (aG e hk),aI (aG e hdk)];exact e
 refine ⟨k,dk,1,rfl,aH,ct.a,by decide,by decide,λa T as H2 h2 B2 fr=>⟨rfl,?_⟩⟩;have T1:bI H H2:=λb o e=>B2 _ _ (T0 _ _ e) (aG e hk);lk;refine ⟨p,Dk,dx,[],rfl,T1 _ _ hp,ct.dc,ct.d1,by decide,?_⟩
 exact q k _ (by rw [aH];rfl) λb o e hb=>by rw [aI hb];exact T1 _ _ e
theorem Wj {k dk:ah}{wd:Bool}{Z:L2.St}(ct:EN K C A B Dk) (h:DS C A B Dk H p dx k dk a n T as R wd) (hs:Z[0]?=some (some (.ref p))) (q:Q (.bl wd) H) :
  nO (Ny K) (ai (eQ K (aq 0) "kept") (ai (tC (.ref B.Own)) aM)) Z H Q:=by
 obtain ⟨w,c1,c2,c3,c4,hw,hk⟩:=h.kp.ob;refine PD (iF (kh (il hs ⟨p,Dk,dx,_,_,rfl,h.d,ct.dc,ct.d1,fD1,?_⟩)));exact iF (Uy (qd ⟨_,_,_,_,rfl,.ins hk (ct.s wd).kc (ct.h wd) ct.hn ct.htk (ct.m wd),ct.i wd,q⟩))
def ie (K:ae) (C:ah) (A B:CA) (Dk:ah) (X:EC):Sp:=λvs H _ E=>∃ (p dx k dk:ah) (a:AL) (n T:Nat) (as:Nat->List ah) (R:Nat->Nat->List Int) (wd:Bool) (x y:Int) (D:ah) (w:aL),vs=[.ref p,.int x,.int y]/\EN K C A B Dk/\DS C A B Dk H p dx k dk a n T as R wd/\jU n wd [112,117,116] [x,y]=some w/\Bl X D w/\∀ H',bI H H'->E (.ref D) none H'
theorem GC:Rx (ie K C A B Dk X) (λE=>oG K C A B Dk X E (vq K C A X)) eB:=by
 rintro vs H Q E ⟨p,dx,k,dk,a,n,T,as,R,wd,x,y,D,w,rfl,ct,h,gU,hD,q⟩;unfold oG;refine tW (qT (FM (Wj ct h rfl ⟨_,rfl,?_⟩)))
 cases wd with
 | true =>
  obtain rfl:=aD gU;rw [hD.one (.inr (.inr (.inr (.inr (.inr (.inr ⟨rfl,rfl⟩))))))] at q
  exact kT (qt (q H λ_ _ e=>e))
 | false =>
  refine jA ?_;obtain ⟨w',c1,c2,c3,c4,hw,hk⟩:=h.kp.ob;lk;refine gQ ?_;refine kh ?_;lk;refine ⟨p,Dk,dx,_,_,rfl,h.d,ct.dc,ct.d1,fD1,?_⟩;refine ⟨k,dk,_,rfl,hk,Qi,?_⟩;lk;exact ⟨k,dk,a,n,T,qj,as,R,.int x,.int y,D,rfl,ct.a,h.kp,Oi (put:=true) hD gU,q⟩
def fg (K:ae) (C:ah) (A B:CA) (Dk:ah) (X:EC):Sp:=λvs H _ E=>∃ (p dx k dk:ah) (a:AL) (n T:Nat) (as:Nat->List ah) (R:Nat->Nat->List Int),vs=[.ref p]/\EN K C A B Dk/\DS C A B Dk H p dx k dk a n T as R false/\E (.ref X.lF) none H
theorem AK:Rx (fg K C A B Dk X) (λE=>lj K C A B Dk X E) gL:=by
 rintro vs H Q E ⟨p,dx,k,dk,a,n,T,as,R,rfl,ct,h,q⟩;unfold lj;exact tW (qT (Y4 (FM (Wj ct h rfl ⟨_,rfl,kT (qt q)⟩))))
end
variable {X:EC}
section
variable {B:CA}{Dk:ah}{X:EC}
theorem qk {w0:aL}{s:String}{l:List Nat}{tb rest:TS}{D:vT}{Z:L2.St}(hs:(aa s).cps.toList=l) (hv:Z[1]?=some (some (.str w0))) (h1:sS w0=l->tb { D with nx:=rest D } Z H) (h2:sS w0≠l->rest D Z H) :
  bz (dQ (di (bT (iz K) (aq 1) (tC (.str (aa s))))) tb cH) rest D Z H:=by
 refine tW (qT (sR (Ae (il hv (Uy (Oe ⟨_,rfl,?_⟩))))));exact yk (λe=>h1 ((xg hs).mp e)) λe=>vZ (h2 λz=>e ((xg hs).mpr z))
theorem Cr {m:aL}{sp:CA->Sp}{E:XK}{t:TA}{Z:L2.St}{k dk:ah}{wd:Bool}(ct:EN K C A B Dk) (h:DS C A B Dk H p dx k dk a n T as R wd) (hs:Z[0]?=some (some (.ref p)))
  (hm:∀ {n:Nat}{q w:ah}{c1 c2 c3 c4:Int},(fK n q w c1 c2 c3 c4).lookup m=none) (q:t Z H λvs H2=>sp (sel wd A B) (.ref k::(vs++[])) H2 Q E) :
  Nz (dv A.Own m (sp A) [] E (eQ K (aq 0) "kept") t) (dv B.Own m (sp B) [] E (eQ K (aq 0) "kept") t) Z H Q:=by
 obtain ⟨w,c1,c2,c3,c4,hw,hk⟩:=h.kp.ob
 cases wd with
 | false=>exact .inl (gQ (kh (il hs ⟨p,Dk,dx,_,_,rfl,h.d,ct.dc,ct.d1,fD1,k,dk,_,rfl,hk,hm,q⟩)))
 | true=>exact .inr (gQ (kh (il hs ⟨p,Dk,dx,_,_,rfl,h.d,ct.dc,ct.d1,fD1,k,dk,_,rfl,hk,hm,q⟩)))
def fe (K:ae) (C:ah) (A B:CA) (Dk:ah) (X:EC):Sp:=λvs H _ E=>∃ (p dx k dk:ah) (a:AL) (n T:Nat) (as:Nat->List ah) (R:Nat->Nat->List Int) (wd:Bool) (w0:aL) (l:ah) (is:List Int) (w:aL) (D:ah),vs=[.ref p,.str w0,.ref l]/\EN K C A B Dk/\DS C A B Dk H p dx k dk a n T as R wd/\H l=some (.lst (is.map V.int)) /\
 nm (sS w0)=some is.length/\jU n wd (sS w0) is=some w/\Bl X D w/\∀ H',bI H H'->E (.ref D) none H'
theorem Wk {is:List Int}(h:some 1=some is.length):∃ a,is=[a]:=List.length_eq_one_iff.mp (aD h).symm
theorem Lm {is:List Int}(h:some 2=some is.length):∃ a b,is=[a,b]:=by
 match is,h with
 | [a,b],_=>exact ⟨a,b,rfl⟩
 | _::_::_::_,h=>simp at h
theorem Wl {is:List Int}(h:some 0=some is.length):is=[]:=hZ.mp (aD h).symm
theorem Cs {x y:Int}{w:aL}{D:ah}(hD:Bl X D w) (h:(if (pl n x && pl n y)=true then none else some ("place":aL))=some w):D=X.fE/\(pe n (.int x) && pe n (.int y))=false:=by
 rw [E4,E4]
 cases c:pl n x && pl n y with
 | true=>rw [c] at h;cases h
 | false=>rw [c] at h;obtain rfl:=aD h;exact ⟨hD.one (.inl ⟨rfl,rfl⟩),rfl⟩
theorem AM {s1:Sp}:Rx (fe K C A B Dk X) (λE=>lh K C A B Dk E s1 (ie K C A B Dk X) (fg K C A B Dk X) (ir K C A X) (oH K C A X) (oH K C B X) (jl K C A X) (jl K C B X) (lP K C A X) (lP K C B X) (ng K C A X) (ng K C B X)) wk:=by
 rintro vs H Q E ⟨p,dx,k,dk,a,n,T,as,R,wd,w0,l,is,w,D,rfl,ct,h,hl,hnm,gU,hD,q⟩;have g1:∀ {x:Int}{r:List Int}{Q:VK},is=x::r->Q (.int x) H->d9 K (.ref l) (.int 0) H Q:=λe z=>Dv (gb.of hl) (j:=0) rfl (by rw [e];rfl) z;have g2:∀ {x y:Int}{r:List Int}{Q:VK},is=x::y::r->Q (.int y) H->d9 K (.ref l) (.int 1) H Q:=λe z=>Dv (gb.of hl) (j:=1) rfl (by rw [e];rfl) z;have q0:=q H λ_ _ e=>e;unfold lh;refine qk (l:=[110,101,119]) (by decide) rfl (λe=>?_) λe1=>?_
 .rw [e] at hnm gU;obtain ⟨x,hx⟩:=Wk hnm;subst hx;have gU:(if 1<=x/\x<=200 then none else some ("count":aL))=some w:=gU
  have hc:Lb (.int x)=false:=by
   cases c:Lb (.int x) with
   | false=>rfl
   | true =>
    have c:(decide (1<=x) && decide (x<=200))=true:=c;rw [cq,decide_eq_true_iff,decide_eq_true_iff] at c;rw [if_pos c] at gU;cases gU
  have hw:w="count":=by
   split at gU
   .cases gU
   .exact (aD gU).symm
  subst hw;rw [hD.one (.inr (.inr (.inr (.inr (.inl ⟨rfl,rfl⟩)))))] at q;refine nQ (gQ (il rfl ⟨p,dx,_,rfl,h.d,J8,iF (wW ?_)⟩));lk;refine g1 rfl ?_;lk;intro z dz hz hdz hne;exact ⟨z,.int x,rfl,.inl ⟨.int _,hc⟩,q _ λb o e=>by rw [aI (aG e hz),aI (aG e hdz)];exact e⟩
 refine qk (l:=[112,117,116]) (by decide) rfl (λe=>?_) λe2=>?_
 .rw [e] at hnm gU;obtain ⟨x,y,hx⟩:=Lm hnm;subst hx;refine nQ (gQ (il rfl ⟨p,dx,_,rfl,h.d,J8,?_⟩));lk;refine g1 rfl ?_;lk;refine g2 rfl ?_;lk;exact ⟨p,dx,k,dk,a,n,T,as,R,wd,x,y,D,w,rfl,ct,h,gU,hD,q⟩
 refine qk (l:=[111,117,116]) (by decide) rfl (λe=>?_) λe3=>?_
 .rw [e] at hnm gU;obtain ⟨x,y,hx⟩:=Lm hnm;subst hx;refine nQ ?_
  show ai _ _ _ _ _
  refine iF (Cr (sp:=λA=>oH K C A X) ct h rfl Qi ?_);lk;refine g1 rfl ?_;lk;refine g2 rfl ?_;lk;refine ⟨k,dk,a,n,T,qj,as,R,.int x,.int y,D,rfl,ct.s wd,h.kp,Oi (put:=false) hD ?_,q⟩;have gU:(pd n x y).or (if VE x y=true then none else some ("tie":aL))=some w:=gU
  cases c:VE x y with
  | true=>rw [c] at gU;rw [if_neg (by decide)];exact gU
  | false=>rw [c] at gU;rw [if_pos rfl];exact gU
 refine qk (l:=[106,111,105,110,101,100]) (by decide) rfl (λe=>?_) λe4=>?_
 .rw [e] at hnm gU;obtain ⟨x,y,hx⟩:=Lm hnm;subst hx;obtain ⟨rfl,hp⟩:=Cs hD gU;refine nQ (x_if (FM (Cr (sp:=λA=>jl K C A X) ct h rfl Qi ?_)));lk;refine g1 rfl ?_;lk;refine g2 rfl ?_;lk;exact ⟨k,dk,a,n,T,qj,as,R,.int x,.int y,rfl,ct.s wd,h.kp,.int _,.int _,hp,q0⟩
 refine qk (l:=[119,97,121]) (by decide) rfl (λe=>?_) λe5=>?_
 .rw [e] at hnm gU;obtain ⟨x,y,hx⟩:=Lm hnm;subst hx;obtain ⟨rfl,hp⟩:=Cs hD gU;refine nQ ?_
  show ai _ _ _ _ _
  refine iF (Cr (sp:=λA=>lP K C A X) ct h rfl Qi ?_);lk;refine g1 rfl ?_;lk;refine g2 rfl ?_;lk;exact ⟨k,dk,a,n,T,qj,as,R,.int x,.int y,rfl,ct.s wd,h.kp,.int _,.int _,hp,q0⟩
 refine qk (l:=[115,105,100,101]) (by decide) rfl (λe=>?_) λe6=>?_
 .rw [e] at hnm gU;obtain ⟨x,hx⟩:=Wk hnm;subst hx;have gU:(if pl n x=true then none else some ("place":aL))=some w:=gU;obtain ⟨rfl,hp⟩:=Cs (X:=X) (y:=x) hD (by rw [Pi];exact gU);rw [Pi] at hp;refine nQ ?_
  show ai _ _ _ _ _
  refine iF (Cr (sp:=λA=>ng K C A X) ct h rfl Qi ?_);lk;refine g1 rfl ?_;lk;exact ⟨k,dk,a,n,T,qj,as,R,.int x,rfl,ct.s wd,h.kp,.int _,hp,q0⟩
 have no:∀ {v:List Nat},sS w0=v->v≠[119,101,105,103,104,116]->nm v=some 0->False:=λe hv hn=>by
  rw [e] at hnm gU;rw [hn] at hnm;rw [Wl hnm] at gU;unfold jU at gU;rw [if_neg λz=>hv z.1] at gU;cases gU
 refine qk (l:=[116,105,101,115]) (by decide) rfl (λe=>?_) λe7=>?_
 .exact (no e (by decide) (by decide)).elim
 refine qk (l:=[119,101,105,103,104,116]) (by decide) rfl (λe=>?_) λe8=>?_
 .rw [e] at hnm gU;obtain rfl:=Wl hnm;have gU:(if (([119,101,105,103,104,116]:List Nat)=[119,101,105,103,104,116]/\wd=false) then some ("row":aL) else none)=some w:=gU
  cases wd with
  | true=>rw [if_neg (by simp)] at gU;cases gU
  | false =>
   rw [if_pos ⟨rfl,rfl⟩] at gU;obtain rfl:=aD gU;rw [hD.one (.inr (.inr (.inr (.inr (.inr (.inl ⟨rfl,rfl⟩))))))] at q0;refine nQ (gQ (il rfl ⟨p,dx,_,rfl,h.d,J8,?_⟩));exact qd ⟨p,dx,k,dk,a,n,T,as,R,rfl,ct,h,q0⟩
 .have:nm (sS w0)=if sS w0=[97,99,99,111,117,110,116] then some 0 else none:=by
   unfold nm;rw [if_neg e1,if_neg e2,if_neg e3,if_neg e4,if_neg e5,if_neg e6,if_neg e7,if_neg e8]
  by_cases c:sS w0=[97,99,99,111,117,110,116]
  .exact no c (by decide) (by decide)
  .rw [if_neg c] at this;rw [this] at hnm;cases hnm
end
variable {X:EC}
section
variable {B:CA}{Dk:ah}{X:EC}
theorem AN {z acc:ah}{ws:List aL}{sp:Sp}{E:XK}{R:Hp->Prop}(P:Hp->aL->V->Prop) (hz:gb K H z (ws.map V.str)) (ha:H acc=none) (hl:ws.length<=1000)
  (k1:∀ H H' w y,bI H H'->P H w y->P H' w y) (k2:∀ H w y xs o,H acc=some (.lst xs)->P H w y->P (upd H acc o) w y)
  (turn:∀ (w:aL) (H':Hp) (G:VK),w∈ws->bI H H'->(∀ y H5,bI H' H5->P H5 w y->G y H5)->sp [.str w] H' G E)
  (fin:∀ ys H',bI H H'->H' acc=some (.lst ys)->ys.length=ws.length->(∀ (i:Nat) w y,ws[i]?=some w->ys[i]?=some y->P H' w y)->R H') :
  ∃ W:Nat->Nat->List V->L2.St->Hp->Prop,(∃ m,W 0 m [] [none] (upd H acc (.lst [])))/\∀ i m ys σ' H',W i m ys σ' H'->H' acc=some (.lst ys) /\
  (((Pp K z).stop i H'/\R H')\/((Pp K z).go i H'/\∀ x H2,(Pp K z).TX i H' x H2->bZ 0 x σ' H2 λσ2 H3=>yi σ2 H3 λb H4 =>
   if b=true then cu sp [] E (ai (aq 0) aM) σ2 H4 λy H5=>H5 acc=some (.lst ys)/\ys.length<aT/\∃ m',m'<m/\W (i+1) m' (ys++[y]) σ2 (upd H5 acc (.lst (ys++[y]))) else ∃ m',m'<m/\W (i+1) m' ys σ2 H4)):=by
 refine se (n:=ws.length) (λt ys H'=>ys.length=t/\H' acc=some (.lst ys)/\bI H H'/\∀ (i:Nat) w y,ws[i]?=some w->ys[i]?=some y->P H' w y) (λZ=>∃ o,Z=[o]) ⟨rfl,aH,bI.cV ha,(λi w y _ e=>nomatch e)⟩ ⟨_,rfl⟩ ?_ ?_ ?_ ?_
 .rintro t ys H' ⟨_,h,_⟩;exact h
 .rintro ys H' ⟨e,h,S',hP⟩;exact ⟨⟨_,S'.seq hz,by rw [ao];exact aE _⟩,fin ys H' S' h e hP⟩
 .rintro t ys H' ht ⟨_,_,S',_⟩;exact ⟨_,_,S'.seq hz,bc (by rw [ao];exact ht)⟩
 .rintro t ys σ' H' x H2 ht ⟨e,h,S',hP⟩ ⟨o,rfl⟩ ⟨rfl,hx⟩;have hx:=hx _ (S'.seq hz)
  obtain ⟨w,hw⟩:∃ w,ws[t]?=some w:=⟨_,bc ht⟩
  rw [bO,hw] at hx;obtain rfl:=(aD hx).symm;refine Re (Y5 (kT (Kw (iF (il rfl (qd ?_))))))
  refine turn w _ _ (b8 hw) S' λy H5 S5 hy=>⟨S5 _ _ h,iM (m:=100000) (by lia),qp.mk' ht ⟨_,rfl⟩ ⟨by rw [bN,e];rfl,aH,λb o q=>by rw [aI (aG q ha)];exact S5 _ _ (S' _ _ q),λi v u hv hu=>?_⟩⟩
  by_cases hi:i<ys.length
  .rw [gA hi] at hu;exact k2 _ _ _ _ _ (S5 _ _ h) (k1 _ _ _ _ S5 (hP i v u hv hu))
  .have hi':i=ys.length:=by
    have:=(aP.mp hu).1;rw [bN] at this;simp at this;lia
   subst hi';rw [eM (aE _),Ui] at hu;obtain rfl:=(aD hu).symm;rw [e,hw] at hv;obtain rfl:=(aD hv).symm;exact k2 _ _ _ _ _ (S5 _ _ h) hy
def PN (_:Hp) (w:aL) (y:V):Prop:=wc (sS w)=true/\y=.int (ki (sS w))
def PW (H:Hp) (w:aL) (y:V):Prop:=∃ t q,wt (sS w)=some t/\y=.ref q/\H q=some (.tup [.int t.1,.int t.2.1,.int t.2.2])
theorem PW.k2 {acc:ah}(H:Hp) (w:aL) (y:V) (xs:List V) (o:HO) (h:H acc=some (.lst xs)) (hp:PW H w y):PW (upd H acc o) w y:=by
 obtain ⟨t,q,h1,rfl,h2⟩:=hp;exact ⟨t,q,h1,rfl,(aI (mM h2 h)).trans h2⟩
theorem PW.k1 (H H':Hp) (w:aL) (y:V) (S:bI H H') (hp:PW H w y):PW H' w y:=by
 obtain ⟨t,q,h1,rfl,h2⟩:=hp;exact ⟨t,q,h1,rfl,S _ _ h2⟩
theorem TC {ws:List aL}{ys:List V}(hl:ys.length=ws.length) (h:∀ (i:Nat) w y,ws[i]?=some w->ys[i]?=some y->PW H w y):∃ ts:List Tg,ys=ts.map aaF/\(∀ t∈ts,TgAt H t)/\(ws.map sS).mapM wt=some (ts.map t3):=by
 induction ws generalizing ys with
 | nil =>
  rw [hZ.mp hl]
  exact ⟨[],rfl,(λt ht=>nomatch ht),rfl⟩
 | cons w r ih =>
  cases ys with
  | nil=>cases hl
  | cons y ys =>
   obtain ⟨ts,e1,e2,e3⟩:=ih (ys:=ys) (MV hl) λi w' y' h1 h2=>h (i+1) w' y' h1 h2;obtain ⟨t,q,h1,rfl,h2⟩:=h 0 w y rfl rfl;refine ⟨(t.1,t.2.1,t.2.2,q)::ts,by rw [e1];rfl,λu hu=>?_,?_⟩
   .rcases az.mp hu with rfl|hu
    .exact h2
    .exact e2 u hu
   .rw [bx,tS,h1]
    show (do let bs ← (r.map sS).mapM wt;pure (t::bs))=_
    rw [e3];rfl
theorem Wm {ws:List aL}{v:aL}(hv:v∈ws) (h:wt (sS v)=none):(ws.map sS).mapM wt=none:=by
 induction ws with
 | nil=>cases hv
 | cons w r ih =>
  rw [bx,tS]
  rcases az.mp hv with rfl|hv
  .rw [h];rfl
  .cases e:wt (sS w) with
   | none=>rfl
   | some t =>
    show (do let bs ← (r.map sS).mapM wt;pure (t::bs))=none
    rw [ih hv];rfl
def eW (K:ae) (C:ah) (A B:CA) (Dk:ah) (X:EC):Sp:=λvs H _ E=>∃ (p l:ah) (w0 w1:aL) (r:List aL) (w:aL) (D:ah),vs=[.ref p,.ref l]/\EN K C A B Dk/\H l=some (.lst ((w0::w1::r).map V.str))/\(∀ v∈w1::r,As v/\v.length<=1000)/\r.length<=60/\FY (sS w1) (r.map sS)=some w/\Bl X D w/\∀ H',bI H H'->E (.ref D) none H'
theorem zN:Rx (eW K C A B Dk X) (λE=>j0 K C A B Dk E (nj K C B X) (KH (cj K C) (nh K C X)) (KH (gj K C) (vp K C X))) wm:=by
 rintro vs H Q E ⟨p,l,w0,w1,r,w,D,rfl,ct,hl,hw,hr,gU,hD,q⟩;have a1:=hw w1 ak
 have qr:w="row"->∀ H',bI H H'->E (.ref X.lF) none H':=λe H' S=>by
  subst e;rw [← hD.one (.inr (.inr (.inr (.inr (.inr (.inl ⟨rfl,rfl⟩))))))];exact q H' S
 unfold FY at gU;unfold j0;refine nQ (wW ?_);lk;refine sd (gb.of hl) (jf (j:=1) rfl rfl) ?_;lk
 cases h1:wc (sS w1) with
 | false =>
  rw [h1] at gU
  exact .inr ⟨w1,rfl,a1.1,a1.2,h1,qr (aD gU).symm⟩
 | true =>
 rw [h1,if_pos rfl] at gU;refine .inl ⟨w1,rfl,a1.1,a1.2,h1,λH1 S1=>?_⟩;lk;refine Du (gb.of (S1 _ _ hl)) λz hz=>?_;rw [show zo (List.map V.str (w0::w1::r)) (some 2) none=r.map V.str from v5 (j:=2) rfl];generalize eu_:upd _ z _=H2;obtain ⟨S2,g2⟩:=news eu_ hz;have S12:=S1.trans S2;refine ⟨z,rfl,.inl ⟨⟨_,gb.of g2⟩,λacc hacc=>?_⟩⟩;refine AN PW (gb.of g2) hacc (by lia) PW.k1 PW.k2 (λv H3 G hv S3 hG=>?_) λys H3 S3 ga hyl hP=>?_
 .have av:=hw v (ag _ hv)
  cases e:wt (sS v) with
  | some t=>exact .inl ⟨v,t,rfl,av.1,av.2,e,λq' H5 S5 h5=>hG _ _ S5 ⟨t,q',e,rfl,h5⟩⟩
  | none =>
   refine .inr ⟨v,rfl,av.1,av.2,e,λH5 S5=>qr ?_ _ ((S12.trans S3).trans S5)⟩;rw [Wm hv e] at gU;exact (aD gU).symm
 .obtain ⟨ts,rfl,hts,em⟩:=TC hyl hP;rw [em] at gU;have gU:(if 1<=ki (sS w1)/\ki (sS w1)<=200 then wg (ki (sS w1)).toNat [] (ts.map t3) else some ("count":aL))=some w:=gU;lk;intro x dx hx hdx hne
  have T0:bI H3 (upd (upd H3 dx (.own x)) x (.ins B.Own dx [])):=λb o e=>by rw [aI (aG e hx),aI (aG e hdx)];exact e
  rw [ao] at hyl;refine ⟨x,dx,acc,D,ki (sS w1),ts,w,rfl,aH,ct.b,T0 _ _ ga,λt ht=>T0 _ _ (hts t ht),by lia,hD,?_,λH' hH=>q H' λb o e=>?_⟩
  .by_cases c:1<=ki (sS w1)/\ki (sS w1)<=200
   .rw [if_pos c] at gU;exact .inr ⟨(ki (sS w1)).toNat,by lia,by lia,by lia,gU⟩
   .rw [if_neg c] at gU;refine .inl ⟨?_,(aD gU).symm⟩
    show (decide (1<=ki (sS w1)) && decide (ki (sS w1)<=200))=false
    rw [← Kh,decide_eq_false c]
  .have e3:=S3 _ _ (S12 _ _ e);exact hH b o (aG e3 hx) (T0 _ _ e3)
end
theorem lq {w:aL}{s:String}{v:PyData}{r:List (PyData×PyData)}{l:List Nat}(hs:(aa s).cps.toList=l):iK (.str w) ((.str (aa s),v)::r)=if sS w=l then some v else iK (.str w) r:=by
 show (if DT (.str (aa s)) (.str w)=true then some v else iK (.str w) r)=_
 by_cases h:sS w=l
 .rw [if_pos h,show w=aa s from Rs.ext (h.trans hs.symm)];rw [if_pos (by simp [DT])]
 .rw [if_neg h,if_neg λz=>h ?_]
  have z:aa s=w:=by simpa [DT] using z
  rw [← z];exact hs
theorem TF (w:aL):iK (.str w) Tu=(nm (sS w)).map λk=>.int k:=by
 show iK (.str w) ((.str (aa "new"),.int 1)::(.str (aa "put"),.int 2)::(.str (aa "out"),.int 2)::(.str (aa "joined"),.int 2)::(.str (aa "way"),.int 2)::(.str (aa "side"),.int 1)::(.str (aa "ties"),.int 0)::(.str (aa "weight"),.int 0)::(.str (aa "account"),.int 0)::[])=_
 rw [lq (l:=[110,101,119]) (by decide),lq (l:=[112,117,116]) (by decide),lq (l:=[111,117,116]) (by decide),lq (l:=[106,111,105,110,101,100]) (by decide),lq (l:=[119,97,121]) (by decide),lq (l:=[115,105,100,101]) (by decide),lq (l:=[116,105,101,115]) (by decide),lq (l:=[119,101,105,103,104,116]) (by decide),lq (l:=[97,99,99,111,117,110,116]) (by decide)];unfold nm
 split
 .rfl
 split
 .rfl
 split
 .rfl
 split
 .rfl
 split
 .rfl
 split
 .rfl
 split
 .rfl
 split
 .rfl
 split
 .rfl
 rfl
theorem RP:∀ (l:List Nat),∀ w∈Rs.spl l,(∀ c∈w,c∈l)/\w.length<=l.length
 | [],w,h=>by rw [aK.mp h];exact ⟨(λc hc=>nomatch hc),aE _⟩
 | c::l,w,h=>by
  have ih:=RP l;unfold Rs.spl at h
  split at h
  .rcases az.mp h with rfl|h
   .exact ⟨(λc hc=>nomatch hc),dm _⟩
   .exact ⟨λd hd=>ag _ ((ih w h).1 d hd),vD (ih w h).2⟩
  .cases e:Rs.spl l with
   | nil=>exact absurd e (BJ l)
   | cons a r =>
    rw [e] at h ih
    rcases az.mp h with rfl|h
    .refine ⟨λd hd=>?_,qN (ih a ak).2⟩
     rcases az.mp hd with rfl|hd
     .exact ak
     .exact ag _ ((ih a ak).1 d hd)
    .exact ⟨λd hd=>ag _ ((ih w (ag _ h)).1 d hd),vD (ih w (ag _ h)).2⟩
theorem GD {row:aL}(ha:As row) (hl:row.length<=1000):∀ v∈(Rs.spl (sS row)).map vg,As v/\v.length<=1000:=λv hv=>by
 obtain ⟨u,hu,rfl⟩:=cQ.mp hv;have:=RP _ u hu;refine ⟨λc hc=>ha c (this.1 c hc),?_⟩;rw [← gH] at hl ⊢;exact bU this.2 hl
variable {X:EC}
section
variable {B:CA}{Dk:ah}{X:EC}
theorem Wn {w0:aL}{r:List aL}{Z:L2.St}{Q:Bool->Hp->Prop}(hl:H l=some (.lst ((w0::r).map V.str))) (hv:Z[2]?=some (some (.ref l))) (q:Q (decide (sS w0=[119,101,105,103,104]) && decide (0<r.length)) H) :
  Pl (di (bT (iz K) (bT (d9 K) (aq 2) (tC (.int 0))) (tC (.str "weigh")))) (di (bT (yM λi j=>.bl (decide (j<i))) (nO (FL K) (ai (aq 2) aM)) (tC (.int 1)))) Z H Q:=by
 refine Y3 (sR (Ae (Ae (il hv (Uy (sd (gb.of hl) (jf (j:=0) rfl rfl) (Uy (Oe ⟨_,rfl,?_⟩))))))));have e:=xg (w:=w0) (s:="weigh") (l:=[119,101,105,103,104]) (by decide);refine yk (λh=>?_) λh=>?_
 .rw [decide_eq_true (e.mp h),kP] at q;refine sR (Ae (PD (iF (il hv (qd (Kx (gb.of hl) (Uy (Rg ⟨_,rfl,?_⟩))))))))
  have:decide ((1:Int)<(((w0::r).map V.str).length:Nat))=decide (0<r.length):=by
   refine decide_eq_decide.mpr ?_;rw [ao,bo];lia
  rw [this];exact q
 .rw [decide_eq_false λz=>h (e.mpr z),jF] at q;exact q
theorem Zd {w0:aL}{r:List aL}{Z:L2.St}{Q:Bool->Hp->Prop}(hl:H l=some (.lst ((w0::r).map V.str))) (hv:Z[2]?=some (some (.ref l))) (q:Q (!decide (nm (sS w0)=some r.length)) H) :
  di (bT (yj K) (Rw Tu (ai (bT (d9 K) (aq 2) (tC (.int 0))) aM)) (bT (yM λi j=>.int (i-j)) (nO (FL K) (ai (aq 2) aM)) (tC (.int 1)))) Z H Q:=by
 refine sR (Ae ?_)
 show ai _ _ _ _ _
 refine iF (Ae (il hv (Uy (sd (gb.of hl) (jf (j:=0) rfl rfl) (qd ⟨w0,rfl,?_⟩)))));rw [TF]
 have len:((((w0::r).map V.str).length:Nat):Int)-1=(r.length:Int):=by rw [ao,bo];lia
 cases e:nm (sS w0) with
 | none =>
  rw [e,decide_eq_false (by intro z;cases z)] at q;refine .inr ⟨rfl,Ae (PD (iF (il hv (qd (Kx (gb.of hl) (Uy (Rg ?_)))))))⟩
  exact .inl ⟨rfl,_,rfl,q⟩
 | some k =>
  rw [e] at q;refine .inl ⟨k,rfl,Ae (PD (iF (il hv (qd (Kx (gb.of hl) (Uy (Rg (Y6 ⟨_,rfl,?_⟩))))))))⟩;rw [len];have:decide (V.int (k:Int)=V.int (r.length:Int))=decide (some k=some r.length):=decide_eq_decide.mpr ⟨λz=>by have:=V.int.inj z;rw [show k=r.length by lia],λz=>by rw [aD z]⟩;rw [this];exact q
theorem Lo {wd:Bool}{w0 w1:List Nat}{r:List (List Nat)}(h:w0≠[119,101,105,103,104]):dI n wd (w0::w1::r)=if nm w0=some (w1::r).length then (if (w1::r).all wc=true then jU n wd w0 ((w1::r).map ki) else some "row") else some "row":=by
 show (if w0=[119,101,105,103,104] then FY w1 r else _)=_
 rw [if_neg h]
 rfl
theorem RQ {r:List (List Nat)}{ys:List V}(hl:ys.length=(r.map vg).length) (h:∀ (i:Nat) w y,(r.map vg)[i]?=some w->ys[i]?=some y->PN H w y):ys=(r.map ki).map V.int/\r.all wc=true:=by
 induction r generalizing ys with
 | nil=>exact ⟨hZ.mp hl,rfl⟩
 | cons w r ih =>
  cases ys with
  | nil=>cases hl
  | cons y ys =>
   obtain ⟨e1,e2⟩:=ih (ys:=ys) (MV hl) λi w' y' h1 h2=>h (i+1) w' y' h1 h2;obtain ⟨h1,h2⟩:=h 0 (vg w) y rfl rfl;have h1:wc w=true:=h1;exact ⟨by rw [e1,h2];rfl,by rw [List.all_cons,h1,e2];rfl⟩
def iY (K:ae) (C:ah) (A B:CA) (Dk:ah) (X:EC):Sp:=λvs H _ E=>∃ (p dx k dk:ah) (a:AL) (n T:Nat) (as:Nat->List ah) (R:Nat->Nat->List Int) (wd:Bool) (row:aL) (w:aL) (D:ah),vs=[.ref p,.str row]/\EN K C A B Dk/\DS C A B Dk H p dx k dk a n T as R wd/\As row/\row.length<=1000/\(Rs.spl (sS row)).length<=60/\dO n wd row=some w/\Bl X D w/\∀ H',bI H H'->E (.ref D) none H'
theorem GE {s1:Sp}:Rx (iY K C A B Dk X) (λE=>oF K C A B Dk X E (fe K C A B Dk X) s1 (eW K C A B Dk X) (KH (cj K C) (nh K C X))) J4:=by
 rintro vs H Q E ⟨p,dx,k,dk,a,n,T,as,R,wd,row,w,D,rfl,ct,h,ha,hl,hs,gU,hD,q⟩;have wok:=GD ha hl;unfold oF;lk;refine ⟨rfl,?_⟩;lk;refine ⟨row,_,rfl,rfl,by decide,rS (by lia),?_⟩;rw [RO,BK];refine ⟨rS (by rw [ao];exact bU hs (by decide)),λl hl0=>?_⟩;generalize eu_:upd _ l _=H1;obtain ⟨S1,g1⟩:=news eu_ hl0;have h1:=h.same S1;have gU:dI n wd (Rs.spl (sS row))=some w:=gU
 cases e:Rs.spl (sS row) with
 | nil=>exact absurd e (BJ _)
 | cons w0 r =>
 rw [e] at g1 gU wok hs;rw [bx] at g1 wok
 have qr:w="row"->∀ H',bI H1 H'->E (.ref X.lF) none H':=λe H' S=>by
  subst e;rw [← hD.one (.inr (.inr (.inr (.inr (.inr (.inl ⟨rfl,rfl⟩))))))];exact q H' (S1.trans S)
 k_ne;k_ne;refine qT (Wn g1 rfl ?_);rw [ao]
 by_cases hw:sS (vg w0)=[119,101,105,103,104]/\0<r.length
 .rw [decide_eq_true hw.1,decide_eq_true hw.2];refine kT ?_
  cases r with
  | nil=>exact absurd hw.2 (by decide)
  | cons w1 r =>
   have hw0:w0=[119,101,105,103,104]:=hw.1;have gU:(if w0=[119,101,105,103,104] then FY w1 r else _)=some w:=gU;rw [if_pos hw0] at gU;refine nQ (gQ (il rfl ⟨p,dx,_,rfl,h1.d,J8,iF (gQ (il rfl ⟨p,dx,_,rfl,h1.d,J8,?_⟩))⟩));lk;refine ⟨p,l,vg w0,vg w1,r.map vg,w,D,rfl,ct,g1,λv hv=>wok v (ag _ hv),?_,?_,hD,λH' S=>q H' (S1.trans S)⟩
   .rw [ao];simp at hs;lia
   .rw [dj,show (sS∘vg)=id from funext λ_=>rfl,List.map_id];exact gU
 rw [← Kh,decide_eq_false hw];refine jA (vZ ?_);k_ne;refine qT (Zd g1 rfl ?_);rw [ao]
 by_cases hn:nm (sS (vg w0))=some r.length
 rotate_left
 .rw [decide_eq_false hn];refine kT (qt (qr ?_ H1 λ_ _ e=>e));have hn:nm w0≠some r.length:=hn
  cases r with
  | nil =>
   have gU:(if nm w0=some 0 then jU n wd w0 [] else some ("row":aL))=some w:=gU;rw [if_neg (show ¬ nm w0=some 0 from hn)] at gU
   exact (aD gU).symm
  | cons w1 r =>
   rw [Lo (show w0≠[119,101,105,103,104] from λz=>hw ⟨z,Ux _⟩),if_neg hn] at gU;exact (aD gU).symm
 rw [decide_eq_true hn];refine jA (vZ ?_);refine nQ (gQ (il rfl ⟨p,dx,_,rfl,h1.d,J8,?_⟩));lk;refine sd (gb.of g1) (jf (j:=0) rfl rfl) ?_;lk;refine Du (gb.of g1) λz hz=>?_;rw [show zo (List.map V.str (vg w0::r.map vg)) (some 1) none=(r.map vg).map V.str from v5 (j:=1) rfl];generalize eu_:upd _ z _=H2;obtain ⟨S2,g2⟩:=news eu_ hz;refine ⟨z,rfl,.inl ⟨⟨_,gb.of g2⟩,λacc hacc=>?_⟩⟩;refine AN PN (gb.of g2) hacc (by rw [ao];simp at hs;lia) (λ_ _ _ _ _ z=>z) (λ_ _ _ _ _ _ z=>z) (λv H3 G hv S3 hG=>?_) λys H3 S3 ga hyl hP=>?_
 .have av:=wok v (ag _ hv)
  cases ev:wc (sS v) with
  | true=>exact .inl ⟨v,rfl,av.1,av.2,ev,λH5 S5=>hG _ _ S5 ⟨ev,rfl⟩⟩
  | false =>
   refine .inr ⟨v,rfl,av.1,av.2,ev,λH5 S5=>qr ?_ _ ((S2.trans S3).trans S5)⟩;obtain ⟨u,hu,rfl⟩:=cQ.mp hv;have ev:wc u=false:=ev
   cases r with
   | nil=>cases hu
   | cons w1 r =>
    rw [Lo (show w0≠[119,101,105,103,104] from λz=>hw ⟨z,Ux _⟩),if_pos (show nm w0=some (w1::r).length from hn),show (w1::r).all wc=false from YS.mpr ⟨u,hu,by rw [ev];decide⟩] at gU;exact (aD gU).symm
 .obtain ⟨ey,hall⟩:=RQ hyl hP;rw [ey] at ga;lk;refine ⟨p,dx,k,dk,a,n,T,as,R,wd,vg w0,acc,r.map ki,w,D,rfl,ct,h1.same (S2.trans S3),ga,by rw [ao];exact hn,?_,hD,λH' S=>q H' ((S1.trans S2).trans (S3.trans S))⟩;have hn:nm w0=some r.length:=hn
  show jU n wd w0 (r.map ki)=some w
  cases r with
  | nil =>
   have gU:(if nm w0=some 0 then jU n wd w0 [] else some ("row":aL))=some w:=gU;rw [if_pos (show nm w0=some 0 from hn)] at gU
   exact gU
  | cons w1 r =>
   rw [Lo (show w0≠[119,101,105,103,104] from λz=>hw ⟨z,Ux _⟩),if_pos hn,if_pos hall] at gU;exact gU
end
variable {X:EC}
section
variable {B:CA}{Dk:ah}{X:EC}
abbrev R0:Nat->Nat->List Int:=λ_ i=>[(i:Int)]
inductive jw (K:ae) (C:ah) (A B:CA) (Dk:ah) (vs:List V) (H:Hp) (Q:VK) (E:XK):Prop
 | mk (p dx k dk a:_) (n T:Nat) (as:_):vs=[.ref p,.int 0,.int 1]->EN K C A B Dk->H p=some (.ins Dk dx (fD k))->KP C A H k dk a n T [] as R0->(a.g=λ_ _=>0)->2<=n->n<=200->(∀ as' R' H',DS C A B Dk H' p dx k dk a n T as' R' false->Fm (k::fp a) H H'->Q (.str (aa "wood")) H')->jw K C A B Dk vs H Q E
theorem Lp:Rn (jw K C A B Dk) (wI K C A B Dk (tE K C A)) eB:=by
 rintro vs H Q E ⟨p,dx,k,dk,a,n,T,as,rfl,ct,hp,h,hg,hn1,hn2,q⟩;obtain ⟨w,c1,c2,c3,c4,hw,hk⟩:=h.ob;unfold wI;k_ne;refine qT (FM (PD (iF (kh (il rfl ⟨p,Dk,dx,_,_,rfl,hp,ct.dc,ct.d1,fD1,?_⟩)))));refine iF (Uy (qd ⟨_,_,_,_,rfl,.ins hk ct.a.kc ct.hA ct.hn ct.htk ct.mA,ct.iA,⟨_,rfl,jA ?_⟩⟩));lk;refine gQ ?_;refine kh ?_;lk;refine ⟨p,Dk,dx,_,_,rfl,hp,ct.dc,ct.d1,fD1,?_⟩;refine ⟨k,dk,_,rfl,hk,Qi,?_⟩;lk;refine ⟨k,dk,a,n,T,[],as,R0,0,1,rfl,ct.a,h,hn2,by lia,by lia,by decide,nofun,by decide,hg,λb as' R' H' hb h' F'=>?_⟩;have hb:b=true:=hb;subst hb;refine ⟨true,rfl,kT ?_⟩;lk;refine q as' R' H' ⟨F' _ _ (λz=>?_) hp,h'⟩ F'
 rcases az.mp z with z|z
 .rw [z,hk] at hp;have:=HO.ins.inj (aD hp)
  have e:(fK n a.q w.1 c1 c2 c3 c4).lookup ("kept":aL)=(fD k).lookup ("kept":aL):=by rw [this.2.2]
  rw [Qi,fD1] at e;cases e
 .exact h.lv.outI hp z
theorem aaJ {us:List Ti}{x y:Nat}(e:us=[⟨x,y,0,true⟩]) (h:(us.map Ti.key).Perm [((0:Int),(1:Int))]):us=qj:=by
 subst e;have:=W4.mp h;have:=(dZ this).1;obtain ⟨e1,e2⟩:=jG this;have e1:(x:Int)=0:=e1;have e2:(y:Int)=1:=e2
 have e1:x=0:=by lia
 have e2:y=1:=by lia
 rw [e1,e2]
inductive fN (K:ae) (C:ah) (A B:CA) (Dk Pt:ah) (vs:List V) (H:Hp) (Q:VK) (E:XK):Prop
 | mk (p l:_) (w0 w1 w2:aL) (n:Nat) (m:Int):vs=[.ref p,.ref l]->EN K C A B Dk->H l=some (.lst [.str w0,.str w1,.str w2])->(∀ v∈[w1,w2],As v/\v.length<=1000)->wc (sS w1)=true->ki (sS w1)=n->2<=n->n<=200->wt (sS w2)=some (1,0,m)->HE Pt H->(∀ (k dk:ah) (a:AL) (T:Nat) (as:Nat->List ah) (R:Nat->Nat->List Int) H',H k=none->KP C B H' k dk a n T qj as R->HE Pt H'->(∀ b o,b≠Pt->H b=some o->H' b=some o)->Q (.ref k) H')->fN K C A B Dk Pt vs H Q E
theorem Ct:Rn (fN K C A B Dk Pt) (pV K C A B Dk (kF K C B Pt) (cj K C) (gj K C)) wm:=by
 rintro vs H Q E ⟨p,l,w0,w1,w2,n,m,rfl,ct,hl,hw,hn,ev,hn1,hn2,ht,hP,q⟩;have a1:=hw w1 ak;have a2:=hw w2 (ag _ ak);unfold pV;refine nQ (wW ?_);lk;refine sd (gb.of hl) (jf (j:=1) rfl rfl) ?_;lk;refine ⟨w1,rfl,a1.1,a1.2,hn,λH1 S1=>?_⟩;rw [ev];lk;refine Du (gb.of (S1 _ _ hl)) λz hz=>?_;rw [show zo [V.str w0,V.str w1,V.str w2] (some 2) none=[w2].map V.str from v5 (j:=2) rfl];generalize eu_:upd _ z _=H2;obtain ⟨S2,g2⟩:=news eu_ hz;refine ⟨z,rfl,.inl ⟨⟨_,gb.of g2⟩,λacc hacc=>?_⟩⟩;refine AN PW (gb.of g2) hacc (by show 1<=1000;decide) PW.k1 PW.k2 (λv H3 G hv S3 hG=>?_) λys H3 S3 ga hyl hPy=>?_
 .rw [aK.mp hv] at hG ⊢;exact ⟨w2,_,rfl,a2.1,a2.2,ht,λq' H5 S5 h5=>hG _ _ S5 ⟨_,q',ht,rfl,h5⟩⟩
 .cases ys with
  | nil=>cases hyl
  | cons y r =>
   obtain rfl:r=[]:=hZ.mp (MV hyl);obtain ⟨t,r,et,rfl,hr⟩:=hPy 0 w2 y rfl rfl;rw [ht] at et;obtain rfl:=aD et;have S13:=(S1.trans S2).trans S3;lk;intro x dx hx hdx hne
   have T0:bI H3 (upd (upd H3 dx (.own x)) x (.ins B.Own dx [])):=λb o e=>by rw [aI (aG e hx),aI (aG e hdx)];exact e
   refine ⟨x,dx,acc,n,[(1,0,m,r)],rfl,aH,ct.b,by lia,hn2,T0 _ _ ga,λt ht=>?_,by simp,(by show 1<64;decide),(hP.same S13).same T0,λa T us as R H' h' pm one hP' fr K'=>⟨rfl,?_⟩⟩
   .rw [aK.mp ht];exact ⟨T0 _ _ hr,(by show (1:Nat)≠0;decide),by show 1<n;lia,by show 0<n;lia⟩
   .obtain ⟨x0,y0,e0⟩:=one rfl;have e:=aaJ e0 pm;subst e;refine q x dx a T as R H' ?_ h' hP' λb o hb e=>K' b o (aG (S13 _ _ e) hx) hb (T0 _ _ (S13 _ _ e));exact S13.free hx
def Yr (T:Nat):aL:=Txt.join (aa " ") (([1,0,0,0,(T:Int)]:List Int).map λi=>aa (toString i))
inductive gE (K:ae) (C:ah) (A B:CA) (Dk:ah) (vs:List V) (H:Hp) (Q:VK) (E:XK):Prop
 | mk (p dx k l:_) (w0:aL) (is:List Int):vs=[.ref p,.str w0,.ref l]->EN K C A B Dk->H p=some (.ins Dk dx (fD k))->H l=some (.lst (is.map V.int))->((sS w0=[110,101,119]/\∃ n:Nat,is=[(n:Int)]/\1<=n/\n<=200/\∀ (k dk:ah) (a:AL) (T:Nat) (as:Nat->List ah) H',H' p=some (.ins Dk dx (fD k))->KP C A H' k dk a n T [] as R0->(a.g=λ_ _=>0)->bD p H H'->(∀ b∈k::fp a,H b=none)->Q (.str (aa "ok")) H')\/(sS w0=[112,117,116]/\is=[0,1]/\∃ (dk:ah) (a:AL) (n T:Nat) (as:Nat->List ah),KP C A H k dk a n T [] as R0/\(a.g=λ_ _=>0)/\2<=n/\n<=200/\∀ as' R' H',DS C A B Dk H' p dx k dk a n T as' R' false->Fm (k::fp a) H H'->Q (.str (aa "wood")) H')\/(∃ (dk:ah) (a:AL) (n T:Nat) (as:Nat->List ah) (R:Nat->Nat->List Int) (wd:Bool),DS C A B Dk H p dx k dk a n T as R wd/\n<=200/\((sS w0=[116,105,101,115]/\∀ H',bI H H'->Q (.str (aa "0-1:0*")) H')\/(sS w0=[97,99,99,111,117,110,116]/\∀ H',bI H H'->Q (.str (Yr T)) H'))))->gE K C A B Dk vs H Q E
theorem Ej:Rn (gE K C A B Dk) (rA K C A B Dk (fO K C) (bJ K C A B Dk) (jw K C A B Dk) (iQ K C) (jL K C A) (jL K C B) (cg K C A) (fz K C A) (fz K C B)) wk:=by
 rintro vs H Q E ⟨p,dx,k,l,w0,is,rfl,ct,hp,hl,cs⟩;unfold rA;refine qk (l:=[110,101,119]) (by decide) rfl (λe=>?_) λe1=>?_
 .rcases cs with ⟨_,n,rfl,hn1,hn2,q⟩|⟨e',_⟩|⟨dk,a,n,T,as,R,wd,h,hn,⟨e',_⟩|⟨e',_⟩⟩
  rotate_left
  .rw [e] at e';cases e'
  .rw [e] at e';cases e'
  .rw [e] at e';cases e'
  refine nQ (gQ (il rfl ⟨p,dx,_,rfl,hp,J8,iF (wW ?_)⟩));lk;refine Dv (gb.of hl) (j:=0) rfl rfl ?_;lk;intro x dk hx hdx hne
  have T0:bI H (upd (upd H dk (.own x)) x (.ins A.Own dk [])):=λb o e=>by rw [aI (aG e hx),aI (aG e hdx)];exact e
  refine ⟨x,dk,n,rfl,aH,ct.a,hn1,hn2,λa T as H2 h2 B2 fr=>⟨rfl,?_⟩⟩;have T1:bI H H2:=λb o e=>B2 _ _ (T0 _ _ e) (aG e hx);have h2:=h2.gv (λ_ _=>0);have p2:=T1 _ _ hp;lk;refine ⟨p,dx,k,x,rfl,ct,p2,?_⟩;obtain ⟨w,c1,c2,c3,c4,hw,hk⟩:=h2.ob;have npx:x≠p:=(aG hp hx).symm;have frH:∀ b∈fp a,H b=none:=λb hb=>T0.free (fr b (ag _ hb));refine q x dk { a with g:=λ_ _=>0 } T as _ aH ?_ rfl (λb o e hb=>by rw [aI hb];exact T1 _ _ e) λb hb=>?_
  .obtain ⟨w,hw,hk⟩:=h2.cn;exact ⟨⟨w,hw,(aI npx).trans hk⟩,h2.lv.inst p2 J8 J8,h2.iv,h2.jn,h2.tp⟩
  .rcases az.mp hb with rfl|hb
   .exact hx
   .exact frH b hb
 refine qk (l:=[112,117,116]) (by decide) rfl (λe=>?_) λe2=>?_
 .rcases cs with ⟨e',_⟩|⟨_,rfl,dk,a,n,T,as,h,hg,hn1,hn2,q⟩|⟨dk,a,n,T,as,R,wd,h,hn,⟨e',_⟩|⟨e',_⟩⟩
  .rw [e] at e';cases e'
  rotate_left
  .rw [e] at e';cases e'
  .rw [e] at e';cases e'
  refine nQ (gQ (il rfl ⟨p,dx,_,rfl,hp,J8,?_⟩));lk;refine Dv (gb.of hl) (j:=0) rfl rfl ?_;lk;refine Dv (gb.of hl) (j:=1) rfl rfl ?_;lk;exact ⟨p,dx,k,dk,a,n,T,as,rfl,ct,hp,h,hg,hn1,hn2,q⟩
 rcases cs with ⟨e',_⟩|⟨e',_⟩|⟨dk,a,n,T,as,R,wd,h,hn,cs⟩
 .exact absurd e' e1
 .exact absurd e' e2
 have skip:∀ {v:List Nat},sS w0=v->v≠[116,105,101,115]->v≠[97,99,99,111,117,110,116]->False:=λe h1 h2=>by
  rcases cs with ⟨z,_⟩|⟨z,_⟩
  .exact h1 (e.symm.trans z)
  .exact h2 (e.symm.trans z)
 refine qk (l:=[111,117,116]) (by decide) rfl (λe=>(skip e (by decide) (by decide)).elim) λe3=>?_;refine qk (l:=[106,111,105,110,101,100]) (by decide) rfl (λe=>(skip e (by decide) (by decide)).elim) λe4=>?_;refine qk (l:=[119,97,121]) (by decide) rfl (λe=>(skip e (by decide) (by decide)).elim) λe5=>?_;refine qk (l:=[115,105,100,101]) (by decide) rfl (λe=>(skip e (by decide) (by decide)).elim) λe6=>?_;refine qk (l:=[116,105,101,115]) (by decide) rfl (λe=>?_) λe7=>?_
 .rcases cs with ⟨_,q⟩|⟨z,_⟩
  rotate_left
  .rw [e] at z;cases z
  refine nQ (Kw (iF (Cr (sp:=λA=>fz K C A) ct h rfl Qi (qd ?_))));refine ⟨k,dk,a,n,T,qj,as,R,rfl,ct.s wd,h.kp,by decide,λr us H1 hr gr fl pm S1=>?_⟩
  cases us with
  | nil=>exact absurd pm.length_eq (by decide)
  | cons u us =>
   have hu:us=[]:=by
    have:=pm.length_eq;simp at this;exact this
   subst hu;have eu:u.1=⟨0,1,0,true⟩:=(dZ (W4.mp pm)).1;have fu:=fl u ak;unfold J6 at fu;rw [eu] at fu;exact qd ⟨r,u.2,rfl,gr,fu,λH2 S2=>q H2 (S1.trans S2)⟩
 refine qk (l:=[119,101,105,103,104,116]) (by decide) rfl (λe=>(skip e (by decide) (by decide)).elim) λe8=>?_
 rcases cs with ⟨z,_⟩|⟨_,q⟩
 .exact absurd z e7
 obtain ⟨w,hw,hk⟩:=h.kp.cn;refine nQ (Kw (iF (Cr (sp:=λA=>jL K C A) ct h rfl Qi (qd ?_))));refine ⟨k,dk,a,n,T,qj,as,R,w.1,_,0,0,0,rfl,ct.s wd,h.kp,hk,by decide,λr H1 hr gr S1=>?_⟩;have hT:=h.kp.tp.small (by lia);refine qd ⟨r,[1,0,0,0,(T:Int)],rfl,?_,by simp,(by show 5<=5;decide),λi hi=>?_,λH2 S2=>q H2 (S1.trans S2)⟩
 .rw [gr]
  have:(qj.map λt=>(T:Int)-t.qq).sum=T:=by
   show ((T:Int)-((0:Nat):Int))+0=T
   lia
  rw [this];rfl
 .have:i.natAbs<=8:=by
   simp only [az,dG,or_false] at hi;lia
  exact aV this (by decide)
end
variable {X:EC}
abbrev Si (i:Int):aL:=aa (toString i)
theorem As.app {a b:aL}(ha:As a) (hb:As b):As (a++b):=λc hc=>by
 rw [show sS (a++b)=sS a++sS b from JZ a b] at hc;exact (bX.mp hc).elim (ha c) (hb c)
theorem As.si (i:Int):As (Si i):=λc hc=>by
 have:=FX (i:=i) hc;lia
theorem bH (a b:aL):(a++b).length=a.length+b.length:=vE a b
section
variable {B:CA}{Dk:ah}{X:EC}
theorem E5 {sA s1 s2:Sp}{D:vT}{k:ah}{row:aL}{w0:List Nat}{r:List (List Nat)}(hp:H p=some (.ins Dk dx (fD k))) (ha:As row) (hl:row.length<=1000) (e:Rs.spl (sS row)=w0::r) (hr:r.length<=59) (hw:w0≠[119,101,105,103,104]) (hn:nm w0=some r.length) (hall:r.all wc=true)
  (q:∀ acc H',bI H H'->H' acc=some (.lst ((r.map ki).map V.int))->sA [.ref p,.str (vg w0),.ref acc] H' D.rt E0) :
  oV K C A B Dk sA s1 s2 (cj K C) D (start J4 [.ref p,.str row]) H:=by
 have wok:=GD ha hl;unfold oV;lk;refine ⟨rfl,?_⟩;lk;refine ⟨row,_,rfl,rfl,by decide,rS (by lia),?_⟩;rw [RO,BK,show Rs.spl row.cps.toList=_ from e];rw [e] at wok;refine ⟨rS (by rw [ao,bo];lia),λl hl0=>?_⟩;rw [bx];generalize eu_:upd _ l _=H1;obtain ⟨S1,g1⟩:=news eu_ hl0;k_ne;k_ne;refine qT (Wn g1 rfl ?_);rw [show decide (sS (vg w0)=[119,101,105,103,104])=false from decide_eq_false hw,jF];refine jA (vZ ?_);k_ne;refine qT (Zd g1 rfl ?_);rw [ao,show decide (nm (sS (vg w0))=some r.length)=true from decide_eq_true hn];refine jA (vZ ?_);refine nQ (gQ (il rfl ⟨p,dx,_,rfl,S1 _ _ hp,J8,?_⟩));lk;refine sd (gb.of g1) (jf (j:=0) rfl rfl) ?_;lk;refine Du (gb.of g1) λz hz=>?_;rw [show zo (List.map V.str (vg w0::r.map vg)) (some 1) none=(r.map vg).map V.str from v5 (j:=1) rfl];generalize eu_:upd _ z _=H2;obtain ⟨S2,g2⟩:=news eu_ hz;refine ⟨z,rfl,.inl ⟨⟨_,gb.of g2⟩,λacc hacc=>?_⟩⟩;refine AN PN (gb.of g2) hacc (by rw [ao];lia) (λ_ _ _ _ _ z=>z) (λ_ _ _ _ _ _ z=>z) (λv H3 G hv S3 hG=>?_) λys H3 S3 ga hyl hP=>?_
 .have av:=wok v (ag _ hv);obtain ⟨u,hu,rfl⟩:=cQ.mp hv;have ev:wc (sS (vg u))=true:=mh.mp hall u hu;exact ⟨vg u,rfl,av.1,av.2,ev,λH5 S5=>hG _ _ S5 ⟨ev,rfl⟩⟩
 .obtain ⟨ey,_⟩:=RQ hyl hP;rw [ey] at ga;lk;exact q acc H3 ((S1.trans S2).trans S3) ga
theorem Ys (n:Nat):Rs.spl (sS (aa "new "++Si n))=[[110,101,119],sg n]:=E3 (by decide) (by decide)
theorem Yt:Rs.spl (sS (aa "put 0 1"))=[[112,117,116],[48],[49]]:=by decide
theorem Wo:Rs.spl (sS (aa "ties"))=[[116,105,101,115]]:=by decide
theorem Yu:Rs.spl (sS (aa "account"))=[[97,99,99,111,117,110,116]]:=by decide
theorem TH (n:Nat) (m:Int):Rs.spl (sS (aa "weigh "++Si n++aa " 1-0:"++Si m))=[[119,101,105,103,104],sg n,[49,45,48,58]++sg m]:=by
 show Rs.spl (aa "weigh "++Si n++aa " 1-0:"++Si m).cps.toList=_
 simp only [JZ];rw [show (aa "weigh ").cps.toList=[119,101,105,103,104,32] by decide,show (aa " 1-0:").cps.toList=[32,49,45,48,58] by decide];change Rs.spl ([119,101,105,103,104,32]++sg n++[32,49,45,48,58]++sg m)=_;simp [Rs.spl,eL (iD n),fS (iD m)]
theorem Wp {m:Int}(h:m.natAbs<10^60):wt ([49,45,48,58]++sg m)=some (1,0,m):=by
 have e1:Fh 45 ([49,45,48,58]++sg m)=[49]:=rfl;have e2:z7 45 ([49,45,48,58]++sg m)=[48,58]++sg m:=rfl;have e3:Fh 58 ([48,58]++sg m)=[48]:=rfl;have e4:z7 58 ([48,58]++sg m)=sg m:=rfl;unfold wt;rw [e1,e2,e3,e4,we h,qv]
 rfl
inductive cO (K:ae) (C:ah) (A B:CA) (Dk Pt:ah) (vs:List V) (H:Hp) (Q:VK) (E:XK):Prop
 | mk (p dx k:_) (row:aL):vs=[.ref p,.str row]->EN K C A B Dk->H p=some (.ins Dk dx (fD k))->((∃ n:Nat,row=aa "new "++Si n/\1<=n/\n<=200/\∀ (k dk:ah) (a:AL) (T:Nat) (as:Nat->List ah) H',H' p=some (.ins Dk dx (fD k))->KP C A H' k dk a n T [] as R0->(a.g=λ_ _=>0)->bD p H H'->(∀ b∈k::fp a,H b=none)->Q (.str (aa "ok")) H')\/(row=aa "put 0 1"/\∃ (dk:ah) (a:AL) (n T:Nat) (as:Nat->List ah),KP C A H k dk a n T [] as R0/\(a.g=λ_ _=>0)/\2<=n/\n<=200/\∀ as' R' H',DS C A B Dk H' p dx k dk a n T as' R' false->Fm (k::fp a) H H'->Q (.str (aa "wood")) H')\/(∃ (n:Nat) (m:Int),row=aa "weigh "++Si n++aa " 1-0:"++Si m/\2<=n/\n<=200/\m.natAbs<10^60/\HE Pt H/\∀ (k dk:ah) (a:AL) (T:Nat) (as:Nat->List ah) (R:Nat->Nat->List Int) H',DS C A B Dk H' p dx k dk a n T as R true->(∀ b o,b≠p->b≠Pt->H b=some o->H' b=some o)->Q (.str (aa "ok")) H')\/(∃ (dk:ah) (a:AL) (n T:Nat) (as:Nat->List ah) (R:Nat->Nat->List Int) (wd:Bool),DS C A B Dk H p dx k dk a n T as R wd/\n<=200/\((row=aa "ties"/\∀ H',bI H H'->Q (.str (aa "0-1:0*")) H')\/(row=aa "account"/\∀ H',bI H H'->Q (.str (Yr T)) H'))))->cO K C A B Dk Pt vs H Q E
theorem Lq:Rn (cO K C A B Dk Pt) (oV K C A B Dk (gE K C A B Dk) (bJ K C A B Dk) (fN K C A B Dk Pt) (cj K C)) J4:=by
 rintro vs H Q E ⟨p,dx,k,row,rfl,ct,hp,cs⟩
 rcases cs with ⟨n,rfl,hn1,hn2,q⟩|⟨rfl,dk,a,n,T,as,h,hg,hn1,hn2,q⟩|⟨n,m,rfl,hn1,hn2,hm,hP,q⟩|⟨dk,a,n,T,as,R,wd,h,hn,cs⟩
 .have hn60:(n:Int).natAbs<10^60:=aV (show (n:Int).natAbs<=200 by lia) (by decide);refine E5 hp (As.app (by unfold As;decide) (As.si _)) (by have:=(j1 hn60).1;rw [bH];show 4+(aa (toString (n:Int))).length<=_;lia) (Ys n) (by show 1<=59;decide) (by decide) (by show nm [110,101,119]=some 1;decide) ?_ λacc H1 S1 ga=>?_
  .show (wc (sg n) && true)=true
   rw [we hn60];rfl
  .refine ⟨p,dx,k,acc,vg _,_,rfl,ct,S1 _ _ hp,ga,.inl ⟨rfl,n,?_,hn1,hn2,λk' dk a T as H' h1 h2 h3 B1 fr=>q k' dk a T as H' h1 h2 h3 (λb o e hb=>B1 _ _ (S1 _ _ e) hb) λb hb=>S1.free (fr b hb)⟩⟩
   show [ki (sg n)]=_
   rw [qv]
 .refine E5 hp (by unfold As;decide) (by decide) Yt (by decide) (by decide) (by decide) (by decide) λacc H1 S1 ga=>?_;exact ⟨p,dx,k,acc,vg _,_,rfl,ct,S1 _ _ hp,ga,.inr (.inl ⟨rfl,by decide,dk,a,n,T,as,h.same S1,hg,hn1,hn2,λas' R' H' h1 F=>q as' R' H' h1 ((Fm.of S1).trans F)⟩)⟩
 .have hn60:(n:Int).natAbs<10^60:=aV (show (n:Int).natAbs<=200 by lia) (by decide);have e:=TH n m;have ha:As (aa "weigh "++Si n++aa " 1-0:"++Si m):=As.app (As.app (As.app (by unfold As;decide) (As.si _)) (by unfold As;decide)) (As.si _)
  have hl:(aa "weigh "++Si n++aa " 1-0:"++Si m).length<=1000:=by
   have h1:=(j1 hn60).1;have h2:=(j1 hm).1;rw [bH,bH,bH]
   show 6+(aa (toString (n:Int))).length+5+(aa (toString m)).length<=_
   lia
  have wok:=GD ha hl;generalize aa "weigh "++Si n++aa " 1-0:"++Si m=row at e ha hl wok;unfold oV;lk;refine ⟨rfl,?_⟩;lk;refine ⟨row,_,rfl,rfl,by decide,rS (by lia),?_⟩;rw [RO,BK,show Rs.spl row.cps.toList=_ from e];rw [e] at wok;refine ⟨rS (by show 3<=100000;decide),λl hl0=>?_⟩;generalize eu_:upd _ l _=H1;obtain ⟨S1,g1⟩:=news eu_ hl0;k_ne;k_ne;refine qT (Wn (w0:=vg [119,101,105,103,104]) (r:=[vg (sg n),vg ([49,45,48,58]++sg m)]) g1 rfl ?_);refine kT ?_;have p1:=S1 _ _ hp;refine nQ (gQ (il rfl ⟨p,dx,_,rfl,p1,J8,iF (gQ (il rfl ⟨p,dx,_,rfl,p1,J8,?_⟩))⟩));lk;refine ⟨p,l,_,vg (sg n),vg ([49,45,48,58]++sg m),n,m,rfl,ct,g1,λv hv=>wok v (ag _ hv),we hn60,qv _,hn1,hn2,Wp hm,hP.same S1,λk' dk a T as R H2 hk h2 hP2 K2=>?_⟩;have p2:=K2 _ _ ((hP.same S1).ne p1 (λ_ z=>nomatch z)) p1;lk;refine ⟨p,dx,k,k',rfl,ct,p2,?_⟩;have npk:k'≠p:=(aG p1 hk).symm;obtain ⟨w,hw,hk2⟩:=h2.cn
  exact q k' dk a T as R _ ⟨aH,⟨⟨w,hw,(aI npk).trans hk2⟩,h2.lv.inst p2 J8 J8,h2.iv,h2.jn,h2.tp⟩⟩ λb o hb hbP e=>by rw [aI hb];exact K2 _ _ hbP (S1 _ _ e)
 .rcases cs with ⟨rfl,q⟩|⟨rfl,q⟩
  .refine E5 hp (by unfold As;decide) (by decide) Wo (by decide) (by decide) (by decide) (by decide) λacc H1 S1 ga=>?_;exact ⟨p,dx,k,acc,vg _,_,rfl,ct,S1 _ _ hp,ga,.inr (.inr ⟨dk,a,n,T,as,R,wd,h.same S1,hn,.inl ⟨rfl,λH' S=>q H' (S1.trans S)⟩⟩)⟩
  .refine E5 hp (by unfold As;decide) (by decide) Yu (by decide) (by decide) (by decide) (by decide) λacc H1 S1 ga=>?_;exact ⟨p,dx,k,acc,vg _,_,rfl,ct,S1 _ _ hp,ga,.inr (.inr ⟨dk,a,n,T,as,R,wd,h.same S1,hn,.inr ⟨rfl,λH' S=>q H' (S1.trans S)⟩⟩)⟩
end
variable {X:EC}
theorem RR:∀ l:List Nat,(Rs.spl l).length<=l.length+1
 | []=>aE _
 | c::l=>by
  have ih:=RR l;unfold Rs.spl
  split
  .rw [bo,bo];lia
  .rw [bo,List.length_tail,bo];lia
structure nG (n:Nat) (wd:Bool) (row w:aL):Prop where
 as:As row
 ln:row.length<=1000
 sp:(Rs.spl (sS row)).length<=60
 gU:dO n wd row=some w
theorem nG.short {wd:Bool}{row w:aL}(ha:As row) (hl:row.length<=59) (d:dO n wd row=some w):nG n wd row w:=⟨ha,by lia,by have:=RR (sS row);rw [gH] at this;lia,d⟩
def R9 (w:aL):Prop:=w="place"\/w="alike"\/w="tied"\/w="tie"\/w="count"\/w="row"\/w="fixed"
theorem R9.gU (X:EC) {w:aL}(h:R9 w):∃ D,Bl X D w:=by
 rcases h with h|h|h|h|h|h|h
 .exact ⟨_,.inl ⟨rfl,h⟩⟩
 .exact ⟨_,.inr (.inl ⟨rfl,h⟩)⟩
 .exact ⟨_,.inr (.inr (.inl ⟨rfl,h⟩))⟩
 .exact ⟨_,.inr (.inr (.inr (.inl ⟨rfl,h⟩)))⟩
 .exact ⟨_,.inr (.inr (.inr (.inr (.inl ⟨rfl,h⟩))))⟩
 .exact ⟨_,.inr (.inr (.inr (.inr (.inr (.inl ⟨rfl,h⟩)))))⟩
 .exact ⟨_,.inr (.inr (.inr (.inr (.inr (.inr ⟨rfl,h⟩)))))⟩
theorem sg0:sg 0=[48]:=by decide
theorem Wq {a:Int}(h:a.natAbs<10^60):(sg a).length<=61:=by
 have:=(j1 h).1;rw [← gH] at this;exact this
theorem nG.two {wd:Bool}{row w':aL}{w:List Nat}{a b:Int}(e:sS row=w++32::(sg a++32::sg b)) (hw:w=[112,117,116]\/w=[111,117,116]\/w=[106,111,105,110,101,100]\/w=[119,97,121]) (ha:a.natAbs<10^60) (hb:b.natAbs<10^60) (gU:jU n wd w [a,b]=some w'):nG n wd row w':=by
 obtain ⟨h1,h2,h3,h4,h5⟩:32∉w/\w≠[119,101,105,103,104]/\nm w=some 2/\w.length<=10/\∀ c∈w,c<128:=by
  rcases hw with rfl|rfl|rfl|rfl<;>decide
 have es:Rs.spl (sS row)=[w,sg a,sg b]:=by
  rw [e,eL h1];simp [Rs.spl,eL (iD a),fS (iD b)]
 have la:=Wq ha;have lb:=Wq hb;refine ⟨λc hc=>?_,?_,by rw [es];show 3<=60;decide,?_⟩
 .rw [e] at hc
  rcases bX.mp hc with hc|hc
  .exact h5 c hc
  rcases az.mp hc with rfl|hc
  .decide
  rcases bX.mp hc with hc|hc
  .have:=FX hc;lia
  rcases az.mp hc with rfl|hc
  .decide
  .have:=FX hc;lia
 .rw [← gH,e,bN,bo,bN,bo];lia
 .unfold dO;rw [show Rs.spl row.cps.toList=_ from es,Yh h2 h3 ha hb];exact gU
theorem cP {i j:aL}(hz:i.length+j.length<=100000) (q:Q (.str (i++j)) H):df (.str i) (.str j) H Q:=⟨i,j,rfl,rfl,rS hz,q⟩
theorem e30:(10:Int)^(30:Int).toNat=1000000000000000000000000000000:=by decide
theorem AO {a:Int}(h:a.natAbs<=10000000000000000000000000000000):a.natAbs<10^60:=aV h (by decide)
inductive cC (K:ae) (C:ah) (vs:List V) (H:Hp) (Q:VK) (E:XK):Prop
 | mk (a:_) (ns:List Int) (k:Nat):vs=[.ref a,.int k]->gb K H a (ns.map V.int)->(∀ z:Int,Q (.int z) H)->cC K C vs H Q E
theorem Cu:Rn (cC K C) (pO K C) F8:=by
 rintro vs H Q E ⟨a,ns,k,rfl,hS,q⟩;unfold pO;lk;refine aai hS ?_;lk;refine yk (λh=>?_) λh=>?_
 .lk
  have hk:k<ns.length:=by lia
  refine Dv hS rfl (bc hk) ?_;exact q _
 .lk;exact q _
theorem em (hn:0<n) (x:Int):∃ j:Nat,x%(n:Int)=(j:Int)/\j<n:=by
 have h1:=zf x (show (n:Int)≠0 by lia);have h2:=uD x (show (0:Int)<n by lia);exact ⟨(x%(n:Int)).toNat,by lia,by lia⟩
theorem Yv {xs:List V}(hp:H p=some (.lst xs)) (h:0<xs.length) (z:Int) (k:∀ v∈xs,Q v H):d9 K (.ref p) (.int (z%(xs.length:Int))) H Q:=by
 obtain ⟨j,ej,hj⟩:=em h z;rw [ej];exact sd (gb.of hp) (jf (j:=j) rfl (bc hj)) (k _ (jH hj))
inductive eT (K:ae) (C:ah) (vs:List V) (H:Hp) (Q:VK) (E:XK):Prop
 | mk (n:Nat) (c:Int):vs=[.int n,.int c]->n<=200->(∀ k:Int,(k<0\/(n:Int)<=k)->k.natAbs<=10000000000000000000000000000000->Q (.str (Si k)) H)->eT K C vs H Q E
theorem zO:Rn (eT K C) (mS K C) F9:=by
 rintro vs H Q E ⟨n,c,rfl,hn,q⟩
 have p30:(0:Int)<10^(30:Int).toNat:=by decide
 have h1:=zf (c/2) (show (10:Int)^(30:Int).toNat≠0 by lia);have h2:=uD (c/2) p30;have e:=e30;unfold mS;lk;refine yk (λ_=>?_) λ_=>?_
 .lk;generalize c/2%10^(30:Int).toNat=z at h1 h2;rw [e] at h2
  have hk:(-1-z:Int).natAbs<=10000000000000000000000000000000:=by lia
  exact lL (j1 (AO hk)).2 (q _ (.inl (by lia)) hk)
 .lk;generalize c/2%10^(30:Int).toNat=z at h1 h2;rw [e] at h2
  have hk:((n:Int)+z).natAbs<=10000000000000000000000000000000:=by lia
  exact lL (j1 (AO hk)).2 (q _ (.inr (by lia)) hk)
def fZ (K:ae) (C:ah):Sp:=λvs H Q _=>∃ c:Int,vs=[.int c]/\∀ t row w H',bI H H'->(∀ n wd,nG n wd row w)->R9 w->H' t=some (.tup [.str row,.str w])->Q (.ref t) H'
theorem AQ:Rn (fZ K C) (nV K C) VS:=by
 rintro vs H Q E ⟨c,rfl,q⟩
 have p30:(0:Int)<10^(30:Int).toNat:=by decide
 have h1:=zf (c/4) (show (10:Int)^(30:Int).toNat≠0 by lia);have h2:=uD (c/4) p30;have e:=e30
 have fin:∀ k:Int,¬ (1<=k/\k<=200)->k.natAbs<=10000000000000000000000000000000->bz (dQ (di (bT (iz K) (bT (rI (λ_ j=>0<j) λi j=>.int (i%j)) (bT (rI vG λi j=>.int (i/j)) (aq 0) (tC (.int 2))) (tC (.int 2))) (tC (.int 0))))
   (cY (kb (ai (bT df (tC (.str "new ")) (aq 1)) (ai (tC (.str "count")) aM)))) cH) (cY (kb (ai (bT df (bT df (tC (.str "weigh ")) (aq 1)) (tC (.str " 0-0:1 0-1:5"))) (ai (tC (.str "count")) aM)))) { nx:=λ_ H'=>Q .non H',rt:=Q } [some (.int c),some (.str (Si k))] H:=λk hk hk2=>by
  have hl:=(j1 (AO hk2)).1
  have hc:(Si k).length<=33:=by
   rw [← gH]
   show (sg k).length<=33
   rw [J0];have:=Am (k:=32) (m:=k.natAbs) (by decide) (aV hk2 (by decide))
   split
   .rw [bo];lia
   .lia
  lk;refine yk (λ_=>?_) λ_=>?_
  .lk;refine cP (by show 4+(Si k).length<=_;lia) ?_;lk;refine ⟨sf,λt ht=>q t _ _ _ (bI.cV ht) (λn wd=>?_) (.inr (.inr (.inr (.inr (.inl rfl))))) aH⟩;exact .short (As.app (by unfold As;decide) (As.si _)) (by rw [bH];show 4+(Si k).length<=_;lia) (ab2 (AO hk2) hk)
  .lk;refine cP (by show 6+(Si k).length<=_;lia) ?_;lk;refine cP (by rw [bH];show 6+(Si k).length+12<=_;lia) ?_;lk;refine ⟨sf,λt ht=>q t _ _ _ (bI.cV ht) (λn wd=>?_) (.inr (.inr (.inr (.inr (.inl rfl))))) aH⟩;exact .short (As.app (As.app (by unfold As;decide) (As.si _)) (by unfold As;decide)) (by rw [bH,bH];show 6+(Si k).length+12<=_;lia) (Yj (AO hk2) hk)
 rw [e] at h2;generalize hE:c/4%(10:Int)^(30:Int).toNat=z at h1
 have h2:z<1000000000000000000000000000000:=by rw [← hE,e];exact h2
 unfold nV;lk;rw [hE];refine lL (j1 (AO (by lia))).2 ?_;lk;refine yk (λ_=>?_) λ_=>?_
 .lk;rw [hE];refine lL (j1 (AO (by lia))).2 ?_;exact fin (201+z) (by lia) (by lia)
 .exact fin (-z) (by lia) (by lia)
inductive fc (K:ae) (C:ah) (vs:List V) (H:Hp) (Q:VK) (E:XK):Prop
 | mk (c:Int) (n:Nat):vs=[.int c,.int n]->2<=n->n<=200->(∀ t row w H',bI H H'->(∀ wd,nG n wd row w)->R9 w->H' t=some (.tup [.str row,.str w])->Q (.ref t) H')->fc K C vs H Q E
theorem AR:Rn (fc K C) (nW K C) VL:=by
 rintro vs H Q E ⟨c,n,rfl,hn1,hn2,q⟩;have hn60:(n:Int).natAbs<10^60:=AO (by lia)
 have hl:(Si n).length<=4:=by
  rw [← gH]
  show (sg n).length<=4
  rw [J0,if_neg (by lia)];have:=Am (k:=4) (m:=(n:Int).natAbs) (by decide) (by lia);lia
 unfold nW;lk;refine lL (j1 hn60).2 ?_;refine cP (by show 6+(Si n).length<=_;lia) ?_;lk;refine cP (by rw [bH];show 6+(Si n).length+8<=_;lia) ?_;lk;refine ⟨sf,λt1 ht1=>?_⟩;generalize eu_:upd _ t1 _=H1;obtain ⟨S1,g1⟩:=news eu_ ht1;lk;refine ⟨sf,λt2 ht2=>?_⟩;generalize eu_:upd _ t2 _=H2;obtain ⟨S2,g2⟩:=news eu_ ht2;lk;refine ⟨sf,λt3 ht3=>?_⟩;generalize eu_:upd _ t3 _=H3;obtain ⟨S3,g3⟩:=news eu_ ht3;lk;refine ⟨sf,λt4 ht4=>?_⟩;generalize eu_:upd _ t4 _=H4;obtain ⟨S4,g4⟩:=news eu_ ht4;lk;refine ⟨sf,λl1 hl1=>?_⟩;generalize eu_:upd _ l1 _=H5;obtain ⟨T1,k1⟩:=news eu_ hl1;lk;refine lL (j1 hn60).2 ?_;refine cP (by show 2+(Si n).length<=_;lia) ?_;lk;refine cP (by rw [bH];show 2+(Si n).length+8<=_;lia) ?_;lk;refine ⟨sf,λt5 ht5=>?_⟩;generalize eu_:upd _ t5 _=H6;obtain ⟨S5,g5⟩:=news eu_ ht5;lk;refine ⟨sf,λt6 ht6=>?_⟩;generalize eu_:upd _ t6 _=H7;obtain ⟨S6,g6⟩:=news eu_ ht6;lk;refine ⟨sf,λl2 hl2=>?_⟩;generalize eu_:upd _ l2 _=H8;obtain ⟨T2,k2⟩:=news eu_ hl2;have k1:=T2 _ _ (S6 _ _ (S5 _ _ k1));refine FN k1 k2 (rS (by show 4+2<=100000;decide)) λl3 hl3=>?_;have T3:=bI.cV (o:=.lst ([.ref t1,.ref t2,.ref t3,.ref t4]++[.ref t5,.ref t6])) hl3;have k3:(upd H8 l3 (.lst ([.ref t1,.ref t2,.ref t3,.ref t4]++[.ref t5,.ref t6]))) l3=some (.lst [.ref t1,.ref t2,.ref t3,.ref t4,.ref t5,.ref t6]):=aH;generalize upd H8 l3 (.lst ([.ref t1,.ref t2,.ref t3,.ref t4]++[.ref t5,.ref t6]))=H9 at T3 k3;have U:bI H7 H9:=T2.trans T3;have W:bI H H9:=((S1.trans S2).trans (S3.trans S4)).trans ((T1.trans S5).trans (S6.trans U));lk;refine Yv (xs:=[.ref t1,.ref t2,.ref t3,.ref t4,.ref t5,.ref t6]) k3 (by show 0<6;decide) c λv hv=>?_
 have fin:∀ (t:ah) (s gU:aL),H9 t=some (.tup [.str s,.str gU])->s.length<=30->(∀ wd,nG n wd (aa "weigh "++Si n++aa " 0-1:-7 "++s) gU)->R9 gU->HK K 2 (lC (bZ 4) (lC (bZ 5) Kk)) (.ref t) [some (.int c),some (.int n),some (.str (aa "weigh "++Si n++aa " 0-1:-7 ")),some (.ref l3),none,none] H9 (λZ H'=>cY (kb (ai (bT df (aq 2) (aq 4)) (ai (aq 5) aM))) { nx:=λ_ H'=>Q .non H',rt:=Q } Z H'):=λt s gU ht hs hr hd=>by
  refine Kz (tK.of ht) rfl ?_;lk;refine cP (by rw [bH,bH];show 6+(Si n).length+8+s.length<=_;lia) ?_;lk;exact ⟨sf,λt ht=>q t _ _ _ (W.trans (bI.cV ht)) hr hd aH⟩
 have As0:∀ s:aL,As s->As (aa "weigh "++Si n++aa " 0-1:-7 "++s):=λs hs=>As.app (As.app (As.app (by unfold As;decide) (As.si _)) (by unfold As;decide)) hs
 have ln0:∀ s:aL,s.length<=30->(aa "weigh "++Si n++aa " 0-1:-7 "++s).length<=59:=λs hs=>by rw [bH,bH,bH];show 6+(Si n).length+8+s.length<=_;lia
 have V4:bI H4 H9:=T1.trans (S5.trans (S6.trans U));have V3:=S4.trans V4;have V2:=S3.trans V3;have V1:=S2.trans V2;simp only [az,dG,or_false] at hv
 rcases hv with rfl|rfl|rfl|rfl|rfl|rfl
 .exact fin t1 _ _ (V1 _ _ g1) (by decide) (λwd=>.short (As0 _ (by unfold As;decide)) (ln0 _ (by decide)) (w1 hn1 hn2)) (.inr (.inl rfl))
 .exact fin t2 _ _ (V2 _ _ g2) (by decide) (λwd=>.short (As0 _ (by unfold As;decide)) (ln0 _ (by decide)) (w2 hn1 hn2)) (.inr (.inr (.inl rfl)))
 .exact fin t3 _ _ (V3 _ _ g3) (by decide) (λwd=>.short (As0 _ (by unfold As;decide)) (ln0 _ (by decide)) (w3 hn1 hn2)) (.inr (.inr (.inl rfl)))
 .exact fin t4 _ _ (V4 _ _ g4) (by decide) (λwd=>.short (As0 _ (by unfold As;decide)) (ln0 _ (by decide)) (w4 hn1 hn2)) (.inl rfl)
 .exact fin t5 _ _ ((S6.trans U) _ _ g5) (by rw [bH,bH];show 2+(Si n).length+8<=_;lia) (λwd=>.short (As0 _ (As.app (As.app (by unfold As;decide) (As.si _)) (by unfold As;decide))) (ln0 _ (by rw [bH,bH];show 2+(Si n).length+8<=_;lia)) (w5 hn1 hn2)) (.inl rfl)
 .exact fin t6 _ _ (U _ _ g6) (by decide) (λwd=>.short (As0 _ (by unfold As;decide)) (ln0 _ (by decide)) (w6 hn1 hn2)) (.inr (.inr (.inr (.inr (.inr (.inl rfl))))))
variable {X:EC}
theorem Qk {t u:TS}{D:vT}{Z:L2.St}(P:L2.St->Hp->Prop) (rest:∀ σ' H',P σ' H'->u D σ' H') (h:(∀ σ' H',P σ' H'->u D σ' H')->t { D with nx:=u D } Z H):bz t u D Z H:=h rest
theorem ap3 (a b c:aL):sS (a++b++c)=sS a++sS b++sS c:=by rw [show sS (a++b++c)=sS (a++b)++sS c from JZ _ _,show sS (a++b)=_ from JZ a b]
theorem Yw (a b:aL):sS (a++b)=sS a++sS b:=JZ a b
theorem lSp:sS (aa " ")=[32]:=by decide
theorem l0:sS (aa " 0")=[32,48]:=by decide
theorem l00:sS (aa " 0 ")=[32,48,32]:=by decide
theorem sSi (k:Int):sS (Si k)=sg k:=rfl
theorem z60:(0:Int).natAbs<10^60:=by decide
inductive eU (K:ae) (C:ah) (vs:List V) (H:Hp) (Q:VK) (E:XK):Prop
 | mk (c:Int) (n:Nat) (wd:Bool):vs=[.int c,.int n,.bl wd]->2<=n->n<=200->(∀ t row w H',bI H H'->nG n wd row w->R9 w->H' t=some (.tup [.str row,.str w])->Q (.ref t) H')->eU K C vs H Q E
theorem zP:Rn (eU K C) (mT K C (eT K C)) VJ:=by
 rintro vs H Q E ⟨c,n,wd,rfl,hn1,hn2,q⟩;unfold mT;lk;refine ⟨sf,λl hl=>?_⟩;generalize eu_:upd _ l _=H1;obtain ⟨S1,g1⟩:=news eu_ hl;lk;refine Yv (xs:=[.str (aa "out"),.str (aa "joined"),.str (aa "way")]) g1 (by show 0<3;decide) c λv hv=>?_
 obtain ⟨hd,wh,rfl,eh,hwh⟩:∃ (hd:aL) (wh:List Nat),v=.str hd/\sS hd=wh/\(wh=[111,117,116]\/wh=[106,111,105,110,101,100]\/wh=[119,97,121]):=by
  simp only [az,dG,or_false] at hv
  rcases hv with rfl|rfl|rfl
  .exact ⟨_,_,rfl,rfl,.inl (by decide)⟩
  .exact ⟨_,_,rfl,rfl,.inr (.inl (by decide))⟩
  .exact ⟨_,_,rfl,rfl,.inr (.inr (by decide))⟩
 have hdl:hd.length<=6:=by
  rw [← gH,eh]
  rcases hwh with rfl|rfl|rfl<;>decide
 have hw4:wh=[112,117,116]\/wh=[111,117,116]\/wh=[106,111,105,110,101,100]\/wh=[119,97,121]:=.inr hwh;lk;refine ⟨n,_,rfl,hn2,λk hk hk2=>?_⟩;have k60:=AO hk2;have kl:=(j1 k60).1;have kl:(Si k).length<=61:=kl;have pk0:pl n k=false:=KJ hk;lk;have tel:∀ {row gU:aL}{Z:L2.St},nG n wd row gU->R9 gU->∀ H',bI H1 H'->∀ t,H' t=none->Q (.ref t) (upd H' t (.tup [.str row,.str gU])):=λhr hd H' S t ht=>q t _ _ _ ((S1.trans S).trans (bI.cV ht)) hr hd aH;refine yk (λ_=>?_) λ_=>?_
 .lk;refine cP (by show 5+(Si k).length<=_;lia) ?_;lk;refine ⟨sf,λt ht=>tel (Z:=[]) ?_ (.inl rfl) H1 (bI.refl _) t ht⟩;have es:Rs.spl (sS (aa "side "++Si k))=[[115,105,100,101],sg k]:=E3 (by decide) (by decide);exact ⟨As.app (by unfold As;decide) (As.si _),by rw [bH];show 5+(Si k).length<=_;lia,by rw [es];show 2<=60;decide,aaw k60 hk⟩
 lk;refine yk (λ_=>?_) λ_=>?_
 .lk;refine cP (by show hd.length+1<=_;lia) ?_;lk;refine cP (by rw [bH];show hd.length+1+(Si k).length<=_;lia) ?_;lk;refine cP (by rw [bH,bH];show hd.length+1+(Si k).length+2<=_;lia) ?_;lk;refine ⟨sf,λt ht=>tel (Z:=[]) ?_ (.inl rfl) H1 (bI.refl _) t ht⟩;exact .two (a:=k) (b:=0) (by rw [Yw,ap3,eh,lSp,l0,sg0];simp [sSi]) hw4 k60 z60 (BL hwh (.inl pk0))
 lk;refine yk (λ_=>?_) λ_=>?_
 .lk;refine cP (by show hd.length+3<=_;lia) ?_;lk;refine cP (by rw [bH];show hd.length+3+(Si k).length<=_;lia) ?_;lk;refine ⟨sf,λt ht=>tel (Z:=[]) ?_ (.inl rfl) H1 (bI.refl _) t ht⟩;exact .two (a:=0) (b:=k) (by rw [ap3,eh,l00,sg0];simp [sSi]) hw4 z60 k60 (BL hwh (.inr pk0))
 lk;refine yk (λ_=>?_) λ_=>?_
 .lk;refine cP (by show 4+(Si k).length<=_;lia) ?_;lk;refine cP (by rw [bH];show 4+(Si k).length+1<=_;lia) ?_;lk;refine cP (by rw [bH,bH];show 4+(Si k).length+1+(Si k).length<=_;lia) ?_;lk;refine ⟨sf,λt ht=>tel (Z:=[]) ?_ (.inl rfl) H1 (bI.refl _) t ht⟩;exact .two (w:=[111,117,116]) (a:=k) (b:=k) (by rw [Yw,ap3,lSp,show sS (aa "out ")=[111,117,116,32] by decide];simp [sSi]) (by decide) k60 k60 (BL (.inl rfl) (.inl pk0))
 lk;refine ⟨wd,rfl,?_⟩
 cases wd with
 | true =>
  refine kT ?_;lk;refine cP (by show (Si k).length+2<=_;lia) ?_;lk;refine ⟨sf,λl2 hl2=>?_⟩;generalize eu_:upd _ l2 _=H2;obtain ⟨S2,g2⟩:=news eu_ hl2;lk;refine Yv (xs:=[.str (aa "0 1"),.str (Si k++aa " 0"),.str (aa "1 1")]) g2 (by show 0<3;decide) c λv hv=>?_
  obtain ⟨s,x,y,rfl,es,hx,hy,hsl⟩:∃ (s:aL) (x y:Int),v=.str s/\sS s=sg x++32::sg y/\x.natAbs<10^60/\y.natAbs<10^60/\s.length<=100:=by
   simp only [az,dG,or_false] at hv
   rcases hv with rfl|rfl|rfl
   .exact ⟨_,0,1,rfl,by decide,by decide,by decide,by decide⟩
   .exact ⟨_,k,0,rfl,by rw [Yw,l0,sg0];rfl,k60,z60,by rw [bH];show (Si k).length+2<=_;lia⟩
   .exact ⟨_,1,1,rfl,by decide,by decide,by decide,by decide⟩
  refine cP (by show 4+s.length<=_;lia) ?_;lk;refine ⟨sf,λt ht=>tel (Z:=[]) ?_ (.inr (.inr (.inr (.inr (.inr (.inr rfl)))))) H2 S2 t ht⟩
  exact .two (w:=[112,117,116]) (a:=x) (b:=y) (by rw [Yw,es,show sS (aa "put ")=[112,117,116,32] by decide];rfl) (by decide) hx hy Tt
 | false =>
 refine jA ?_;lk;refine yk (λ_=>?_) λ_=>?_
 .lk;refine cP (by show 4+(Si k).length<=_;lia) ?_;lk;refine cP (by rw [bH];show 4+(Si k).length+1<=_;lia) ?_;lk;refine cP (by rw [bH,bH];show 4+(Si k).length+1+(Si k).length<=_;lia) ?_;lk;refine ⟨sf,λt ht=>tel (Z:=[]) ?_ (.inl rfl) H1 (bI.refl _) t ht⟩;exact .two (w:=[112,117,116]) (a:=k) (b:=k) (by rw [Yw,ap3,lSp,show sS (aa "put ")=[112,117,116,32] by decide];simp [sSi]) (by decide) k60 k60 (RD (.inl pk0))
 .lk;refine cP (by show 6+(Si k).length<=_;lia) ?_;lk;refine ⟨sf,λt ht=>tel (Z:=[]) ?_ (.inl rfl) H1 (bI.refl _) t ht⟩;exact .two (w:=[112,117,116]) (a:=0) (b:=k) (by rw [Yw,sg0,show sS (aa "put 0 ")=[112,117,116,32,48,32] by decide];rfl) (by decide) z60 k60 (RD (.inr pk0))
theorem rr {s:String}(x:Int) (w w':List Nat) (hs:sS (aa s)=w') (e:w'=w++[32]):sS (aa s++Si x++aa " "++Si x)=w++32::(sg x++32::sg x):=by
 rw [Yw,ap3,lSp,hs,e]
 show w++[32]++sg x++[32]++sg x=_
 rw [eD,eD,eD];rfl
inductive fM (K:ae) (C:ah) (vs:List V) (H:Hp) (Q:VK) (E:XK):Prop
 | mk (c:Int) (n:Nat) (wd:Bool):vs=[.int c,.int n,.bl wd]->2<=n->n<=200->(∀ t row w H',bI H H'->nG n wd row w->R9 w->H' t=some (.tup [.str row,.str w])->Q (.ref t) H')->fM K C vs H Q E
theorem Cv:Rn (fM K C) (pR K C) VM:=by
 rintro vs H Q E ⟨c,n,wd,rfl,hn1,hn2,q⟩;obtain ⟨x,hx,hxn⟩:=em (n:=n) (by lia) (c/4);have x60:(x:Int).natAbs<10^60:=AO (by lia);have xl:=(j1 x60).1;have xl:(Si x).length<=61:=xl;have px:pl n x=true:=pJ (by lia) (by lia)
 have o60:(1:Int).natAbs<10^60:=by decide
 have tel:∀ {row gU:aL},nG n wd row gU->R9 gU->∀ t,H t=none->Q (.ref t) (upd H t (.tup [.str row,.str gU])):=λhr hd t ht=>q t _ _ _ (bI.cV ht) hr hd aH;unfold pR;lk;rw [hx];refine yk (λ_=>?_) λ_=>?_
 .lk;refine lL (j1 x60).2 ?_;refine cP (by show 4+(Si x).length<=_;lia) ?_;lk;refine cP (by rw [bH];show 4+(Si x).length+1<=_;lia) ?_;lk;refine lL (j1 x60).2 ?_;refine cP (by rw [bH,bH];show 4+(Si x).length+1+(Si x).length<=_;lia) ?_;lk;refine ⟨sf,λt ht=>tel ?_ (.inr (.inl rfl)) t ht⟩;exact .two (w:=[111,117,116]) (a:=x) (b:=x) (rr x [111,117,116] [111,117,116,32] (by decide) rfl) (by decide) x60 x60 (BM px (.inl rfl))
 with_reducible refine vZ ?_
 dsimp only
 with_reducible refine Qk (λσ' H'=>σ'=[some (.int c),some (.int n),some (.bl wd),some (.int x),some (.int (c%4))]/\H'=H) ?_ λrest=>?_
 rotate_left
 .lk;refine yk (λ_=>?_) λ_=>jA (rest _ _ ⟨rfl,rfl⟩);lk;refine ⟨wd,rfl,?_⟩
  cases wd with
  | true=>exact jA (rest _ _ ⟨rfl,rfl⟩)
  | false =>
  refine kT ?_;lk;refine lL (j1 x60).2 ?_;refine cP (by show 4+(Si x).length<=_;lia) ?_;lk;refine cP (by rw [bH];show 4+(Si x).length+1<=_;lia) ?_;lk;refine lL (j1 x60).2 ?_;refine cP (by rw [bH,bH];show 4+(Si x).length+1+(Si x).length<=_;lia) ?_;lk;refine ⟨sf,λt ht=>tel ?_ (.inr (.inl rfl)) t ht⟩;exact .two (w:=[112,117,116]) (a:=x) (b:=x) (rr x [112,117,116] [112,117,116,32] (by decide) rfl) (by decide) x60 x60 (BM px (.inr ⟨rfl,rfl⟩))
 rintro σ1 H1 ⟨rfl,rfl⟩
 with_reducible refine Qk (λσ' H'=>σ'=[some (.int c),some (.int n),some (.bl wd),some (.int x),some (.int (c%4))]/\H'=H1) ?_ λrest=>?_
 rotate_left
 .lk;refine yk (λ_=>?_) λ_=>jA (rest _ _ ⟨rfl,rfl⟩);lk;refine ⟨wd,rfl,?_⟩
  cases wd with
  | true=>exact jA (rest _ _ ⟨rfl,rfl⟩)
  | false =>
  refine kT ?_;lk;refine ⟨sf,λt ht=>tel ?_ (.inr (.inr (.inl rfl))) t ht⟩;exact .two (w:=[112,117,116]) (a:=1) (b:=0) (by decide) (by decide) o60 z60 (VG hn1)
 rintro σ1 H1 ⟨rfl,rfl⟩;lk;refine yk (λe=>?_) λe=>?_
 .have e:n=2:=by have:=ml.mp e;lia
  subst e;lk;refine ⟨sf,λt ht=>tel ?_ (.inr (.inl rfl)) t ht⟩;exact .two (w:=[111,117,116]) (a:=1) (b:=1) (by decide) (by decide) o60 o60 (BM (by decide) (.inl rfl))
 .have hn3:3<=n:=by
   have:¬ (n:Int)=2:=λz=>e (ml.mpr z);lia
  have n60:((n:Int)-1).natAbs<10^60:=AO (by lia);have nl:=(j1 n60).1;have nl:(Si ((n:Int)-1)).length<=61:=nl;lk;refine lL (j1 n60).2 ?_;refine cP (by show 4+(Si ((n:Int)-1)).length<=_;lia) ?_;lk;refine cP (by rw [bH];show 4+(Si ((n:Int)-1)).length+2<=_;lia) ?_;lk;refine ⟨sf,λt ht=>tel ?_ (.inr (.inr (.inr (.inl rfl)))) t ht⟩;exact .two (w:=[111,117,116]) (a:=(n:Int)-1) (b:=0) (by rw [ap3,l0,sg0,show sS (aa "out ")=[111,117,116,32] by decide];show [111,117,116,32]++sg ((n:Int)-1)++[32,48]=_;rw [eD];rfl) (by decide) n60 z60 (Yi hn3)
variable {X:EC}
abbrev m7:aL:=⟨(cm (61:Int).toNat (aa "7").cps).foldl (·++·) #[]⟩
abbrev m8:aL:=⟨(cm (61:Int).toNat (aa "8").cps).foldl (·++·) #[]⟩
theorem m7l:sS m7=cm 61 55:=by decide +kernel
theorem m8l:sS m8=cm 61 56:=by decide +kernel
theorem n28 {wd:Bool}:nG n wd (aa "put 0 "++m7) "row":=by
 have e:sS (aa "put 0 "++m7)=[112,117,116,32,48,32]++cm 61 55:=by rw [Yw,m7l,show sS (aa "put 0 ")=[112,117,116,32,48,32] by decide]
 have es:Rs.spl ([112,117,116,32,48,32]++cm 61 55)=[[112,117,116],[48],cm 61 55]:=by decide +kernel
 refine ⟨?_,?_,?_,?_⟩
 .unfold As;rw [e];decide +kernel
 .rw [← gH,e];decide +kernel
 .rw [e,es];decide
 .unfold dO;rw [show (aa "put 0 "++m7).cps.toList=_ from e,es];exact xJ (w:=cm 61 55) (by decide +kernel) n wd _ _ (by decide) (by simp)
theorem n29 {wd:Bool}:nG n wd (aa "weigh 5 0-1:-"++m8) "row":=by
 have e:sS (aa "weigh 5 0-1:-"++m8)=[119,101,105,103,104,32,53,32,48,45,49,58,45]++cm 61 56:=by rw [Yw,m8l,show sS (aa "weigh 5 0-1:-")=[119,101,105,103,104,32,53,32,48,45,49,58,45] by decide]
 have es:Rs.spl ([119,101,105,103,104,32,53,32,48,45,49,58,45]++cm 61 56)=[[119,101,105,103,104],[53],[48,45,49,58,45]++cm 61 56]:=by decide +kernel
 refine ⟨?_,?_,?_,?_⟩
 .unfold As;rw [e];decide +kernel
 .rw [← gH,e];decide +kernel
 .rw [e,es];decide
 .unfold dO;rw [show (aa "weigh 5 0-1:-"++m8).cps.toList=_ from e,es]
  show FY [53] [[48,45,49,58,45]++cm 61 56]=_
  unfold FY
  rw [if_pos (by decide),show [[48,45,49,58,45]++cm 61 56].mapM wt=none by
   rw [tS,show wt ([48,45,49,58,45]++cm 61 56)=none by decide +kernel];rfl]
inductive iO (K:ae) (C:ah) (vs:List V) (H:Hp) (Q:VK) (E:XK):Prop
 | mk (c:Int) (a b:Nat):vs=[.int c,.int a,.int b]->a<200->b<200->(∀ row H',bI H H'->(∀ n wd,nG n wd row "row")->Q (.str row) H')->iO K C vs H Q E
theorem TJ {a b:Int}{pr:aL}(ep:pr=Si a++aa " "++Si b) (hp:pr.length<=9) (ha:(Si a).length<=4) (hb:(Si b).length<=4) (n:Nat) (wd:Bool):∀ v∈([.str (aa ""),.str (aa " "),.str (aa "put "++pr++aa " "),.str (aa " put "++pr),.str (aa "put  "++pr),.str (aa "Put "++pr),.str (aa "put "++Si a),.str (aa "put "++pr++aa " 1"),.str (aa "out"),.str (aa "out 0"++pr),.str (aa "out "++pr++aa "x"),.str (aa "joined -0 "++Si b),.str (aa "way +1 "++Si b),.str (aa "side"),.str (aa "side "++pr),.str (aa "ties 0"),.str (aa "ties "),.str (aa "account 1"),.str (aa "weight 0"),.str (aa "new"),.str (aa "new x"),.str (aa "new 5 6"),.str (aa "weigh"),.str (aa "weigh "),.str (aa "weigh 5 0-1"),.str (aa "weigh 5 0-1:2 "),.str (aa "weigh 5 -0-1:2"),.str (aa "weigh 5 0--1:2"),.str (aa "put 0 "++m7),.str (aa "weigh 5 0-1:-"++m8)]:List V),∃ row,v=.str row/\nG n wd row "row":=by
 have ap:As pr:=by rw [ep];exact As.app (As.app (As.si _) (by unfold As;decide)) (As.si _)
 intro v hv;simp only [az,dG,or_false] at hv
 rcases hv with rfl|rfl|rfl|rfl|rfl|rfl|rfl|rfl|rfl|rfl|rfl|rfl|rfl|rfl|rfl|rfl|rfl|rfl|rfl|rfl|rfl|rfl|rfl|rfl|rfl|rfl|rfl|rfl|rfl|rfl
 .exact ⟨_,rfl,.short (by unfold As;decide) (by decide) n0⟩
 .exact ⟨_,rfl,.short (by unfold As;decide) (by decide) n1⟩
 .refine ⟨_,rfl,.short (As.app (As.app (by unfold As;decide) ap) (by unfold As;decide)) (by rw [bH,bH];show 4+pr.length+1<=_;lia) ?_⟩;rw [ep];exact n2
 .refine ⟨_,rfl,.short (As.app (by unfold As;decide) ap) (by rw [bH];show 5+pr.length<=_;lia) ?_⟩;rw [ep];exact n3
 .refine ⟨_,rfl,.short (As.app (by unfold As;decide) ap) (by rw [bH];show 5+pr.length<=_;lia) ?_⟩;rw [ep];exact n4
 .refine ⟨_,rfl,.short (As.app (by unfold As;decide) ap) (by rw [bH];show 4+pr.length<=_;lia) ?_⟩;rw [ep];exact n5
 .exact ⟨_,rfl,.short (As.app (by unfold As;decide) (As.si _)) (by rw [bH];show 4+(Si a).length<=_;lia) n6⟩
 .refine ⟨_,rfl,.short (As.app (As.app (by unfold As;decide) ap) (by unfold As;decide)) (by rw [bH,bH];show 4+pr.length+2<=_;lia) ?_⟩;rw [ep];exact n7
 .exact ⟨_,rfl,.short (by unfold As;decide) (by decide) n8⟩
 .refine ⟨_,rfl,.short (As.app (by unfold As;decide) ap) (by rw [bH];show 5+pr.length<=_;lia) ?_⟩;rw [ep];exact n9
 .refine ⟨_,rfl,.short (As.app (As.app (by unfold As;decide) ap) (by unfold As;decide)) (by rw [bH,bH];show 4+pr.length+1<=_;lia) ?_⟩;rw [ep];exact n10
 .exact ⟨_,rfl,.short (As.app (by unfold As;decide) (As.si _)) (by rw [bH];show 10+(Si b).length<=_;lia) n11⟩
 .exact ⟨_,rfl,.short (As.app (by unfold As;decide) (As.si _)) (by rw [bH];show 7+(Si b).length<=_;lia) UB⟩
 .exact ⟨_,rfl,.short (by unfold As;decide) (by decide) Xb⟩
 .refine ⟨_,rfl,.short (As.app (by unfold As;decide) ap) (by rw [bH];show 5+pr.length<=_;lia) ?_⟩;rw [ep];exact n14
 .exact ⟨_,rfl,.short (by unfold As;decide) (by decide) n15⟩
 .exact ⟨_,rfl,.short (by unfold As;decide) (by decide) n16⟩
 .exact ⟨_,rfl,.short (by unfold As;decide) (by decide) n17⟩
 .exact ⟨_,rfl,.short (by unfold As;decide) (by decide) n18⟩
 .exact ⟨_,rfl,.short (by unfold As;decide) (by decide) n19⟩
 .exact ⟨_,rfl,.short (by unfold As;decide) (by decide) n20⟩
 .exact ⟨_,rfl,.short (by unfold As;decide) (by decide) n21⟩
 .exact ⟨_,rfl,.short (by unfold As;decide) (by decide) n22⟩
 .exact ⟨_,rfl,.short (by unfold As;decide) (by decide) WO⟩
 .exact ⟨_,rfl,.short (by unfold As;decide) (by decide) n24⟩
 .exact ⟨_,rfl,.short (by unfold As;decide) (by decide) n25⟩
 .exact ⟨_,rfl,.short (by unfold As;decide) (by decide) n26⟩
 .exact ⟨_,rfl,.short (by unfold As;decide) (by decide) n27⟩
 .exact ⟨_,rfl,n28⟩
 .exact ⟨_,rfl,n29⟩
theorem Ir:Rn (iO K C) (uW K C) VN:=by
 rintro vs H Q E ⟨c,a,b,rfl,ha,hb,q⟩
 have sl:∀ x:Nat,x<200->(Si x).length<=4/\(x:Int).natAbs.log2<1920:=λx hx=>by
  refine ⟨?_,(j1 (AO (by lia))).2⟩;rw [← gH]
  show (sg x).length<=4
  rw [J0,if_neg (by lia)];have:=Am (k:=4) (m:=(x:Int).natAbs) (by decide) (by lia);lia
 obtain ⟨la,la2⟩:=sl a ha;obtain ⟨lb,lb2⟩:=sl b hb;unfold uW;lk;refine lL la2 ?_;lk;refine cP (by show (Si a).length+1<=_;lia) ?_;lk;refine lL lb2 ?_;refine cP (by rw [bH];show (Si a).length+1+(Si b).length<=_;lia) ?_
 have lp:(Si a++aa " "++Si b).length<=9:=by rw [bH,bH];show (Si a).length+1+(Si b).length<=_;lia
 have rows:=TJ (a:=a) (b:=b) rfl lp la lb;generalize Si a++aa " "++Si b=pr at lp rows;lk;refine cP (by show 4+pr.length<=_;lia) ?_;lk;refine cP (by rw [bH];show 4+pr.length+1<=_;lia) ?_;lk;refine cP (by show 5+pr.length<=_;lia) ?_;lk;refine cP (by show 5+pr.length<=_;lia) ?_;lk;refine cP (by show 4+pr.length<=_;lia) ?_;lk;refine lL la2 ?_;refine cP (by show 4+(Si a).length<=_;lia) ?_;lk;refine ⟨sf,λl1 hl1=>?_⟩;generalize eu_:upd _ l1 _=G1;obtain ⟨S1,g1⟩:=news eu_ hl1;lk;refine cP (by show 4+pr.length<=_;lia) ?_;lk;refine cP (by rw [bH];show 4+pr.length+2<=_;lia) ?_;lk;refine cP (by show 5+pr.length<=_;lia) ?_;lk;refine cP (by show 4+pr.length<=_;lia) ?_;lk;refine cP (by rw [bH];show 4+pr.length+1<=_;lia) ?_;lk;refine lL lb2 ?_;refine cP (by show 10+(Si b).length<=_;lia) ?_;lk;refine ⟨sf,λl2 hl2=>?_⟩;generalize eu_:upd _ l2 _=G2;obtain ⟨S2,g2⟩:=news eu_ hl2;have g1:=S2 _ _ g1;refine FN g1 g2 (rS (by show 7+5<=100000;decide)) λl3 hl3=>?_;have S3:=bI.cV (o:=.lst ([.str (aa ""),.str (aa " "),.str (aa "put "++pr++aa " "),.str (aa " put "++pr),.str (aa "put  "++pr),.str (aa "Put "++pr),.str (aa "put "++Si a)]++[.str (aa "put "++pr++aa " 1"),.str (aa "out"),.str (aa "out 0"++pr),.str (aa "out "++pr++aa "x"),.str (aa "joined -0 "++Si b)])) hl3;have g3:(upd G2 l3 (.lst ([.str (aa ""),.str (aa " "),.str (aa "put "++pr++aa " "),.str (aa " put "++pr),.str (aa "put  "++pr),.str (aa "Put "++pr),.str (aa "put "++Si a)]++[.str (aa "put "++pr++aa " 1"),.str (aa "out"),.str (aa "out 0"++pr),.str (aa "out "++pr++aa "x"),.str (aa "joined -0 "++Si b)]))) l3=some (.lst [.str (aa ""),.str (aa " "),.str (aa "put "++pr++aa " "),.str (aa " put "++pr),.str (aa "put  "++pr),.str (aa "Put "++pr),.str (aa "put "++Si a),.str (aa "put "++pr++aa " 1"),.str (aa "out"),.str (aa "out 0"++pr),.str (aa "out "++pr++aa "x"),.str (aa "joined -0 "++Si b)]):=aH;generalize upd G2 l3 (.lst ([.str (aa ""),.str (aa " "),.str (aa "put "++pr++aa " "),.str (aa " put "++pr),.str (aa "put  "++pr),.str (aa "Put "++pr),.str (aa "put "++Si a)]++[.str (aa "put "++pr++aa " 1"),.str (aa "out"),.str (aa "out 0"++pr),.str (aa "out "++pr++aa "x"),.str (aa "joined -0 "++Si b)]))=G3 at S3 g3;lk;refine lL lb2 ?_;refine cP (by show 7+(Si b).length<=_;lia) ?_;lk;refine cP (by show 5+pr.length<=_;lia) ?_;lk;refine ⟨sf,λl4 hl4=>?_⟩;generalize eu_:upd _ l4 _=G4;obtain ⟨S4,g4⟩:=news eu_ hl4;have g3:=S4 _ _ g3;refine FN g3 g4 (rS (by show 12+3<=100000;decide)) λl5 hl5=>?_;have S5:=bI.cV (o:=.lst ([.str (aa ""),.str (aa " "),.str (aa "put "++pr++aa " "),.str (aa " put "++pr),.str (aa "put  "++pr),.str (aa "Put "++pr),.str (aa "put "++Si a),.str (aa "put "++pr++aa " 1"),.str (aa "out"),.str (aa "out 0"++pr),.str (aa "out "++pr++aa "x"),.str (aa "joined -0 "++Si b)]++[.str (aa "way +1 "++Si b),.str (aa "side"),.str (aa "side "++pr)])) hl5;have g5:(upd G4 l5 (.lst ([.str (aa ""),.str (aa " "),.str (aa "put "++pr++aa " "),.str (aa " put "++pr),.str (aa "put  "++pr),.str (aa "Put "++pr),.str (aa "put "++Si a),.str (aa "put "++pr++aa " 1"),.str (aa "out"),.str (aa "out 0"++pr),.str (aa "out "++pr++aa "x"),.str (aa "joined -0 "++Si b)]++[.str (aa "way +1 "++Si b),.str (aa "side"),.str (aa "side "++pr)]))) l5=some (.lst [.str (aa ""),.str (aa " "),.str (aa "put "++pr++aa " "),.str (aa " put "++pr),.str (aa "put  "++pr),.str (aa "Put "++pr),.str (aa "put "++Si a),.str (aa "put "++pr++aa " 1"),.str (aa "out"),.str (aa "out 0"++pr),.str (aa "out "++pr++aa "x"),.str (aa "joined -0 "++Si b),.str (aa "way +1 "++Si b),.str (aa "side"),.str (aa "side "++pr)]):=aH;generalize upd G4 l5 (.lst ([.str (aa ""),.str (aa " "),.str (aa "put "++pr++aa " "),.str (aa " put "++pr),.str (aa "put  "++pr),.str (aa "Put "++pr),.str (aa "put "++Si a),.str (aa "put "++pr++aa " 1"),.str (aa "out"),.str (aa "out 0"++pr),.str (aa "out "++pr++aa "x"),.str (aa "joined -0 "++Si b)]++[.str (aa "way +1 "++Si b),.str (aa "side"),.str (aa "side "++pr)]))=G5 at S5 g5;lk;refine ⟨sf,λl6 hl6=>?_⟩;generalize eu_:upd _ l6 _=G6;obtain ⟨S6,g6⟩:=news eu_ hl6;have g5:=S6 _ _ g5;refine FN g5 g6 (rS (by show 15+9<=100000;decide)) λl7 hl7=>?_;have S7:=bI.cV (o:=.lst ([.str (aa ""),.str (aa " "),.str (aa "put "++pr++aa " "),.str (aa " put "++pr),.str (aa "put  "++pr),.str (aa "Put "++pr),.str (aa "put "++Si a),.str (aa "put "++pr++aa " 1"),.str (aa "out"),.str (aa "out 0"++pr),.str (aa "out "++pr++aa "x"),.str (aa "joined -0 "++Si b),.str (aa "way +1 "++Si b),.str (aa "side"),.str (aa "side "++pr)]++[.str (aa "ties 0"),.str (aa "ties "),.str (aa "account 1"),.str (aa "weight 0"),.str (aa "new"),.str (aa "new x"),.str (aa "new 5 6"),.str (aa "weigh"),.str (aa "weigh ")])) hl7;have g7:(upd G6 l7 (.lst ([.str (aa ""),.str (aa " "),.str (aa "put "++pr++aa " "),.str (aa " put "++pr),.str (aa "put  "++pr),.str (aa "Put "++pr),.str (aa "put "++Si a),.str (aa "put "++pr++aa " 1"),.str (aa "out"),.str (aa "out 0"++pr),.str (aa "out "++pr++aa "x"),.str (aa "joined -0 "++Si b),.str (aa "way +1 "++Si b),.str (aa "side"),.str (aa "side "++pr)]++[.str (aa "ties 0"),.str (aa "ties "),.str (aa "account 1"),.str (aa "weight 0"),.str (aa "new"),.str (aa "new x"),.str (aa "new 5 6"),.str (aa "weigh"),.str (aa "weigh ")]))) l7=some (.lst [.str (aa ""),.str (aa " "),.str (aa "put "++pr++aa " "),.str (aa " put "++pr),.str (aa "put  "++pr),.str (aa "Put "++pr),.str (aa "put "++Si a),.str (aa "put "++pr++aa " 1"),.str (aa "out"),.str (aa "out 0"++pr),.str (aa "out "++pr++aa "x"),.str (aa "joined -0 "++Si b),.str (aa "way +1 "++Si b),.str (aa "side"),.str (aa "side "++pr),.str (aa "ties 0"),.str (aa "ties "),.str (aa "account 1"),.str (aa "weight 0"),.str (aa "new"),.str (aa "new x"),.str (aa "new 5 6"),.str (aa "weigh"),.str (aa "weigh ")]):=aH;generalize upd G6 l7 (.lst ([.str (aa ""),.str (aa " "),.str (aa "put "++pr++aa " "),.str (aa " put "++pr),.str (aa "put  "++pr),.str (aa "Put "++pr),.str (aa "put "++Si a),.str (aa "put "++pr++aa " 1"),.str (aa "out"),.str (aa "out 0"++pr),.str (aa "out "++pr++aa "x"),.str (aa "joined -0 "++Si b),.str (aa "way +1 "++Si b),.str (aa "side"),.str (aa "side "++pr)]++[.str (aa "ties 0"),.str (aa "ties "),.str (aa "account 1"),.str (aa "weight 0"),.str (aa "new"),.str (aa "new x"),.str (aa "new 5 6"),.str (aa "weigh"),.str (aa "weigh ")]))=G7 at S7 g7;lk;refine ⟨sf,λl8 hl8=>?_⟩;generalize eu_:upd _ l8 _=G8;obtain ⟨S8,g8⟩:=news eu_ hl8;have g7:=S8 _ _ g7;refine FN g7 g8 (rS (by show 24+4<=100000;decide)) λl9 hl9=>?_;have S9:=bI.cV (o:=.lst ([.str (aa ""),.str (aa " "),.str (aa "put "++pr++aa " "),.str (aa " put "++pr),.str (aa "put  "++pr),.str (aa "Put "++pr),.str (aa "put "++Si a),.str (aa "put "++pr++aa " 1"),.str (aa "out"),.str (aa "out 0"++pr),.str (aa "out "++pr++aa "x"),.str (aa "joined -0 "++Si b),.str (aa "way +1 "++Si b),.str (aa "side"),.str (aa "side "++pr),.str (aa "ties 0"),.str (aa "ties "),.str (aa "account 1"),.str (aa "weight 0"),.str (aa "new"),.str (aa "new x"),.str (aa "new 5 6"),.str (aa "weigh"),.str (aa "weigh ")]++[.str (aa "weigh 5 0-1"),.str (aa "weigh 5 0-1:2 "),.str (aa "weigh 5 -0-1:2"),.str (aa "weigh 5 0--1:2")])) hl9;have g9:(upd G8 l9 (.lst ([.str (aa ""),.str (aa " "),.str (aa "put "++pr++aa " "),.str (aa " put "++pr),.str (aa "put  "++pr),.str (aa "Put "++pr),.str (aa "put "++Si a),.str (aa "put "++pr++aa " 1"),.str (aa "out"),.str (aa "out 0"++pr),.str (aa "out "++pr++aa "x"),.str (aa "joined -0 "++Si b),.str (aa "way +1 "++Si b),.str (aa "side"),.str (aa "side "++pr),.str (aa "ties 0"),.str (aa "ties "),.str (aa "account 1"),.str (aa "weight 0"),.str (aa "new"),.str (aa "new x"),.str (aa "new 5 6"),.str (aa "weigh"),.str (aa "weigh ")]++[.str (aa "weigh 5 0-1"),.str (aa "weigh 5 0-1:2 "),.str (aa "weigh 5 -0-1:2"),.str (aa "weigh 5 0--1:2")]))) l9=some (.lst [.str (aa ""),.str (aa " "),.str (aa "put "++pr++aa " "),.str (aa " put "++pr),.str (aa "put  "++pr),.str (aa "Put "++pr),.str (aa "put "++Si a),.str (aa "put "++pr++aa " 1"),.str (aa "out"),.str (aa "out 0"++pr),.str (aa "out "++pr++aa "x"),.str (aa "joined -0 "++Si b),.str (aa "way +1 "++Si b),.str (aa "side"),.str (aa "side "++pr),.str (aa "ties 0"),.str (aa "ties "),.str (aa "account 1"),.str (aa "weight 0"),.str (aa "new"),.str (aa "new x"),.str (aa "new 5 6"),.str (aa "weigh"),.str (aa "weigh "),.str (aa "weigh 5 0-1"),.str (aa "weigh 5 0-1:2 "),.str (aa "weigh 5 -0-1:2"),.str (aa "weigh 5 0--1:2")]):=aH;generalize upd G8 l9 (.lst ([.str (aa ""),.str (aa " "),.str (aa "put "++pr++aa " "),.str (aa " put "++pr),.str (aa "put  "++pr),.str (aa "Put "++pr),.str (aa "put "++Si a),.str (aa "put "++pr++aa " 1"),.str (aa "out"),.str (aa "out 0"++pr),.str (aa "out "++pr++aa "x"),.str (aa "joined -0 "++Si b),.str (aa "way +1 "++Si b),.str (aa "side"),.str (aa "side "++pr),.str (aa "ties 0"),.str (aa "ties "),.str (aa "account 1"),.str (aa "weight 0"),.str (aa "new"),.str (aa "new x"),.str (aa "new 5 6"),.str (aa "weigh"),.str (aa "weigh ")]++[.str (aa "weigh 5 0-1"),.str (aa "weigh 5 0-1:2 "),.str (aa "weigh 5 -0-1:2"),.str (aa "weigh 5 0--1:2")]))=G9 at S9 g9;lk;refine ⟨_,61,rfl,rfl,by decide,by decide,by decide,by decide,?_⟩;refine cP (j:=m7) (by rw [← gH m7,m7l];show 6+61<=_;decide) ?_;lk;refine ⟨_,61,rfl,rfl,by decide,by decide,by decide,by decide,?_⟩;refine cP (j:=m8) (by rw [← gH m8,m8l];show 13+61<=_;decide) ?_;lk;refine ⟨sf,λl10 hl10=>?_⟩;generalize eu_:upd _ l10 _=G10;obtain ⟨S10,g10⟩:=news eu_ hl10;have g9:=S10 _ _ g9;refine FN g9 g10 (rS (by show 28+2<=100000;decide)) λl11 hl11=>?_;have S11:=bI.cV (o:=.lst ([.str (aa ""),.str (aa " "),.str (aa "put "++pr++aa " "),.str (aa " put "++pr),.str (aa "put  "++pr),.str (aa "Put "++pr),.str (aa "put "++Si a),.str (aa "put "++pr++aa " 1"),.str (aa "out"),.str (aa "out 0"++pr),.str (aa "out "++pr++aa "x"),.str (aa "joined -0 "++Si b),.str (aa "way +1 "++Si b),.str (aa "side"),.str (aa "side "++pr),.str (aa "ties 0"),.str (aa "ties "),.str (aa "account 1"),.str (aa "weight 0"),.str (aa "new"),.str (aa "new x"),.str (aa "new 5 6"),.str (aa "weigh"),.str (aa "weigh "),.str (aa "weigh 5 0-1"),.str (aa "weigh 5 0-1:2 "),.str (aa "weigh 5 -0-1:2"),.str (aa "weigh 5 0--1:2")]++[.str (aa "put 0 "++m7),.str (aa "weigh 5 0-1:-"++m8)])) hl11;have g11:(upd G10 l11 (.lst ([.str (aa ""),.str (aa " "),.str (aa "put "++pr++aa " "),.str (aa " put "++pr),.str (aa "put  "++pr),.str (aa "Put "++pr),.str (aa "put "++Si a),.str (aa "put "++pr++aa " 1"),.str (aa "out"),.str (aa "out 0"++pr),.str (aa "out "++pr++aa "x"),.str (aa "joined -0 "++Si b),.str (aa "way +1 "++Si b),.str (aa "side"),.str (aa "side "++pr),.str (aa "ties 0"),.str (aa "ties "),.str (aa "account 1"),.str (aa "weight 0"),.str (aa "new"),.str (aa "new x"),.str (aa "new 5 6"),.str (aa "weigh"),.str (aa "weigh "),.str (aa "weigh 5 0-1"),.str (aa "weigh 5 0-1:2 "),.str (aa "weigh 5 -0-1:2"),.str (aa "weigh 5 0--1:2")]++[.str (aa "put 0 "++m7),.str (aa "weigh 5 0-1:-"++m8)]))) l11=some (.lst [.str (aa ""),.str (aa " "),.str (aa "put "++pr++aa " "),.str (aa " put "++pr),.str (aa "put  "++pr),.str (aa "Put "++pr),.str (aa "put "++Si a),.str (aa "put "++pr++aa " 1"),.str (aa "out"),.str (aa "out 0"++pr),.str (aa "out "++pr++aa "x"),.str (aa "joined -0 "++Si b),.str (aa "way +1 "++Si b),.str (aa "side"),.str (aa "side "++pr),.str (aa "ties 0"),.str (aa "ties "),.str (aa "account 1"),.str (aa "weight 0"),.str (aa "new"),.str (aa "new x"),.str (aa "new 5 6"),.str (aa "weigh"),.str (aa "weigh "),.str (aa "weigh 5 0-1"),.str (aa "weigh 5 0-1:2 "),.str (aa "weigh 5 -0-1:2"),.str (aa "weigh 5 0--1:2"),.str (aa "put 0 "++m7),.str (aa "weigh 5 0-1:-"++m8)]):=aH;generalize upd G10 l11 (.lst ([.str (aa ""),.str (aa " "),.str (aa "put "++pr++aa " "),.str (aa " put "++pr),.str (aa "put  "++pr),.str (aa "Put "++pr),.str (aa "put "++Si a),.str (aa "put "++pr++aa " 1"),.str (aa "out"),.str (aa "out 0"++pr),.str (aa "out "++pr++aa "x"),.str (aa "joined -0 "++Si b),.str (aa "way +1 "++Si b),.str (aa "side"),.str (aa "side "++pr),.str (aa "ties 0"),.str (aa "ties "),.str (aa "account 1"),.str (aa "weight 0"),.str (aa "new"),.str (aa "new x"),.str (aa "new 5 6"),.str (aa "weigh"),.str (aa "weigh "),.str (aa "weigh 5 0-1"),.str (aa "weigh 5 0-1:2 "),.str (aa "weigh 5 -0-1:2"),.str (aa "weigh 5 0--1:2")]++[.str (aa "put 0 "++m7),.str (aa "weigh 5 0-1:-"++m8)]))=G11 at S11 g11;lk;refine Yv (xs:=[.str (aa ""),.str (aa " "),.str (aa "put "++pr++aa " "),.str (aa " put "++pr),.str (aa "put  "++pr),.str (aa "Put "++pr),.str (aa "put "++Si a),.str (aa "put "++pr++aa " 1"),.str (aa "out"),.str (aa "out 0"++pr),.str (aa "out "++pr++aa "x"),.str (aa "joined -0 "++Si b),.str (aa "way +1 "++Si b),.str (aa "side"),.str (aa "side "++pr),.str (aa "ties 0"),.str (aa "ties "),.str (aa "account 1"),.str (aa "weight 0"),.str (aa "new"),.str (aa "new x"),.str (aa "new 5 6"),.str (aa "weigh"),.str (aa "weigh "),.str (aa "weigh 5 0-1"),.str (aa "weigh 5 0-1:2 "),.str (aa "weigh 5 -0-1:2"),.str (aa "weigh 5 0--1:2"),.str (aa "put 0 "++m7),.str (aa "weigh 5 0-1:-"++m8)]) g11 (by show 0<30;decide) c λv hv=>?_;obtain ⟨row,rfl,_⟩:=rows 0 false v hv;refine q row _ ((((((((((S1.trans S2).trans S3).trans S4).trans S5).trans S6).trans S7).trans S8).trans S9).trans S10).trans S11) λn wd=>?_;obtain ⟨row',e,h⟩:=rows n wd _ hv;rw [V.str.inj e];exact h
variable {X:EC}
section
variable {B:CA}{Dk:ah}{X:EC}{mg:aL->Option aj}{P:bC}{w:cW}
theorem Wr:nG n false (aa "weight") "row":=.short (by unfold As;decide) (by decide) (by
 unfold dO;rw [show Rs.spl (aa "weight").cps.toList=[[119,101,105,103,104,116]] by decide]
 rfl)
theorem Yx {wd:Bool}:nG n wd (aa "put 0 x") "row":=.short (by unfold As;decide) (by decide) (by
 unfold dO;rw [show Rs.spl (aa "put 0 x").cps.toList=[[112,117,116],[48],[120]] by decide]
 exact xJ (w:=[120]) (by decide) n wd _ _ (by decide) (by decide))
inductive d0 (K:ae) (C:ah) (vs:List V) (H:Hp) (Q:VK) (E:XK):Prop
 | mk (c:Int) (n:Nat) (wd:Bool):vs=[.int c,.int n,.bl wd]->2<=n->n<=200->(∀ t row w H',bI H H'->nG n wd row w->R9 w->H' t=some (.tup [.str row,.str w])->Q (.ref t) H')->d0 K C vs H Q E
theorem Lr:Rn (d0 K C) (wF K C (fZ K C) (fc K C) (eU K C) (fM K C) (iO K C)) VP:=by
 rintro vs H Q E ⟨c,n,wd,rfl,hn1,hn2,q⟩;have rw6:R9 "row":=.inr (.inr (.inr (.inr (.inr (.inl rfl)))));unfold wF;lk;generalize (c*16807+3)%2147483647%11=z;refine yk (λ_=>?_) λ_=>?_
 .obtain ⟨x,hx,hxn⟩:=em (n:=n) (by lia) (c/60);obtain ⟨y,hy,hyn⟩:=em (n:=n) (by lia) (c/70);lk;rw [hx,hy];refine ⟨c/2,x,y,rfl,by lia,by lia,λrow H1 S1 hr=>?_⟩;lk;exact ⟨sf,λt ht=>q t _ _ _ (S1.trans (bI.cV ht)) (hr n wd) rw6 aH⟩
 lk;refine yk (λ_=>?_) λ_=>?_
 .lk;exact ⟨_,rfl,λt row w H1 S1 hr hw ht=>q t row w H1 S1 (hr n wd) hw ht⟩
 lk;refine yk (λ_=>?_) λ_=>?_
 .lk;exact ⟨_,n,rfl,hn1,hn2,λt row w H1 S1 hr hw ht=>q t row w H1 S1 (hr wd) hw ht⟩
 lk;refine yk (λ_=>?_) λ_=>?_
 .lk;exact ⟨_,n,wd,rfl,hn1,hn2,q⟩
 lk;refine yk (λ_=>?_) λ_=>?_
 .lk;exact ⟨_,n,wd,rfl,hn1,hn2,q⟩
 lk;refine ⟨wd,rfl,?_⟩
 cases wd with
 | true =>
  refine kT ?_;lk
  exact ⟨sf,λt ht=>q t _ _ _ (bI.cV ht) Yx rw6 aH⟩
 | false =>
  refine jA ?_;lk;exact ⟨sf,λt ht=>q t _ _ _ (bI.cV ht) Wr rw6 aH⟩
theorem aaK {cT:aj}{i N:Nat}{tb:XK->TS}{th:TS}{D:vT}{Z:L2.St}(h:∃ E:XK,tb E D Z H/\∀ cls H2 (σ':L2.St),E cls none H2->σ'.length=N->∃ Dc:ah,cls=.ref Dc/\yL K cls cT=some true/\∀ a,H2 a=none->th { nx:=λσ2 H'=>D.nx (σ2.set i none) H',rt:=D.rt } (σ'.set i (some (.ref a))) (upd H2 a (W7 a cls))):Vs K cT i N tb th D Z H:=h
inductive cK (K:ae) (C:ah) (A B:CA) (Dk:ah) (X:EC) (vs:List V) (H:Hp) (Q:VK) (E:XK):Prop
 | mk (p dx k dk a:_) (n T:Nat) (as R:_) (wd:Bool) (row w:aL):vs=[.ref p,.str row]->EN K C A B Dk->DS C A B Dk H p dx k dk a n T as R wd->nG n wd row w->R9 w->(∀ q H',bI H H'->H' q=some (.lst [.str w])->Q (.ref q) H')->cK K C A B Dk X vs H Q E
theorem Cw (T:zD P w K mg C A B Dk X):Rn (cK K C A B Dk X) (pQ K C A B Dk X (iY K C A B Dk X) (ib K C X)) VO:=by
 rintro vs H Q E ⟨p,dx,k,dk,a,n,Tp,as,R,wd,row,w,rfl,ct,h,hr,hw,q⟩;obtain ⟨D,hD⟩:=hw.gU X;unfold pQ;lk;refine ⟨sf,λl hl=>?_⟩;have S1:=bI.cV (o:=.lst []) hl;generalize upd H l (.lst [])=H1 at S1;have h1:=h.same S1;k_ne
 with_reducible refine tW ?_
 refine aaK ⟨λcls _ H2=>cls=.ref D/\bI H1 H2,?_,?_⟩
 .k_in;refine ⟨p,dx,_,rfl,h1.d,J8,?_⟩;lk;exact ⟨p,dx,k,dk,a,n,Tp,as,R,wd,row,w,D,rfl,ct,h1,hr.as,hr.ln,hr.sp,hr.gU,hD,λH' S=>⟨rfl,S⟩⟩
 .rintro cls H2 σ' ⟨rfl,S2⟩ hs;refine ⟨D,rfl,hD.em T.a,λb hb=>?_⟩;generalize eu_:upd _ b _=H3;obtain ⟨S3,g3⟩:=news eu_ hb
  match σ',hs with
  | [o0,o1,o2,o3],_ =>
   lk;refine ⟨b,D,w,rfl,g3,hD,λr H4 S4 hq g4=>?_⟩;lk;exact q r H4 (S1.trans (S2.trans (S3.trans S4))) g4
end
variable {X:EC}
section
variable {B:CA}{Dk:ah}{X:EC}{Pt1:ah}
theorem R9.ok {w:aL}(h:R9 w):PyData.strOk w=true:=by
 rcases h with rfl|rfl|rfl|rfl|rfl|rfl|rfl<;>decide +kernel
theorem nn {x:aL}:(!decide (V.str x=V.str x))=false:=by rw [decide_eq_true rfl];rfl
theorem Ls {Z:L2.St}{k dk:ah}{wd:Bool}{row ans:aL}(ct:EN K C A B Dk) (h:DS C A B Dk H p dx k dk a n T as R wd) (hn:n<=200) (hv:Z[4]?=some (some (.ref p)))
  (hr:(row=aa "ties"/\ans=aa "0-1:0*")\/(row=aa "account"/\ans=Yr T)) (q:∀ H',bI H H'->Q (.str ans) H') :
  dv Dk "say" (cO K C A B Dk Pt1) [] E0 (aq 4) (ai (tC (.str row)) aM) Z H Q:=by
 refine gQ (il hv ⟨p,dx,_,rfl,h.d,J8,iF (Uy (qd ⟨p,dx,k,row,rfl,ct,h.d,.inr (.inr (.inr ⟨dk,a,n,T,as,R,wd,h,hn,?_⟩))⟩))⟩)
 rcases hr with ⟨rfl,rfl⟩|⟨rfl,rfl⟩
 .exact .inl ⟨rfl,q⟩
 .exact .inr ⟨rfl,q⟩
inductive GF (K:ae) (Pt1:ah) (vs:List V) (H:Hp) (Q:VK) (E:XK):Prop
 | mk (a:_) (ns:List Int):vs=[.ref a]->gb K H a (ns.map V.int)->ns.length<=63->HE Pt1 H->(∀ H',Q (.bl true) H')->GF K Pt1 vs H Q E
theorem Yy (ct:EN K C A B Dk):Rn (GF K Pt1) (Qb K C A B Dk (cC K C) (cz K C A B Dk) (cO K C A B Dk Pt1) (d0 K C) (cK K C A B Dk X)) aax:=by
 rintro vs H Q E ⟨s,ns,rfl,hS,hlen,hP,q⟩
 have p30:(0:Int)<10^(30:Int).toNat:=by decide
 unfold Qb;lk;refine ⟨s,ns,0,rfl,hS,λz=>?_⟩;obtain ⟨m,em',hm⟩:=em (n:=20) (by lia) (z/3);have em':z/3%20=(m:Int):=em';lk;rw [em',show (2:Int)+(m:Int)=((m+2:Nat):Int) by lia];generalize hn:m+2=n
 have hn1:2<=n:=by lia
 have hn2:n<=21:=by lia
 have n60:(n:Int).natAbs<10^60:=AO (by lia);have nl:=j1 n60;have nl1:(Si n).length<=61:=nl.1;generalize decide (V.int (z%3)=V.int 1)=wd;refine wW (qd λp dx hp hdx hne=>?_)
 have T0:bI H (upd (upd H dx (.own p)) p (.ins Dk dx [])):=λb o e=>by rw [aI (aG e hp),aI (aG e hdx)];exact e
 refine ⟨p,dx,rfl,ct,aH,λk0 H1 h1 B1=>⟨rfl,?_⟩⟩;have S1:bI H H1:=λb o e=>B1 _ _ (T0 _ _ e) (aG e hp);have hS1:=S1.seq hS;have hP1:=hP.same S1;k_ne;dsimp only
 have kS:∀ {H':Hp},(∀ b o,b≠p->b≠Pt1->H1 b=some o->H' b=some o)->gb K H' s (ns.map V.int):=λ{H'} kk=>by
  have np:∀ o,H s=some o->s≠p:=λo e=>aG e hp
  rcases hS with (e|⟨o,e⟩)|e
  .exact .inl (.inl (kk _ _ (np _ e) (hP1.ne (S1 _ _ e) (λ_ z=>nomatch z)) (S1 _ _ e)))
  .exact .inl (.inr ⟨o,kk _ _ (np _ e) (hP1.ne (S1 _ _ e) (λ_ z=>nomatch z)) (S1 _ _ e)⟩)
  .exact .inr e
 with_reducible refine Qk (λσ' H'=>σ'=[some (.ref s),some (.int z),some (.int n),some (.bl wd),some (.ref p),none,none,none,none,none]/\gb K H' s (ns.map V.int)/\∃ (dx k dk:ah) (a:AL) (T:Nat) (as:Nat->List ah) (R:Nat->Nat->List Int),DS C A B Dk H' p dx k dk a n T as R wd) ?_ λrest=>?_
 rotate_left
 .refine qT (FM (il rfl ⟨wd,rfl,?_⟩))
  cases wd with
  | true =>
   refine kT ?_;refine qT (sR (Ae (gQ (il rfl ⟨p,dx,_,rfl,h1,J8,?_⟩))));lk;refine lL nl.2 ?_;refine cP (by show 6+(Si n).length<=_;lia) ?_;lk;refine cP (by rw [bH];show 6+(Si n).length+5<=_;lia) ?_;lk;refine ⟨s,ns,1,rfl,hS1,λy=>?_⟩;lk;have h2:=zf y (show (10:Int)^(30:Int).toNat≠0 by lia);have h3:=uD y p30;rw [e30] at h3;generalize hE:y%(10:Int)^(30:Int).toNat=t at h2
   have h3:t<1000000000000000000000000000000:=by rw [← hE,e30];exact h3
   have t60:t.natAbs<10^60:=AO (by lia);have tl:=j1 t60;have tl1:(Si t).length<=61:=tl.1;refine lL tl.2 ?_;refine cP (by rw [bH,bH];show 6+(Si n).length+5+(Si t).length<=_;lia) ?_;lk;refine ⟨p,dx,k0,_,rfl,ct,h1,.inr (.inr (.inl ⟨n,t,rfl,hn1,by lia,t60,hP1,λk dk a T as R H2 hd kk=>?_⟩))⟩;lk;refine Gy ⟨_,rfl,?_⟩;rw [nn]
   exact jA (rest _ _ ⟨rfl,kS kk,dx,k,dk,a,T,as,R,hd⟩)
  | false =>
   refine jA ?_;refine qT (ZY (sR (Ae (gQ (il rfl ⟨p,dx,_,rfl,h1,J8,?_⟩)))));lk;refine lL nl.2 ?_;refine cP (by show 4+(Si n).length<=_;lia) ?_;lk;refine ⟨p,dx,k0,_,rfl,ct,h1,.inl ⟨n,rfl,by lia,by lia,λk dk a T as H2 hp2 hk2 hg B2 fr=>?_⟩⟩;lk;refine Gy ⟨_,rfl,?_⟩;rw [nn];refine jA ?_;refine sR (Ae (gQ (il rfl ⟨p,dx,_,rfl,hp2,J8,?_⟩)));lk;refine ⟨p,dx,k,_,rfl,ct,hp2,.inr (.inl ⟨rfl,dk,a,n,T,as,hk2,hg,hn1,by lia,λas' R' H3 hd F3=>?_⟩)⟩;lk;refine Gy ⟨_,rfl,?_⟩;rw [nn];refine jA (rest _ _ ⟨rfl,kS λb o hb _ e=>F3 _ _ (λz=>?_) (B2 _ _ e hb),dx,k,dk,a,T,as',R',hd⟩);rw [fr b z] at e;cases e
 rintro σ1 H2 ⟨rfl,hS2,dx,k,dk,a,T,as,R,hd⟩;k_ne;refine U2 (Ls ct hd (by lia) rfl (.inl ⟨rfl,rfl⟩) λH3 S3=>?_);k_ne;dsimp only;k_ne;refine U2 (Ls ct (hd.same S3) (by lia) rfl (.inr ⟨rfl,rfl⟩) λH4 S4=>?_);k_ne;dsimp only;have S24:=S3.trans S4;have hd4:=hd.same S24;k_ne;unfold NR;lk;refine Rj (S24.seq hS2) (j:=2) (j':=32) rfl rfl λl1 hl1=>?_;generalize hcs:(ns.drop 2).take (32-2)=cs
 have hcl:cs.length<=63:=by rw [← hcs,cE,c8];lia
 generalize eu_:upd _ l1 _=H5;obtain ⟨S5,g5⟩:=news eu_ hl1;lk;refine ⟨sf,λl2 hl2=>?_⟩;have S6:=bI.cV (o:=.lst [.int z]) hl2;have g6:(upd H5 l2 (.lst [.int z])) l2=some (.lst (([z]:List Int).map V.int)):=aH;generalize upd H5 l2 (.lst [.int z])=H6 at S6 g6;refine KB (S6 _ _ g5) g6 (by show cs.length+1<=_;lia) λl3 hl3=>?_;generalize eu_:upd _ l3 _=H7;obtain ⟨S7,g7⟩:=news eu_ hl3;have hd7:=hd4.same (S5.trans (S6.trans S7))
 refine ⟨l3,rfl,.inl ⟨⟨_,gb.of g7⟩,tT (K:=K) (a:=l3) (xs:=(cs++[z]).map V.int)
  (λi Z H8=>bI H7 H8/\∃ o7 o8 o9,Z=[some (.ref s),some (.int z),some (.int n),some (.bl wd),some (.ref p),some (.str (aa "0-1:0*")),some (.str (Yr T)),o7,o8,o9])
  ⟨bI.refl _,_,_,_,rfl⟩ ?_ ?_ ?_⟩⟩
 .rintro i Z H8 _ ⟨S,_⟩;exact S.seq (gb.of g7)
 .rintro i v Z H8 hi ⟨S8,o7,o8,o9,rfl⟩
  obtain ⟨c,hc,rfl⟩:∃ c,(cs++[z])[i]?=some c/\V.int c=v:=by
   rw [bO] at hi;exact jS.mp hi
  have hd8:=hd7.same S8;lk;refine ⟨c,n,wd,rfl,hn1,by lia,λt row w H9 S9 hr hw ht=>?_⟩;refine Kz (tK.of ht) rfl ?_;lk;refine ⟨p,dx,k,dk,a,n,T,as,R,wd,row,w,rfl,ct,hd8.same S9,hr,hw,λr H10 S10 gr=>?_⟩;lk;refine ⟨sf,λu hu=>?_⟩;have S11:=bI.cV (o:=.lst [.str w]) hu;have g11:(upd H10 u (.lst [.str w])) u=some (.lst (([w]:List aL).map V.str)):=aH;generalize upd H10 u (.lst [.str w])=H11 at S11 g11;refine Wok.ne (ws:=[w]) (.inr ⟨w,rfl,hw.ok⟩) (S11 _ _ gr) g11 ⟨_,rfl,jA ?_⟩;have S811:=S9.trans (S10.trans S11);have hd11:=hd8.same S811;k_ne;dsimp only;refine qT (ZY (sR (Ae (Ls ct hd11 (by lia) rfl (.inl ⟨rfl,rfl⟩) λH12 S12=>?_))));refine il rfl (Gy ⟨_,rfl,?_⟩);rw [nn];refine jA (sR (Ae (Ls ct (hd11.same S12) (by lia) rfl (.inr ⟨rfl,rfl⟩) λH13 S13=>?_)));refine il rfl (Gy ⟨_,rfl,?_⟩);rw [nn];exact jA (vZ ⟨S8.trans (S811.trans (S12.trans S13)),_,_,_,rfl⟩)
 .rintro Z H8 ⟨_,o7,o8,o9,rfl⟩;lk;refine Oe ?_;rw [decide_eq_true rfl];exact q H8
end
end K72
namespace K72
theorem aaL {l:vC}{w:cW}{K:ae}{h:dt}{mg:aL->Option aj}{fa:ah}(X:K.In h) (G:h.Ns aX mg) (hfa:mg "law"=some (.ref fa)) {c1 Pt1:ah}{C A_Levels A_Keeper A_Lightest A_Desk A_Kept:ah}
  (E6:bq K aX "Wood"=some (some (.ref C))) (E7:gx K C tR=true) (E8:gW K C=true) (E9:i5 K C=true) (Fb:aJ K (.ref C) "__setattr__"=some (some (.builtin "object.__setattr__"))) (Lu:iV K C=true) (Lw:bV K (.ref C)=true)
  (rP:aJ K (.ref C) "n"=some none)
  (kJ:aJ K (.ref C) "rows"=some none)
  (xQ:bq K aX "Levels"=some (some (.ref A_Levels))) (xR:gx K A_Levels tR=true) (xS:gW K A_Levels=true) (xU:i5 K A_Levels=true) (xV:aJ K (.ref A_Levels) "__setattr__"=some (some (.builtin "object.__setattr__"))) (xW:iV K A_Levels=true) (xX:bV K (.ref A_Levels)=true)
  (fB:aJ K (.ref A_Levels) "level_of"=some none)
  (e9:aJ K (.ref A_Levels) "weight_of"=some none)
  (gT:aJ K (.ref A_Levels) "wooden"=some none)
  (iu:aJ K (.ref A_Levels) "woods"=some none)
  (Cy:bq K aX "Keeper"=some (some (.ref A_Keeper))) (Cz:gx K A_Keeper tR=true) (CB:gW K A_Keeper=true) (CC:i5 K A_Keeper=true) (CD:aJ K (.ref A_Keeper) "__setattr__"=some (some (.builtin "object.__setattr__"))) (xY:iV K A_Keeper=true) (xZ:bV K (.ref A_Keeper)=true)
  (tG:aJ K (.ref A_Keeper) "came"=some none)
  (p6:aJ K (.ref A_Keeper) "levels"=some none)
  (p7:aJ K (.ref A_Keeper) "looked"=some none)
  (tH:aJ K (.ref A_Keeper) "lost"=some none)
  (zQ:aJ K (.ref A_Keeper) "n"=some none)
  (rO:aJ K (.ref A_Keeper) "risen"=some none)
  (tI:aJ K (.ref A_Keeper) "wood"=some none)
  (xh:bq K aX "Lightest"=some (some (.ref A_Lightest))) (xi:gx K A_Lightest tR=true) (xj:gW K A_Lightest=true) (xk:i5 K A_Lightest=true) (xm:aJ K (.ref A_Lightest) "__setattr__"=some (some (.builtin "object.__setattr__"))) (sG:iV K A_Lightest=true) (sH:bV K (.ref A_Lightest)=true)
  (p8:aJ K (.ref A_Lightest) "came"=some none)
  (nq:aJ K (.ref A_Lightest) "levels"=some none)
  (nu:aJ K (.ref A_Lightest) "looked"=some none)
  (p9:aJ K (.ref A_Lightest) "lost"=some none)
  (u7:aJ K (.ref A_Lightest) "n"=some none)
  (oh:aJ K (.ref A_Lightest) "risen"=some none)
  (qa:aJ K (.ref A_Lightest) "wood"=some none)
  (Lx:bq K aX "Desk"=some (some (.ref A_Desk))) (Ly:gx K A_Desk tR=true) (Lz:gW K A_Desk=true) (LA:i5 K A_Desk=true) (LB:aJ K (.ref A_Desk) "__setattr__"=some (some (.builtin "object.__setattr__"))) (LC:iV K A_Desk=true) (LD:bV K (.ref A_Desk)=true)
  (pz:aJ K (.ref A_Desk) "kept"=some none)
  {X_Alike:ah}(ax_Alike:bq K aX "Alike"=some (some (.ref X_Alike)))
  {X_Fixed:ah}(ax_Fixed:bq K aX "Fixed"=some (some (.ref X_Fixed)))
  {X_Joined:ah}(ax_Joined:bq K aX "Joined"=some (some (.ref X_Joined)))
  {X_NoCount:ah}(ax_NoCount:bq K aX "NoCount"=some (some (.ref X_NoCount)))
  {X_NoPlace:ah}(ax_NoPlace:bq K aX "NoPlace"=some (some (.ref X_NoPlace)))
  {X_NoRow:ah}(ax_NoRow:bq K aX "NoRow"=some (some (.ref X_NoRow)))
  {X_NoTie:ah}(ax_NoTie:bq K aX "NoTie"=some (some (.ref X_NoTie)))
  {X_TieError:ah}(ax_TieError:bq K aX "TieError"=some (some (.ref X_TieError)))
  {X_Tied:ah}(ax_Tied:bq K aX "Tied"=some (some (.ref X_Tied)))
  (pw:XF K X_NoCount X_NoPlace X_Alike X_Joined X_Tied X_NoTie X_NoRow X_Fixed X_TieError X_Alike false false true false false false false)
  (ph:XF K X_NoCount X_NoPlace X_Alike X_Joined X_Tied X_NoTie X_NoRow X_Fixed X_TieError X_Fixed false false false false false false true)
  (kK:XF K X_NoCount X_NoPlace X_Alike X_Joined X_Tied X_NoTie X_NoRow X_Fixed X_TieError X_NoCount true false false false false false false)
  (kM:XF K X_NoCount X_NoPlace X_Alike X_Joined X_Tied X_NoTie X_NoRow X_Fixed X_TieError X_NoPlace false true false false false false false)
  (kH:XF K X_NoCount X_NoPlace X_Alike X_Joined X_Tied X_NoTie X_NoRow X_Fixed X_TieError X_NoRow false false false false false true false)
  (pq:XF K X_NoCount X_NoPlace X_Alike X_Joined X_Tied X_NoTie X_NoRow X_Fixed X_TieError X_NoTie false false false false true false false)
  (sM:XF K X_NoCount X_NoPlace X_Alike X_Joined X_Tied X_NoTie X_NoRow X_Fixed X_TieError X_Tied false false false true false false false)
  (xhn:i6 K (.builtin "object.__class__") "__get__"=some (some (.builtin "getset_descriptor.__get__"))) (QU:qJ K (.builtin "object.__class__")=some true)
  (iA:bp K (.ref A_Keeper) (.ref A_Lightest)=some false) (iB:bp K (.ref A_Lightest) (.ref A_Lightest)=some true)
  (hA:aJ K (.ref A_Keeper) "__class__"=some (some (.builtin "object.__class__"))) (mA:j8 K A_Keeper (.type "object")=some true)
  (hB:aJ K (.ref A_Lightest) "__class__"=some (some (.builtin "object.__class__"))) (mB:j8 K A_Lightest (.type "object")=some true)
  (Fc:bq K aX "Kept"=some (some (.ref A_Kept)))
  {a_N:ah}(aN:bq K aX "NUMBERS"=some (some (.ref a_N))) (tN:∀ h,K.In h->HC l.prog w h a_N Tu)
  {AS:ah}(an_trail_text:bq K aX "trail_text"=some (some (.ref AS))) (kn_trail_text:bV K (.ref AS)=true)
  {GG:ah}(an_way_text:bq K aX "way_text"=some (some (.ref GG))) (kn_way_text:bV K (.ref GG)=true)
  {xn:ah}(an_numbers_text:bq K aX "numbers_text"=some (some (.ref xn))) (kn_numbers_text:bV K (.ref xn)=true)
  (GH:tQ K mg "is_whole" BP qg)
  (Ze:tQ K mg "top" stop ["n"])
  (Oj:tQ K mg "tie_of" KM qf)
  (Ol:tQ K mg "turned" KO ["row","a"])
  (zR:tQ K mg "in_order" BS DA)
  (yY:tQ K mg "is_unsigned" uL gg)
  (Om:tQ K mg "listed" KQ DB)
  (GI:tQ K mg "tie_text" BU qf)
  (xo:tQ K mg "_law_cell_at" sX F8)
  (AU:tQ K mg "_law_words" wq ["_law_e"])
  (DE:tQ K mg "_law_none" zA RH)
  (uh:tQ K mg "_law_bad_place" pK F9)
  (vt:tQ K mg "_law_of_count" qY ["_law_cell"])
  (vv:tQ K mg "_law_of_weigh" qZ RK)
  (xp:tQ K mg "_law_of_ties" sZ DW)
  (vw:jr K C "__init__" "Wood.__init__" q5 lG)
  (DF:jr K C "keep" "Wood.keep" zB yO)
  (AV:jr K A_Desk "begin" "Desk.begin" wx yN)
  (yZ:jr K A_Desk "weight" "Desk.weight" uQ gL)
  (oI:jr K A_Levels "told" "Levels.told" uN wo)
  (GJ:tQ K mg "is_count" BQ qg)
  (GK:tQ K mg "is_place" BR mE)
  (On:tQ K mg "credit" KN Ga)
  (J9:tQ K mg "spliced" Gc RI)
  (DG:tQ K mg "is_number" zx gg)
  (lQ:tQ K mg "unsigned_of" qw gg)
  (xq:tQ K mg "numbers_text" sW Gb)
  (DH:tQ K mg "kept_text" zy BO)
  (ui:tQ K mg "_law_of_places" pL DW)
  (y3:jr K A_Keeper "ties" "Kept.ties" uO gL)
  (y4:jr K A_Lightest "ties" "Kept.ties" uO gL)
  (j2:tQ K mg "refuse_no_place" kU mE)
  (pf:tQ K mg "number_of" uM gg)
  (DI:tQ K mg "ties_text" zz ["ties"])
  (GL:tQ K mg "_law_bad" BV DW)
  (j3:jr K A_Levels "__init__" "Levels.__init__" nU lG)
  (uj:jr K A_Keeper "account" "Kept.account" ow gL)
  (uk:jr K A_Lightest "account" "Kept.account" ow gL)
  (jD:tQ K mg "refuse_no_places" jY oU)
  (nv:tQ K mg "weighed_of" sj gg)
  (AW:jr K C "group" "Wood.group" wy qe)
  (lr:tQ K mg "refuse_no_pair" lW oU)
  (oJ:jr K C "joined" "Wood.joined" qx eB)
  (j4:jr K A_Keeper "__init__" "Kept.__init__" kj lG)
  (cw:jr K A_Kept "__init__" "Kept.__init__" kj lG)
  (y6:jr K A_Keeper "side" "Kept.side" uP qe)
  (y8:jr K A_Lightest "side" "Kept.side" uP qe)
  (um:tQ K mg "new_tie" Aq DX)
  (DJ:jr K C "link" "Wood.link" zC eB)
  (GM:jr K C "way" "Wood.way" BW eB)
  (xr:tQ K mg "standing_tie" tm DX)
  (vx:jr K A_Keeper "joined" "Kept.joined" qz eB)
  (vy:jr K A_Lightest "joined" "Kept.joined" qz eB)
  (vz:jr K A_Desk "__init__" "Desk.__init__" rf gL)
  (nz:jr K A_Levels "adopt" "Levels.adopt" tj wo)
  (AX:jr K A_Keeper "out" "Kept.out" xN eB)
  (AY:jr K A_Lightest "out" "Kept.out" xN eB)
  (AZ:jr K A_Keeper "way" "Kept.way" xO eB)
  (A1:jr K A_Lightest "way" "Kept.way" xO eB)
  (qC:jr K A_Levels "add" "Levels.add" wu vH)
  (uo:jr K A_Keeper "receive" "Kept.receive" ou vH)
  (uq:jr K A_Lightest "receive" "Kept.receive" ou vH)
  (qD:jr K A_Keeper "put" "Keeper.put" sk eB)
  (ja:jr K A_Lightest "__init__" "Lightest.__init__" jB J3)
  (u9:jr K A_Desk "put" "Desk.put" xM eB)
  (nA:jr K A_Desk "weighed" "Desk.weighed" oz wm)
  (oK:jr K A_Desk "answer" "Desk.answer" qy wk)
  (va:jr K A_Desk "say" "Desk.say" xK yO)
  (xt:tQ K mg "_law_refusal" sY RJ)
  (RS:tQ K mg "law" aay NH)
  {f_K:ah}(e_K:cw.f=f_K) (g_K:i6 K (.ref A_Kept) "__getattribute__"=some (some (.builtin "type.__getattribute__"))) (r_K:Xp K A_Kept (.type "type")=true) (t_K:Xq K (.ref A_Kept) (.type "type") "__init__"=some (.val (.ref f_K)))
  (zS:zR.d.code=.ref c1)
  (qF:bq K aX "ValueError"=some none)
  (LF:bq K aX "bool"=some none)
  (RT:bq K aX "int"=some none)
  (qG:bq K aX "isinstance"=some none)
  (RU:bq K aX "len"=some none)
  (Fd:bq K aX "range"=some none)
  (A2:bq K aX "sorted"=some none)
  (RV:bq K aX "str"=some none)
  (RW:bq K aX "sum"=some none)
  {Iu:T8}(oM:bq K aX "MOST_PLACES"=some (some (.int 200 Iu)))
  {GN:T8}(nB:bq K aX "MOST_FIGURES"=some (some (.int 60 GN)))
  {TK:T8}(ya:bq K aX "FIGURES"=some (some (.str "0123456789" TK)))
  : ∃ fd:fv,(∀ (s:ax) (v:aj),Fk s fd ⟨[v],[]⟩ [("_law_script",v)])/\∀ base:dt,K.In base->base.Ns aX mg->qM base c1 Pt1->base.BuiltinsAt mg Pt1->cI l.prog w K mg base dU 15 fa fd NH (GF K Pt1):=by
 have e:=RS.law hfa;subst e
 have T_a:Txt K mg C (⟨A_Levels,A_Keeper,A_Kept⟩:CA) (⟨X_Alike,X_Fixed,X_Joined,X_NoCount,X_NoPlace,X_NoRow,X_NoTie,X_TieError,X_Tied⟩:EC):=⟨⟨E7,E8,E9,Fb⟩,aW X G E6,rP,kJ,⟨xR,xS,xU,xV⟩,aW X G xQ,fB,e9,gT,iu,⟨Cz,CB,CC,CD⟩,tG,p6,p7,tH,zQ,rO,tI,aW X G Fc,aW X G ax_Alike,aW X G ax_Fixed,aW X G ax_Joined,aW X G ax_NoCount,aW X G ax_NoPlace,aW X G ax_NoRow,aW X G ax_NoTie,aW X G ax_TieError,aW X G ax_Tied,pw,ph,kK,kM,kH,pq,sM,xhn,QU,bW X G qF,bW X G LF,bW X G RT,bW X G qG,bW X G RU,bW X G Fd,bW X G A2,bW X G RV,bW X G RW,⟨_,aW X G oM⟩,⟨_,aW X G ya⟩,⟨_,aW X G nB⟩⟩
 have T_b:Txt K mg C (⟨A_Levels,A_Lightest,A_Kept⟩:CA) (⟨X_Alike,X_Fixed,X_Joined,X_NoCount,X_NoPlace,X_NoRow,X_NoTie,X_TieError,X_Tied⟩:EC):=⟨⟨E7,E8,E9,Fb⟩,aW X G E6,rP,kJ,⟨xR,xS,xU,xV⟩,aW X G xQ,fB,e9,gT,iu,⟨xi,xj,xk,xm⟩,p8,nq,nu,p9,u7,oh,qa,aW X G Fc,aW X G ax_Alike,aW X G ax_Fixed,aW X G ax_Joined,aW X G ax_NoCount,aW X G ax_NoPlace,aW X G ax_NoRow,aW X G ax_NoTie,aW X G ax_TieError,aW X G ax_Tied,pw,ph,kK,kM,kH,pq,sM,xhn,QU,bW X G qF,bW X G LF,bW X G RT,bW X G qG,bW X G RU,bW X G Fd,bW X G A2,bW X G RV,bW X G RW,⟨_,aW X G oM⟩,⟨_,aW X G ya⟩,⟨_,aW X G nB⟩⟩
 have TD:zD l.prog w K mg C (⟨A_Levels,A_Keeper,A_Kept⟩:CA) (⟨A_Levels,A_Lightest,A_Kept⟩:CA) A_Desk (⟨X_Alike,X_Fixed,X_Joined,X_NoCount,X_NoPlace,X_NoRow,X_NoTie,X_TieError,X_Tied⟩:EC):=⟨T_a,T_b,aW X G Cy,aW X G xh,aW X G Lx,⟨Ly,Lz,LA,LB⟩,pz,iA,iB,⟨_,aW X G aN,tN⟩,⟨_,aW X G an_trail_text,kn_trail_text⟩,⟨_,aW X G an_way_text,kn_way_text⟩,⟨_,aW X G an_numbers_text,kn_numbers_text⟩⟩
 have ct_a:Ii K C (⟨A_Levels,A_Keeper,A_Kept⟩:CA):=⟨⟨T_a.oN,T_a.rP,T_a.kJ⟩,T_a.uu,T_a.fB,T_a.gT,T_a.e9,T_a.iu,T_a.i3,T_a.R3,T_a.Bq,T_a.Hr,T_a.Hs,T_a.Bp,T_a.DN,T_a.Ho⟩
 have ct_b:Ii K C (⟨A_Levels,A_Lightest,A_Kept⟩:CA):=⟨⟨T_b.oN,T_b.rP,T_b.kJ⟩,T_b.uu,T_b.fB,T_b.gT,T_b.e9,T_b.iu,T_b.i3,T_b.R3,T_b.Bq,T_b.Hr,T_b.Hs,T_b.Bp,T_b.DN,T_b.Ho⟩
 have ct:EN K C (⟨A_Levels,A_Keeper,A_Kept⟩:CA) (⟨A_Levels,A_Lightest,A_Kept⟩:CA) A_Desk:=⟨ct_a,ct_b,TD.gO,TD.pz,iA,iB,hA,hB,mA,mB,xhn,QU⟩
 refine ⟨RS.d,λs v=>RS.bt s [v] rfl,λbase _ _ CH1 B1=>?_⟩;have kr:=GH.jm l.prog w base (NS GH.F T_a K7 K8);have Aw:=Ze.jm l.prog w base (aaz Ze.F T_a (by walk_at "l") Yo);have ky:=Oj.jm l.prog w base (Tv Oj.F T_a (by walk_at "l") Qg);have wJ:=Ol.jm l.prog w base (Tx Ol.F T_a (by walk_at "l") Qe);have kC:=zR.jm l.prog w base (NV zR.F T_a zS CH1 B1 (by walk_at "l") Lh);have eI:=yY.jm l.prog w base (Gm yY.F T_a (by walk_at "l") Eg);have oW:=Om.jm l.prog w base (Tz Om.F T_a (by walk_at "l") Qj);have rB:=GI.jm l.prog w base (NW GI.F T_a Lk Ll);have ji:=xo.jm l.prog w base (D5 xo.F T_a (by walk_at "l") Cu);have iR:=AU.caln l.prog w base (HY AU.F T_a (by walk_at "l") (Gz T_a));have oY:=DE.jm l.prog w base (K3 DE.F T_a (by walk_at "l") Ir);have jg:=uh.jm l.prog w base (Ay uh.F T_a (by walk_at "l") zO);have jJ:=vt.jm l.prog w base (Cb vt.F T_a (by walk_at "l") AQ);have jK:=vv.jm l.prog w base (Cc vv.F T_a (by walk_at "l") AR);have kA:=xp.jm l.prog w base (D7 xp.F T_a (by walk_at "l") Cv);have fQ:=vw.OS l.prog w base Lu Lw (Cd vw.F T_a (by walk_at "l") AE);have oZ:=DF.jm l.prog w base (K4 DF.F T_a (by walk_at "l") Ig);have eg:=AV.jm l.prog w base (Ia AV.F TD (by walk_at "l") GB);have pX:=yZ.jm l.prog w base (Ck yZ.F TD (by walk_at "l") AK);have Ek:=oI.jm l.prog w base (wK oI.F T_a (by walk_at "l") vn);have El:=oI.jm l.prog w base (wK oI.F T_b (by walk_at "l") vn);have iZ:=GJ.jm l.prog w base (NT GJ.F T_a kr Lc Ld);have kx:=GK.jm l.prog w base (NU GK.F T_a kr (by walk_at "l") K9);have ua:=On.jm l.prog w base (Tw On.F T_a Aw (by walk_at "l") Qh);have t8:=J9.jm l.prog w base (Qc J9.F T_a wJ (by walk_at "l") Oa);have jx:=DG.jm l.prog w base (KY DG.F T_a eI (by walk_at "l") Il);have y9:=Gn lQ.F T_a eI (by walk_at "l") Eh;have jP:=lQ.jm l.prog w base y9;have kE:=xq.jm l.prog w base (D4 xq.F T_a oW (by walk_at "l") Cp);have oX:=DH.jm l.prog w base (K0 DH.F T_a rB Io Ip);have jh:=ui.jm l.prog w base (Az ui.F T_a jg (by walk_at "l") zP);have vA:=Ci lQ.F T_a eI (by walk_at "l") AH;have Uz:=lQ.jm l.prog w base vA;have jQ:=y3.jm l.prog w base (cI.T6 (AA y3.F T_a Ek (by walk_at "l") xf) xc);have jR:=y4.jm l.prog w base (cI.T6 (AA y4.F T_b El (by walk_at "l") xf) xc);have lZ:=lQ.jm l.prog w base (cI.orx (m:=2) y9 vA (by decide) (by decide));have gN:=j2.jm l.prog w base (zJ j2.F T_a kx (by walk_at "l") yn);have DK:=KZ pf.F T_a jx (by walk_at "l") Im;have gG:=pf.jm l.prog w base DK;have pb:=DI.jm l.prog w base (K1 DI.F T_a oW oX (by walk_at "l") Iq);have rC:=GL.jm l.prog w base (NX GL.F T_a jJ jK jh kA oY (by walk_at "l") Lr);have eR:=j2.jm l.prog w base (wM j2.F T_a kx vJ vK);have za:=Gr pf.F T_a jx (by walk_at "l") Ei;have W9:=pf.jm l.prog w base za;have ql:=j3.OS l.prog w base xW xX (rD j3.F T_a fQ Aw (by walk_at "l") qh);have jj:=uj.jm l.prog w base (vk uj.F T_a ua jQ (by walk_at "l") ue);have jk:=uk.jm l.prog w base (vk uk.F T_b ua jR (by walk_at "l") ue);have qm:=j3.OS l.prog w base xW xX (rD j3.F T_b fQ Aw (by walk_at "l") qh);have gw:=pf.jm l.prog w base (cI.orx (m:=3) DK za (by decide) (by decide));have eF:=jD.jm l.prog w base (yl jD.F T_a gN (by walk_at "l") wU);have A3:=HX nv.F T_a jP gG (by walk_at "l") GA;have mZ:=nv.jm l.prog w base A3;have fi:=jD.jm l.prog w base (vI jD.F T_a eR u5 u6);have m5:=AW.jm l.prog w base (Ea AW.F T_a eR (by walk_at "l") Cn);have xu:=Ec nv.F T_a lZ gw (by walk_at "l") Co;have Ws:=nv.jm l.prog w base xu;have rJ:=nv.jm l.prog w base (cI.orx (m:=4) A3 xu (by decide) (by decide));have fh:=lr.jm l.prog w base (Ax lr.F T_a eF (by walk_at "l") zK);have gu:=oJ.jm l.prog w base (Gp oJ.F T_a eF (by walk_at "l") Ee);have f9:=lr.jm l.prog w base (ym lr.F T_a fi wY wZ);have gS:=oJ.jm l.prog w base (Cg oJ.F T_a fi (by walk_at "l") AG);have A4:=t9 j4.F T_a ql iZ (by walk_at "l") sD;have cZ:=j4.OS l.prog w base xY xZ A4;have sI:=t9 cw.F T_b qm iZ (by walk_at "l") sD
 have nE:Ta l.prog w K mg base dU 5 A_Kept "__init__" lG (cg K C (⟨A_Levels,A_Lightest,A_Kept⟩:CA)):=⟨cw.f,cw.d,sI,.type "type",g_K,r_K,(by rw [e_K];exact t_K),cw.F.kp,cw.b⟩
 have yo:=rH j4.F T_a ql iZ (by walk_at "l") qi;have gY:=j4.OS l.prog w base xY xZ yo;have pY:=y6.jm l.prog w base (wO y6.F T_a m5 (by walk_at "l") vo);have pZ:=y8.jm l.prog w base (wO y8.F T_b m5 (by walk_at "l") vo);have qo:=rH cw.F T_b qm iZ (by walk_at "l") qi
 have O7:Ta l.prog w K mg base (kd l.prog w) 5 A_Kept "__init__" lG (ir K C (⟨A_Levels,A_Lightest,A_Kept⟩:CA) (⟨X_Alike,X_Fixed,X_Joined,X_NoCount,X_NoPlace,X_NoRow,X_NoTie,X_TieError,X_Tied⟩:EC)):=⟨cw.f,cw.d,qo,.type "type",g_K,r_K,(by rw [e_K];exact t_K),cw.F.kp,cw.b⟩
 have yp:Ta l.prog w K mg base (kd l.prog w) 5 A_Kept "__init__" lG (KH (cg K C (⟨A_Levels,A_Lightest,A_Kept⟩:CA)) (ir K C (⟨A_Levels,A_Lightest,A_Kept⟩:CA) (⟨X_Alike,X_Fixed,X_Joined,X_NoCount,X_NoPlace,X_NoRow,X_NoTie,X_TieError,X_Tied⟩:EC))):=⟨cw.f,cw.d,cI.orx (m:=5) sI qo (by decide) (by decide),.type "type",g_K,r_K,(by rw [e_K];exact t_K),cw.F.kp,cw.b⟩
 have Ka:=Qd um.F T_a fh ky (by walk_at "l") Od;have mJ:=um.jm l.prog w base Ka;have mI:=DJ.jm l.prog w base (K5 DJ.F T_a fh gu oZ t8 (by walk_at "l") Ih);have qB:=GM.jm l.prog w base (Ib GM.F T_a gS Gw Gx);have DL:=K6 um.F T_a f9 ky (by walk_at "l") Ij;have wR:=um.jm l.prog w base DL;have ll:=xr.jm l.prog w base (AB xr.F T_a f9 ky (by walk_at "l") zM);have m6:=vx.jm l.prog w base (ub vx.F T_a gS (by walk_at "l") sE);have m9:=vy.jm l.prog w base (ub vy.F T_b gS (by walk_at "l") sE);have wQ:=um.jm l.prog w base (cI.orx (m:=6) Ka DL (by decide) (by decide));have gR:=vz.OS l.prog w base LC LD (Ce vz.F TD cZ (by walk_at "l") AJ);have CF:=nz.jm l.prog w base (vi nz.F T_a mI (by walk_at "l") uc);have CG:=nz.jm l.prog w base (vi nz.F T_b mI (by walk_at "l") uc);have rK:=AX.jm l.prog w base (yW AX.F T_a ll (by walk_at "l") w8);have rL:=AY.jm l.prog w base (yW AY.F T_b ll (by walk_at "l") w8);have rM:=AZ.jm l.prog w base (yX AZ.F T_a qB xa xb);have rN:=A1.jm l.prog w base (yX A1.F T_b qB xa xb);have GO:=qC.jm l.prog w base (yV qC.F T_a gu CF (by walk_at "l") wV);have GP:=qC.jm l.prog w base (yV qC.F T_b gu CG (by walk_at "l") wV);have lu:=uo.jm l.prog w base (vj uo.F T_a GO (by walk_at "l") ud);have ly:=uq.jm l.prog w base (vj uq.F T_b GP (by walk_at "l") ud);have rG:=qD.jm l.prog w base (HZ qD.F T_a lu mJ (by walk_at "l") Gv);have fW:=ja.OS l.prog w base sG sH (wL ja.F T_b nE kC mJ ly (by walk_at "l") vL);have og:=qD.jm l.prog w base (Eb qD.F T_a lu wR (by walk_at "l") Cq);have fj:=ja.OS l.prog w base sG sH (u3 ja.F T_b yp kC wQ ly (by walk_at "l") ug);have rF:=u9.jm l.prog w base (N0 u9.F TD rG (by walk_at "l") Lp);have u4:=u9.jm l.prog w base (Ie u9.F TD og (by walk_at "l") GC);have kD:=nA.jm l.prog w base (D9 nA.F TD fW gG mZ (by walk_at "l") Ct);have lO:=oK.jm l.prog w base (Gq oK.F TD kE eg rF pb jj jk cZ jQ jR (by walk_at "l") Ej);have oa:=nA.jm l.prog w base (AD nA.F TD fj gw rJ (by walk_at "l") zN);have pW:=oK.jm l.prog w base (Cj oK.F TD eg u4 pX gY rK rL m6 m9 rM rN pY pZ (by walk_at "l") AM);have ip:=va.jm l.prog w base (NZ va.F TD lO eg kD gG (by walk_at "l") Lq);have u1:=va.jm l.prog w base (Ic va.F TD pW eg oa gw (by walk_at "l") GE);have kB:=xt.jm l.prog w base (D6 xt.F TD u1 iR (by walk_at "l") (Cw TD));exact aaA RS.F TD ji gR ip rC kB (by walk_at "l") (Yy ct)
theorem walk {l:vC}{q:bC}{loose:List aL}{XP:(aL->Option aj)->dt->Prop}{YP:cW->dt->Prop}{d dy1:DefRec}{K:Params->ae}{c1 Pt1:ah}(hn:l.most=some 63) (hdf:d.params.defaults=[])
  (hY:∀ (w:cW) (h:dt),YP w h->(K w.params).In h)
  (hrec1:(recsOf q).find? (λe=>e.name == ("in_order":aL))=some dy1) (htab1:∀ w:cW,PySem.W.tabIn (K w.params) "in_order"=some (c1,Pt1))
  (hnt:∀ w:cW,PySem.W.noTabs (K w.params)=true)
  (F:∀ (w:cW) (mg:aL->Option aj) (fa:ah) (h:dt),(K w.params).In h->h.Ns aX mg->mg d.name=some (.ref fa) ->
   ∃ fd:fv,(∀ (s:ax) (u:aj),Fk s fd ⟨[u],[]⟩ [("_law_script",u)])/\∀ base:dt,(K w.params).In base->base.Ns aX mg->qM base c1 Pt1->base.BuiltinsAt mg Pt1->cI l.prog w (K w.params) mg base dU 15 fa fd NH (GF (K w.params) Pt1)) :
  WU q loose XP YP l.row.toRowW d [] (λf vs=>WV f vs):=by
 have m1:(c1,Pt1)∈[(c1,Pt1)]:=ak;refine L2.Vq (n:=63) (k:=15) (x:="_law_script") (Ps:=[(c1,Pt1)]) (sp:=λw=>GF (K w.params) Pt1) hn (by decide) hdf ⟨rfl,by decide,by decide⟩ hY (λp hp=>?_) hnt (λw mg fa h a b c=>?_) (λ_ _ a ns hl hT hS=>⟨a,ns,rfl,hS,hl,.inl (hT _ m1),λ_=>rfl⟩) λ_ _ _ _ z=>z
 .rw [aK.mp hp];exact ⟨_,dy1,hrec1,htab1⟩
 .obtain ⟨fd,q1,q2⟩:=F w mg fa h a b c;exact ⟨fd,q1,λbase i1 i2 hP=>q2 base i1 i2 (hP _ m1).1 (hP _ m1).2⟩
end K72
end
end
local macro_rules | `(tactic| walk_at "b1")=>`(tactic| exact λ_ _ _ _ _ _=>L2.m1 λ_=>rfl)
local macro_rules | `(tactic| walk_at "b2")=>`(tactic| exact λ_ _ _ _ _ _=>L2.m2 λ_ _=>rfl)
local macro_rules | `(tactic| walk_at "b3")=>`(tactic| exact λ_ _ _ _ _ _=>L2.m3 λ_ _ _=>rfl)
local macro_rules | `(tactic| walk_at "b4")=>`(tactic| exact λ_ _ _ _ _ _=>L2.m4 λ_ _ _ _=>rfl)
local macro_rules | `(tactic| walk_at "b5")=>`(tactic| exact λ_ _ _ _ _ _ us hl=>match us,hl with|[_,_,_,_,_],_=>rfl)
structure PySem.W.Fast:Prop where(tw17418702541063809262 tw8369573047399052036 tw10149181332813711080 tw11778054640340217697 tw13681216243063817490 tw3998953642738541621 tw1891722643526335073 tw5971674094535159011 tw14396749766420197887 tw13253129749983400301 tw2108418879660194163 tw3160696574776862160 tw4097693639302238075 tw6761061313115260012 tw16765187444928244939 tw13631148867197473972 tw14323828652823635642 tw6794586393259767278 tw14408365282905520992 tw1025733786003975129 tw6394147410365721755 tw3851846720071754748 tw7874860147469412203 tw2853236607115098270 tw13050854927267121446 tw6315860835448539064 tw16917678460450145585 tw3998058488239405692 tw11345004951796153938 tw1011598110000433340 tw4073619824181473221 tw6168027262069428747 tw13835549568351669876 tw4549109640149114403 tw13202755753768702254 tw12880736829292784705 tw3661274901854609859 tw6839142663392068528 tw3952516620121167544 tw11334853646545311759 tw7050338348744721070 tw15771517269200531684 tw10080844981413528332 tw3783357256895773548 tw7746564386829875446 tw17552987871571415721 tw15341664001908897796 tw16411468250761391770 tw7559371161738771956 tw5936689325828565164 tw7569563120239639650 tw10384301608677021523 tw1183996296983687680 tw9976326711825348304 tw14083746352782485578 tw7012471856123356872 tw11843544521636822408 tw14703351721121589214 tw12203287547470007409 tw943354421084210588 tw551856084845056390 tw16655578429980885841 tw13272219368463211278 tw7009703190872831786 tw1459451225601827851 tw1681185794970904237 tw6183860853660364612 tw3886497304188639370 tw16654070881416463392 tw3883394660046158976 tw698407554625432387 tw10708269686267345304 tw15756474577558472325 tw6469470393147395151 tw9072132077646046901 tw10459409302038778996 tw10665932642605530377 tw16583411083957591629 tw7330154117709704780 tw13053275780821539790 tw3559179132671666330 tw17407961378445411629 tw8335949362620560115 tw4537896369218436597 tw7815265053281627814 tw14503755163556465094 tw15535376867618156820 tw17617425223200590053 tw13373605589427567556 tw17395223792932331065 tw15310541857976944693 tw7396912568815596136 tw7928683717894581471 tw1633289093851980062 tw8439282435955496039 tw10075276668897700418 tw15121676334481408219 tw5546289809819207277 tw11539380250625366483 tw10744593627693605368 tw3674209630481046571 tw13518045844612228411 tw14137595063983666739 tw14152652003963218617 tw16081276895831871640 tw17932192253924221251 tw7025496232151763109 tw3573970094548134871 tw17845418464515040344 tw4800727773729252613 tw17912051154612947787 tw366784861944975073 tw18416036625211891826 tw13834157959907190141 tw17730833850123695244 tw7732146975653603311 tw17352693820204581634 tw3576514581923926117 tw5992778466779297730 tw16817236438406674593 tw13183395730224338322 tw6829402490657749473 tw4793942698281913251 tw5877689969562988741 tw16425247129336638982 tw5794363399400594900 tw1222962638489469290 tw8385033943251370423 tw2545305252241696112 tw16638454168136314861 tw41628975441476323 tw11284095054392136606 tw6582987920583585387 tw3651312893280061112 tw14989025822017685595 tw14502744731745937484 tw7892613412412602521 tw6800052698882955041 tw14898465357958036558 tw9063921239195015516 tw17017768203359134492 tw10755586936744509139 tw9121997212021679208 tw12944333486919141337 tw15095908194448435495 tw17921720376012682039 tw16822632495591796039 tw1829958021181787700 tw11535341700468838221 tw4548109641320679061 tw2044274302740893592 tw15655161795425223801 tw6760667459895349306 tw3922080444436486477 tw11236319489822351248 tw2275578605125628719 tw6751433046090498005 tw14703178724206388944 tw10129862514670083173 tw17627847370867819965 tw3407928426492166159 tw2374912686597241069 tw1503091260617790566 tw3057244788359270245 tw9491261110232733112 tw2390587551215431088 tw6910252147585427071 tw8945347531916150837 tw2140937280425977678 tw18242726225405729009 tw15337195680083026443 tw16574145126271305156 tw8244235917973006313 tw28899282330648614 tw6969464720742477863 tw95264612128308872 tw15078424569949349205 tw2508350235993532037 tw13464199436030905607 tw9969372982702853 tw9502198999648283497 tw14707408342685712382 tw12950269552808809360 tw13398756233087737055 tw15672199705195632635 tw13500373790717981246 tw1044020572394488360 tw10150643640483727364 tw9535773210080720807 tw9628411602178913361 tw6774392041659421776 tw16175935219740424232 tw11176259219386246178 tw14946877863859766480 tw8263185895228950688 tw15720461801859622913 tw9895934143747981410 tw8345261578105207220 tw311601179131500806 tw10628973970462960506 tw183949865823974078 tw15148494111417508115 tw17921036580057188069 tw17428239206522865994 tw14934582645935165071 tw18121462296501058335 tw18175129685126630402 tw17992907627503457638 tw11943037990099238731 tw1781211070725515859 tw8924506639604832883 tw13761461505822678972 tw5069660409630716831 tw11447930525480257085 tw11214456597787457711 tw5756197745086726371 tw1874179958772476163 tw4276612489137911854 tw11624680800593607268 tw9798202101338420565 tw8138227837914926909 tw15208383358900505362 tw4048004692961286727 tw13865546738317174322 tw17383478016918108883 tw15337179142645045921 tw16164541796221477955 tw15681818729942639457 tw16848528272557650691 tw284031686598268511 tw14901765709992851787 tw2165406846292206162 tw7671069731577460423 tw10166382600347001237 tw14212133729936440685 tw6763060323367697010 tw9971307264926461891 tw10785377035719882783 tw6348961983598549819 tw9139205955484029622 tw14745381693492032992 tw16544228084386760289 tw14608825848373256101 tw15181566504689366019 tw15452466132970634686 tw14017979073998878794 tw7486153700114599986 tw10283938610663860854 tw2099128115449409703 tw16416497623495048086 tw17242764962935975208 tw1952618951219546501 tw8279095094808084172 tw16569154206471505300 tw3618511937554315861 tw16660885375710180394 tw12611428501323370474 tw2634479795108405673 tw4458550295484716552 tw6912608394819057266 tw6285354763721787089 tw2567545331129497511 tw12154654136464453998 tw5640363538586524224 tw12369875093933161361 tw7323011958310985588 tw4771749485061422594 tw5364479138773888358 tw16724327278268883816 tw6144394118662979542 tw4143295445876099167 tw7474063226884862959 tw4526387946649406051 tw2031152579225741689 tw9044829102357234416 tw16230742315875525633 tw859867318774357378 tw5334972152597897116 tw5811161552755316632 tw4218743576829379452 tw17691232008697726672 tw2540194166451496668 tw12222240709390393019 tw12911105655202119265 tw13645987395605117981 tw6867447964675195104 tw5943032105929871320 tw862440593369193508 tw1168164326094569248 tw7507183814270819797 tw8612000862075760253 tw2249236445551408293 tw14791789737024246146 tw17475854877544853327 tw7020339803698034274 tw5583516693984109715 tw18361888086349015997 tw15866776649251663031 tw1385796928091266321 tw13801054643938244454 tw6211942890966436345 tw14149055944419155663 tw16459354530597010533 tw3195596877958251747 tw158332819052274921 tw5483526836148710160 tw645676232685024002 tw3564384874490687562 tw8510907702808918627 tw2908831729915290930 tw17817014347867668399 tw3942705937083581766 tw8076712008962801802 tw5485103298281100452 tw9359055556631522268 tw14579069633157481275 tw1613477262276807017 tw14438631895446770722 tw9505636252233161647 tw12127937713330123813 tw6178660668991525390 tw13263081691767589933 tw17403434225496575952 tw17205601395786458835 tw10461627747921320344 tw15671330840027366267 tw13747432636101923872 tw8233131042708015174 tw18406459395835503616 tw17125668928744482223 tw9164469078350430744 tw18129998137589031828 tw15891925266242661910 tw12713081603472943433 tw14966404488525891525 tw11878962387324062237 tw17714619972467845086 tw12645047797058612857 tw12015952635603427688 tw9353652714175652229 tw11962439354325249421 tw18020047768602519038 tw2794563302716744155 tw1983114085868005182 tw8236229124555495315 tw7972585372019613570 tw9028418836724530083 tw15811471526480949941 tw16452030830483465814 tw1510125655849110412 tw15195606129099976728 tw16813583419832957482 tw12753643131768319955 tw2938440149614584378 tw14094814644692388259 tw17648134261408288955 tw1261363252422994451 tw17052601611936092815 tw7058829960031719951 tw12447255430961648687 tw1462356020778354147 tw8742999511413148016 tw11418374281281693032 tw928901833638448087 tw12361062310258913949 tw502255871018819586 tw649685677351089408 tw3477211070273607440 tw6097579644742467089 tw13591470146596829552 tw10726628977582323512 tw8911390327178615055 tw4109681635858251070 tw12563740567922098870 tw9881603398851987065 tw17494259861088576893 tw11030671635957337366 tw1521574173974034841 tw3137550594103638180 tw5786282691052952162 tw11399978887264134688 tw7412973676684627095 tw6976083438800932651 tw3042000810048101114 tw9227924296118109131 tw8086018597078748049 tw16467257421865215450 tw1160568432792397981 tw15399870047866216690 tw14182142812108246733 tw10432907579550512804 tw15094389189601050479 tw9298647433929074736 tw3688626326704895449 tw16265123502757568023 tw3714841273285154041 tw2317485421525504904 tw15660110399788572244 tw16352367273137155843 tw6722187239193071629 tw10675390854905807885 tw751571391953372026 tw7671701443054482279 tw5065843410725101615 tw13446719063217694094 tw6913405810962219050 tw6531645907843719477 tw8462868870337858484 tw12733369949431831008 tw12991693195770990129 tw6045635567762867813 tw6614640239737392306 tw5756272222551663146 tw6052090062501318353 tw13223011141999952912 tw17243272572805064498 tw2436954051699899220 tw6178586011645965247 tw8476396558513438209 tw350459613095640467 tw7797103998588287967 tw1989043064307919595 tw2548416681308865853 tw1159721294981130138 tw11830617810159146837 tw1879197389549181177 tw17042809877268119473 tw4355864256180618309 tw17970557795671143047 tw11402282951300492221 tw10357470676339900773 tw18407757639794567443 tw8891036145898249485 tw9807417854233306893 tw5842847411468407575 tw10191969246413188125 tw2549627047403970840 tw702178180112744688 tw14108972479776804585 tw17269307901461061184 tw6863437501905826523 tw13666131044376494208 tw17036631541041882641 tw18244523915650170466 tw1956642018965254483 tw13242408276366036750 tw3986537378401201406 tw16330377857466984822 tw4759475921515985358 tw13248015378920700050 tw17718907808102365150 tw8187686026866847918 tw17014087717354147668 tw11874310655627180237 tw2936283009305477650 tw13970759015730943686 tw11888315924526817095 tw6312476355084449248 tw5490646810656234277 tw7530014938627503700 tw17499202598055696030 tw6826696138726366195 tw8421301234807393872 tw8927157296423768889 tw6171217782733127510 tw9135924056001097255 tw13018496381604891855 tw17924877188214086244 tw15916199345843239026 tw3656670640050603399 tw8869055364853996804 tw5155117348669394707 tw13064375105219609607 tw6783187741608835365 tw4237731243982742338 tw14788116402579580690 tw2044755156944568375 tw3673187312057361676 tw7825316023878079436 tw8499802846797181817 tw14019077954999072236 tw11841645399591179934 tw17821378241765095383 tw4506301709975237143 tw3453066542649679596 tw6469782692609935431 tw813806262542839078 tw10248322148635408616 tw5081749713119131998 tw13755279788658045234 tw16334235788211195780 tw15144567364694762997 tw7192204847108711435 tw4578921651827503365 tw18228033553774167523 tw11460504709598156138 tw3454113482908477066 tw11069552495358778414 tw16823702547813012834 tw11318563127136937878 tw1496996893316437404 tw11963977828475131120 tw16566084711083127093 tw14068088207961280896 tw5638665243210181024 tw17624446987110219217 tw4714625201232793734 tw1506109956324499083 tw7902317609890965341 tw11895239495761379185 tw1800326159298510615 tw652356946953815938 tw1332814834653016931 tw16517231110248651810 tw6108114172095804541 tw1671733120714791901 tw11989880283821196336 tw7094578522115500773 tw17801747819196675000 tw18433411106333787665 tw7986543623396999115 tw1032305210686517134 tw9714109000388371503 tw10433944289519388183 tw12186977357233200357 tw2973757689679485925 tw1900491853254397340 tw706083430276725866 tw9076439706592043600 tw8763548106494381788 tw4487091582614622932 tw6083847960869760185 tw9101684633577061363 tw7963618270601464626 tw15609795532722673025 tw5825936926847253575 tw4753290344801659618 tw14138475267286418200 tw7788132042663591542 tw16316150049589528404 tw7170297631473834333 tw4401973696032202181 tw8520436521008090685 tw14900089425498205744 tw11671195496789186175 tw15930925459246126065 tw4505411044137957408 tw3028445963968646922 tw13937971383401215715 tw1208166571165702385 tw9684425886590823902 tw13126909574610839476 tw13039154137358406288 tw7738752174781428003 tw4542828108278333572 tw4955943290774296179 tw2785759149700423831 tw535969664131436903 tw3197252518061828951 tw921980761528226730 tw16724814518849780303 tw14085811542996615375 tw5274723112355752523 tw11914961289026504586 tw11308374654659266290 tw5413556134695707521 tw7506640508481922487 tw13464320244940778186 tw12047593803291270700 tw16840662182886378160 tw6215906608991398847 tw13033518271995075749 tw3567059266456410937 tw14609097996187220516 tw6842153067736886080 tw5504352707776814617 tw8640767427443240211 tw11899696516314353397 tw16304125658006056822 tw3303826399721793904 tw10373283505849448421 tw11198404299322878083 tw3736071817809615997 tw10448695294312824864 tw5320718897062256180 tw7987790911237689645 tw926672987844189444 tw6322969131365757597 tw6460206431610330078 tw13436441098750289530 tw7282581807108331545 tw17028929067489312453 tw7697445971455969533 tw5855781680232819148 tw1185213433792696604 tw13819555524553476524 tw9508299534135522495 tw13849236943364124448 tw5221910138654178526 tw15175134558299017684 tw10970286932117927817 tw13297652640642654391 tw161526807859364074 tw8130856990795991752 tw12040695933574331510 tw2640453325986351686 tw2241155533516161726 tw2765998076943277715 tw6402391828073519876 tw4363067939471357793 tw15372981923881495188 tw13206377240046577841 tw7811534704869364255 tw16780144062984891412 tw1485338119505234466 tw16469596669379742416 tw2498411840401711088 tw12039624668406519451 tw17241980634060720910 tw2922867475941567777 tw1737539940088607893 tw1943170699664356429 tw588110652164899994 tw7989670826866076184 tw14032826181303408900 tw9625530497484835332 tw14229946255324717395 tw1038101113962779963 tw8836434094073392280 tw5726392058255703869 tw1341630744220157002 tw788214387839925508 tw15210637549824605222 tw17846727818979177500 tw1668975706351503129 tw14969963317345562282 tw13527764184109100396 tw4370776824270824897 tw6740203713682582843 tw10279487608427958037 tw9193304172569704488 tw696042073114815402 tw3359397187772610043 tw15663798000473883782 tw5734197613531359355 tw8596192169973287938 tw7560900258692974265 tw5075898050812375331 tw6524632649524750107 tw362856072628271374 tw7753098670993632350 tw17900546046600299952 tw16759273613223571170 tw10923690947279069395 tw5022589555693244258 tw11977865265813865369 tw2686370819988970686 tw16246836973140164714 tw7619714277426330811 tw9031066415925305977 tw12179343159129450438 tw545627807073050445 tw9362145473765203809 tw4514820733424066705 tw14525574214238680044 tw5319224722427935516 tw13077779833253396447 tw2709083177933691549 tw16748796186779539442 tw5717934023160963606 tw7411559401647184617 tw18418145201117640870 tw12083739328868800751 tw16934276684234404286 tw8812623534550715870 tw2902169908112406635 tw2678370227600647950 tw5603050289652783838 tw14836785341683248224 tw6023083491712988634 tw3901606784215793459 tw897325924595064450 tw12382532958441949125 tw9164480898956784052 tw15716625875799072102 tw13753673473912703104 tw6054438868007712626 tw2410900193683669985 tw16158059127321147428 tw2827951347920653592 tw17632413361966557349 tw7660468250473053244 tw10438609935335288507 tw10805277080013753980 tw6879677282607578920 tw11582380890122952996 tw13331477108305015756 tw9767234175369998650 tw16468409623378330873 tw16059866692028054636 tw16840681257464089518 tw10586796932951605276 tw1911745429139326062 tw6239754187698110855 tw13645738990447444053 tw17695120974864969959 tw13839419861991514030 tw14014371971582920280 tw595312078026343620 tw6091698322092829052 tw1024422696288911750:True)
open PySem PySem.W PyProof.Rows
theorem PySem.Challenge.cw_tiewood_k72_rows_refused_holds : PySem.Challenge.rw_tiewood_k72_rows_refused.Holds := by
  w_on;o_law;k_head;(case hw=>w_witness2)
  k_fill
  refine' K72.walk (l:=PySem.Challenge.rw_tiewood_k72_rows_refused) rfl rfl (λw h Y=>PySem.W.km_in_of Y) ?hrec1 ?htab1 ?hnt ?F
  case hrec1=>exact rfl
  case htab1=>intro w;exact rfl
  case hnt=>intro w;exact rfl
  case F =>
    intro w mg fa h KX G hmg;refine' K72.aaL KX G hmg ?E6 ?E7 ?E8 ?E9 ?Fb ?Lu ?Lw ?rP ?kJ ?xQ ?xR ?xS ?xU ?xV ?xW ?xX ?fB ?e9 ?gT ?iu ?Cy ?Cz ?CB ?CC ?CD ?xY ?xZ ?tG ?p6 ?p7 ?tH ?zQ ?rO ?tI ?xh ?xi ?xj ?xk ?xm ?sG ?sH ?p8 ?nq ?nu ?p9 ?u7 ?oh ?qa ?Lx ?Ly ?Lz ?LA ?LB ?LC ?LD ?pz ?ax_Alike ?ax_Fixed ?ax_Joined ?ax_NoCount ?ax_NoPlace ?ax_NoRow ?ax_NoTie ?ax_TieError ?ax_Tied ?pw ?ph ?kK ?kM ?kH ?pq ?sM ?xhn ?QU ?iA ?iB ?hA ?mA ?hB ?mB ?Fc ?aN ?tN ?an_trail_text ?kn_trail_text ?an_way_text ?kn_way_text ?an_numbers_text ?kn_numbers_text (L2.v8 KX G ?Ql ?Qm ?kr ?Qn (by walk_at "b1")) (L2.v8 KX G ?ace ?acf ?Aw ?acg (by walk_at "b1")) (L2.v8 KX G ?Wt ?Wu ?ky ?Wv (by walk_at "b2")) (L2.v8 KX G ?Ww ?Wx ?wJ ?Wy (by walk_at "b2")) (L2.v8 KX G ?Qo ?Qp ?kC ?Qq (by walk_at "b2")) (L2.v8 KX G ?Iv ?Iw ?eI ?Iy (by walk_at "b1")) (L2.v8 KX G ?Wz ?WB ?oW ?WC (by walk_at "b1")) (L2.v8 KX G ?Qr ?Qs ?rB ?Qt (by walk_at "b2")) (L2.v8 KX G ?GQ ?GR ?ji ?GS (by walk_at "b2")) (L2.v8 KX G ?LG ?LH ?iR ?LI (by walk_at "b1")) (L2.v8 KX G ?Oo ?Oq ?oY ?Os (by walk_at "b3")) (L2.v8 KX G ?CI ?CJ ?jg ?CK (by walk_at "b2")) (L2.v8 KX G ?Em ?En ?jJ ?Eo (by walk_at "b1")) (L2.v8 KX G ?Ep ?Er ?jK ?Es (by walk_at "b2")) (L2.v8 KX G ?GT ?GU ?kA ?GV (by walk_at "b3")) (L2.v9 ?Et ?Eu ?Ew ?fQ ?Ex (by walk_at "b2")) (L2.v9 ?Ot ?Ou ?Ov ?oZ ?Ow (by walk_at "b2")) (L2.v9 ?LJ ?LK ?LL ?eg ?LM (by walk_at "b2")) (L2.v9 ?Iz ?IA ?IB ?IC ?ID (by walk_at "b1")) (L2.v9 ?IE ?IF ?IG ?tD ?IH (by walk_at "b2")) (L2.v8 KX G ?Qu ?Qv ?iZ ?Qw (by walk_at "b1")) (L2.v8 KX G ?Qx ?Qy ?kx ?Qz (by walk_at "b2")) (L2.v8 KX G ?WD ?WE ?ua ?WG (by walk_at "b2")) (L2.v8 KX G ?TL ?TM ?t8 ?TN (by walk_at "b4")) (L2.v8 KX G ?Ox ?Oy ?jx ?Oz (by walk_at "b1")) (L2.v8 KX G ?II ?IJ ?jP ?IK (by walk_at "b1")) (L2.v8 KX G ?GW ?GX ?kE ?GY (by walk_at "b1")) (L2.v8 KX G ?OA ?OB ?oX ?OC (by walk_at "b4")) (L2.v8 KX G ?CL ?CM ?jh ?CN (by walk_at "b3")) (L2.v9 ?IL ?IM ?IP ?jQ ?IQ (by walk_at "b1")) (L2.v9 ?IR ?IS ?IT ?jR ?IU (by walk_at "b1")) (L2.v8 KX G ?A5 ?A6 ?gN ?A7 (by walk_at "b2")) (L2.v8 KX G ?OD ?OE ?gG ?OF (by walk_at "b1")) (L2.v8 KX G ?OG ?OH ?pb ?OI (by walk_at "b1")) (L2.v8 KX G ?QB ?QC ?rC ?QD (by walk_at "b3")) (L2.v9 ?A8 ?A9 ?Ba ?ee ?Bb (by walk_at "b2")) (L2.v9 ?CO ?CP ?CQ ?jj ?CS (by walk_at "b1")) (L2.v9 ?CU ?CV ?CW ?jk ?CY (by walk_at "b1")) (L2.v8 KX G ?zT ?zU ?eF ?zV (by walk_at "b3")) (L2.v8 KX G ?LN ?LO ?mZ ?LP (by walk_at "b1")) (L2.v9 ?LQ ?LR ?LS ?LU ?LW (by walk_at "b2")) (L2.v8 KX G ?CZ ?C2 ?fh ?C3 (by walk_at "b3")) (L2.v9 ?IV ?IW ?IY ?gu ?IZ (by walk_at "b3")) (L2.v9 ?Bc ?Bd ?Be ?cZ ?Bg (by walk_at "b2")) (L2.v9 ?Bh ?Bi ?Bj ?nE ?Bk (by walk_at "b2")) (L2.v9 ?I0 ?Ja ?Jb ?Jc ?Jd (by walk_at "b2")) (L2.v9 ?Je ?Jg ?Jh ?Ji ?Jj (by walk_at "b2")) (L2.v8 KX G ?TQ ?TR ?mJ ?TU (by walk_at "b4")) (L2.v9 ?OJ ?OL ?OM ?mI ?ON (by walk_at "b3")) (L2.v9 ?QE ?QF ?QG ?QH ?QI (by walk_at "b3")) (L2.v8 KX G ?GZ ?G0 ?Ha ?Hb (by walk_at "b4")) (L2.v9 ?Ey ?Ez ?EA ?EB ?ED (by walk_at "b3")) (L2.v9 ?EE ?EF ?EG ?EH ?EI (by walk_at "b3")) (L2.v9 ?EJ ?EK ?EL ?gR ?EM (by walk_at "b1")) (L2.v9 ?Hc ?Hd ?He ?rE ?Hg (by walk_at "b2")) (L2.v9 ?LX ?LY ?LZ ?L0 ?L3 (by walk_at "b3")) (L2.v9 ?L4 ?L5 ?L6 ?L7 ?L8 (by walk_at "b3")) (L2.v9 ?L9 ?Ma ?Mb ?Mc ?Md (by walk_at "b3")) (L2.v9 ?Me ?Mg ?Mh ?Mi ?Mj (by walk_at "b3")) (L2.v9 ?Ml ?Mm ?Mn ?u2 ?Mo (by walk_at "b3")) (L2.v9 ?C4 ?C5 ?C6 ?lu ?C7 (by walk_at "b3")) (L2.v9 ?C8 ?C9 ?Da ?ly ?De (by walk_at "b3")) (L2.v9 ?Mp ?Mq ?Mr ?Ms ?Mt (by walk_at "b3")) (L2.v9 ?yq ?yr ?yt ?yu ?yw (by walk_at "b3")) (L2.v9 ?QJ ?QK ?QL ?rF ?QM (by walk_at "b3")) (L2.v9 ?Hh ?Hi ?Hj ?kD ?Hk (by walk_at "b2")) (L2.v9 ?Jk ?Jl ?Jm ?lO ?Jo (by walk_at "b3")) (L2.v9 ?QN ?QO ?QP ?ip ?QQ (by walk_at "b2")) (L2.v8 KX G ?Hl ?Hm ?kB ?Hn (by walk_at "b2")) (L2.v8 KX G ?ach ?aci ?acj ?ack (by walk_at "b1")) ?e_K ?g_K ?r_K ?t_K ?zS ?qF ?LF ?RT ?qG ?RU ?Fd ?A2 ?RV ?RW ?oM ?nB ?ya
    case E6|E7|E8|E9|Fb|Lu|Lw|rP|kJ|xQ|xR|xS|xU|xV|xW|xX|fB|e9|gT|iu|Cy|Cz|CB|CC|CD|xY|xZ|tG|p6|p7|tH|zQ|rO|tI|xh|xi|xj|xk|xm|sG|sH|p8|nq|nu|p9|u7|oh|qa|Lx|Ly|Lz|LA|LB|LC|LD|pz|ax_Alike|ax_Fixed|ax_Joined|ax_NoCount|ax_NoPlace|ax_NoRow|ax_NoTie|ax_TieError|ax_Tied|xhn|QU|hA|mA|hB|mB|Fc|aN|an_trail_text|kn_trail_text|an_way_text|kn_way_text|an_numbers_text|kn_numbers_text|Ql|Qm|kr|Qn|ace|acf|Aw|acg|Wt|Wu|ky|Wv|Ww|Wx|wJ|Wy|Qo|Qp|kC|Qq|Iv|Iw|eI|Iy|Wz|WB|oW|WC|Qr|Qs|rB|Qt|GQ|GR|ji|GS|LG|LH|iR|LI|Oo|Oq|oY|Os|CI|CJ|jg|CK|Em|En|jJ|Eo|Ep|Er|jK|Es|GT|GU|kA|GV|Et|Eu|Ew|fQ|Ex|Ot|Ou|Ov|oZ|Ow|LJ|LK|LL|eg|LM|Iz|IA|IB|IC|ID|IE|IF|IG|tD|IH|Qu|Qv|iZ|Qw|Qx|Qy|kx|Qz|WD|WE|ua|WG|TL|TM|t8|TN|Ox|Oy|jx|Oz|II|IJ|jP|IK|GW|GX|kE|GY|OA|OB|oX|OC|CL|CM|jh|CN|IL|IM|IP|jQ|IQ|IR|IS|IT|jR|IU|A5|A6|gN|A7|OD|OE|gG|OF|OG|OH|pb|OI|QB|QC|rC|QD|A8|A9|Ba|ee|Bb|CO|CP|CQ|jj|CS|CU|CV|CW|jk|CY|zT|zU|eF|zV|LN|LO|mZ|LP|LQ|LR|LS|LU|LW|CZ|C2|fh|C3|IV|IW|IY|gu|IZ|Bc|Bd|Be|cZ|Bg|Bh|Bi|Bj|nE|Bk|I0|Ja|Jb|Jc|Jd|Je|Jg|Jh|Ji|Jj|TQ|TR|mJ|TU|OJ|OL|OM|mI|ON|QE|QF|QG|QH|QI|GZ|G0|Ha|Hb|Ey|Ez|EA|EB|ED|EE|EF|EG|EH|EI|EJ|EK|EL|gR|EM|Hc|Hd|He|rE|Hg|LX|LY|LZ|L0|L3|L4|L5|L6|L7|L8|L9|Ma|Mb|Mc|Md|Me|Mg|Mh|Mi|Mj|Ml|Mm|Mn|u2|Mo|C4|C5|C6|lu|C7|C8|C9|Da|ly|De|Mp|Mq|Mr|Ms|Mt|yq|yr|yt|yu|yw|QJ|QK|QL|rF|QM|Hh|Hi|Hj|kD|Hk|Jk|Jl|Jm|lO|Jo|QN|QO|QP|ip|QQ|Hl|Hm|kB|Hn|ach|aci|acj|ack=>k_is
    case iA|iB=>exact rfl
    case pw|ph|kK|kM|kH|pq|sM=>exact ⟨L2.exK rfl rfl (L2.nsq rfl rfl rfl rfl rfl rfl) (L2.nsq rfl rfl rfl rfl rfl rfl),rfl,by k_is,by k_is,by k_is,by k_is,rfl,rfl,rfl,rfl,rfl,rfl,rfl,rfl,rfl,rfl⟩
    case tN=>exact λh hK=>PySem.W.kt_tab_in _ w hK (D:=K72.NUMD) (by first|kernel_rfl|exact rfl) (by decide) (by first|kernel_rfl|exact rfl)
    case e_K|zS=>exact rfl
    case g_K|r_K|t_K|qF|LF|RT|qG|RU|Fd|A2|RV|RW|oM|nB|ya=>k_is
