import PyProof.Rows.All
import Wide.All
import OpenK.AllK
import Wide.FinOn
import Lean
import PyProof.EqAt
import PyProof.EqKinds
import PyProof.TupleCall
import KE.KMinKey
import KE.KLam
import PyProof.Rows.CallKwBuiltin
import PyProof.Rows.Range3
import PyProof.Rows.SeqMore2
import PyProof.SeqI3
import KE.KSortTup
import PyProof.ZipIter
import KE.KItemsList
import KE.KDictList
import KE.KRevIter
import PyProof.Rows.SetFrom
import PyProof.EnumMake
import PyProof.EnumStmt
import PyProof.EnumFor
import KE.KTryMore
import KE.KTryOn
import KE.KSortKey
import PyProof.ListRange
import PyProof.Rows.SumAny
import PySem.Challenge.RW_tiewood_k39_whole_ways_and_sides
set_option Elab.async false
set_option linter.all false
set_option maxRecDepth 100000
set_option maxHeartbeats 4000000
open PySem.W renaming Frag→aa, findIn→bC, mg_none_of→cT, nsIn→di, kia_one→eX, emptyDict→fG, keepIn→fH, instObj→iG, fnOf→iS, plainGet→jd, hasDictIn→j6, kitOne→kO, plainOver→nu, makesIn→pB, CodeHd→pF, codeIn→qk, mg_of→rY, OpenLaw→sD, isFn→sN, lookIn→uG, plainGet_of→vv, callWith_K→wX, kla_obj→wY, methodObj→yi, takerIn→BA, kat_cons→FS, kat_yes→FT, cellsFrom_some→HI, tabObj→HK, methodCall_KW→HU, kas_rev→Kt, katRev→LU, kitx_list→L9, kitx_dict→Ma, handedIn→N0, WalkO→N8
open PySem renaming wpAny_bind→ae, Addr→af, Value→ai, wpAny_pure→ao, Shared→au, wpAny→aK, model→aU, sizeLine→a0, Program→bp, Str→bA, starEach→bG, mainGlobals→bQ, World→b8, Heap→cm, Around→cp, rawInt→cw, wpAny_holding→cB, wpAny_call_entry→cH, wpAny_newObj_type→cI, wpAny_callSpecial?_slot→cZ, bootBuiltins→dz, compareOp→dA, Stmt→dE, wpAny_Call_Name_kw→dN, FuncData→fP, Obj→fR, eval→fV, wpAny_mono→gf, SetTable→gJ, cLine→iH, wpAny_askSetting→iT, backTo→iV, PyData→iW, codeAny_builtin→ji, wpAny_truthy_bool→jt, wpAny_setState_of→ju, pyNext→jy, wpAny_attempt→jB, Builtin→jW, wpAny_setEntries_of→jY, wpAny_setField→j4, wpAny_typeNameOfWhole_keyiter→ky, sysModules→kN, tupleKind_room_in1→kQ, wpAny_passesOwn→kZ, NameKind→k8, wpAny_ite_split→k9, behindInMarks→la, plainId_quiet→lg, Scope→lH, mem_of_lookup→lR, wpAny_field→lZ, tupleKind→m7, codeAny→m8, wpAny_typeNameOf_keyiter→nS, holding→n5, intKind→pA, codeAny_mono→pC, wpAny_dictEntries→pG, wpAny_fieldsOf→pH, firstArgMember→pI, builtinLookup_eq_fast→qh, wpAny_isInstance→qm, wpAny_loadName_local→qL, sizeLine_eq→qM, sliceBounds→qN, Pos→qQ, wpAny_updateSeq→rX, Arguments→sC, scanBound→sG, wpAny_rule→sO, foldedSetIterable→uk, fits_of_scanBound→uq, wpAny_newList→uJ, IsPair→uL, binaryOp→vt, relayAll→vw, wpAny_Name→wV, assignEach→wW, wpAny_nextOf_list_item→w6, wpAny_execs_nil→xg, letOwnedTupleGo→xh, typeLookup_type→xi, recursionLimit→zq, keywordEach→zr, wpAny_newTuple→zu, ZipApart→zw, isSubtype_stop→zx, layNew→zA, inplaceOp→zK, standAt→zL, getMethod→zM, pickOrder→zN, seqItems?→zO, wpAny_standAt→BD, attributeBase→BE, setsByText→Dc, Operator→FG, BindsTo→FH, bindArgs→FI, wpAny_typeOf→FJ, valueAt→FK, atKey→FL, callerA→FM, wpAny_pyIter_list→FN, wpAny_pyIter_slot→FQ, Env→HG, assign→HH, IsPart→HJ, updateSeq→HL, wpAny_of_eq→HW, Within→JK, wpAny_specialOf→JO, wpAny_dictEpoch→JP, getItem→Kr, setNext→Kw, pyIter→LD, wpAny_load→LF, Result→LG, wpAny_call→LH, backToKw→LI, call_meets→LJ, isSubtype_type→LP, slotArgs→LQ, setEntries→LR, call→N9, wpAny_handled→Oc, CmpOp→Oh, swapsWith→Oi, bindL→Ol, bindC→Om, spliced→Pr, newExc→PB, Sem→Qg, wpAny_isTrue_Compare1→Qh, wpAny_nextOf_list_end→Qo, wpAny_notOrdered_dict→Qp, wpAny_isOneOf_keyiter→Qq, Tok→RE, GenState→RF, callWith→RG, seqIndex_of→RH, wpAny_newFunctionEnv→RI, wpAny_pyIter_keyiter→RJ, wpAny_letGo→RM, wpAny_throw→RN, wpAny_loadName_cell→R0, wpAny_loadName_free→R3, wpAny_Tuple_spliced→R5
open List renaming mem_cons_of_mem→ag, length_map→aj, mem_cons→ak, mem_cons_self→aq, getElem?_eq_getElem→ar, getElem?_map→ay, getElem?_eq_some_iff→aB, mem_singleton→aC, mem_of_getElem?→aG, mem_append→aP, size_toArray→aR, map_append→aV, length_append→aX, mem_append_right→aZ, nodup_cons→bf, mem_map→br, mem_map_of_mem→bu, length_take→bw, getElem?_append_right→bx, length_drop→bz, mem_iff_getElem?→bE, mem_append_left→bT, map_cons→bV, take_of_length_le→bY, length_cons→cg, getElem?_append_left→ck, getElem?_drop→cn, getLast?_append→cP, lookup_cons→cS, getElem?_eq_none→cV, map_map→cW, length_filter_le→dk, getElem_mem→dO, not_mem_nil→dP, eq_nil_or_concat→dQ, concat_eq_append→dR, append_assoc→dS, filter_append→eD, getElem?_take→eE, lookup→eU, mem_filter→fb, count_eq_zero→fi, length→ft, range→gh, idxOf_lt_length_iff→gC, take_add_one→gP, count_append→gQ, take_append_drop→iF, eq_nil_of_length_eq_zero→jS, zip_cons_cons→jX, length_singleton→kx, mem_of_mem_head?→kA, nodup_append→kT, length_dropLast→lb, getD_eq_getElem?_getD→lh, count_cons_self→lj, drop_eq_getElem_cons→lS, map_congr_left→lX, filter_sublist→lY, map_take→l7, find?_cons→m9, append_of_mem→ni, getLast?_cons→nj, count_pos_iff→nq, getElem?_cons_zero→nv, drop_of_length_le→n6, ext_getElem?→n9, perm_append_comm→oQ, mem_of_mem_drop→pQ, nodup_iff_count→pR, length_nil→qg, mem_filterMap→qP, replicate→qR, getElem_idxOf→qS, pairwise_iff_getElem→r0, eraseIdx_cons_succ→sQ, pairwise_singleton→sR, getElem?_set_self→uj, append_eq_nil_iff→ur, append_inj_right'→uu, forIn_cons→uH, length_zip→uM, count_cons→uO, filter_map→uP, length_replicate→uT, getElem?_zipWith→uW, getElem?_set_ne→vB, nodup_nil→vC, forIn_nil→vD, pairwise_append→vE, mem_of_mem_take→vG, filterMap_cons→xf, length_pos_iff→xk, map_drop→yl, sum_cons→ym, pairwise_cons→yD, map_singleton→yE, length_range→zQ, perm_middle→BF, take_append→BG, any_eq_true→BH, count_eq_zero_of_not_mem→De, append_nil→DL, of_mem_zip→DM, mem_range→FW, nodup_iff_pairwise_ne→F0, getElem?_zip_eq_some→HM, getLast?_eq_getElem?→HP, any_cons→HV, length_erase_of_mem→HY, getElem?_replicate→JL, getElem?_cons_succ→JQ, map_nil→Ks, pairwise_lt_range→Ku, length_pos_of_mem→Kx, head?_eq_getElem?→Kz, length_eq_one_iff→KA, any_map→KB, countP_mono_left→LM, getElem?_toArray→LS, singleton_append→LW, length_eraseIdx→Me, drop_eq_nil_iff→Mf, getElem?_range→Oa, filter_eq_self→Of, forIn_toArray→Ot, drop_sublist→PK, filter_cons→Qj, all_eq_true→Qk, countP_cons→Ql, map_snd_zip→Qm, take_length→Qs, cons_append→Qt, head?_cons→RT, idxOf_cons→RU, drop_zero→R7, take_succ→R8
open Nat renaming le_refl→aw, ne_of_lt→aW, zero_le→a9, le_trans→bg, lt_of_lt_of_le→bh, lt_of_le_of_lt→bo, ne_of_gt→eO, le_succ→eV, lt_irrefl→gH, le_add_right→jz, lt_succ_self→lQ, le_of_lt→oM, le_of_not_lt→pE, succ_le_succ→pL, mul_le_mul_right→qf, lt_succ_of_lt→sE, sub_self→uI, min_eq_left→uV, add_le_add_left→yk, le_of_eq→BB, min_eq_right→C9, lt_trans→LK, add_comm→LX, pow_succ→LY, pow_le_pow_right→Oe, le_zero→Og, le_succ_of_le→Qn, min_le_left→R6
open PySem.Heap renaming get?_push_of_some→ax, lt_size→aL, get?_push_size→aM, get?_update_self→bP, get?_update_other→cu, SameBut→ig, size_push→jv, size_update→oW, get?_none_of_le→vA, ExtBut→Md
open PySem.Value renaming ref→aI, none→c9, type→fg, int→gN, bool→qK, str→sM, float→LC, isStrOf→RZ
open Option.some renaming inj→aS, injEq→gj
open Array renaming length_toList→aT, getElem?_eq_getElem→bZ, getElem?_toList→dj, getElem?_eq_some_iff→iq, getElem?_eq_none→jR, getD→qO, toList_push→zy, perm_iff_toList_perm→FP, forIn_toList→Ob, toList_inj→Pz
open Option renaming map_eq_some_iff→bc, map→xj, isSome_map→yC, bind_eq_some_iff→HN, bind_eq_bind→LO, isNone_some→Mc, getD_none→On, map_some→Pq, pure_def→PH
open PyProof.Rows renaming seqObj→bD, callWith_type1→dI, IntsAre→fS, slot_tuple_getitem→jP, callWith_builtin1→nh, get?_update_seq→rW, IsTup→rZ, listUpdate_at→uK, News→wR, AllBare→wU, listItems_at→wZ, envOfC→zt, entry_list_sort→JN, slot_list_sort→LN, Constant_none→NZ, lt_int→Oj, subscriptTail_builtinR→Pu, plain_sorted→Pw, entry_sorted→Px, iadd_int→Qi, kind_sorted→RK, seqEpoch_at→RL
open Bool renaming false_ne_true→bF, false_eq_true→cf, and_eq_true→gm, eq_iff_iff→j5
open PySem.Obj renaming mapSeq→bH, data_mapFields→dg, isFreed_of_fields→kR, mapFields→pP, cls_mapFields→sF, putSet→uN, data_mapDictKeys→w8, isFreed_of_dict→Oo
open PySem.NameKind renaming free→bJ, cell→h9
open PySem.F renaming plainAttrs_list→bS, slot_list_append→dJ, type_list_append→dM, plain_extend_loop→eI, slot_list_index→fh, type_list_index→je, plainAttrs_dict→l9, slot_dict_pop→oe, type_dict_pop→og, slot_dict_getitem→DN, args_list_index_2→DO, entry_extend_loop→DP, entry_list_index→FO
open PySem.Heap.SameBut renaming update→cD
open Prod.mk renaming inj→cE, injEq→FU
open PySem.PassesOwn renaming never→cO
open PySem.PyData renaming eqv→du, depthAll→fW, canLayAll0→iU, depth→nC, canLay0→uU, eqvAll→F9, int→Mb
open PySem.SetTable renaming below→dG, grown→jc, has→FZ, orStandIn→Kv, relaid→Od, fresh→Oq, slot→PD, laid→PF, fits→PJ
open Sum renaming inl→dY, inr→Bz
open PySem.Builtin.SmallTypes renaming ownedTupleIsFree→gg, nextOf→jA
open PySem.Around renaming under_plainId→gE, under→HS
open PySem.Str renaming ofString→gI, empty→Kp
open PySem.Builtin.List renaming listExtendWith→gK, listLengthHint→jC, listSameRef→kW
open Int renaming toNat_natCast→hV, pow_succ→BC, le_of_lt→LL, emod_lt_of_pos→PL, emod_nonneg→Sa
open False renaming elim→ip
open True renaming intro→jb
open PySem.SeqAt.EqAt renaming int_int→jh
open PySem.Calls renaming spliced_cons→jQ, spliced_nil→nR, call_function_entry→rV, Name_function_global→FF, callWith_builtin→JM
open PySem.Builtin.Slice renaming slicePlaces→j7, sliceAdjust→pD, sliceApplied→yj
open PySem.Builtin.Tuple renaming tupleExact→kP
open ForInStep renaming yield→lI
open List.Perm renaming refl→nc, cons→ng, append_left→sP
open List.cons renaming inj→oh
open PySem.SetTable.below renaming go→pJ
open PySem.Builtin.Frozenset renaming slot0→pK, sizeOf→xa, newClass→RO, updateFrom→RP, addrOf→RQ
open PySem.Builtin.Dict_items renaming ownsTuple→um
open PySem.SetTable.probe renaming go→uo
open List.Sublist renaming map→vF
open PySem.Paired renaming length→wQ
open PySem.W.UpdF renaming head→xb
open PySem.Builtin.Dict renaming showsAll→Da
open PySem.pickOrder renaming go→FR
open Prod renaming ext→FX
open List.Pairwise renaming nil→FY
open PySem.W.KasFin renaming intro→HX
open Sum.inl renaming inj→JJ
open PySem.Code renaming isFrame→Kq
open PyProof.Rows.IntsAre renaming int_at→Os
open StateT renaming run_pure→Py
open PySem.SetTable.Met.empty renaming injEq→Qr
open PySem.W.KatTups renaming cons→RR
open PySem.SeqAt renaming eqv_refl→RV
open PySem.W.KatFin renaming intro→R9
namespace L2
open PySem PySem.Spec PyProof.Rows
abbrev ja:=Sum Int bA
def zS:ja->ai->Bool
 | .inl k,v=>Value.isInt k v
 | .inr x,v=>RZ x v
def Ub (w:b8):ja->Int
 | .inl k=>hashInt k
 | .inr x=>hashStr w x
theorem gR:∀ {k:ja}{v:ai},zS k v=true->(∃ i t,k=dY i/\v=gN i t)\/(∃ x t,k=Bz x/\v=sM x t)
 | .inl i,v,h=>by
  obtain ⟨t,e⟩:=Value.isInt_shape (k:=i) (v:=v) h
  exact .inl ⟨i,t,rfl,e⟩
 | .inr x,v,h=>by
  obtain ⟨t,e⟩:=Value.isStrOf_shape (x:=x) (v:=v) h
  exact .inr ⟨x,t,rfl,e⟩
theorem KC (i:Int) (t:RE):zS (.inl i) (.int i t)=true:=by simp [zS,Value.isInt]
theorem KD (x:bA) (t:RE):zS (.inr x) (.str x t)=true:=by simp [zS,RZ]
theorem Qu (a b:Int):decide ((dY a:ja)=dY b)=(a == b):=by
 by_cases e:a=b
 ·subst e;simp
 ·have h:¬ (dY a:ja)=dY b:=λq=>e (JJ q)
  rw [decide_eq_false h]
  exact (beq_eq_false_iff_ne.mpr e).symm
theorem Qv (a b:bA):decide ((Bz a:ja)=Bz b)=decide (a=b):=by
 by_cases e:a=b
 ·subst e;simp
 ·have h:¬ (Bz a:ja)=Bz b:=λq=>e (Sum.inr.inj q)
  rw [decide_eq_false h,decide_eq_false e]
theorem Qw (a:Int) (b:bA):decide ((dY a:ja)=Bz b)=false:=decide_eq_false (λq=>nomatch q)
theorem Qx (a:bA) (b:Int):decide ((Bz a:ja)=dY b)=false:=decide_eq_false (λq=>nomatch q)
def fQ (prog:bp) (w:b8):PySem.KeyKind prog w ja where
 is:=zS
 hash:=Ub w
 inj:=λv a b ha hb=>by
  rcases gR ha with ⟨i,t,rfl,rfl⟩|⟨x,t,rfl,rfl⟩
  ·rcases gR hb with ⟨j,u,rfl,e⟩|⟨y,u,rfl,e⟩
   ·injection e with e1 _;rw [e1]
   ·exact nomatch e
  ·rcases gR hb with ⟨j,u,rfl,e⟩|⟨y,u,rfl,e⟩
   ·exact nomatch e
   ·injection e with e1 _;rw [e1]
 byValue:=λk v h=>by
  rcases gR h with ⟨i,t,rfl,rfl⟩|⟨x,t,rfl,rfl⟩<;>rfl
 pyHash:=λhv h=>by
  rcases gR hv with ⟨i,t,rfl,rfl⟩|⟨x,t,rfl,rfl⟩
  ·exact wpAny_pyHash_int h
  ·exact wpAny_pyHash_str h
 eqBool:=λhu hv h=>by
  rcases gR hu with ⟨i,t,rfl,rfl⟩|⟨x,t,rfl,rfl⟩
  ·rcases gR hv with ⟨j,u,rfl,rfl⟩|⟨y,u,rfl,rfl⟩
   ·rw [Qu] at h;exact wpAny_eqBool_int h
   ·rw [Qw] at h;exact SeqAt.EqAt.int_str i t y u _ _ _ _ h
  ·rcases gR hv with ⟨j,u,rfl,rfl⟩|⟨y,u,rfl,rfl⟩
   ·rw [Qx] at h;exact SeqAt.EqAt.str_int x t j u _ _ _ _ h
   ·rw [Qv] at h;exact wpAny_eqBool_str h
 «strs»:=λk x t v h=>by
  rcases gR h with ⟨i,u,rfl,e⟩|⟨y,u,rfl,e⟩
  ·exact nomatch e
  ·injection e with e1 _
   subst e1
   cases v<;>rfl
theorem Ga (prog:bp) (w:b8) (i:Int) (t:RE):(fQ prog w).is (.inl i) (.int i t)=true:=KC i t
theorem Gb (prog:bp) (w:b8) (x:bA) (t:RE):(fQ prog w).is (.inr x) (.str x t)=true:=KD x t
end L2
namespace L2
open PySem PySem.Spec PyProof.Rows
inductive V where
 | non|bl (b:Bool)|int (i:Int)|str (x:bA)|byt (b:Array UInt8)|flt (b:UInt64)|ref (a:af)|ty (n:String)
 deriving DecidableEq
def RelV:V->ai->Prop
 | .non,u=>u=c9
 | .bl b,u=>u=qK b
 | .int i,u=>∃ t,u=gN i t
 | .str x,u=>∃ t,u=sM x t
 | .byt b,u=>∃ t,u=Value.bytes b t
 | .flt b,u=>∃ t,u=LC b t
 | .ref a,u=>u=aI a
 | .ty n,u=>u=fg n
abbrev Vals:List V->List ai->Prop:=Paired RelV
theorem Vals.length {xs:List V}{us:List ai}(r:Vals xs us):xs.length=us.length:=wQ r
theorem Vals.get:∀ {xs:List V}{us:List ai}{i:Nat}{x:V},Vals xs us->xs[i]?=some x->∃ u,us[i]?=some u/\RelV x u
 | _,_,_,_,.nil,e=>by simp at e
 | _,_,0,_,.cons r _,e=>by simp at e;subst e;exact ⟨_,rfl,r⟩
 | _,_,i+1,x,.cons _ t,e=>by
  obtain ⟨u,h1,h2⟩:=Vals.get (i:=i) (x:=x) t (by simpa using e)
  exact ⟨u,by simpa using h1,h2⟩
theorem Vals.set {x:V}{u:ai}(r:RelV x u):∀ {xs:List V}{us:List ai}(i:Nat),Vals xs us->Vals (xs.set i x) (us.set i u)
 | _,_,_,.nil=>.nil
 | _,_,0,.cons _ t=>.cons r t
 | _,_,i+1,.cons q t=>.cons q (Vals.set r i t)
theorem Vals.append:∀ {xs ys:List V}{us ws:List ai},Vals xs us->Vals ys ws->Vals (xs++ys) (us++ws)
 | _,_,_,_,.nil,s=>s
 | _,_,_,_,.cons r t,s=>.cons r (Vals.append t s)
theorem Vals.take:∀ {xs:List V}{us:List ai}(n:Nat),Vals xs us->Vals (xs.take n) (us.take n)
 | _,_,0,_=>.nil
 | _,_,_+1,.nil=>.nil
 | _,_,n+1,.cons r t=>.cons r (Vals.take n t)
theorem Vals.drop:∀ {xs:List V}{us:List ai}(n:Nat),Vals xs us->Vals (xs.drop n) (us.drop n)
 | _,_,0,r=>r
 | _,_,_+1,.nil=>.nil
 | _,_,n+1,.cons _ t=>Vals.drop n t
def RelO:Option V->Option ai->Prop
 | some v,some u=>RelV v u
 | none,none=>True
 | _,_=>False
def KV {κ:Type}:List (κ×V)->List (κ×ai)->Prop:=Paired λ(p:κ×V) (q:κ×ai)=>p.1=q.1/\RelV p.2 q.2
def kV:ja->V
 | .inl i=>.int i
 | .inr x=>.str x
inductive HO where
  | lst (xs:List V)
  | tup (xs:List V)
  | dK (kvs:List (ja×V))|dT (kvs:List (List ja×V))
  | set (S:Int->Bool) (n:Nat)
  | ins (C dx:af) (fs:List (bA×V))
  | own (x:af)
  | xd (fs:List (bA×V))
  | met (f x:af)
  | rng (lo hi:Int)
  | frz (o:fR) (u:HO)
  | tbl (ps:Array ai)
  | ext (φ:cm->Prop)
abbrev Hp:=af->Option HO
def upd (H:Hp) (a:af) (o:HO):Hp:=λb=>if b=a then some o else H b
theorem aD {H:Hp}{a:af}{o:HO}:upd H a o a=some o:=by unfold upd;rw [if_pos rfl]
theorem aJ {H:Hp}{a b:af}{o:HO}(h:b≠a):upd H a o b=H b:=by unfold upd;rw [if_neg h]
theorem iA {H:Hp}{a b:af}{o u:HO}(h:H a=some o) (h':H b=some u) (d:o≠u):a≠b:=by
 intro e;subst e;rw [h] at h';exact d (aS h')
theorem aN {H:Hp}{a b:af}{o:HO}(h:H a=some o) (h':H b=none):a≠b:=by
 intro e;subst e;rw [h] at h';cases h'
section
variable (P:bp) (w:b8)
def ObjOk (H:Hp) (h:cm) (a:af):HO->Prop
 | .lst xs=>xs.length<=a0/\∃ (its:List ai) (n:Nat),Vals xs its/\h.get? a=some { cls:=.type "list",data:=.seq its.toArray n }
 | .tup xs=>xs.length<=a0/\∃ its:List ai,Vals xs its/\rZ h a its.toArray
 | .dK kvs=>kvs.length<=a0/\(a == kN)=false/\∃ vs,KV kvs vs/\h.DictOf (fQ P w) a vs
 | .dT kvs=>kvs.length<=a0/\(a == kN)=false/\∃ xs:List (List ja×af×ai),
   Paired (λ(p:List ja×V) (q:List ja×af×ai)=>p.1=q.1/\H q.2.1=some (.tup (p.1.map kV))/\RelV p.2 q.2.2) kvs xs /\
   ∃ o es ep,h.get? a=some o/\o.ExactDict/\o.data=.dict es ep/\es.toList=xs.map (entryOfKey (m7 (fQ P w)))/\(xs.map (·.1)).Nodup
 | .set S n=>h.SetOf (pA P w) a S n
 | .ins C dx fs=>H dx=some (.own a)/\fs.length<=1000/\dx≠a/\h.get? a=some (iG C dx) /\
   ∃ mA,h.Ns1 dx mA/\(∀ f,RelO (fs.lookup f) (mA f))/\JK mA (fs.map (·.1))
 | .own _=>∃ o,h.get? a=some o
 | .xd fs=>∃ mA,h.Ns1 a mA/\∀ f,RelO (fs.lookup f) (mA f)
 | .rng lo hi=>∃ t u v,h.get? a=some { cls:=.type "range",data:=.fields #[.int lo t,.int hi u,.int 1 v] }
 | .frz o u=>h.get? a=some o/\ObjOk H h a u
 | .tbl ps=>h.get? a=some { cls:=.none,data:=.fields ps }
 | .met f x=>h.get? a=some (yi (.ref f) (.ref x))
 | .ext φ=>φ h/\(∃ o,h.get? a=some o)/\∀ h1 h2:cm,φ h1->(∀ o,h1.get? a=some o->h2.get? a=some o)->φ h2
def HOk (H:Hp) (h:cm):Prop:=∀ a o,H a=some o->ObjOk P w H h a o
end
section
variable {P:bp}{w:b8}{H H':Hp}{h h':cm}{a:af}{o:HO}
theorem ObjOk.lt (x:ObjOk P w H h a o):a<h.objs.size:=by
 cases o with
 | lst xs=>obtain ⟨_,_,_,_,e⟩:=x;exact aL e
 | tup xs=>obtain ⟨_,_,_,p⟩:=x;exact p.lt
 | dK kvs=>obtain ⟨_,_,_,_,o,_,_,e,_⟩:=x;exact aL e
 | dT kvs=>obtain ⟨_,_,_,_,o,_,_,e,_⟩:=x;exact aL e
 | set S n=>obtain ⟨o,_,_,_,e,_⟩:=x;exact aL e
 | ins C dx fs=>obtain ⟨_,_,_,e,_⟩:=x;exact aL e
 | own y=>obtain ⟨_,e⟩:=x;exact aL e
 | xd fs=>obtain ⟨_,⟨_,_,_,e,_⟩,_⟩:=x;exact aL e
 | rng lo hi=>obtain ⟨_,_,_,e⟩:=x;exact aL e
 | frz ob u=>obtain ⟨e,_⟩:=x;exact aL e
 | tbl ps=>exact aL (show h.get? a=some _ from x)
 | met f y=>exact aL (show h.get? a=some _ from x)
 | ext φ=>obtain ⟨_,⟨_,e⟩,_⟩:=x;exact aL e
theorem Paired.mapP {α β:Type} {F G:α->β->Prop}:∀ {l₁:List α} {l₂:List β},Paired F l₁ l₂->(∀ a b,F a b->G a b)->Paired G l₁ l₂
 | _,_,.nil,_=>.nil
 | _,_,.cons r t,f=>.cons (f _ _ r) (Paired.mapP t f)
theorem ObjOk.stay (x:ObjOk P w H h a o) (k:∀ b u,(b=a\/H b=some (.own a))->h.get? b=some u->h'.get? b=some u)
  (ho:∀ b,H b=some (.own a)->H' b=some (.own a)) (ht:∀ b xs,H b=some (.tup xs)->H' b=some (.tup xs)):ObjOk P w H' h' a o:=by
 induction o with
 | lst xs=>obtain ⟨z,its,n,r,e⟩:=x;exact ⟨z,its,n,r,k _ _ (.inl rfl) e⟩
 | tup xs=>obtain ⟨z,its,r,ob,e,c⟩:=x;exact ⟨z,its,r,ob,k _ _ (.inl rfl) e,c⟩
 | dK kvs=>obtain ⟨z,y,vs,r,ob,es,ep,e,c⟩:=x;exact ⟨z,y,vs,r,ob,es,ep,k _ _ (.inl rfl) e,c⟩
 | dT kvs =>
  obtain ⟨z,y,xs,r,ob,es,ep,e,c⟩:=x
  exact ⟨z,y,xs,Paired.mapP r λp q z=>⟨z.1,ht _ _ z.2.1,z.2.2⟩,ob,es,ep,k _ _ (.inl rfl) e,c⟩
 | set S n=>obtain ⟨ob,es,ep,t,e,c⟩:=x;exact ⟨ob,es,ep,t,k _ _ (.inl rfl) e,c⟩
 | ins C dx fs =>
  obtain ⟨d,z,ne,e,mA,⟨od,es,ep,e2,c⟩,r⟩:=x
  exact ⟨ho _ d,z,ne,k _ _ (.inl rfl) e,mA,⟨od,es,ep,k _ _ (.inr d) e2,c⟩,r⟩
 | own y=>obtain ⟨ob,e⟩:=x;exact ⟨ob,k _ _ (.inl rfl) e⟩
 | xd fs=>obtain ⟨mA,⟨od,es,ep,e,c⟩,r⟩:=x;exact ⟨mA,⟨od,es,ep,k _ _ (.inl rfl) e,c⟩,r⟩
 | rng lo hi=>obtain ⟨t,u,v,e⟩:=x;exact ⟨t,u,v,k _ _ (.inl rfl) e⟩
 | frz ob u ih=>obtain ⟨e,q⟩:=x;exact ⟨k _ _ (.inl rfl) e,ih q⟩
 | tbl ps =>
  have e:h.get? a=some { cls:=.none,data:=.fields ps }:=x
  show h'.get? a=some { cls:=.none,data:=.fields ps }
  exact k a _ (.inl rfl) e
 | met f y =>
  have e:h.get? a=some (yi (.ref f) (.ref y)):=x
  show h'.get? a=some (yi (.ref f) (.ref y))
  exact k a _ (.inl rfl) e
 | ext φ=>obtain ⟨p,⟨o,e⟩,st⟩:=x;exact ⟨st _ _ p λo q=>k _ _ (.inl rfl) q,⟨o,k _ _ (.inl rfl) e⟩,st⟩
theorem HOk.lt (x:HOk P w H h) (e:H a=some o):a<h.objs.size:=(x a o e).lt
theorem HOk.fresh (x:HOk P w H h) (e:h.objs.size<=a):H a=none:=by
 cases q:H a with
 | none=>rfl
 | some u=>exact absurd (bh (x.lt q) e) (gH _)
theorem HOk.kept (x:HOk P w H h) (k:∀ b u,h.get? b=some u->h'.get? b=some u):HOk P w H h':=λa o e =>
 (x a o e).stay (λb u _ q=>k b u q) (λ_ q=>q) λ_ _ q=>q
theorem HOk.laid (x:HOk P w H h) (k:∀ b u,h.get? b=some u->h'.get? b=some u) (hp:h.objs.size<=a) (new:ObjOk P w (upd H a o) h' a o):HOk P w (upd H a o) h':=λb u e=>by
 have hn:=x.fresh hp
 by_cases hb:b=a
 ·subst hb;rw [aD] at e;cases e;exact new
 ·rw [aJ hb] at e
  exact (x b u e).stay (λc v _ q=>k c v q) (λc q=>by rw [aJ (aN q hn)];exact q) λc xs q=>by rw [aJ (aN q hn)];exact q
end
def Rd (H:Hp) (a:af) (u:HO):Prop:=H a=some u\/∃ o,H a=some (.frz o u)
theorem Rd.ok {P:bp}{w:b8}{H:Hp}{h:cm}{a:af}{u:HO}(r:Rd H a u) (x:HOk P w H h):ObjOk P w H h a u:=by
 rcases r with r|⟨o,r⟩
 ·exact x a u r
 ·obtain ⟨_,q⟩:=x a _ r
  exact q
def Sb:Option HO->Prop
 | some (.lst _)=>True
 | some (.dK _)=>True
 | some (.dT _)=>True
 | some (.set _ _)=>True
 | some (.ins _ _ _)=>True
 | some (.ext _)=>True
 | _=>False
section
variable {P:bp}{w:b8}{H:Hp}{h h':cm}{x e:af}{o':HO}
theorem HOk.write (ok:HOk P w H h) (mu:Sb (H x)) (he:e=x\/H e=some (.own x)) (k:∀ b u,b≠e->h.get? b=some u->h'.get? b=some u) (heo:∃ u,h'.get? e=some u)
  (new:ObjOk P w (upd H x o') h' x o'):HOk P w (upd H x o') h':=λb u q=>by
 have nown:∀ c y,H c=some (.own y)->c≠x:=λc y r z=>by subst z;rw [r] at mu;exact mu
 have ntup:∀ c xs,H c=some (.tup xs)->c≠x:=λc xs r z=>by subst z;rw [r] at mu;exact mu
 by_cases hb:b=x
 ·subst hb;rw [aD] at q;cases q;exact new
 ·rw [aJ hb] at q
  by_cases hbe:b=e
  ·have q':H b=some (.own x):=by
    rcases he with z|z
    ·exact absurd (hbe.trans z) hb
    ·rw [hbe];exact z
   rw [q] at q';cases q'
   obtain ⟨v,hv⟩:=heo
   exact ⟨v,by rw [hbe];exact hv⟩
  ·refine (ok b u q).stay (λc v hc r=>k c v ?_ r) (λc r=>by rw [aJ (nown c b r)];exact r) λc xs r=>by rw [aJ (ntup c xs r)];exact r
   rcases hc with rfl|hc
   ·exact hbe
   ·rintro rfl
    rcases he with z|z
    ·exact nown c b hc z
    ·rw [hc] at z;cases z;exact hb rfl
end
structure Un (fs ex:List af) (H H':Hp) (h h':cm):Prop where
 keep:∀ b o,h.get? b=some o->H b=none->b∉fs->b∉ex->h'.get? b=some o
 slot:∀ b o,h.get? b=some o->H b=none->b∈fs->b∉ex->∃ sl,h'.get? b=some { o with slots:=sl }
 free:∀ b o,h.get? b=some o->H b=none->b∉ex->H' b=none
 there:∀ b o,h.get? b=some o->b∉ex->∃ o',h'.get? b=some o'
 tups:∀ b xs,H b=some (.tup xs)->H' b=some (.tup xs)
 frzs:∀ b o u,H b=some (.frz o u)->H' b=some (.frz o u)
 tbls:∀ b ps,H b=some (.tbl ps)->∃ more,H' b=some (.tbl (ps++more))
section
variable {fs fs' ex ex':List af}{H H1 H2:Hp}{h h1 h2 h':cm}{a x e:af}{o:HO}
theorem Un.any (u:Un fs ex H H1 h h1) {b:af}{ob:fR}(q:h.get? b=some ob) (n:H b=none) (hx:b∉ex):∃ sl,h1.get? b=some { ob with slots:=sl }:=by
 by_cases hb:b∈fs
 ·exact u.slot b ob q n hb hx
 ·exact ⟨ob.slots,u.keep b ob q n hb hx⟩
theorem Un.kept (k:∀ b u,h.get? b=some u->h'.get? b=some u):Un fs ex H H h h' :=
 ⟨λb ob q _ _ _=>k b ob q,λb ob q _ _ _=>⟨ob.slots,k b ob q⟩,λ_ _ _ n _=>n,λb ob q _=>⟨ob,k b ob q⟩,λ_ _ q=>q,λ_ _ _ q=>q,λ_ ps q=>⟨#[],by rw [q];simp⟩⟩
theorem Un.refl:Un fs ex H H h h:=Un.kept λ_ _ q=>q
theorem Un.laid (k:∀ b u,h.get? b=some u->h'.get? b=some u) (hp:h.objs.size<=a) (hn:H a=none):Un fs ex H (upd H a o) h h' where
 keep:=λb u q _ _ _=>k b u q
 slot:=λb u q _ _ _=>⟨u.slots,k b u q⟩
 free:=λb u q n _=>by rw [aJ (aW (bh (aL q) hp))];exact n
 there:=λb u q _=>⟨u,k b u q⟩
 tups:=λb xs q=>by rw [aJ (aN q hn)];exact q
 frzs:=λb u xs q=>by rw [aJ (aN q hn)];exact q
 tbls:=λb ps q=>⟨#[],by rw [aJ (aN q hn),q];simp⟩
theorem Un.write (mu:Sb (H x)) (he:e=x\/H e=some (.own x)) (k:∀ b u,b≠e->h.get? b=some u->h'.get? b=some u) (heo:∃ u,h'.get? e=some u):Un fs ex H (upd H x o) h h':=by
 have hx:∀ b,H b=none->b≠x:=λb n z=>by subst z;rw [n] at mu;exact mu
 have hb:∀ b,H b=none->b≠e:=λb n z=>by
  subst z
  rcases he with r|r
  ·exact hx b n r
  ·rw [n] at r;cases r
 have hm:∀ b u,H b=some u->¬ Sb (some u)->b≠x:=λb u q nm z=>by subst z;rw [q] at mu;exact nm mu
 refine ⟨λb u q n _ _=>k b u (hb b n) q,λb u q n _ _=>⟨u.slots,k b u (hb b n) q⟩,λb u q n _=>by rw [aJ (hx b n)];exact n,λb u q _=>?_,
  λb xs q=>by rw [aJ (hm b _ q λz=>z)];exact q,λb u xs q=>by rw [aJ (hm b _ q λz=>z)];exact q,λb ps q=>⟨#[],by rw [aJ (hm b _ q λz=>z),q];simp⟩⟩
 by_cases hbe:b=e
 ·subst hbe;exact heo
 ·exact ⟨u,k b u hbe q⟩
end
def TH (h:cm) (H:Hp):List af:=(gh h.objs.size).filter λa=>(H a).isSome
def zT (h:cm) (H:Hp):cm:=PySem.W.hideAll h (TH h H)
theorem KE (h:cm) (H:Hp):(zT h H).objs.size=h.objs.size:=PySem.W.hideAll_size _ _
theorem Mg {h:cm}{H:Hp}{b:af}{o:fR}(e:h.get? b=some o) (n:H b=none):(zT h H).get? b=some o :=
 PySem.W.hideAll_get _ e λhm=>by
  have q:(H b).isSome=true:=(fb.mp hm).2
  rw [n] at q;simp at q
theorem Ou {h:cm}{H:Hp}{b:af}{o:fR}(e:(zT h H).get? b=some o):h.get? b=some o/\H b=none:=by
 have e':h.get? b=some o:=PySem.W.of_hideAll (TH h H) e
 refine ⟨e',?_⟩
 cases q:H b with
 | none=>rfl
 | some x =>
  have hm:b∈TH h H:=fb.mpr ⟨FW.mpr (aL e'),by simp [q]⟩
  have z:(zT h H).get? b=none:=PySem.W.hideAll_none (TH h H) hm
  rw [z] at e;cases e
def ma (g h:cm) (L:af):List (af×fR):=(gh h.objs.size).filterMap λa=>if a=L\/(g.get? a).isSome=true then none else (h.get? a).map λo=>(a,o)
theorem oi {g h:cm}{L a:af}{o:fR}(h1:a≠L) (h2:g.get? a=none) (h3:h.get? a=some o):(a,o)∈ma g h L :=
 qP.mpr ⟨a,FW.mpr (aL h3),by simp [h1,h2,h3]⟩
theorem zU {g h:cm}{L:af}{p:af×fR}(hp:p∈ma g h L):p.1≠L/\g.get? p.1=none/\h.get? p.1=some p.2:=by
 obtain ⟨b,_,e⟩:=qP.mp hp
 split at e
 ·cases e
 ·rename_i hn
  cases q:h.get? b with
  | none=>rw [q] at e;simp at e
  | some u =>
   rw [q] at e
   simp only [Pq,gj] at e
   subst e
   refine ⟨λz=>hn (.inl z),?_,q⟩
   show g.get? b=none
   cases r:g.get? b with
   | none=>rfl
   | some v=>exact (hn (.inr (by simp [r]))).elim
theorem Mh {g h:cm}{L:af}:wR g L h (ma g h L):=λp hp=>let ⟨a,b,c⟩:=zU hp;⟨c,a,b⟩
end L2
namespace L2
open PySem PySem.Spec PyProof.Rows
structure Mod (K:aa) (mg:bA->Option ai) (base:cm):Prop where
 kin:K.In base
 glob:base.Ns bQ mg
 blt:∃ mb,base.Ns builtinsNs mb/\∀ x:bA,x≠"__name__"->mb x=dz x
 nolimit:base.NoLimit
structure Cx where
 prog:bp
 w:b8
 K:aa
 mg:bA->Option ai
 base:cm
 A:cp
 N:List bA
 s₀:au
 H₀:Hp
 env:HG
 outer:List HG
 stack:List HG
 ex:List af
 fn:bA->Bool
 calm:Bool
 pn:List (af×fR)
 xe:ai->au->Prop
def frs (l:List HG):List af:=l.filterMap (·.frame)
abbrev Cx.fs (X:Cx):List af:=frs X.outer
def TJ (sc:lH) (x:bA):Prop:=sc.names.lookup x=some .local\/sc.names.lookup x=some .cell\/sc.names.lookup x=some .free
def Loc (sc:lH) (x:bA):Prop:=sc.names.lookup x=some .local\/sc.names.lookup x=some .cell
def Look (env:HG) (h:cm) (m:bA->Option ai) (x:bA) (u:ai):Prop :=
 (env.kindOf x=some .local/\m x=some u)\/((env.kindOf x=some .cell\/env.kindOf x=some .free)/\∃ c,env.cells.lookup x=some c/\h.IsCell c (some u))
structure Cx.Ok (X:Cx):Prop where
 mod:Mod X.K X.mg X.base
 kind:X.env.scope.kind=.function
 glob:X.env.globals=bQ
 blt:X.env.builtins=builtinsNs
 above:X.s₀.heap.objs.size<=X.env.locals
 inj:∀ x y c,X.env.cells.lookup x=some c->X.env.cells.lookup y=some c->x=y
 has:∀ x,(X.env.kindOf x=some .cell\/X.env.kindOf x=some .free)->∃ c,X.env.cells.lookup x=some c
 cab:∀ x c,X.fn x=true->X.env.cells.lookup x=some c->X.s₀.heap.objs.size<=c
 hd:X.calm=true->X.A.handled=none
 frames:X.A.frames=some X.stack
 stk:X.stack=X.outer\/(X.stack=X.env::X.outer/\X.env.frame=some X.env.locals)
 exf:∀ b∈X.ex,b≠X.env.locals/\∀ x c,X.env.cells.lookup x=some c->c≠b
 bs:∀ b o,X.base.get? b=some o->X.s₀.heap.get? b=some o/\X.H₀ b=none
 bsz:X.base.objs.size<=X.s₀.heap.objs.size
 noex:∀ b o,X.base.get? b=some o->b∉X.ex
 exfs:∀ b∈X.ex,b∉X.fs
 funs:X.s₀.heap.FunFrames X.base X.outer
 frf:∀ b∈X.fs,X.H₀ b=none
structure Inv (X:Cx) (pins:List (af×fR)) (σ:List (Option V)) (H:Hp) (s:au):Prop where
 ok:X.Ok
 os:s.os=X.s₀.os
 bare:wU s.gens
 base:Un X.fs X.ex X.H₀ H X.s₀.heap s.heap
 loc:∃ m,s.heap.Ns X.env.locals m/\∀ (i:Nat) (x:bA) (v:V),X.N[i]?=some x->σ[i]?=some (some v)->TJ X.env.scope x->∃ u,RelV v u/\Look X.env s.heap m x u
 cell:∀ x c,X.env.cells.lookup x=some c->∃ v,s.heap.IsCell c v
 free:H X.env.locals=none
 freeC:∀ x c,X.env.cells.lookup x=some c->H c=none
 pin:∀ p∈X.pn++pins,s.heap.get? p.1=some p.2/\H p.1=none/\p.1≠X.env.locals/\p.1∉X.fs/\∀ v,p.2.data≠.cell v
 hok:HOk X.prog X.w H s.heap
 len:σ.length=X.N.length
section
variable {X:Cx}{pins:List (af×fR)}{σ:List (Option V)}{H H':Hp}{s:au}{h':cm}
theorem Cx.Ok.nofr (ok:X.Ok) {b:af}{o:fR}(e:X.base.get? b=some o):b∉X.fs:=λhb=>by
 have:=(ok.funs.mem hb).1
 rw [e] at this;cases this
theorem Inv.bs (I:Inv X pins σ H s):∀ b o,X.base.get? b=some o->s.heap.get? b=some o/\H b=none:=λb o e =>
 ⟨I.base.keep b o (I.ok.bs b o e).1 (I.ok.bs b o e).2 (I.ok.nofr e) (I.ok.noex b o e),I.base.free b o (I.ok.bs b o e).1 (I.ok.bs b o e).2 (I.ok.noex b o e)⟩
theorem Inv.bk (I:Inv X pins σ H s):∀ b o,X.base.get? b=some o->s.heap.get? b=some o:=λb o e=>(I.bs b o e).1
theorem Inv.mod (I:Inv X pins σ H s):Mod X.K X.mg X.base:=I.ok.mod
theorem Inv.kIn (I:Inv X pins σ H s):X.K.In s.heap:=I.ok.mod.kin.keeps I.bk
theorem Inv.fr (I:Inv X pins σ H s):∃ m,Fr X.base X.env.locals s.heap m :=
 let ⟨m,hn,_⟩:=I.loc
 ⟨m,hn,I.bk,bg I.ok.bsz I.ok.above⟩
theorem Inv.lt (I:Inv X pins σ H s):X.env.locals<s.heap.objs.size:=let ⟨_,hn,_⟩:=I.loc;hn.lt
theorem Inv.sz (I:Inv X pins σ H s):X.s₀.heap.objs.size<=s.heap.objs.size:=bg I.ok.above (oM I.lt)
theorem Inv.nofs (I:Inv X pins σ H s) {a:af}(h:s.heap.objs.size<=a):a∉X.fs:=λhb=>by
 obtain ⟨_,o,ho,_⟩:=I.ok.funs.mem hb
 exact absurd (bh (aL ho) (bg I.sz h)) (gH _)
theorem Inv.cne (I:Inv X pins σ H s):∀ x c,X.env.cells.lookup x=some c->c≠X.env.locals:=λx c e z=>by
 obtain ⟨v,o,ho,hd⟩:=I.cell x c e
 obtain ⟨m,⟨o',es,ep,ho',hd',_⟩,_⟩:=I.loc
 rw [z,ho'] at ho;cases ho;rw [hd'] at hd;cases hd
theorem Inv.funs (I:Inv X pins σ H s):s.heap.FunFrames X.base X.outer:=by
 have all:∀ (l:List HG),(∀ b∈frs l,b∈X.fs)->X.s₀.heap.FunFrames X.base l->s.heap.FunFrames X.base l:=by
  intro l
  induction l with
  | nil=>intro _ _;trivial
  | cons env r ih =>
   intro hs hl
   obtain ⟨hk,⟨L,o,hf,hn,ho,hd⟩,hr⟩:=hl
   have hL:L∈X.fs:=hs L (by unfold frs;rw [xf,hf];exact aq)
   obtain ⟨sl,e⟩:=I.base.slot L o ho (I.ok.frf L hL) hL λz=>I.ok.exfs L z hL
   exact ⟨hk,⟨L,_,hf,hn,e,hd⟩,ih (λb hb=>hs b (by unfold frs;rw [xf,hf];exact ag _ hb)) hr⟩
 exact all X.outer (λ_ hb=>hb) I.ok.funs
theorem Inv.stack (I:Inv X pins σ H s):s.heap.FunFrames X.base X.stack:=by
 rcases I.ok.stk with e|⟨e,hf⟩
 ·rw [e];exact I.funs
 ·rw [e]
  obtain ⟨m,hn,_⟩:=I.loc
  refine .cons (by rw [I.ok.kind];decide) hf hn ?_ I.funs
  exact vA (bg I.ok.bsz I.ok.above)
theorem Inv.stkSub (I:Inv X pins σ H s):∀ b∈frs X.stack,b∈X.env.locals::X.fs:=λb hb=>by
 rcases I.ok.stk with e|⟨e,hf⟩
 ·rw [e] at hb;exact ag _ hb
 ·rw [e] at hb
  unfold frs at hb
  rw [xf,hf] at hb
  exact hb
theorem Inv.stkFree (I:Inv X pins σ H s):∀ b∈frs X.stack,H b=none:=λb hb=>by
 rcases ak.mp (I.stkSub b hb) with e|hb
 ·rw [e];exact I.free
 ·obtain ⟨_,o,ho,_⟩:=I.ok.funs.mem hb
  exact I.base.free b o ho (I.ok.frf b hb) λz=>I.ok.exfs b z hb
theorem Inv.step {g':Array RF}{t':Nat}{d':Drawn}{ch:List af}(I:Inv X pins σ H s)
  (hch:∀ b∈ch,(b∈X.ex\/X.s₀.heap.objs.size<=b)/\b≠X.env.locals/\(∀ x c,X.env.cells.lookup x=some c->c≠b)/\∀ p∈X.pn++pins,p.1≠b)
  (keep:∀ b o,b≠X.env.locals->b∉X.fs->b∉ch->s.heap.get? b=some o->H b=none->h'.get? b=some o)
  (slot:∀ b o,b≠X.env.locals->b∈X.fs->b∉ch->s.heap.get? b=some o->H b=none->∃ sl,h'.get? b=some { o with slots:=sl }) (free:∀ b o,b∉ch->s.heap.get? b=some o->H b=none->H' b=none)
  (there:∀ b o,b∉ch->s.heap.get? b=some o->∃ o',h'.get? b=some o')
  (tups:∀ b xs,H b=some (.tup xs)->H' b=some (.tup xs)) (frzs:∀ b o u,H b=some (.frz o u)->H' b=some (.frz o u)) (tbls:∀ b ps,H b=some (.tbl ps)->∃ more,H' b=some (.tbl (ps++more)))
  (ns:∀ m,s.heap.Ns X.env.locals m->h'.Ns X.env.locals m) (hok:HOk X.prog X.w H' h') (hg:wU g') :
  Inv X pins σ H' { s with heap:=h',gens:=g',drawn:=d',toks:=t' }:=by
 have neL:∀ b o,X.s₀.heap.get? b=some o->b≠X.env.locals:=λb o e=>aW (bh (aL e) I.ok.above)
 have neC:∀ b o,X.s₀.heap.get? b=some o->b∉X.ex->b∉ch:=λb o e hx hb=>by
  rcases (hch b hb).1 with z|z
  ·exact hx z
  ·exact absurd (bh (aL e) z) (gH _)
 have cellK:∀ x c,X.env.cells.lookup x=some c->∀ v,s.heap.IsCell c v->h'.IsCell c v:=λx c e v ⟨o,ho,hd⟩=>by
  have nch:c∉ch:=λz=>(hch c z).2.2.1 x c e rfl
  by_cases hc:c∈X.fs
  ·obtain ⟨sl,q⟩:=slot c o (I.cne x c e) hc nch ho (I.freeC x c e)
   exact ⟨_,q,hd⟩
  ·exact ⟨o,keep c o (I.cne x c e) hc nch ho (I.freeC x c e),hd⟩
 refine ⟨I.ok,I.os,hg,⟨λb o e n hb hx=>?_,λb o e n hb hx=>?_,λb o e n hx=>?_,λb o e hx=>?_,λb xs e=>tups b xs (I.base.tups b xs e),λb o xs e=>frzs b o xs (I.base.frzs b o xs e),λb ps e=>?_⟩,?_,λx c e=>?_,?_,λx c e=>?_,λp hp=>?_,hok,I.len⟩
 ·exact keep b o (neL b o e) hb (neC b o e hx) (I.base.keep b o e n hb hx) (I.base.free b o e n hx)
 ·obtain ⟨sl,e1⟩:=I.base.slot b o e n hb hx
  obtain ⟨sl',e2⟩:=slot b _ (neL b o e) hb (neC b o e hx) e1 (I.base.free b o e n hx)
  exact ⟨sl',e2⟩
 ·obtain ⟨o',e1⟩:=I.base.there b o e hx
  exact free b o' (neC b o e hx) e1 (I.base.free b o e n hx)
 ·obtain ⟨o',e1⟩:=I.base.there b o e hx
  exact there b o' (neC b o e hx) e1
 ·obtain ⟨m1,e1⟩:=I.base.tbls b ps e
  obtain ⟨m2,e2⟩:=tbls b _ e1
  exact ⟨m1++m2,by rw [e2,Array.append_assoc]⟩
 ·obtain ⟨m,hn,hl⟩:=I.loc
  refine ⟨m,ns m hn,λi x v e1 e2 e3=>?_⟩
  obtain ⟨u,r,l⟩:=hl i x v e1 e2 e3
  refine ⟨u,r,?_⟩
  rcases l with l|⟨k,c,e,z⟩
  ·exact .inl l
  ·exact .inr ⟨k,c,e,cellK x c e _ z⟩
 ·obtain ⟨v,z⟩:=I.cell x c e
  exact ⟨v,cellK x c e v z⟩
 ·obtain ⟨m,⟨o,_,_,ho,_⟩,_⟩:=I.loc
  exact free _ o (λz=>(hch _ z).2.1 rfl) ho I.free
 ·obtain ⟨v,o,ho,hd⟩:=I.cell x c e
  exact free c o (λz=>(hch c z).2.2.1 x c e rfl) ho (I.freeC x c e)
 ·obtain ⟨e,n,ne,nf,d⟩:=I.pin p hp
  have nch:p.1∉ch:=λz=>(hch p.1 z).2.2.2 p hp rfl
  exact ⟨keep p.1 p.2 ne nf nch e n,free p.1 p.2 nch e n,ne,nf,d⟩
theorem Inv.un {t':Nat}(I:Inv X pins σ H s) (u:Un X.fs [] H H' s.heap h') (hok:HOk X.prog X.w H' h'):Inv X pins σ H' { s with heap:=h',toks:=t' }:=by
 obtain ⟨m,⟨o,es,ep,ho,r⟩,_⟩:=id I.loc
 obtain ⟨sl,hL⟩:=u.any ho I.free (by simp)
 exact I.step (g':=s.gens) (d':=s.drawn) (ch:=[]) (λ_ z=>nomatch z) (λb o _ hb _ e n=>u.keep b o e n hb (by simp)) (λb o _ hb _ e n=>u.slot b o e n hb (by simp)) (λb o _ e n=>u.free b o e n (by simp)) (λb o _ e=>u.there b o e (by simp)) u.tups u.frzs u.tbls (λm' hm=>by
  obtain ⟨o',es',ep',ho',r'⟩:=hm
  rw [ho] at ho';cases ho'
  exact ⟨_,es',ep',hL,r'⟩) hok I.bare
theorem Inv.call {g':Array RF}{t':Nat}{d':Drawn}{ch:List af}(I:Inv X pins σ H s) (u:Un (frs X.stack) ch H H' s.heap h') (hok:HOk X.prog X.w H' h') (hg:wU g')
  (hch:∀ b∈ch,(b∈X.ex\/X.s₀.heap.objs.size<=b)/\b≠X.env.locals/\(∀ x c,X.env.cells.lookup x=some c->c≠b)/\∀ p∈X.pn++pins,p.1≠b) :
  Inv X pins σ H' { s with heap:=h',gens:=g',drawn:=d',toks:=t' }:=by
 obtain ⟨m,⟨o,es,ep,ho,r⟩,_⟩:=id I.loc
 obtain ⟨sl,hL⟩:=u.any ho I.free λz=>(hch _ z).2.1 rfl
 exact I.step (ch:=ch) hch (λb o hL hb hc e n=>u.keep b o e n (λz=>(ak.mp (I.stkSub b z)).elim hL hb) hc) (λb o _ _ hc e n=>u.any e n hc) (λb o hc e n=>u.free b o e n hc) (λb o hc e=>u.there b o e hc) u.tups u.frzs u.tbls (λm' hm=>by
  obtain ⟨o',es',ep',ho',r'⟩:=hm
  rw [ho] at ho';cases ho'
  exact ⟨_,es',ep',hL,r'⟩) hok hg
theorem Inv.turned {t':Nat}{it:af}(I:Inv X pins σ H s) (k:∀ b o,b≠it->s.heap.get? b=some o->h'.get? b=some o) (hn:H it=none) (hL:it≠X.env.locals)
  (h1:it∈X.ex\/X.s₀.heap.objs.size<=it) (h2:∀ x c,X.env.cells.lookup x=some c->c≠it) (h3:∀ p∈X.pn++pins,p.1≠it):Inv X pins σ H { s with heap:=h',toks:=t' }:=by
 have nit:∀ b u,H b=some u->b≠it:=λb u e z=>by rw [z,hn] at e;cases e
 refine I.step (g':=s.gens) (d':=s.drawn) (ch:=[it]) (λb hb=>?_) (λb o _ _ hc e _=>k b o (λz=>hc (by simp [z])) e) (λb o _ _ hc e _=>⟨o.slots,k b o (λz=>hc (by simp [z])) e⟩) (λ_ _ _ _ n=>n)
  (λb o hc e=>⟨o,k b o (λz=>hc (by simp [z])) e⟩) (λ_ _ e=>e) (λ_ _ _ e=>e) (λb ps e=>⟨#[],by rw [e];simp⟩) (λm hm=>?_) (λb u e=>?_) I.bare
 ·have e:b=it:=by simpa using hb
  subst e
  exact ⟨h1,hL,h2,h3⟩
 ·obtain ⟨o,es,ep,ho,r⟩:=hm
  exact ⟨o,es,ep,k _ o (Ne.symm hL) ho,r⟩
 ·refine (I.hok b u e).stay (λc v hc q=>k c v ?_ q) (λ_ q=>q) λ_ _ q=>q
  rcases hc with z|z
  ·rw [z];exact nit b u e
  ·exact nit c _ z
theorem Inv.tok (I:Inv X pins σ H s) (t:Nat):Inv X pins σ H { s with toks:=t }:=I.un (h':=s.heap) (t':=t) Un.refl I.hok
theorem Inv.kept {t':Nat}(I:Inv X pins σ H s) (k:∀ b u,s.heap.get? b=some u->h'.get? b=some u):Inv X pins σ H { s with heap:=h',toks:=t' }:=I.un (Un.kept k) (I.hok.kept k)
theorem Inv.laid {a:af}{o:HO}{t':Nat}(I:Inv X pins σ H s) (k:∀ b u,s.heap.get? b=some u->h'.get? b=some u) (hp:s.heap.objs.size<=a) (new:ObjOk X.prog X.w (upd H a o) h' a o) :
  Inv X pins σ (upd H a o) { s with heap:=h',toks:=t' }:=I.un (Un.laid k hp (I.hok.fresh hp)) (I.hok.laid k hp new)
theorem Inv.write {x e:af}{o:HO}{t':Nat}(I:Inv X pins σ H s) (mu:Sb (H x)) (he:e=x\/H e=some (.own x)) (k:∀ b u,b≠e->s.heap.get? b=some u->h'.get? b=some u) (heo:∃ u,h'.get? e=some u)
  (new:ObjOk X.prog X.w (upd H x o) h' x o):Inv X pins σ (upd H x o) { s with heap:=h',toks:=t' }:=I.un (Un.write mu he k heo) (I.hok.write mu he k heo new)
theorem Inv.pins_of {pins':List (af×fR)}(I:Inv X pins σ H s) (h:∀ p∈pins',s.heap.get? p.1=some p.2/\H p.1=none/\p.1≠X.env.locals/\p.1∉X.fs/\∀ v,p.2.data≠.cell v):Inv X pins' σ H s :=
 ⟨I.ok,I.os,I.bare,I.base,I.loc,I.cell,I.free,I.freeC,λp hp=>(aP.mp hp).elim (λz=>I.pin p (bT _ z)) (h p),I.hok,I.len⟩
theorem Gc {N:List bA}(hN:N.Nodup) {i j:Nat}{x:bA}(a:N[i]?=some x) (b:N[j]?=some x):i=j:=by
 obtain ⟨h1,e1⟩:=aB.mp a
 obtain ⟨h2,e2⟩:=aB.mp b
 exact (List.getElem_inj hN).mp (e1.trans e2.symm)
theorem Df {M:Model}{A:cp}{E:ai->au->Prop}{i:Nat}{x:bA}{v:V}{u:ai}{Q:Unit->au->Prop}(I:Inv X pins σ H s) (hN:X.N.Nodup) (hi:X.N[i]?=some x) (hx:Loc X.env.scope x) (r:RelV v u)
  (h:∀ s',Inv X pins (σ.set i (some v)) H s'->(∃ a,ig a s.heap s'.heap/\(a=X.env.locals\/X.env.cells.lookup x=some a))->Q () s') (hf:X.fn x=true\/X.env.scope.names.lookup x=some .local:=by first|exact .inl rfl|exact .inr rfl|assumption):aK M A (storeName X.env x u) Q E s:=by
 obtain ⟨m,hn,hl⟩:=id I.loc
 have hcls:(X.env.scope.kind == .class || (X.env.scope.kind == .module && X.env.locals != X.env.globals))=false:=by rw [I.ok.kind];rfl
 have hiσ:i<σ.length:=by rw [I.len];exact (aB.mp hi).1
 have cne:=I.cne
 have tracked:∀ {a:af}{h':cm},(∃ o,s.heap.get? a=some o/\H a=none)->ig a s.heap h'->HOk X.prog X.w H h':=λ{a h'} ha hs b ob e=>by
  obtain ⟨_,_,hfree⟩:=ha
  refine (I.hok b ob e).stay (λc w' hc q=>(hs.2 c ?_).trans q) (λ_ q=>q) λ_ _ q=>q
  rintro rfl
  rcases hc with rfl|hc
  ·rw [hfree] at e;cases e
  ·rw [hfree] at hc;cases hc
 rcases hx with hk|hk
 ·refine wpAny_storeName_local hk hn (λh' hn' hs=>?_) hcls
  obtain ⟨oL,_,_,hoL,_⟩:=id hn
  refine h _ ⟨I.ok,I.os,I.bare,⟨λb o e n hb hx=>?_,λb o e n hb hx=>?_,I.base.free,λb o e hx=>?_,I.base.tups,I.base.frzs,I.base.tbls⟩,⟨_,hn',λj y v' e1 e2 e3=>?_⟩,λy c e=>?_,I.free,I.freeC,λp hp=>?_,tracked ⟨oL,hoL,I.free⟩ hs,by simpa using I.len⟩ ⟨_,hs,.inl rfl⟩
  ·exact (hs.2 b (aW (bh (aL e) I.ok.above))).trans (I.base.keep b o e n hb hx)
  ·obtain ⟨sl,e1⟩:=I.base.slot b o e n hb hx
   exact ⟨sl,(hs.2 b (aW (bh (aL e) I.ok.above))).trans e1⟩
  ·obtain ⟨o',e1⟩:=I.base.there b o e hx
   exact ⟨o',(hs.2 b (aW (bh (aL e) I.ok.above))).trans e1⟩
  ·by_cases hj:j=i
   ·subst hj
    rw [hi] at e1;cases e1
    rw [uj hiσ] at e2
    cases e2
    exact ⟨u,r,.inl ⟨hk,by simp⟩⟩
   ·rw [vB (Ne.symm hj)] at e2
    obtain ⟨u',r',q⟩:=hl j y v' e1 e2 e3
    refine ⟨u',r',?_⟩
    rcases q with ⟨k,e⟩|⟨k,c,e,z⟩
    ·refine .inl ⟨k,?_⟩
     have:y≠x:=λe=>hj (Gc hN e1 (e▸hi))
     simp [this,e]
    ·exact .inr ⟨k,c,e,z.sameBut hs (cne y c e)⟩
  ·obtain ⟨w',z⟩:=I.cell y c e
   exact ⟨w',z.sameBut hs (cne y c e)⟩
  ·obtain ⟨e,n,ne,nf,d⟩:=I.pin p hp
   exact ⟨(hs.2 p.1 ne).trans e,n,ne,nf,d⟩
 ·have hfn:X.fn x=true:=by
   rcases hf with z|z
   ·exact z
   ·rw [z] at hk;cases hk
  obtain ⟨c,hc⟩:=I.ok.has x (.inl hk)
  obtain ⟨w',z⟩:=I.cell x c hc
  refine wpAny_storeName_cell I.ok.kind hk hc z (λh' hc' hs=>?_)
  obtain ⟨oc,hoc,hocd⟩:=id z
  refine h { s with heap:=h' } ⟨I.ok,I.os,I.bare,⟨λb o e n hb hx=>?_,λb o e n hb hx=>?_,I.base.free,λb o e hx=>?_,I.base.tups,I.base.frzs,I.base.tbls⟩,⟨m,hn.sameBut hs (Ne.symm (cne x c hc)),λj y v' e1 e2 e3=>?_⟩,λy c' e=>?_,I.free,I.freeC,λp hp=>?_,tracked ⟨oc,hoc,I.freeC x c hc⟩ hs,by simpa using I.len⟩ ⟨c,hs,.inr hc⟩
  ·exact (hs.2 b (aW (bh (aL e) (I.ok.cab x c hfn hc)))).trans (I.base.keep b o e n hb hx)
  ·obtain ⟨sl,e1⟩:=I.base.slot b o e n hb hx
   exact ⟨sl,(hs.2 b (aW (bh (aL e) (I.ok.cab x c hfn hc)))).trans e1⟩
  ·obtain ⟨o',e1⟩:=I.base.there b o e hx
   exact ⟨o',(hs.2 b (aW (bh (aL e) (I.ok.cab x c hfn hc)))).trans e1⟩
  ·by_cases hj:j=i
   ·subst hj
    rw [hi] at e1;cases e1
    rw [uj hiσ] at e2
    cases e2
    exact ⟨u,r,.inr ⟨.inl hk,c,hc,hc'⟩⟩
   ·rw [vB (Ne.symm hj)] at e2
    obtain ⟨u',r',q⟩:=hl j y v' e1 e2 e3
    refine ⟨u',r',?_⟩
    rcases q with q|⟨k,c',e,z'⟩
    ·exact .inl q
    ·refine .inr ⟨k,c',e,z'.sameBut hs ?_⟩
     rintro rfl
     exact hj (Gc hN e1 (I.ok.inj _ _ _ e hc▸hi))
  ·by_cases hcc:c'=c
   ·subst hcc;exact ⟨_,hc'⟩
   ·obtain ⟨w2,z2⟩:=I.cell y c' e
    exact ⟨w2,z2.sameBut hs hcc⟩
  ·obtain ⟨e,n,ne,nf,d⟩:=I.pin p hp
   refine ⟨(hs.2 p.1 ?_).trans e,n,ne,nf,d⟩
   intro q
   rw [q,hoc] at e
   have q':oc=p.2:=aS e
   exact d w' (by rw [← q'];exact hocd)
theorem zV {M:Model}{A:cp}{E:ai->au->Prop}{i:Nat}{x:bA}{v:V}{u:ai}{Q:Unit->au->Prop}(I:Inv X pins σ H s) (hN:X.N.Nodup) (hi:X.N[i]?=some x) (hx:Loc X.env.scope x) (r:RelV v u)
  (h:∀ s',Inv X pins (σ.set i (some v)) H s'->Q () s') (hf:X.fn x=true\/X.env.scope.names.lookup x=some .local:=by first|exact .inl rfl|exact .inr rfl|assumption):aK M A (storeName X.env x u) Q E s :=
 Df I hN hi hx r (λs' I' _=>h s' I') hf
theorem Inv.call' {s':au}{ch:List af}(I:Inv X pins σ H s) (ho:s'.os=s.os) (u:Un (frs X.stack) ch H H' s.heap s'.heap) (hok:HOk X.prog X.w H' s'.heap) (hg:wU s'.gens)
  (hch:∀ b∈ch,(b∈X.ex\/X.s₀.heap.objs.size<=b)/\b≠X.env.locals/\(∀ x c,X.env.cells.lookup x=some c->c≠b)/\∀ p∈X.pn++pins,p.1≠b):Inv X pins σ H' s':=by
 obtain ⟨h',g',d',t',o'⟩:=s'
 have e:o'=s.os:=ho
 subst e
 exact I.call (g':=g') (t':=t') (d':=d') u hok hg hch
end
abbrev XK:=ai->Option af->Hp->Prop
abbrev St:=List (Option V)
abbrev VK:=V->Hp->Prop
abbrev TE:=St->Hp->VK->Prop
abbrev TT:=St->Hp->(Bool->Hp->Prop)->Prop
abbrev TA:=St->Hp->(List V->Hp->Prop)->Prop
structure sS where
 nx:St->Hp->Prop
 rt:VK
 bk:St->Hp->Prop:=λ_ _=>False
 ct:St->Hp->Prop:=λ_ _=>False
abbrev TS:=sS->St->Hp->Prop
def EP (X:Cx) (pins:List (af×fR)) (σ:St) (Q:VK) (u:ai) (s':au):Prop:=∃ v H',Inv X pins σ H' s'/\RelV v u/\Q v H'
def TP (X:Cx) (pins:List (af×fR)) (σ:St) (Q:Bool->Hp->Prop) (b:Bool) (s':au):Prop:=∃ H',Inv X pins σ H' s'/\Q b H'
def AP (X:Cx) (pins:List (af×fR)) (σ:St) (Q:List V->Hp->Prop) (us:List ai) (s':au):Prop:=∃ vs H',Inv X pins σ H' s'/\Vals vs us/\Q vs H'
def SP (X:Cx) (pins:List (af×fR)) (D:sS) (f:Flow) (s':au):Prop :=
 match f with
 | .next=>∃ σ' H',Inv X pins σ' H' s'/\D.nx σ' H'
 | .brk=>∃ σ' H',Inv X pins σ' H' s'/\D.bk σ' H'
 | .cont=>∃ σ' H',Inv X pins σ' H' s'/\D.ct σ' H'
 | .ret u=>∃ v σ' H',Inv X pins σ' H' s'/\RelV v u/\D.rt v H'
def PE (X:Cx) (e:Expr) (t:TE):Prop :=
 ∀ (pins:List (af×fR)) (s:au) (σ:St) (H:Hp) (Q:VK),Inv X pins σ H s->t σ H Q->aK (aU X.prog X.w) X.A (fV e X.env) (EP X pins σ Q) X.xe s
def PT (X:Cx) (e:Expr) (t:TT):Prop :=
 ∀ (pins:List (af×fR)) (s:au) (σ:St) (H:Hp) (Q:Bool->Hp->Prop),Inv X pins σ H s->t σ H Q->aK (aU X.prog X.w) X.A (isTrue e X.env (fV e X.env)) (TP X pins σ Q) X.xe s
def PW (X:Cx) (e:Expr) (t:TT):Prop :=
 ∀ (whole:Qg ai) (pins:List (af×fR)) (s:au) (σ:St) (H:Hp) (Q:Bool->Hp->Prop),Inv X pins σ H s->t σ H Q->aK (aU X.prog X.w) X.A (isTrue e X.env whole) (TP X pins σ Q) X.xe s
theorem PW.pt {X:Cx}{e:Expr}{t:TT}(h:PW X e t):PT X e t:=h _
def PA (X:Cx) (es:List Expr) (t:TA):Prop :=
 ∀ (pos:qQ) (pins:List (af×fR)) (s:au) (σ:St) (H:Hp) (Q:List V->Hp->Prop),Inv X pins σ H s->t σ H Q->aK (aU X.prog X.w) X.A (Pr (iV pos (bG es X.env))) (AP X pins σ Q) X.xe s
def PS (X:Cx) (st:dE) (t:TS):Prop :=
 ∀ (pins:List (af×fR)) (s:au) (σ:St) (H:Hp) (D:sS),Inv X pins σ H s->t D σ H->aK (aU X.prog X.w) X.A (exec st X.env) (SP X pins D) X.xe s
def PSs (X:Cx) (st:List dE) (t:TS):Prop :=
 ∀ (pins:List (af×fR)) (s:au) (σ:St) (H:Hp) (D:sS),Inv X pins σ H s->t D σ H->aK (aU X.prog X.w) X.A (execs st X.env) (SP X pins D) X.xe s
theorem ij {α:Type} {t:Qg α}{Q Q':α->au->Prop}{M:Model}{A:cp}{E:ai->au->Prop}{s:au}(h:aK M A t Q E s) (hQ:∀ a s,Q a s->Q' a s):aK M A t Q' E s:=gf h hQ λ_ _ x=>x
end L2
namespace L2
open PySem PySem.Spec PyProof.Rows
section
variable {X:Cx}
def av (i:Nat):TE:=λσ H Q=>∃ v,σ[i]?=some (some v)/\Q v H
def tC (v:V):TE:=λ_ H Q=>Q v H
theorem Qy {i:Nat}{x:bA}{pos:qQ}(hN:X.N[i]?=some x) (hv:TJ X.env.scope x) (hd:(x == ("__debug__":bA))=false:=by decide) (hcd:(x == ("__classdict__":bA))=false:=by decide):PE X (.Name x pos) (av i):=by
 intro pins s σ H Q I h
 obtain ⟨v,e,h⟩:=h
 obtain ⟨m,hn,hl⟩:=I.loc
 obtain ⟨u,r,l⟩:=hl i x v hN e hv
 have fin:EP X pins σ Q u s:=⟨v,H,I,r,h⟩
 rcases l with ⟨hk,hm⟩|⟨hk,c,hc,hcell⟩
 ·exact wV (qL I.ok.kind hk hn hm fin) hd
 ·rcases hk with hk|hk
  ·exact wV (R0 I.ok.kind hk hc hcell fin) hd
  ·exact wV (R3 I.ok.kind hk hc hcell fin hcd) hd
theorem a7 {i j pos}:PE X (.Constant (.int i) j pos) (tC (.int i)):=λ_ _ _ H _ I h=>wpAny_Constant_int ⟨.int i,H,I.tok _,⟨_,rfl⟩,h⟩
theorem md {b j pos}:PE X (.Constant (.bool b) j pos) (tC (.bl b)):=λ_ _ _ H _ I h=>Constant_bool ⟨.bl b,H,I,rfl,h⟩
theorem Mi {j pos}:PE X (.Constant .none j pos) (tC .non):=λ_ _ _ H _ I h=>NZ ⟨.non,H,I,rfl,h⟩
def Gl (X:Cx) (x:bA):Prop:=X.env.kindOf x=some .globalImplicit
theorem DQ {E:ai->au->Prop}{pins:List (af×fR)}{s:au}{σ:St}{H:Hp}{x:bA}{u:ai}{pos:qQ}{Q:ai->au->Prop}(I:Inv X pins σ H s) (hg:Gl X x) (hm:X.mg x=some u) (h:Q u s)
  (hd:(x == ("__debug__":bA))=false:=by decide):aK (aU X.prog X.w) X.A (fV (.Name x pos) X.env) Q E s :=
 FF I.ok.kind hg (Calls.loadGlobal_global (by rw [I.ok.glob];exact I.mod.glob.keeps I.bk) hm h) hd
theorem oO {E:ai->au->Prop}{pins:List (af×fR)}{s:au}{σ:St}{H:Hp}{x:bA}{u:ai}{pos:qQ}{Q:ai->au->Prop}(I:Inv X pins σ H s) (hg:Gl X x) (hm:X.mg x=none) (hv:dz x=some u) (h:Q u s)
  (hn:x≠"__name__":=by decide) (hd:(x == ("__debug__":bA))=false:=by decide):aK (aU X.prog X.w) X.A (fV (.Name x pos) X.env) Q E s:=by
 obtain ⟨mb,h1,h2⟩:=I.mod.blt
 exact FF I.ok.kind hg (Calls.loadGlobal_builtin (by rw [I.ok.glob];exact I.mod.glob.keeps I.bk) hm (by rw [I.ok.blt];exact h1.keeps I.bk) ((h2 x hn).trans hv) h) hd
theorem Ov {x:bA}{v:V}{u:ai}{pos:qQ}(hg:Gl X x) (hm:X.mg x=some u) (r:RelV v u) (hd:(x == ("__debug__":bA))=false:=by decide):PE X (.Name x pos) (tC v) :=
 λ_ _ _ H _ I h=>DQ I hg hm ⟨v,H,I,r,h⟩ hd
theorem tX {x:bA}{v:V}{u:ai}{pos:qQ}(hg:Gl X x) (hm:X.mg x=none) (hv:dz x=some u) (r:RelV v u) (hn:x≠"__name__":=by decide) (hd:(x == ("__debug__":bA))=false:=by decide):PE X (.Name x pos) (tC v) :=
 λ_ _ _ H _ I h=>oO I hg hm hv ⟨v,H,I,r,h⟩ hn hd
variable {a b:Expr}{ta tb:TE}{pos:qQ}
def PC (X:Cx) (op:Oh) (a b:Expr) (t:TE):Prop :=
 ∀ (pins:List (af×fR)) (s:au) (σ:St) (H:Hp) (Q:VK),Inv X pins σ H s->t σ H Q ->
  aK (aU X.prog X.w) X.A (fV a X.env) (λv s₁=>aK (aU X.prog X.w) X.A (fV b X.env) (λu s₂=>aK (aU X.prog X.w) X.A (dA op v u) (EP X pins σ Q) X.xe s₂) X.xe s₁) X.xe s
theorem Gd (b:Expr) {op:Oh}(h:op≠.In) (h2:op≠.NotIn):la op b=false:=by
 have e1:(op == CmpOp.In)=false:=by cases op<;>first|rfl|exact absurd rfl h
 have e2:(op == CmpOp.NotIn)=false:=by cases op<;>first|rfl|exact absurd rfl h2
 cases b<;>simp [la,e1,e2]
def Qz (ta:TE):TE:=λσ H Q=>ta σ H λx H1=>Q (.bl (decide (x=.non))) H1
def Dg (ta:TE):TE:=λσ H Q=>ta σ H λx H1=>Q (.bl (!decide (x=.non))) H1
theorem RelV.none_iff {x:V}{v:ai}(r:RelV x v):(v == c9)=decide (x=.non):=by
 cases x with
 | non=>cases r;rfl
 | bl _=>cases r;rfl
 | int _=>obtain ⟨t,rfl⟩:=r;rfl
 | str _=>obtain ⟨t,rfl⟩:=r;rfl
 | byt _=>obtain ⟨t,rfl⟩:=r;rfl
 | flt _=>obtain ⟨t,rfl⟩:=r;rfl
 | ref _=>cases r;rfl
 | ty _=>cases r;rfl
theorem QB {j pos'} (ha:PE X a ta):PC X .Is a (.Constant .none j pos') (Qz ta):=by
 intro pins s σ H Q I h
 refine ij (ha pins s σ H _ I h) λv s1 ⟨x,H1,I1,r1,q1⟩=>?_
 exact NZ (is_none_gen ⟨.bl _,H1,I1,by rw [r1.none_iff];rfl,q1⟩)
theorem DR {j pos'} (ha:PE X a ta):PC X .IsNot a (.Constant .none j pos') (Dg ta):=by
 intro pins s σ H Q I h
 refine ij (ha pins s σ H _ I h) λv s1 ⟨x,H1,I1,r1,q1⟩=>?_
 exact NZ (isnot_none_gen ⟨.bl _,H1,I1,by rw [r1.none_iff];rfl,q1⟩)
def tB (t:TE):TT:=λσ H Q=>t σ H λx H1=>∃ c,x=.bl c/\Q c H1
theorem QC {op:Oh}{t:TE}(h:PC X op a b t) (h1:la op b=false:=by first|exact Gd _ (by decide) (by decide)|rfl):PE X (.Compare a [op] [b] pos) t:=λpins s σ H Q I hw=>wpAny_Compare1 (h pins s σ H Q I hw) h1
theorem DS {op:Oh}{t:TE}(h:PC X op a b t) (h1:la op b=false:=by first|exact Gd _ (by decide) (by decide)|rfl):PT X (.Compare a [op] [b] pos) (tB t):=by
 intro pins s σ H Q I hw
 refine Qh (ij (h pins s σ H _ I hw) λv s1 h1=>ij h1 λu s2 h2=>ij h2 λc s3 ⟨x,H1,I1,r1,q1⟩=>?_) h1
 obtain ⟨d,rfl,q⟩:=q1
 cases r1
 exact jt ⟨H1,I1,q⟩
variable {tA tB':TT}{rest:List Expr}
def yF (t u:TT):TT:=λσ H Q=>t σ H λc H1=>if c=true then u σ H1 Q else Q false H1
def JR (t u:TT):TT:=λσ H Q=>t σ H λc H1=>if c=true then Q true H1 else u σ H1 Q
def sH (t:TT):TT:=λσ H Q=>t σ H λc H1=>Q (!c) H1
theorem qo (ha:PT X a tA):PW X (.BoolOp .And [a] pos) tA:=by
 intro wh pins s σ H Q I h
 refine isTrue_and (ij (ha pins s σ H Q I h) λc s1 e=>?_)
 cases c with
 | true=>exact isTrue_and_nil e
 | false=>exact e
theorem xl (ha:PT X a tA):PW X (.BoolOp .Or [a] pos) tA:=by
 intro wh pins s σ H Q I h
 refine isTrue_or (ij (ha pins s σ H Q I h) λc s1 e=>?_)
 cases c with
 | false=>exact isTrue_or_nil e
 | true=>exact e
theorem sT (ha:PT X a tA) (hb:PW X (.BoolOp .And (b::rest) pos) tB'):PW X (.BoolOp .And (a::b::rest) pos) (yF tA tB'):=by
 intro wh pins s σ H Q I h
 refine isTrue_and (ij (ha pins s σ H _ I h) λc s1 ⟨H1,I1,q1⟩=>?_)
 cases c with
 | true=>exact hb wh pins s1 σ H1 Q I1 q1
 | false=>exact ⟨H1,I1,q1⟩
theorem sU (ha:PT X a tA) (hb:PW X (.BoolOp .Or (b::rest) pos) tB'):PW X (.BoolOp .Or (a::b::rest) pos) (JR tA tB'):=by
 intro wh pins s σ H Q I h
 refine isTrue_or (ij (ha pins s σ H _ I h) λc s1 ⟨H1,I1,q1⟩=>?_)
 cases c with
 | true=>exact ⟨H1,I1,q1⟩
 | false=>exact hb wh pins s1 σ H1 Q I1 q1
theorem mf (ha:PT X a tA):PT X (.UnaryOp .Not a pos) (sH tA):=by
 intro pins s σ H Q I h
 exact isTrue_not (ha pins s σ H (λc H1=>Q (!c) H1) I h)
def Dh (ta tb:TE):TE:=λσ H Q=>ta σ H λx H1=>∃ c,x=.bl c/\if c=true then tb σ H1 Q else Q (.bl false) H1
def JS (ta:TE):TE:=λσ H Q=>ta σ H λx H1=>∃ c,x=.bl c/\Q (.bl (!c)) H1
theorem DT {op} {t:TE}(h:PE X a t):PE X (.BoolOp op [a] pos) t:=λpins s σ H Q I hw=>BoolOp_one (h pins s σ H Q I hw)
theorem DU (ha:PE X a ta) (hb:PE X (.BoolOp .And (b::rest) pos) tb):PE X (.BoolOp .And (a::b::rest) pos) (Dh ta tb):=by
 intro pins s σ H Q I h
 refine BoolOp_and (ij (ha pins s σ H _ I h) λv s1 ⟨x,H1,I1,r1,q1⟩=>?_)
 obtain ⟨c,rfl,q1⟩:=q1
 cases r1
 refine jt ?_
 cases c with
 | true=>exact hb pins s1 σ H1 Q I1 q1
 | false=>exact ⟨.bl false,H1,I1,rfl,q1⟩
theorem Mj (ha:PE X a ta):PE X (.UnaryOp .Not a pos) (JS ta):=by
 intro pins s σ H Q I h
 refine UnaryOp_ (ij (ha pins s σ H _ I h) λv s1 ⟨x,H1,I1,r1,q1⟩=>?_)
 obtain ⟨c,rfl,q1⟩:=q1
 cases r1
 exact not_of (jt ⟨.bl (!c),H1,I1,rfl,q1⟩)
def QD (t:TT) (ta tb:TE):TE:=λσ H Q=>t σ H λc H1=>if c=true then ta σ H1 Q else tb σ H1 Q
theorem sV {c:Expr}(hc:PT X c tA) (ha:PE X a ta) (hb:PE X b tb):PE X (.IfExp c a b pos) (QD tA ta tb):=by
 intro pins s σ H Q I h
 refine wpAny_IfExp (ij (hc pins s σ H _ I h) λd s1 ⟨H1,I1,q1⟩=>?_)
 cases d with
 | true=>exact ha pins s1 σ H1 Q I1 q1
 | false=>exact hb pins s1 σ H1 Q I1 q1
end
end L2
namespace L2
open PySem PySem.Spec PyProof.Rows
def SqL (K:aa) (H:Hp) (a:af) (xs:List V):Prop :=
 Rd H a (.lst xs) \/
  ∃ (o:fR) (its:Array ai) (n:Nat),K.lookup a=some o/\o.cls=.type "list"/\o.dict=none/\o.data=.seq its n/\its.size<=a0/\Vals xs its.toList
def SqT (K:aa) (H:Hp) (a:af) (xs:List V):Prop :=
 Rd H a (.tup xs) \/
  ∃ (o:fR) (its:Array ai) (n:Nat),K.lookup a=some o/\o.cls=.type "tuple"/\o.data=.seq its n/\its.size<=a0/\Vals xs its.toList
def Uc:ai->Option V
 | .none=>some .non
 | .bool b=>some (.bl b)
 | .int i _=>some (.int i)
 | .str x _=>some (.str x)
 | .bytes b _=>some (.byt b)
 | .float b _=>some (.flt b)
 | .ref a=>some (.ref a)
 | .type n=>some (.ty n)
 | _=>none
theorem RelV.abs {x:V}{u:ai}(r:RelV x u):Uc u=some x:=by
 cases x with
 | non=>cases r;rfl
 | bl _=>cases r;rfl
 | int _=>obtain ⟨t,rfl⟩:=r;rfl
 | str _=>obtain ⟨t,rfl⟩:=r;rfl
 | byt _=>obtain ⟨t,rfl⟩:=r;rfl
 | flt _=>obtain ⟨t,rfl⟩:=r;rfl
 | ref _=>cases r;rfl
 | ty _=>cases r;rfl
theorem RelV.inj {x y:V}{u:ai}(r:RelV x u) (q:RelV y u):x=y:=aS (r.abs.symm.trans q.abs)
theorem Vals.inj:∀ {xs ys:List V}{us:List ai},Vals xs us->Vals ys us->xs=ys
 | _,_,_,.nil,.nil=>rfl
 | _,_,_,.cons r t,.cons r' t'=>by rw [r.inj r',Vals.inj t t']
section
variable {X:Cx}{pins:List (af×fR)}{σ:St}{H:Hp}{s:au}{a:af}{xs ys:List V}
theorem SqL.of {K:aa}(h:H a=some (.lst xs)):SqL K H a xs:=.inl (.inl h)
theorem SqT.of {K:aa}(h:H a=some (.tup xs)):SqT K H a xs:=.inl (.inl h)
theorem Inv.list (I:Inv X pins σ H s) (h:SqL X.K H a xs):∃ its:List ai,Vals xs its/\PlainL s.heap a its.toArray/\xs.length<=a0:=by
 rcases h with h|⟨o,its,n,hk,hc,hd,hs,hz,r⟩
 ·obtain ⟨z,its,n,r,e⟩:=h.ok I.hok
  exact ⟨its,r,⟨_,n,e,rfl,rfl,rfl⟩,z⟩
 ·refine ⟨its.toList,r,⟨o,n,I.kIn a o hk,hc,hd,by simpa using hs⟩,?_⟩
  have e:=r.length
  simp only [aT] at e
  omega
theorem Inv.tuple (I:Inv X pins σ H s) (h:SqT X.K H a xs):∃ its:List ai,Vals xs its/\rZ s.heap a its.toArray/\xs.length<=a0:=by
 rcases h with h|⟨o,its,n,hk,hc,hs,hz,r⟩
 ·obtain ⟨z,its,r,p⟩:=h.ok I.hok
  exact ⟨its,r,p,z⟩
 ·refine ⟨its.toList,r,⟨o,I.kIn a o hk,hc,n,by simpa using hs⟩,?_⟩
  have e:=r.length
  simp only [aT] at e
  omega
theorem Inv.list_inj (I:Inv X pins σ H s) (h:SqL X.K H a xs) (h':SqL X.K H a ys):xs=ys:=by
 obtain ⟨its,r,⟨o,n,e,_,_,d⟩,_⟩:=I.list h
 obtain ⟨its',r',⟨o',n',e',_,_,d'⟩,_⟩:=I.list h'
 rw [e] at e';cases e'
 rw [d] at d'
 injection d' with d1 _
 have:its=its':=by simpa using congrArg Array.toList d1
 subst this
 exact r.inj r'
theorem Inv.tuple_inj (I:Inv X pins σ H s) (h:SqT X.K H a xs) (h':SqT X.K H a ys):xs=ys:=by
 obtain ⟨its,r,⟨o,e,_,n,d⟩,_⟩:=I.tuple h
 obtain ⟨its',r',⟨o',e',_,n',d'⟩,_⟩:=I.tuple h'
 rw [e] at e';cases e'
 rw [d] at d'
 injection d' with d1 _
 have:its=its':=by simpa using congrArg Array.toList d1
 subst this
 exact r.inj r'
end
abbrev Cx.wish (X:Cx) (E:ai->au->Prop):Cx:={ X with xe:=E }
abbrev Cx.nox (X:Cx):Cx:=X.wish λ_ _=>False
theorem Cx.Ok.wish {X:Cx}(ok:X.Ok) (E:ai->au->Prop):(X.wish E).Ok :=
 ⟨ok.mod,ok.kind,ok.glob,ok.blt,ok.above,ok.inj,ok.has,ok.cab,ok.hd,ok.frames,ok.stk,ok.exf,ok.bs,ok.bsz,ok.noex,ok.exfs,ok.funs,ok.frf⟩
theorem Cx.Ok.unwish {X:Cx}{E:ai->au->Prop}(ok:(X.wish E).Ok):X.Ok :=
 ⟨ok.mod,ok.kind,ok.glob,ok.blt,ok.above,ok.inj,ok.has,ok.cab,ok.hd,ok.frames,ok.stk,ok.exf,ok.bs,ok.bsz,ok.noex,ok.exfs,ok.funs,ok.frf⟩
section
variable {X:Cx}{pins:List (af×fR)}{σ:St}{H:Hp}{s:au}{E:ai->au->Prop}
theorem Inv.wish (I:Inv X pins σ H s) (E:ai->au->Prop):Inv (X.wish E) pins σ H s:=⟨I.ok.wish E,I.os,I.bare,I.base,I.loc,I.cell,I.free,I.freeC,I.pin,I.hok,I.len⟩
theorem Inv.unwish (I:Inv (X.wish E) pins σ H s):Inv X pins σ H s:=⟨I.ok.unwish,I.os,I.bare,I.base,I.loc,I.cell,I.free,I.freeC,I.pin,I.hok,I.len⟩
theorem SP.unwish {D:sS}{f:Flow}{s':au}(h:SP (X.wish E) pins D f s'):SP X pins D f s':=by
 cases f with
 | next=>obtain ⟨σ',H',I,q⟩:=h;exact ⟨σ',H',I.unwish,q⟩
 | brk=>obtain ⟨σ',H',I,q⟩:=h;exact ⟨σ',H',I.unwish,q⟩
 | cont=>obtain ⟨σ',H',I,q⟩:=h;exact ⟨σ',H',I.unwish,q⟩
 | ret u=>obtain ⟨v,σ',H',I,r,q⟩:=h;exact ⟨v,σ',H',I.unwish,r,q⟩
theorem PSs.nox {st:List dE}{t:TS}(h:PSs X.nox st t):PSs X st t:=λpins s σ H D I hw =>
 gf (h pins s σ H D (I.wish _) hw) (λ_ _ q=>q.unwish) λ_ _ z=>ip z
end
section
variable {X:Cx}{st:dE}{rest:List dE}{t u:TS}{e:Expr}{te:TE}{pos:qQ}
def gL:TS:=λD σ H=>D.nx σ H
def bX (t u:TS):TS:=λD σ H=>t { D with nx:=u D } σ H
theorem dF:PSs X [] gL:=λ_ _ σ H _ I h=>xg ⟨σ,H,I,h⟩
theorem aF (h1:PS X st t) (h2:PSs X rest u):PSs X (st::rest) (bX t u):=by
 intro pins s σ H D I h
 refine wpAny_execs_cons (ij (h1 pins s σ H { D with nx:=u D } I h) λf s1 q=>?_)
 cases f with
 | next =>
  obtain ⟨σ',H',I',q⟩:=q
  exact h2 pins s1 σ' H' D I' q
 | ret v=>exact q
 | brk=>exact q
 | cont=>exact q
theorem aO (h1:PS X st t):PSs X [st] t:=by
 intro pins s σ H D I h
 refine wpAny_execs_cons (ij (h1 pins s σ H D I h) λf s1 q=>?_)
 cases f with
 | next=>exact xg q
 | ret v=>exact q
 | brk=>exact q
 | cont=>exact q
theorem Inv.quiet {pins:List (af×fR)}{σ:St}{H:Hp}{s:au}(I:Inv X pins σ H s):interactive X.env=false:=by simp [interactive,I.ok.kind]
def fY (te:TE):TS:=λD σ H=>te σ H λ_ H1=>D.nx σ H1
theorem c8 (he:PE X e te) (hs:Oi e none pos.line X.env=pure false:=by rfl):PS X (.Expr e pos) (fY te):=by
 intro pins s σ H D I h
 exact wpAny_Expr_any (ij (he pins s σ H _ I h) λv s1 ⟨x,H1,I1,r1,q1⟩=>⟨σ,H1,I1,q1⟩) I.quiet hs
def fu (te:TE):TS:=λD σ H=>te σ H D.rt
theorem cj (he:PE X e te):PS X (.Return (some e) pos) (fu te):=by
 intro pins s σ H D I h
 exact wpAny_Return_some (ij (he pins s σ H _ I h) λv s1 ⟨x,H1,I1,r1,q1⟩=>⟨x,σ,H1,I1,r1,q1⟩)
def jZ (c:TT) (t u:TS):TS:=λD σ H=>c σ H λb H1=>if b=true then t D σ H1 else u D σ H1
theorem gS {c:Expr}{a b:List dE}{tc:TT}(hc:PT X c tc) (ha:PSs X a t) (hb:PSs X b u):PS X (.If c a b pos) (jZ tc t u):=by
 intro pins s σ H D I h
 refine wpAny_If (ij (hc pins s σ H _ I h) λd s1 ⟨H1,I1,q1⟩=>?_)
 cases d with
 | true=>exact ha pins s1 σ H1 D I1 q1
 | false=>exact hb pins s1 σ H1 D I1 q1
def sW:TS:=λ_ _ _=>False
theorem pS:PS X st sW:=λ_ _ _ _ _ _ h=>h.elim
end
abbrev TG:=V->St->Hp->(St->Hp->Prop)->Prop
abbrev Ow:=List V->St->Hp->(St->Hp->Prop)->Prop
def PG (X:Cx) (target:Expr) (t:TG):Prop :=
 ∀ (pins:List (af×fR)) (s:au) (σ:St) (H:Hp) (v:V) (u:ai) (Q:St->Hp->Prop),Inv X pins σ H s->RelV v u->t v σ H Q ->
  aK (aU X.prog X.w) X.A (HH target X.env u) (λ_ s'=>∃ σ' H',Inv X pins σ' H' s'/\Q σ' H') X.xe s
def TK (X:Cx) (ts:List Expr) (t:Ow):Prop :=
 ∀ (pins:List (af×fR)) (s:au) (σ:St) (H:Hp) (vs:List V) (us:List ai) (Q:St->Hp->Prop),Inv X pins σ H s->Vals vs us->t vs σ H Q ->
  aK (aU X.prog X.w) X.A (assignInOrder ((wW ts X.env).map (·.2)) us) (λ_ s'=>∃ σ' H',Inv X pins σ' H' s'/\Q σ' H') X.xe s
abbrev Ox:=V->V->V->Hp->(Hp->Prop)->Prop
def Oy (X:Cx) (t:Ox):Prop :=
 ∀ (pins:List (af×fR)) (s:au) (σ:St) (H:Hp) (o i v:V) (ov iv u:ai) (Q:Hp->Prop),Inv X pins σ H s->RelV o ov->RelV i iv->RelV v u->t o i v H Q ->
  aK (aU X.prog X.w) X.A (setItem ov iv u) (λ_ s'=>∃ H',Inv X pins σ H' s'/\Q H') X.xe s
abbrev TL:=V->V->Hp->VK->Prop
def PIp (X:Cx) (op:FG) (t:TL):Prop :=
 ∀ (pins:List (af×fR)) (s:au) (σ:St) (H:Hp) (x y:V) (v u:ai) (Q:VK),Inv X pins σ H s->RelV x v->RelV y u->t x y H Q ->
  aK (aU X.prog X.w) X.A (zK op v u) (EP X pins σ Q) X.xe s
section
variable {X:Cx}{pos:qQ}
def bI (i:Nat):TG:=λv σ H Q=>Q (σ.set i (some v)) H
theorem cz {i:Nat}{x:bA}(hN:X.N.Nodup) (hi:X.N[i]?=some x) (hx:Loc X.env.scope x) (hf:X.fn x=true\/X.env.scope.names.lookup x=some .local:=by first|exact .inl rfl|exact .inr rfl|assumption):PG X (.Name x pos) (bI i):=by
 intro pins s σ H v u Q I r h
 exact wpAny_assign_Name (zV I hN hi hx r (λs' I'=>⟨_,H,I',h⟩) hf)
def Ge:Ow:=λvs σ H Q=>vs=[]/\Q σ H
def kU (t:TG) (u:Ow):Ow:=λvs σ H Q=>∃ v r,vs=v::r/\t v σ H λσ' H'=>u r σ' H' Q
theorem tY:TK X [] Ge:=by
 intro pins s σ H vs us Q I r h
 obtain ⟨e,h⟩:=h
 subst e
 cases r
 exact assignInOrder_nil ⟨σ,H,I,h⟩
theorem eY {e:Expr}{es:List Expr}{t:TG}{u:Ow}(h1:PG X e t) (h2:TK X es u)
  (hs:(wW (e::es) X.env).map (·.2)=HH e X.env::(wW es X.env).map (·.2):=by rfl):TK X (e::es) (kU t u):=by
 intro pins s σ H vs us Q I r h
 obtain ⟨v,vr,e1,h⟩:=h
 subst e1
 cases r with
 | cons r rr =>
  rw [hs]
  refine assignInOrder_cons (ij (h1 pins s σ H _ _ _ I r h) λ_ s1 ⟨σ1,H1,I1,q1⟩=>?_)
  exact h2 pins s1 σ1 H1 _ _ Q I1 rr q1
def DV (K:aa) (n:Nat) (t:Ow):TG:=λv σ H Q=>∃ a xs,v=.ref a/\SqT K H a xs/\xs.length=n/\t xs σ H Q
theorem xm {es:List Expr}{k:Nat}{t:Ow}{n:Nat}(hc:X.calm=true) (h:TK X es t)
  (hn:(wW es X.env).length=n:=by rfl) (hst:(wW es X.env).findIdx? (·.1)=none:=by rfl):PG X (.Tuple es k pos) (DV X.K n t):=by
 intro pins s σ H v u Q I r hw
 obtain ⟨a,xs,e1,hq,hl,hw⟩:=hw
 subst e1
 cases r
 obtain ⟨its,rv,ht,hz⟩:=I.tuple hq
 refine assign_Tuple_tuple (I.ok.hd hc) ht (by simp [hn,← hl,rv.length]) hst λh' hx=>?_
 have I1:Inv X pins σ H { s with heap:=h' }:=I.kept (t':=s.toks) λb o e=>hx b o (aW (aL e)) e
 exact h pins _ σ H xs _ Q I1 (by simpa using rv) hw
def BI (to ti:TE) (t:Ox):TG:=λv σ H Q=>to σ H λo H1=>ti σ H1 λi H2=>t o i v H2 λH3=>Q σ H3
theorem sX {o i:Expr}{to ti:TE}{t:Ox}(ho:PE X o to) (hi:PE X i ti) (hs:Oy X t)
  (ha:∀ v,HH (.Subscript o i pos) X.env v=(do
   let ov ← n5 [v] (fV o X.env)
   let iv ← n5 [v,ov] (fV i X.env)
   zL pos
   n5 [v,ov,iv] (setItem ov iv v)
   release [v,ov,iv] []):=by intro _;rfl):PG X (.Subscript o i pos) (BI to ti t):=by
 intro pins s σ H v u Q I r h
 rw [ha]
 refine ae (cB (ij (ho pins s σ H _ I h) λov s1 ⟨x,H1,I1,r1,q1⟩=>?_))
 refine ae (cB (ij (hi pins s1 σ H1 _ I1 q1) λiv s2 ⟨y,H2,I2,r2,q2⟩=>?_))
 refine ae (BD (ae (cB (ij (hs pins s2 σ H2 x y v ov iv u _ I2 r1 r2 r q2) λ_ s3 ⟨H3,I3,q3⟩=>?_))))
 exact wpAny_release ⟨σ,H3,I3,q3⟩
def eF (te:TE) (g:TG):TS:=λD σ H=>te σ H λx H1=>g x σ H1 D.nx
theorem r9 {tg e:Expr}{te:TE}{g:TG}(he:PE X e te) (hg:PG X tg g) (hs:swapsWithSole [tg] e pos.line X.env=pure false:=by rfl) (hw:swappedStores [tg] e X.env=pure none:=by rfl)
  (h1:(wW [tg] X.env).map (·.2)=[HH tg X.env]:=by rfl):PS X (.Assign [tg] e pos) (eF te g):=by
 intro pins s σ H D I h
 refine wpAny_Assign_stores (ij (he pins s σ H _ I h) λv s1 ⟨x,H1,I1,r1,q1⟩=>?_) hs hw
 rw [h1]
 exact ij (hg pins s1 σ H1 x v _ I1 r1 q1) λ_ s2 q=>q
theorem cC {i:Nat}{x:bA}{e:Expr}{te:TE}{pos':qQ}(hN:X.N.Nodup) (hi:X.N[i]?=some x) (hx:Loc X.env.scope x) (he:PE X e te) (hs:Oi e (some (.Name x pos')) pos.line X.env=pure false:=by rfl) (hf:X.fn x=true\/X.env.scope.names.lookup x=some .local:=by first|exact .inl rfl|exact .inr rfl|assumption) :
  PS X (.Assign [.Name x pos'] e pos) (eF te (bI i)):=by
 intro pins s σ H D I h
 refine wpAny_Assign_Name (ij (he pins s σ H _ I h) λv s1 ⟨y,H1,I1,r1,q1⟩=>?_) hs
 exact zV I1 hN hi hx r1 (λs2 I2=>⟨_,H1,I2,q1⟩) hf
def Ml (i:Nat) (te:TE) (ti:TL):TS:=λD σ H=>∃ x,σ[i]?=some (some x)/\te σ H λy H1=>ti x y H1 λz H2=>D.nx (σ.set i (some z)) H2
theorem HZ {i:Nat}{x:bA}{e:Expr}{te:TE}{op:FG}{ti:TL}{pos':qQ}(hN:X.N.Nodup) (hi:X.N[i]?=some x) (hx:Loc X.env.scope x) (he:PE X e te) (ho:PIp X op ti) (hf:X.fn x=true\/X.env.scope.names.lookup x=some .local:=by first|exact .inl rfl|exact .inr rfl|assumption) :
  PS X (.AugAssign (.Name x pos') op e pos) (Ml i te ti):=by
 intro pins s σ H D I h
 obtain ⟨v,e1,h⟩:=h
 obtain ⟨m,hn,hl⟩:=I.loc
 have vis:TJ X.env.scope x:=by rcases hx with k|k;exact .inl k;exact .inr (.inl k)
 obtain ⟨u,r,l⟩:=hl i x v hi e1 vis
 refine wpAny_AugAssign_Name ?_
 have go:aK (aU X.prog X.w) X.A (fV e X.env) (λw s₂=>aK (aU X.prog X.w) X.A (zK op u w) (λr s₃=>aK (aU X.prog X.w) X.A (storeName X.env x r) (λ_=>SP X pins D .next) X.xe s₃) X.xe s₂) X.xe s:=by
  refine ij (he pins s σ H _ I h) λw s1 ⟨y,H1,I1,r1,q1⟩=>?_
  refine ij (ho pins s1 σ H1 v y u w _ I1 r r1 q1) λz s2 ⟨zv,H2,I2,r2,q2⟩=>?_
  exact zV I2 hN hi hx r2 (λs3 I3=>⟨_,H2,I3,q2⟩) hf
 rcases l with ⟨hk,hm⟩|⟨hk,c,hc,hcell⟩
 ·exact qL I.ok.kind hk hn hm go
 ·rcases hk with hk|hk
  ·exact R0 I.ok.kind hk hc hcell go
  ·rcases hx with k|k
   ·have:X.env.scope.names.lookup x=some .free:=hk
    rw [k] at this;cases this
   ·have:X.env.scope.names.lookup x=some .free:=hk
    rw [k] at this;cases this
end
section
variable {X:Cx}{pos:qQ}
def DW (c:TT) (tb:TS):TS:=λD σ H=>∃ W:Nat->St->Hp->Prop,(∃ m,W m σ H)/\∀ m σ H,W m σ H ->
 c σ H λb H1=>if b=true then ∃ N:St->Hp->Prop,(∀ σ' H',N σ' H'->∃ m',m'<m/\W m' σ' H')/\tb { D with nx:=N,ct:=N,bk:=D.nx } σ H1 else D.nx σ H1
theorem Gf {c:Expr}{body:List dE}{tc:TT}{tb:TS}(hp:PassesOwn (aU X.prog X.w) X.A X.env X.xe) (hc:PT X c tc) (hb:PSs X body tb):PS X (.While c body [] pos) (DW tc tb):=by
 intro pins s σ H D I h
 obtain ⟨W,⟨m0,w0⟩,turn⟩:=h
 refine wpAny_While (codeAny_whileLoop (λn s'=>∃ σ' H',Inv X pins σ' H' s'/\W n σ' H') ?_ m0 ⟨σ,H,I,w0⟩)
 rintro n s1 ⟨σ1,H1,I1,w1⟩
 refine kZ hp (ij (hc pins s1 σ1 H1 _ I1 (turn n σ1 H1 w1)) λb s2 ⟨H2,I2,q2⟩=>?_)
 cases b with
 | true =>
  obtain ⟨N,hN,q2⟩:=q2
  rw [if_pos rfl]
  refine kZ hp (ij (hb pins s2 σ1 H2 _ I2 q2) λf s3 q3=>?_)
  cases f with
  | next =>
   obtain ⟨σ3,H3,I3,n3⟩:=q3
   obtain ⟨m',hm,w3⟩:=hN σ3 H3 n3
   exact ⟨m',hm,σ3,H3,I3,w3⟩
  | cont =>
   obtain ⟨σ3,H3,I3,n3⟩:=q3
   obtain ⟨m',hm,w3⟩:=hN σ3 H3 n3
   exact ⟨m',hm,σ3,H3,I3,w3⟩
  | brk=>exact q3
  | ret v=>exact q3
 | false =>
  rw [if_neg bF]
  exact xg ⟨σ1,H2,I2,q2⟩
end
structure It where
 go:Nat->Hp->Prop
 yld:Nat->Hp->V->Hp->Prop
 stop:Nat->Hp->Prop
def xn (X:Cx) (pins:List (af×fR)) (H:Hp) (b:af):Prop :=
 H b=none/\b≠X.env.locals/\b∉X.fs/\(b∈X.ex\/X.s₀.heap.objs.size<=b)/\(∀ x c,X.env.cells.lookup x=some c->c≠b)/\∀ p∈X.pn++pins,p.1≠b
theorem Inv.fpOk {X:Cx}{pins:List (af×fR)}{σ:St}{H H':Hp}{s:au}{b:af}(I:Inv X pins σ H s) (hb:s.heap.objs.size<=b) (hn:H' b=none):xn X pins H' b:=by
 refine ⟨hn,eO (bh I.lt hb),I.nofs hb,.inr (bg I.sz hb),λx c e z=>?_,λp hp z=>?_⟩
 ·obtain ⟨v,q⟩:=I.cell x c e
  exact absurd (bh q.lt (by rw [z];exact hb)) (gH _)
 ·exact absurd (bh (aL (I.pin p hp).1) (by rw [z];exact hb)) (gH _)
structure KF (P:bp) (w:b8) (K:aa) (tg:Expr) (J:It) (fp:List af) (it:af) (tn:Nat->cm->Prop):Prop where
 mem:it∈fp
 obj:∀ i h,tn i h->∀ b∈fp,∃ o,h.get? b=some o/\∀ v,o.data≠.cell v
 keep:∀ i h h',tn i h->(∀ b∈fp,∀ o,h.get? b=some o->h'.get? b=some o)->tn i h'
 item:∀ (X:Cx),X.prog=P->X.w=w->X.K=K->X.calm=true->∀ (i:Nat) (pins:List (af×fR)) (s:au) (σ:St) (H:Hp) (E:ai->au->Prop),Inv X pins σ H s->(∀ b∈fp,xn X pins H b)->tn i s.heap->J.go i H ->
  aK (aU P w) X.A (jy (.ref it)) (λr s1=>∃ u,r=some u /\
   aK (aU P w) X.A (xh tg (.ref it) u) (λ_ s2=>∃ x H',Inv X pins σ H' s2/\RelV x u/\J.yld i H x H'/\tn (i+1) s2.heap/\∀ b∈fp,H' b=none) E s1) E s
 done:∀ (X:Cx),X.prog=P->X.w=w->X.K=K->X.calm=true->∀ (i:Nat) (pins:List (af×fR)) (s:au) (σ:St) (H:Hp) (E:ai->au->Prop),Inv X pins σ H s->(∀ b∈fp,xn X pins H b)->tn i s.heap->J.stop i H ->
  aK (aU P w) X.A (jy (.ref it)) (λr s1=>r=none/\Inv X pins σ H s1) E s
 self:∀ (A:cp) (i:Nat) (s:au) (Q:ai->au->Prop) (E:ai->au->Prop),tn i s.heap->Q (.ref it) s->aK (aU P w) A (LD (.ref it)) Q E s
abbrev TI:=St->Hp->(It->Hp->Prop)->Prop
def PIE (X:Cx) (pins:List (af×fR)) (σ:St) (tg:Expr) (R:It->Hp->Prop) (itv:ai) (s2:au):Prop :=
 ∃ (it:af) (fp:List af) (tn:Nat->cm->Prop) (J:It) (H':Hp),itv=.ref it/\Inv X pins σ H' s2/\KF X.prog X.w X.K tg J fp it tn/\tn 0 s2.heap/\(∀ b∈fp,xn X pins H' b)/\R J H'
def PI (X:Cx) (tg iter:Expr) (wi:TI):Prop :=
 ∀ (pins:List (af×fR)) (s:au) (σ:St) (H:Hp) (R:It->Hp->Prop),Inv X pins σ H s->wi σ H R ->
  aK (aU X.prog X.w) X.A (fV iter X.env) (λv s1=>aK (aU X.prog X.w) X.A (LD v) (PIE X pins σ tg R) X.xe s1) X.xe s
theorem Gg {M:Model}{A:cp}{E:ai->au->Prop}{s:au}{tg:Expr}{it:af}{u:ai}{o:fR}{n:String}{vs:Array ai}{Q:Unit->au->Prop}(ho:s.heap.get? it=some o) (hc:o.cls=.type n) (hd:o.data=.fields vs)
    (hn:["enumerate","zip","dict_itemiterator","dict_reverseitemiterator","odict_iterator","itertools.zip_longest","itertools.pairwise"].contains n=false) (hQ:Q () s):aK M A (xh tg (.ref it) u) Q E s:=by
  unfold xh
  cases tg<;>first
    | exact ao hQ
    | (cases u<;>first
        | exact ao hQ
        | (refine ae (LF ho ?_)
           rw [hc,hd]
           show aK M A (if (["enumerate","zip","dict_itemiterator","dict_reverseitemiterator","odict_iterator","itertools.zip_longest","itertools.pairwise"].contains n && vs[0]? == some (cw _))=true then _ else _) Q E s
           rw [if_neg (by intro h;rw [hn,Bool.false_and] at h;cases h)]
           exact ao hQ))
def LZ (K:aa) (a:af):It :=
 ⟨λi H=>∃ xs x,SqL K H a xs/\xs[i]?=some x,λi H x H'=>H'=H/\∀ xs,SqL K H a xs->xs[i]?=some x,λi H=>∃ xs,SqL K H a xs/\xs.length<=i⟩
def RW (K:aa) (a:af):It :=
 ⟨λi H=>∃ xs x,SqT K H a xs/\xs[i]?=some x,λi H x H'=>H'=H/\∀ xs,SqT K H a xs->xs[i]?=some x,λi H=>∃ xs,SqT K H a xs/\xs.length<=i⟩
def Oz (lo:Int) (n:Nat):It:=⟨λi _=>i<n,λi H x H'=>H'=H/\x=.int (lo+i),λi _=>n<=i⟩
theorem KG {P:bp}{w:b8}{K:aa}{tg:Expr}(a it:af):KF P w K tg (LZ K a) [it] it (λi h=>h.IsListIter it a i) where
 mem:=by simp
 obj:=λi h st b hb=>by
  have e:b=it:=by simpa using hb
  subst e
  obtain ⟨o,e,c,d⟩:=st
  exact ⟨o,e,λv z=>by rw [d] at z;cases z⟩
 keep:=λi h h' st k=>st.at λo e=>k it (by simp) o e
 item:=by
  intro X hP hw hK hc i pins s σ H E I hf st hg
  subst hP hw hK
  obtain ⟨xs,x,hq,hx⟩:=hg
  obtain ⟨its,rv,p,hz⟩:=I.list hq
  obtain ⟨u,hu,ru⟩:=rv.get hx
  obtain ⟨f0,f1,f2,f3,f4,f5⟩:=hf it (by simp)
  refine wpAny_pyNext_list_item st p.isList (x:=u) (by simpa using hu) λh' st' sb=>?_
  have I1:Inv X pins σ H { s with heap:=h' }:=I.turned (t':=s.toks) (λb o hb e=>(sb.2 b hb).trans e) f0 f1 f3 f4 f5
  obtain ⟨o,e,c,d⟩:=id st'
  exact ⟨u,rfl,Gg (s:={ s with heap:=h' }) e c d (by decide) ⟨x,H,I1,ru,⟨rfl,λys hy=>by rw [I.list_inj hy hq];exact hx⟩,st',λb hb=>(hf b hb).1⟩⟩
 done:=by
  intro X hP hw hK hc i pins s σ H E I hf st hg
  subst hP hw hK
  obtain ⟨xs,hq,hx⟩:=hg
  obtain ⟨its,rv,p,hz⟩:=I.list hq
  obtain ⟨f0,f1,f2,f3,f4,f5⟩:=hf it (by simp)
  have hl:=rv.length
  exact wpAny_pyNext_list_end (I.ok.hd hc) st p.isList (by simp;omega) λh' eb=>⟨rfl,I.turned (t':=s.toks) (λb o hb e=>eb b o hb e) f0 f1 f3 f4 f5⟩
 self:=λ_ _ _ _ _ st h=>wpAny_pyIter_listiter st h
theorem Ia {P:bp}{w:b8}{K:aa}{tg:Expr}(a it:af):KF P w K tg (RW K a) [it] it (λi h=>h.IsTupleIter it a i) where
 mem:=by simp
 obj:=λi h st b hb=>by
  have e:b=it:=by simpa using hb
  subst e
  obtain ⟨o,e,c,d⟩:=st
  exact ⟨o,e,λv z=>by rw [d] at z;cases z⟩
 keep:=λi h h' st k=>st.at λo e=>k it (by simp) o e
 item:=by
  intro X hP hw hK hc i pins s σ H E I hf st hg
  subst hP hw hK
  obtain ⟨xs,x,hq,hx⟩:=hg
  obtain ⟨its,rv,p,hz⟩:=I.tuple hq
  obtain ⟨u,hu,ru⟩:=rv.get hx
  obtain ⟨f0,f1,f2,f3,f4,f5⟩:=hf it (by simp)
  refine wpAny_pyNext_tuple_item st (show s.heap.IsTuple a its.toArray from p) (x:=u) (by simpa using hu) λh' st' sb=>?_
  have I1:Inv X pins σ H { s with heap:=h' }:=I.turned (t':=s.toks) (λb o hb e=>(sb.2 b hb).trans e) f0 f1 f3 f4 f5
  obtain ⟨o,e,c,d⟩:=id st'
  exact ⟨u,rfl,Gg (s:={ s with heap:=h' }) e c d (by decide) ⟨x,H,I1,ru,⟨rfl,λys hy=>by rw [I.tuple_inj hy hq];exact hx⟩,st',λb hb=>(hf b hb).1⟩⟩
 done:=by
  intro X hP hw hK hc i pins s σ H E I hf st hg
  subst hP hw hK
  obtain ⟨xs,hq,hx⟩:=hg
  obtain ⟨its,rv,p,hz⟩:=I.tuple hq
  obtain ⟨f0,f1,f2,f3,f4,f5⟩:=hf it (by simp)
  have hl:=rv.length
  exact wpAny_pyNext_tuple_end (I.ok.hd hc) st (show s.heap.IsTuple a its.toArray from p) (by simp;omega) λh' eb=>⟨rfl,I.turned (t':=s.toks) (λb o hb e=>eb b o hb e) f0 f1 f3 f4 f5⟩
 self:=λ_ _ _ _ _ st h=>wpAny_pyIter_tupleiter st h
theorem Ib {P:bp}{w:b8}{K:aa}{tg:Expr}(it:af) (lo:Int) (n:Nat):KF P w K tg (Oz lo n) [it] it (λi h=>IsRangeIter h it (lo+(i:Nat)*1) ((n:Int)-(i:Nat)) 1) where
 mem:=by simp
 obj:=λi h st b hb=>by
  have e:b=it:=by simpa using hb
  subst e
  exact ⟨_,st,λv z=>by
   have z':Data.fields _=Data.cell v:=z
   cases z'⟩
 keep:=λi h h' st k=>k it (by simp) _ st
 item:=by
  intro X hP hw hK hc i pins s σ H E I hf st hg
  subst hP hw hK
  obtain ⟨f0,f1,f2,f3,f4,f5⟩:=hf it (by simp)
  have W:=Walks.range (prog:=X.prog) (w:=X.w) (I.ok.hd hc) it lo 1 n
  refine W.item i s _ _ hg st λv h' tk hv st' kk=>?_
  obtain ⟨t,rfl⟩:=hv
  have I1:Inv X pins σ H { s with heap:=h',toks:=tk }:=I.turned (λb o hb e=>kk b o (by simpa using hb) e) f0 f1 f3 f4 f5
  refine ⟨_,rfl,Gg (s:={ s with heap:=h',toks:=tk }) (n:="range_iterator") st' rfl rfl (by decide) ⟨.int (lo+i),H,I1,⟨t,?_⟩,⟨rfl,rfl⟩,st',λb hb=>(hf b hb).1⟩⟩
  rw [Int.mul_one]
 done:=by
  intro X hP hw hK hc i pins s σ H E I hf st hg
  subst hP hw hK
  obtain ⟨f0,f1,f2,f3,f4,f5⟩:=hf it (by simp)
  exact wpAny_pyNext_range_end (I.ok.hd hc) st (by have:n<=i:=hg;omega) λh' eb=>⟨rfl,I.turned (t':=s.toks) (λb o hb e=>eb b o hb e) f0 f1 f3 f4 f5⟩
 self:=λ_ _ _ _ _ st h=>wpAny_pyIter_rangeiter st h
end L2
namespace L2
open PySem PySem.Spec PyProof.Rows
section
variable {X:Cx}{tg:Expr}
theorem Gh {pins:List (af×fR)}{σ:St}{H:Hp}{s:au}{R:It->Hp->Prop}{E:ai->au->Prop}{lo hi:Int}{t u v:RE}{tk:Nat}(I:Inv X pins σ H s) (h1:-(2^62)<=lo) (h2:lo<2^62) (h3:-(2^62)<=hi) (h4:hi<2^62)
  (q:R (Oz lo (hi-lo).toNat) H):aK (aU X.prog X.w) X.A (LD (.ref s.heap.objs.size)) (PIE X pins σ tg R) E { s with heap:=s.heap.push { cls:=.type "range",data:=.fields #[.int lo t,.int hi u,.int 1 v] },toks:=tk }:=by
 refine wpAny_pyIter_range (IsRange.new ..) (small_one h1 h2 h3 h4) ?_
 have I1:Inv X pins σ H { s with heap:=s.heap.push { cls:=.type "range",data:=.fields #[.int lo t,.int hi u,.int 1 v] },toks:=tk }:=I.kept λb o e=>ax _ e
 refine ⟨(s.heap.push { cls:=.type "range",data:=.fields #[.int lo t,.int hi u,.int 1 v] }).objs.size,[(s.heap.push { cls:=.type "range",data:=.fields #[.int lo t,.int hi u,.int 1 v] }).objs.size],_,_,H,rfl,
  I1.kept (t':=tk) λb o e=>ax _ e,Ib _ lo (hi-lo).toNat,?_,λb hb=>?_,q⟩
 ·have e1:lo+((0:Nat):Int)*1=lo:=by simp
  have e2:(((hi-lo).toNat:Nat):Int)-((0:Nat):Int)=Builtin.Range.rangeSize lo hi 1:=by rw [rangeSize_one];split<;>omega
  show IsRangeIter _ _ (lo+((0:Nat):Int)*1) ((((hi-lo).toNat:Nat):Int)-((0:Nat):Int)) 1
  rw [e1,e2]
  exact aM _ rfl
 ·have e:b=(s.heap.push { cls:=.type "range",data:=.fields #[.int lo t,.int hi u,.int 1 v] }).objs.size:=by simpa using hb
  subst e
  exact I1.fpOk (aw _) (I1.hok.fresh (aw _))
def zW (ta:TA):TI:=λσ H R=>ta σ H λvs H1=>∃ j:Int,vs=[.int j]/\-(2^62)<=j/\j<2^62/\R (Oz 0 j.toNat) H1
def Mm (ta:TA):TI:=λσ H R=>ta σ H λvs H1=>∃ i j:Int,vs=[.int i,.int j]/\(-(2^62)<=i/\i<2^62/\-(2^62)<=j/\j<2^62)/\R (Oz i (j-i).toNat) H1
theorem qT {a:Expr}{ta:TA}{p pos:qQ}(hg:Gl X "range") (hm:X.mg "range"=none) (ha:PA X [a] ta) (hs:bG [a] X.env=[(false,fV a X.env)]:=by rfl):PI X tg (.Call (.Name "range" p) [a] [] pos) (zW ta):=by
 intro pins s σ H R I h
 refine Call_ (oO I hg hm boot_range (dI (ij (ha pos pins s σ H _ I h) λus s1 ⟨vs,H1,I1,r1,q1⟩=>?_) hs rfl))
 obtain ⟨j,e,q1,q2,q⟩:=q1
 subst e
 cases r1 with
 | cons r rr =>
  cases rr
  obtain ⟨t,rfl⟩:=r
  exact call_range_1 (Gh I1 (by omega) (by omega) q1 q2 (by simpa using q))
theorem KH {a b:Expr}{ta:TA}{p pos:qQ}(hg:Gl X "range") (hm:X.mg "range"=none) (ha:PA X [a,b] ta) (hs:bG [a,b] X.env=[(false,fV a X.env),(false,fV b X.env)]:=by rfl) (hs2:bG [b] X.env=[(false,fV b X.env)]:=by rfl) :
  PI X tg (.Call (.Name "range" p) [a,b] [] pos) (Mm ta):=by
 intro pins s σ H R I h
 refine Call_ (oO I hg hm boot_range (dI (ij (ha pos pins s σ H _ I h) λus s1 ⟨vs,H1,I1,r1,q1⟩=>?_) (by rw [hs,hs2]) (by rw [hs2];rfl)))
 obtain ⟨i,j,e,⟨q1,q2,q3,q4⟩,q⟩:=q1
 subst e
 cases r1 with
 | cons r rr =>
  cases rr with
  | cons r' rr =>
   cases rr
   obtain ⟨t,rfl⟩:=r
   obtain ⟨t',rfl⟩:=r'
   exact call_range_2 (Gh I1 q1 q2 q3 q4 q)
def uv (wi:TI) (g:TG) (tb:TS):TS:=λD σ H=>wi σ H λJ H1=>∃ W:Nat->Nat->St->Hp->Prop,(∃ m,W 0 m σ H1)/\∀ i m σ H,W i m σ H ->
 (J.stop i H/\D.nx σ H)\/(J.go i H/\∃ N:St->Hp->Prop,(∀ σ' H',N σ' H'->∃ m',m'<m/\W (i+1) m' σ' H')/\∀ x H',J.yld i H x H'->g x σ H' λσ2 H2=>tb { D with nx:=N,ct:=N,bk:=D.nx } σ2 H2)
def zX (fp:List af) (h:cm):List (af×fR):=fp.filterMap λb=>(h.get? b).map λo=>(b,o)
theorem sd {fp:List af}{h:cm}{b:af}{o:fR}(hb:b∈fp) (e:h.get? b=some o):(b,o)∈zX fp h:=qP.mpr ⟨b,hb,by rw [e];rfl⟩
theorem KI {fp:List af}{h:cm}{p:af×fR}(hp:p∈zX fp h):p.1∈fp/\h.get? p.1=some p.2:=by
 obtain ⟨b,hb,e⟩:=qP.mp hp
 cases q:h.get? b with
 | none=>rw [q] at e;cases e
 | some o =>
  rw [q] at e
  have e':(b,o)=p:=aS e
  subst e'
  exact ⟨hb,q⟩
theorem Inv.pinned {pins:List (af×fR)}{σ:St}{H:Hp}{s:au}{fp:List af}(I:Inv X pins σ H s) (hf:∀ b∈fp,xn X pins H b) (ho:∀ b∈fp,∃ o,s.heap.get? b=some o/\∀ v,o.data≠.cell v):Inv X (pins++zX fp s.heap) σ H s :=
 I.pins_of λp hp=>(aP.mp hp).elim (λz=>I.pin p (aZ _ z)) λz=>by
  obtain ⟨hb,e⟩:=KI z
  obtain ⟨f0,f1,f2,_⟩:=hf p.1 hb
  obtain ⟨o,e',d⟩:=ho p.1 hb
  rw [e] at e';cases e'
  exact ⟨e,f0,f1,f2,d⟩
theorem Inv.unpinned {pins pl:List (af×fR)}{σ:St}{H:Hp}{s:au}(I:Inv X (pins++pl) σ H s):Inv X pins σ H s:=I.pins_of λp hp=>I.pin p (aZ _ (bT _ hp))
theorem mh {iter:Expr}{body:List dE}{wi:TI}{g:TG}{tb:TS}{pos:qQ}(hp:PassesOwn (aU X.prog X.w) X.A X.env X.xe) (hc:X.calm=true) (hi:PI X tg iter wi) (hg:PG X tg g) (hb:PSs X body tb)
  (hs:∀ x,uk iter X.env x=pure x:=by intro _;rfl):PS X (.For tg iter body [] pos) (uv wi g tb):=by
 intro pins s σ H D I h
 refine wpAny_For (ij (hi pins s σ H _ I h) λv s1 h1=>ij h1 λitv s2 h2=>?_) hs
 obtain ⟨it,fp,tn,J,H2,e,I2,T,st2,f2,W,⟨m0,w0⟩,turn⟩:=h2
 subst e
 -- what stays true of the iterator's objects through the Mn
 have stat:∀ {H':Hp},(∀ b∈fp,H' b=none)->∀ b∈fp,xn X pins H' b:=λhn b hb=>⟨hn b hb,(f2 b hb).2⟩
 refine codeAny_forLoop_any (λn s'=>∃ i σ' H',Inv X pins σ' H' s'/\tn i s'.heap/\(∀ b∈fp,H' b=none)/\W i n σ' H') ?_ m0 ⟨0,σ,H2,I2,st2,λb hb=>(f2 b hb).1,w0⟩
 rintro n s3 ⟨i,σ3,H3,I3,st3,fr3,w3⟩
 rcases turn i n σ3 H3 w3 with ⟨stop,qn⟩|⟨go,N,hN,step⟩
 ·refine kZ hp (ij (T.done X rfl rfl rfl hc i pins s3 σ3 H3 X.xe I3 (stat fr3) st3 stop) λr s4 ⟨hr,I4⟩=>?_)
  subst hr
  exact xg ⟨σ3,H3,I4,qn⟩
 ·refine kZ hp (ij (T.item X rfl rfl rfl hc i pins s3 σ3 H3 X.xe I3 (stat fr3) st3 go) λr s4 ⟨u,hr,h4⟩=>?_)
  subst hr
  refine kZ hp (ij h4 λ_ s5 ⟨x,H5,I5,r5,y5,st5,fr5⟩=>?_)
  have I5':=I5.pinned (stat fr5) (T.obj _ _ st5)
  refine kZ hp (ij (hg _ s5 σ3 H5 x u _ I5' r5 (step x H5 y5)) λ_ s6 ⟨σ6,H6,I6,q6⟩=>?_)
  refine kZ hp (ij (hb _ s6 σ6 H6 _ I6 q6) λf s7 q7=>?_)
  have again:∀ {σ7:St}{H7:Hp},Inv X (pins++zX fp s5.heap) σ7 H7 s7->N σ7 H7->∃ m,m<n/\∃ i σ' H',Inv X pins σ' H' s7/\tn i s7.heap/\(∀ b∈fp,H' b=none)/\W i m σ' H':=λ{σ7 H7} I7 n7=>by
   obtain ⟨m',hm,w7⟩:=hN σ7 H7 n7
   refine ⟨m',hm,i+1,σ7,H7,I7.unpinned,T.keep _ _ _ st5 λb hb o e=>(I7.pin (b,o) (aZ _ (aZ _ (sd hb e)))).1,λb hb=>?_,w7⟩
   obtain ⟨o,e,d⟩:=T.obj _ _ st5 b hb
   exact (I7.pin (b,o) (aZ _ (aZ _ (sd hb e)))).2.1
  cases f with
  | next=>obtain ⟨σ7,H7,I7,n7⟩:=q7;exact again I7 n7
  | cont=>obtain ⟨σ7,H7,I7,n7⟩:=q7;exact again I7 n7
  | brk=>obtain ⟨σ7,H7,I7,q7⟩:=q7;exact ⟨σ7,H7,I7.unpinned,q7⟩
  | ret v=>obtain ⟨x7,σ7,H7,I7,r7,q7⟩:=q7;exact ⟨x7,σ7,H7,I7.unpinned,r7,q7⟩
end
theorem oj {K:aa}{a:af}{xs:List V}{g:TG}{tb:TS}{D:sS}{σ:St}{H:Hp}(Pv:Nat->St->Hp->Prop) (h0:Pv 0 σ H) (hl:∀ i σ H,i<=xs.length->Pv i σ H->SqL K H a xs)
  (hs:∀ i x σ H,xs[i]?=some x->Pv i σ H->g x σ H λσ2 H2=>tb { D with nx:=Pv (i+1),ct:=Pv (i+1),bk:=D.nx } σ2 H2) (hd:∀ σ H,Pv xs.length σ H->D.nx σ H) :
  ∃ W:Nat->Nat->St->Hp->Prop,(∃ m,W 0 m σ H)/\∀ i m σ H,W i m σ H ->
   ((LZ K a).stop i H/\D.nx σ H)\/((LZ K a).go i H/\∃ N:St->Hp->Prop,(∀ σ' H',N σ' H'->∃ m',m'<m/\W (i+1) m' σ' H')/\∀ x H',(LZ K a).yld i H x H'->g x σ H' λσ2 H2=>tb { D with nx:=N,ct:=N,bk:=D.nx } σ2 H2):=by
 refine ⟨λi m σ H=>m=xs.length-i/\i<=xs.length/\Pv i σ H,⟨xs.length,by simp,a9 _,h0⟩,?_⟩
 rintro i m σ H ⟨rfl,hi,p⟩
 have q:=hl i σ H hi p
 by_cases hlt:i<xs.length
 ·refine .inr ⟨⟨xs,xs[i],q,by simp [hlt]⟩,Pv (i+1),λσ' H' p'=>⟨xs.length-(i+1),by omega,rfl,hlt,p'⟩,λx H' y=>?_⟩
  obtain ⟨e,y⟩:=y
  subst e
  exact hs i x σ _ (y xs q) p
 ·have e:i=xs.length:=by omega
  subst e
  exact .inl ⟨⟨xs,q,aw _⟩,hd σ H p⟩
theorem OA {K:aa}{a:af}{xs:List V}{g:TG}{tb:TS}{D:sS}{σ:St}{H:Hp}(Pv:Nat->St->Hp->Prop) (h0:Pv 0 σ H) (hl:∀ i σ H,i<=xs.length->Pv i σ H->SqT K H a xs)
  (hs:∀ i x σ H,xs[i]?=some x->Pv i σ H->g x σ H λσ2 H2=>tb { D with nx:=Pv (i+1),ct:=Pv (i+1),bk:=D.nx } σ2 H2) (hd:∀ σ H,Pv xs.length σ H->D.nx σ H) :
  ∃ W:Nat->Nat->St->Hp->Prop,(∃ m,W 0 m σ H)/\∀ i m σ H,W i m σ H ->
   ((RW K a).stop i H/\D.nx σ H)\/((RW K a).go i H/\∃ N:St->Hp->Prop,(∀ σ' H',N σ' H'->∃ m',m'<m/\W (i+1) m' σ' H')/\∀ x H',(RW K a).yld i H x H'->g x σ H' λσ2 H2=>tb { D with nx:=N,ct:=N,bk:=D.nx } σ2 H2):=by
 refine ⟨λi m σ H=>m=xs.length-i/\i<=xs.length/\Pv i σ H,⟨xs.length,by simp,a9 _,h0⟩,?_⟩
 rintro i m σ H ⟨rfl,hi,p⟩
 have q:=hl i σ H hi p
 by_cases hlt:i<xs.length
 ·refine .inr ⟨⟨xs,xs[i],q,by simp [hlt]⟩,Pv (i+1),λσ' H' p'=>⟨xs.length-(i+1),by omega,rfl,hlt,p'⟩,λx H' y=>?_⟩
  obtain ⟨e,y⟩:=y
  subst e
  exact hs i x σ _ (y xs q) p
 ·have e:i=xs.length:=by omega
  subst e
  exact .inl ⟨⟨xs,q,aw _⟩,hd σ H p⟩
theorem tZ {lo:Int}{n:Nat}{g:TG}{tb:TS}{D:sS}{σ:St}{H:Hp}(Pv:Nat->St->Hp->Prop) (h0:Pv 0 σ H)
  (hs:∀ i σ H,i<n->Pv i σ H->g (.int (lo+i)) σ H λσ2 H2=>tb { D with nx:=Pv (i+1),ct:=Pv (i+1),bk:=D.nx } σ2 H2) (hd:∀ σ H,Pv n σ H->D.nx σ H) :
  ∃ W:Nat->Nat->St->Hp->Prop,(∃ m,W 0 m σ H)/\∀ i m σ H,W i m σ H ->
   ((Oz lo n).stop i H/\D.nx σ H)\/((Oz lo n).go i H/\∃ N:St->Hp->Prop,(∀ σ' H',N σ' H'->∃ m',m'<m/\W (i+1) m' σ' H')/\∀ x H',(Oz lo n).yld i H x H'->g x σ H' λσ2 H2=>tb { D with nx:=N,ct:=N,bk:=D.nx } σ2 H2):=by
 refine ⟨λi m σ H=>m=n-i/\i<=n/\Pv i σ H,⟨n,by simp,a9 _,h0⟩,?_⟩
 rintro i m σ H ⟨rfl,hi,p⟩
 by_cases hlt:i<n
 ·refine .inr ⟨hlt,Pv (i+1),λσ' H' p'=>⟨n-(i+1),by omega,rfl,hlt,p'⟩,λx H' y=>?_⟩
  obtain ⟨e,y⟩:=y
  subst e y
  exact hs i σ _ hlt p
 ·have e:i=n:=by omega
  subst e
  exact .inl ⟨aw _,hd σ H p⟩
end L2
namespace L2
open PySem PySem.Spec PyProof.Rows
abbrev R2:=V->V->Hp->VK->Prop
def OpR (X:Cx) (f:ai->ai->Qg ai) (r:R2):Prop :=
 ∀ (pins:List (af×fR)) (s:au) (σ:St) (H:Hp) (x y:V) (v u:ai) (Q:VK),Inv X pins σ H s->RelV x v->RelV y u->r x y H Q ->
  aK (aU X.prog X.w) X.A (f v u) (EP X pins σ Q) X.xe s
def Ud (X:Cx) (f:ai->Qg ai) (r:V->Hp->VK->Prop):Prop :=
 ∀ (pins:List (af×fR)) (s:au) (σ:St) (H:Hp) (x:V) (v:ai) (Q:VK),Inv X pins σ H s->RelV x v->r x H Q ->
  aK (aU X.prog X.w) X.A (f v) (EP X pins σ Q) X.xe s
def CallR (X:Cx) (f:ai) (r:List V->Hp->VK->Prop):Prop :=
 ∀ (pins:List (af×fR)) (s:au) (σ:St) (H:Hp) (xs:List V) (us:List ai) (Q:VK),Inv X pins σ H s->Vals xs us->r xs H Q ->
  aK (aU X.prog X.w) X.A (call f us) (EP X pins σ Q) X.xe s
def Ue (X:Cx) (r:V->Hp->(Bool->Hp->Prop)->Prop):Prop :=
 ∀ (pins:List (af×fR)) (s:au) (σ:St) (H:Hp) (x:V) (v:ai) (Q:Bool->Hp->Prop),Inv X pins σ H s->RelV x v->r x H Q ->
  aK (aU X.prog X.w) X.A (truthy v) (TP X pins σ Q) X.xe s
def dw (r:R2) (ta tb:TE):TE:=λσ H Q=>ta σ H λx H1=>tb σ H1 λy H2=>r x y H2 Q
def RX (r:V->Hp->VK->Prop) (ta:TE):TE:=λσ H Q=>ta σ H λx H1=>r x H1 Q
def rI (C:Int->Int->Prop) (g:Int->Int->V):R2:=λx y H Q=>∃ i j,x=.int i/\y=.int j/\C i j/\Q (g i j) H
def xo (g:Int->Int->V):R2:=λx y H Q=>∃ i j,x=.int i/\y=.int j/\Q (g i j) H
def rU (g:Int->V):V->Hp->VK->Prop:=λx H Q=>∃ i,x=.int i/\Q (g i) H
section
variable {X:Cx}{a b c:Expr}{ta tb tc:TE}{pos:qQ}
theorem QE (ha:PE X a ta) (hb:PE X b tb) {pins:List (af×fR)}{s:au}{σ:St}{H:Hp}{R:V->V->Hp->Prop}(I:Inv X pins σ H s)
  (h:ta σ H λx H1=>tb σ H1 λy H2=>R x y H2) {Q:ai->au->Prop}{f:ai->ai->Qg ai}
  (hf:∀ v u s2 x y H2,Inv X pins σ H2 s2->RelV x v->RelV y u->R x y H2->aK (aU X.prog X.w) X.A (f v u) Q X.xe s2) :
  aK (aU X.prog X.w) X.A (fV a X.env) (λv s₁=>aK (aU X.prog X.w) X.A (fV b X.env) (λu s₂=>aK (aU X.prog X.w) X.A (f v u) Q X.xe s₂) X.xe s₁) X.xe s:=by
 refine ij (ha pins s σ H _ I h) λv s1 ⟨x,H1,I1,r1,q1⟩=>?_
 refine ij (hb pins s1 σ H1 _ I1 q1) λu s2 ⟨y,H2,I2,r2,q2⟩=>?_
 exact hf v u s2 x y H2 I2 r1 r2 q2
theorem c5 {op:FG}{r:R2}(ho:OpR X (vt op) r) (ha:PE X a ta) (hb:PE X b tb):PE X (.BinOp a op b pos) (dw r ta tb):=by
 intro pins s σ H Q I h
 exact wpAny_BinOp (QE ha hb I h λv u s2 x y H2 I2 rx ry q=>ho pins s2 σ H2 x y v u Q I2 rx ry q)
theorem JT {op:UnaryOp}{r:V->Hp->VK->Prop}(ho:Ud X (unaryOp op) r) (ha:PE X a ta):PE X (.UnaryOp op a pos) (RX r ta):=by
 intro pins s σ H Q I h
 exact UnaryOp_ (ij (ha pins s σ H _ I h) λv s1 ⟨x,H1,I1,r1,q1⟩=>ho pins s1 σ H1 x v Q I1 r1 q1)
theorem TM {f:ai->ai->Qg ai}{C:Int->Int->Prop}{g:Int->Int->Int}
  (rule:∀ (i j:Int) (t u:RE) (s:au) (Q:ai->au->Prop) (E:ai->au->Prop),C i j->Q (.int (g i j) s.toks) { s with toks:=s.toks+1 }->aK (aU X.prog X.w) X.A (f (.int i t) (.int j u)) Q E s) :
  OpR X f (rI C λi j=>.int (g i j)):=by
 intro pins s σ H x y v u Q I rx ry h
 obtain ⟨i,j,rfl,rfl,hc,q⟩:=h
 obtain ⟨t,rfl⟩:=rx
 obtain ⟨t',rfl⟩:=ry
 exact rule i j t t' s _ _ hc ⟨.int (g i j),H,I.tok _,⟨_,rfl⟩,q⟩
theorem OB {f:ai->ai->Qg ai}{g:Int->Int->Int}
  (rule:∀ (i j:Int) (t u:RE) (s:au) (Q:ai->au->Prop) (E:ai->au->Prop),Q (.int (g i j) s.toks) { s with toks:=s.toks+1 }->aK (aU X.prog X.w) X.A (f (.int i t) (.int j u)) Q E s) :
  OpR X f (xo λi j=>.int (g i j)):=by
 intro pins s σ H x y v u Q I rx ry h
 obtain ⟨i,j,rfl,rfl,q⟩:=h
 obtain ⟨t,rfl⟩:=rx
 obtain ⟨t',rfl⟩:=ry
 exact rule i j t t' s _ _ ⟨.int (g i j),H,I.tok _,⟨_,rfl⟩,q⟩
theorem OC {f:ai->ai->Qg ai}{g:Int->Int->Bool}
  (rule:∀ (i j:Int) (t u:RE) (s:au) (Q:ai->au->Prop) (E:ai->au->Prop),Q (.bool (g i j)) s->aK (aU X.prog X.w) X.A (f (.int i t) (.int j u)) Q E s) :
  OpR X f (xo λi j=>.bl (g i j)):=by
 intro pins s σ H x y v u Q I rx ry h
 obtain ⟨i,j,rfl,rfl,q⟩:=h
 obtain ⟨t,rfl⟩:=rx
 obtain ⟨t',rfl⟩:=ry
 exact rule i j t t' s _ _ ⟨.bl (g i j),H,I,rfl,q⟩
def yG (i j:Int):Prop:=0<j/\j<1073741824
def CMul (i j:Int):Prop:=(-(2^64)<i/\i<2^64)\/(-(2^64)<j/\j<2^64)
theorem CMul.ok {i j:Int}(h:CMul i j):IntMulOk i j:=by
 rcases h with ⟨h1,h2⟩|⟨h1,h2⟩
 ·exact .of_left (intBits_le_64 h1 h2)
 ·exact .of_right (intBits_le_64 h1 h2)
theorem QF:OpR X (vt .Add) (xo λi j=>.int (i+j)):=OB λ_ _ _ _ _ _ _ q=>add_int q
theorem Mo:OpR X (vt .Sub) (xo λi j=>.int (i-j)):=OB λ_ _ _ _ _ _ _ q=>sub_int q
theorem Ic:OpR X (vt .Mult) (rI CMul λi j=>.int (i*j)):=TM λ_ _ _ _ _ _ _ hc q=>mul_int q hc.ok
theorem mi:OpR X (vt .FloorDiv) (rI yG λi j=>.int (i/j)):=TM λi j _ _ _ _ _ hc q=>by
 have h1:(0:Int)<j:=hc.1
 have h2:j<1073741824:=hc.2
 exact floordiv_int (by omega) (by rw [Int.fdiv_eq_ediv_of_nonneg i (by omega)];exact q) (.inl (PyProof.noPylong_small (by omega)))
theorem kX:OpR X (vt .Mod) (rI (λ_ j=>0<j) λi j=>.int (i%j)):=TM λi j _ _ _ _ _ hc q=>by
 have h1:(0:Int)<j:=hc
 exact mod_int' (by omega) (by rw [Int.fmod_eq_emod_of_nonneg i (by omega)];exact q)
theorem OD:OpR X (zK .Add) (xo λi j=>.int (i+j)):=OB λ_ _ _ _ _ _ _ q=>Qi q
theorem OE:OpR X (zK .Sub) (xo λi j=>.int (i-j)):=OB λ_ _ _ _ _ _ _ q=>isub_int q
theorem OF:OpR X (zK .Mult) (rI CMul λi j=>.int (i*j)):=TM λ_ _ _ _ _ _ _ hc q=>imul_int q hc.ok
theorem unI {f:ai->Qg ai}{g:Int->Int}
  (rule:∀ (i:Int) (t:RE) (s:au) (Q:ai->au->Prop) (E:ai->au->Prop),Q (.int (g i) s.toks) { s with toks:=s.toks+1 }->aK (aU X.prog X.w) X.A (f (.int i t)) Q E s) :
  Ud X f (rU λi=>.int (g i)):=by
 intro pins s σ H x v Q I rx h
 obtain ⟨i,rfl,q⟩:=h
 obtain ⟨t,rfl⟩:=rx
 exact rule i t s _ _ ⟨.int (g i),H,I.tok _,⟨_,rfl⟩,q⟩
theorem DX:Ud X (unaryOp .USub) (rU λi=>.int (-i)):=unI λ_ _ _ _ _ q=>neg_int q
end
def Sd:V->V->Bool
 | .non,.non=>true | .non,.int _=>true | .int _,.non=>true | .non,.bl _=>true | .bl _,.non=>true | .non,.str _=>true | .str _,.non=>true
 | .int _,.int _=>true | .bl _,.bl _=>true | .str _,.str _=>true | .byt _,.byt _=>true
 | .int _,.str _=>true | .str _,.int _=>true | .bl _,.str _=>true | .str _,.bl _=>true
 | _,_=>false
def rEq:R2:=λx y H Q=>Sd x y=true/\Q (.bl (decide (x=y))) H
def rNe:R2:=λx y H Q=>Sd x y=true/\Q (.bl (!decide (x=y))) H
theorem JU {i j:Int}:decide (V.int i=V.int j)=(i == j):=by
 rw [j5]
 simp
theorem Mp {i j:Bool}:decide (V.bl i=V.bl j)=(i == j):=by
 rw [j5]
 simp
theorem JV {i j:bA}:decide (V.str i=V.str j)=(i == j):=by
 rw [j5]
 simp
theorem JW {i j:Array UInt8}:decide (V.byt i=V.byt j)=(i.toList == j.toList):=by
 rw [j5]
 cases i
 cases j
 simp
section
variable {X:Cx}{a b c:Expr}{ta tb tc:TE}{pos:qQ}
theorem fc {pins:List (af×fR)}{σ:St}{H:Hp}{s:au}{Q:VK}{k k':Bool}(I:Inv X pins σ H s) (q:Q (.bl k) H) (e:k=k'):EP X pins σ Q (.bool k') s:=by
 subst e
 exact ⟨.bl k,H,I,rfl,q⟩
theorem Se:OpR X (dA .Eq) rEq:=by
 intro pins s σ H x y v u Q I rx ry h
 obtain ⟨hs,q⟩:=h
 cases x with
 | non =>
  cases rx
  cases y with
  | non=>cases ry;exact PySem.EqNone.eq_none_none (fc I q (by simp))
  | bl j=>cases ry;exact PySem.EqNone.eq_none_bool (fc I q (by simp))
  | int j=>obtain ⟨t',rfl⟩:=ry;exact PySem.EqNone.eq_none_int (fc I q (by simp))
  | str j=>obtain ⟨t',rfl⟩:=ry;exact PySem.EqNone.eq_none_str (fc I q (by simp))
  | _=>exact absurd (show false=true from hs) bF
 | bl i =>
  cases rx
  cases y with
  | non=>cases ry;exact PySem.EqNone.eq_bool_none (fc I q (by simp))
  | bl j=>cases ry;exact eq_bool (fc I q Mp)
  | str j=>obtain ⟨t',rfl⟩:=ry;exact PySem.EqMixed.eq_bool_str (fc I q (by simp))
  | _=>exact absurd (show false=true from hs) bF
 | int i =>
  obtain ⟨t,rfl⟩:=rx
  cases y with
  | non=>cases ry;exact PySem.EqNone.eq_int_none (fc I q (by simp))
  | int j=>obtain ⟨t',rfl⟩:=ry;exact eq_int (fc I q JU)
  | str j=>obtain ⟨t',rfl⟩:=ry;exact PySem.EqMixed.eq_int_str (fc I q (by simp))
  | _=>exact absurd (show false=true from hs) bF
 | str i =>
  obtain ⟨t,rfl⟩:=rx
  cases y with
  | non=>cases ry;exact PySem.EqNone.eq_str_none (fc I q (by simp))
  | bl j=>cases ry;exact PySem.EqMixed.eq_str_bool (fc I q (by simp))
  | int j=>obtain ⟨t',rfl⟩:=ry;exact PySem.EqMixed.eq_str_int (fc I q (by simp))
  | str j=>obtain ⟨t',rfl⟩:=ry;exact eq_str (fc I q JV)
  | _=>exact absurd (show false=true from hs) bF
 | byt i =>
  obtain ⟨t,rfl⟩:=rx
  cases y with
  | byt j=>obtain ⟨t',rfl⟩:=ry;exact PySem.W.eq_bytes (fc I q JW)
  | _=>exact absurd (show false=true from hs) bF
 | _=>cases y<;>exact absurd (show false=true from hs) bF
theorem Sf:OpR X (dA .NotEq) rNe:=by
 intro pins s σ H x y v u Q I rx ry h
 obtain ⟨hs,q⟩:=h
 cases x with
 | non =>
  cases rx
  cases y with
  | non=>cases ry;exact PySem.EqNone.ne_none_none (fc I q (by simp))
  | bl j=>cases ry;exact PySem.EqNone.ne_none_bool (fc I q (by simp))
  | int j=>obtain ⟨t',rfl⟩:=ry;exact PySem.EqNone.ne_none_int (fc I q (by simp))
  | str j=>obtain ⟨t',rfl⟩:=ry;exact PySem.EqNone.ne_none_str (fc I q (by simp))
  | _=>exact absurd (show false=true from hs) bF
 | bl i =>
  cases rx
  cases y with
  | non=>cases ry;exact PySem.EqNone.ne_bool_none (fc I q (by simp))
  | bl j=>cases ry;exact ne_bool (fc I q (congrArg not Mp))
  | str j=>obtain ⟨t',rfl⟩:=ry;exact PySem.EqMixed.ne_bool_str (fc I q (by simp))
  | _=>exact absurd (show false=true from hs) bF
 | int i =>
  obtain ⟨t,rfl⟩:=rx
  cases y with
  | non=>cases ry;exact PySem.EqNone.ne_int_none (fc I q (by simp))
  | int j=>obtain ⟨t',rfl⟩:=ry;exact ne_int (fc I q (congrArg not JU))
  | str j=>obtain ⟨t',rfl⟩:=ry;exact PySem.EqMixed.ne_int_str (fc I q (by simp))
  | _=>exact absurd (show false=true from hs) bF
 | str i =>
  obtain ⟨t,rfl⟩:=rx
  cases y with
  | non=>cases ry;exact PySem.EqNone.ne_str_none (fc I q (by simp))
  | bl j=>cases ry;exact PySem.EqMixed.ne_str_bool (fc I q (by simp))
  | int j=>obtain ⟨t',rfl⟩:=ry;exact PySem.EqMixed.ne_str_int (fc I q (by simp))
  | str j=>obtain ⟨t',rfl⟩:=ry;exact ne_str (fc I q (congrArg not JV))
  | _=>exact absurd (show false=true from hs) bF
 | byt i =>
  obtain ⟨t,rfl⟩:=rx
  cases y with
  | byt j=>obtain ⟨t',rfl⟩:=ry;exact PySem.W.ne_bytes (fc I q (congrArg not JW))
  | _=>exact absurd (show false=true from hs) bF
 | _=>cases y<;>exact absurd (show false=true from hs) bF
theorem JX:OpR X (dA .Lt) (xo λi j=>.bl (decide (i<j))):=OC λ_ _ _ _ _ _ _ q=>Oj q
theorem Gi:OpR X (dA .LtE) (xo λi j=>.bl (decide (i<=j))):=OC λ_ _ _ _ _ _ _ q=>le_int q
theorem Sg:OpR X (dA .Gt) (xo λi j=>.bl (decide (j<i))):=OC λ_ _ _ _ _ _ _ q=>gt_int q
theorem Sh:OpR X (dA .GtE) (xo λi j=>.bl (decide (j<=i))):=OC λ_ _ _ _ _ _ _ q=>ge_int q
theorem OpR.or {f:ai->ai->Qg ai}{r r':R2}(h:OpR X f r) (h':OpR X f r'):OpR X f (λx y H Q=>r x y H Q\/r' x y H Q):=by
 intro pins s σ H x y v u Q I rx ry q
 rcases q with q|q
 ·exact h pins s σ H x y v u Q I rx ry q
 ·exact h' pins s σ H x y v u Q I rx ry q
theorem fe (b:Expr) {op:Oh}(h:op≠.In:=by decide) (h2:op≠.NotIn:=by decide):la op b=false:=by
 have e1:(op == CmpOp.In)=false:=by cases op<;>first|rfl|exact absurd rfl h
 have e2:(op == CmpOp.NotIn)=false:=by cases op<;>first|rfl|exact absurd rfl h2
 cases b<;>simp [la,e1,e2]
theorem vH {op:Oh}{r:R2}(ho:OpR X (dA op) r) (ha:PE X a ta) (hb:PE X b tb) (hm:la op b=false):PE X (.Compare a [op] [b] pos) (dw r ta tb):=by
 intro pins s σ H Q I h
 exact wpAny_Compare1 (QE ha hb I h λv u s2 x y H2 I2 rx ry q=>ho pins s2 σ H2 x y v u Q I2 rx ry q) hm
def fI (t:TE):TT:=λσ H Q=>t σ H λx H'=>∃ k,x=.bl k/\Q k H'
theorem cU {op:Oh}{r:R2}(ho:OpR X (dA op) r) (ha:PE X a ta) (hb:PE X b tb) (hm:la op b=false):PT X (.Compare a [op] [b] pos) (fI (dw r ta tb)):=by
 intro pins s σ H Q I h
 refine Qh (ij (ha pins s σ H _ I h) λv s1 ⟨x,H1,I1,r1,q1⟩=>ij (hb pins s1 σ H1 _ I1 q1) λu s2 ⟨y,H2,I2,r2,q2⟩ =>
  ij (ho pins s2 σ H2 x y v u _ I2 r1 r2 q2) λc s3 ⟨z,H3,I3,r3,k,e,q3⟩=>?_) hm
 subst e
 cases r3
 exact jt ⟨H3,I3,q3⟩
def DY (r r':R2) (ta tb tc:TE):TE:=λσ H Q=>ta σ H λx H1=>tb σ H1 λy H2=>r x y H2 λz H3=>∃ k,z=.bl k /\
 (if k=true then tc σ H3 λw' H4=>r' y w' H4 Q else Q (.bl false) H3)
theorem Gj {op op':Oh}{r r':R2}(ho:OpR X (dA op) r) (ho':OpR X (dA op') r') (ha:PE X a ta) (hb:PE X b tb) (hc:PE X c tc)
  (hm:lastMarks [op,op'] [b,c]=false:=by with_unfolding_all rfl):PE X (.Compare a [op,op'] [b,c] pos) (DY r r' ta tb tc):=by
 intro pins s σ H Q I h
 refine Compare_chain (ij (ha pins s σ H _ I h) λv s1 ⟨x,H1,I1,r1,q1⟩=>chain_link (ij (hb pins s1 σ H1 _ I1 q1) λu s2 ⟨y,H2,I2,r2,q2⟩ =>
  ij (ho pins s2 σ H2 x y v u _ I2 r1 r2 q2) λd s3 ⟨z,H3,I3,r3,k,e,q3⟩=>?_)) hm
 subst e
 cases r3
 refine jt ?_
 cases k with
 | false=>exact ite_ff ⟨.bl false,H3,I3,rfl,q3⟩
 | true=>exact ite_tt (chain_last (ij (hc pins s3 σ H3 _ I3 q3) λw' s4 ⟨z',H4,I4,r4,q4⟩=>ho' pins s4 σ H4 y z' u w' Q I4 r2 r4 q4))
def OG (K:aa) (x:V) (H:Hp) (k:Bool):Prop :=
 match x with
 | .non=>k=false
 | .bl b=>k=b
 | .int i=>k=(i != 0)
 | .str y=>y.length<=a0/\k=((y.length:Int) != 0)
 | .byt y=>y.size<=a0/\k=((y.size:Int) != 0)
 | .ref p=>(∃ xs,SqL K H p xs/\k=!xs.isEmpty)\/(∃ xs,SqT K H p xs/\k=!xs.isEmpty)\/∃ kvs,H p=some (.dK kvs)/\k=!kvs.isEmpty
 | _=>False
theorem Ie {κ:Type} {kvs:List (κ×V)}{vs:List (κ×ai)}(r:KV kvs vs):(!vs.isEmpty)=!kvs.isEmpty:=by
 cases r<;>rfl
theorem zY {xs:List V}{its:List ai}(r:Vals xs its):(!its.toArray.isEmpty)=!xs.isEmpty:=by
 cases r<;>simp
theorem uX:(a0:Nat)<2^63:=by rw [qM];decide
theorem QG:Ue X (λx H Q=>∃ k,OG X.K x H k/\Q k H):=by
 intro pins s σ H x v Q I rx h
 obtain ⟨k,e,q⟩:=h
 have hl:=uX
 have hs:a0=16777216:=qM
 cases x with
 | non =>
  cases rx
  have e':k=false:=e
  subst e'
  exact truthy_none ⟨H,I,q⟩
 | bl b =>
  cases rx
  have e':k=b:=e
  subst e'
  exact jt ⟨H,I,q⟩
 | int i =>
  obtain ⟨t,rfl⟩:=rx
  have e':k=(i != 0):=e
  subst e'
  exact PySem.P.truthy_int ⟨H,I,q⟩
 | str y =>
  obtain ⟨t,rfl⟩:=rx
  obtain ⟨hy,e'⟩:y.length<=a0/\k=((y.length:Int) != 0):=e
  subst e'
  exact PySem.P.truthy_str (by omega) ⟨H,I.tok _,q⟩
 | byt y =>
  obtain ⟨t,rfl⟩:=rx
  obtain ⟨hy,e'⟩:y.size<=a0/\k=((y.size:Int) != 0):=e
  subst e'
  exact PySem.W.truthy_bytes (by omega) ⟨H,I.tok _,q⟩
 | ref p =>
  cases rx
  have e':(∃ xs,SqL X.K H p xs/\k=!xs.isEmpty)\/(∃ xs,SqT X.K H p xs/\k=!xs.isEmpty)\/∃ kvs,H p=some (.dK kvs)/\k=!kvs.isEmpty:=e
  rcases e' with ⟨xs,hx,e'⟩|⟨xs,hx,e'⟩|⟨kvs,hx,e'⟩
  ·subst e'
   obtain ⟨its,r,pl,hz⟩:=I.list hx
   have hlen:=r.length
   exact wpAny_truthy_list pl.isList (by simp only [aR];omega) ⟨H,I.tok _,by rw [zY r];exact q⟩
  ·subst e'
   obtain ⟨its,r,pl,hz⟩:=I.tuple hx
   have hlen:=r.length
   exact truthy_tuple pl (by simp only [aR];omega) ⟨H,I.tok _,by rw [zY r];exact q⟩
  ·subst e'
   obtain ⟨hz,hS,vs,r,m⟩:kvs.length<=a0/\(p == kN)=false/\∃ vs,KV kvs vs/\s.heap.DictOf (fQ X.prog X.w) p vs:=I.hok p _ hx
   have hlen:kvs.length=vs.length:=wQ r
   exact wpAny_truthy_dict hS m (by omega) ⟨H,I.tok _,by rw [Ie r];exact q⟩
 | _=>exact (show False from e).elim
theorem Mq (ha:PE X a ta) (he:∀ whole,isTrue a X.env whole=(do let v ← whole;zL a.pos;n5 [v] (truthy v))) :
  PT X a (λσ H Q=>ta σ H λx H'=>∃ k,OG X.K x H' k/\Q k H'):=by
 intro pins s σ H Q I h
 exact isTrue_plain (ij (ha pins s σ H _ I h) λv s1 ⟨x,H1,I1,r1,q1⟩=>QG pins s1 σ H1 x v Q I1 r1 q1) (he _)
theorem vals1 {x:V}{us:List ai}(r:Vals [x] us):∃ u,us=[u]/\RelV x u:=by
 cases r with
 | cons r1 r2=>cases r2;exact ⟨_,rfl,r1⟩
theorem vals2 {x y:V}{us:List ai}(r:Vals [x,y] us):∃ u w',us=[u,w']/\RelV x u/\RelV y w':=by
 cases r with
 | cons r1 r2 =>
  cases r2 with
  | cons r3 r4=>cases r4;exact ⟨_,_,rfl,r1,r3⟩
theorem xp (hc:X.calm=true):CallR X (.builtin "max") (λxs H Q=>∃ i j,xs=[.int i,.int j]/\Q (.int (if j>i then j else i)) H):=by
 intro pins s σ H xs us Q I r h
 obtain ⟨i,j,rfl,q⟩:=h
 obtain ⟨u,w',rfl,⟨t,rfl⟩,⟨t',rfl⟩⟩:=vals2 r
 refine max_two_ints (I.ok.hd hc) λh' tk k=>⟨_,H,I.kept k,?_,q⟩
 by_cases hj:j>i
 ·rw [if_pos hj,if_pos hj];exact ⟨_,rfl⟩
 ·rw [if_neg hj,if_neg hj];exact ⟨_,rfl⟩
theorem t7 (hc:X.calm=true):CallR X (.builtin "min") (λxs H Q=>∃ i j,xs=[.int i,.int j]/\Q (.int (if j<i then j else i)) H):=by
 intro pins s σ H xs us Q I r h
 obtain ⟨i,j,rfl,q⟩:=h
 obtain ⟨u,w',rfl,⟨t,rfl⟩,⟨t',rfl⟩⟩:=vals2 r
 refine min_two_ints (I.ok.hd hc) λh' tk k=>⟨_,H,I.kept k,?_,q⟩
 by_cases hj:j<i
 ·rw [if_pos hj,if_pos hj];exact ⟨_,rfl⟩
 ·rw [if_neg hj,if_neg hj];exact ⟨_,rfl⟩
end
end L2
namespace L2
open PySem PySem.Spec PyProof.Rows
structure ObjM (h:cm) (x dx C:af) (mA:bA->Option ai):Prop where
 obj:h.get? x=some (iG C dx)
 ns:h.Ns1 dx mA
 ne:dx≠x
theorem KJ {h:cm}{dx:af}{mA:bA->Option ai}(n:h.Ns1 dx mA):∃ od,h.get? dx=some od/\∀ name,uG name od=some (mA name):=by
 obtain ⟨o,es,ep,ho,hd,hk,_,hm⟩:=n
 refine ⟨o,ho,λname=>?_⟩
 have e:=hm name
 unfold nsFind findBy at e
 rw [← Array.find?_toList] at e
 unfold uG
 rw [hd]
 dsimp only
 split
 ·rename_i y q
  rw [q] at e
  exact congrArg some e
 ·rename_i q
  rw [q] at e
  have a:es.toList.any (·.refKey)=false:=by
   rw [List.any_eq_false]
   intro y hy
   obtain ⟨z,t,hkey⟩:=hk y (Array.mem_toList_iff.mp hy)
   simp [DictEntry.refKey,hkey]
  have a':¬ es.toList.any (·.refKey)=true:=by rw [a];exact bF
  rw [if_neg a']
  exact congrArg some e
theorem ObjM.look {h:cm}{x dx C:af}{mA:bA->Option ai}(I:ObjM h x dx C mA):∃ od,PySem.W.InstAt h x (iG C dx) C (some od)/\∀ name,uG name od=some (mA name) :=
 let ⟨od,ho,hl⟩:=KJ I.ns
 ⟨od,⟨I.obj,rfl,rfl,ho⟩,hl⟩
section
variable {prog:bp}{w:b8}{A:cp}{E:ai->au->Prop}{s:au}{K:aa}{x dx C f:af}{mA:bA->Option ai}{name:bA}{v:ai}
theorem OH {expr:Bool}{Q:ai->au->Prop}(X:K.In s.heap) (I:ObjM s.heap x dx C mA) (hg:jd K C name=true) (hh:j6 K C=true)
  (ha:bC K (.ref C) name=some none) (hv:mA name=some v) (hv':N0 v=true) (h:Q v { s with toks:=s.toks+1 }) :
  aK (aU prog w) A (getAttr (.ref x) name expr) Q E s:=by
 obtain ⟨od,J,hl⟩:=I.look
 exact PySem.W.get_value X J (vv hg).1 (PySem.W.findObj_own hh ha rfl (by rw [hl,hv])) hv' h
theorem Mr {pl:Qg Bool}{Q:ai×List ai->au->Prop}(X:K.In s.heap) (I:ObjM s.heap x dx C mA) (hg:jd K C name=true)
  (hf:bC K (.ref C) name=some (some (.ref f))) (ht:sN K (.ref f)=true) (hv:mA name=none) (h:Q (.ref f,[.ref x]) s) :
  aK (aU prog w) A (zM (.ref x) name pl) Q E s:=by
 obtain ⟨od,J,hl⟩:=I.look
 exact PySem.W.method_fn X J (vv hg).1 (vv hg).2 hf (beq_iff_eq.mp ht) (by show (uG name od).map (·.isSome)=some false;rw [hl,hv];rfl) h
theorem OI {ns:List bA}{Q:Unit->au->Prop}(X:K.In s.heap) (I:ObjM s.heap x dx C mA)
  (hs:bC K (.ref C) "__setattr__"=some (some (.builtin "object.__setattr__"))) (hp:nu K C=true) (ht:BA K C name=some none) (hh:j6 K C=true)
  (hw:JK mA ns) (hsz:ns.length<=a0)
  (h:∀ h',ObjM h' x dx C (λy=>if y=name then some v else mA y)->ig dx s.heap h'->Q () { s with heap:=h',toks:=s.toks+2 }) :
  aK (aU prog w) A (setAttr (.ref x) name v) Q E s:=by
 obtain ⟨od,J,hl⟩:=I.look
 refine PySem.W.set_plain X J hs (PySem.W.osa_open (s:={ s with toks:=s.toks+1 }) (r:=none) X J hp ht λb=>?_)
 obtain ⟨cd,hc,hd'⟩:=PySem.W.any_some hh
 have hx:s.heap.get? x=some ⟨.ref C,some dx,.plain,#[]⟩:=I.obj
 refine ae (ao (ae (ae (wpAny_loadPart hx (ae (PySem.W.Looks.here (s:={ s with toks:=s.toks+1 }) (PySem.W.looks_clsIn X hc) ?_))))))
 rw [hd']
 refine ao (a:=some dx) (ae (ao (ae ?_)))
 refine wpAny_nsSet1 (s:={ s with toks:=s.toks+1 }) I.ns λh' hn2 hs2=>?_
 obtain ⟨oD,esD,epD,hoD,hdD,hcD⟩:=hn2.count (PySem.Within.cons name v hw)
 refine ae (wpAny_lookBehind hoD (by rw [hdD];exact pastItsLine_dict (bg hcD (by rw [cg];omega))) ?_)
 exact ao (h _ ⟨(hs2.2 _ (Ne.symm I.ne)).trans I.obj,hn2,I.ne⟩ hs2)
theorem Ms {R:LG->au->Prop}{vs:List ai}{kw:List (bA×ai)}(X:K.In s.heap) (hm:pB K C=true)
  (hi:bC K (.ref C) "__init__"=some (some (.ref f))) (hf:PySem.W.typeIn K (.ref f)=some (.type "function"))
  (h:m8 (aU prog w) (A.under (.builtin "type.__call__" ⟨.ref C::vs,kw⟩)) (.call (.ref f) ⟨.ref (s.heap.objs.size+1)::vs,kw⟩) (PySem.W.InitBack (s.heap.objs.size+1) R)
   { s with heap:=(s.heap.push fG).push (iG C s.heap.objs.size) }) :
  m8 (aU prog w) A (.call (.ref C) ⟨vs,kw⟩) R s:=by
 obtain ⟨hh,g,d,t,os⟩:=s
 exact PySem.W.make_core (PySem.W.makes_of X hm) (PySem.W.looks_findIn X hi) (λself=>PySem.W.bind_fn X self hf) (.inl rfl) h
end
def d9 (f:bA) (v:V):List (bA×V)->List (bA×V)
 | []=>[(f,v)]
 | (g,x)::r=>if g=f then (g,v)::r else (g,x)::d9 f v r
theorem fJ (f g:bA) (v:V):∀ fs:List (bA×V),(d9 f v fs).lookup g=if g=f then some v else fs.lookup g
 | []=>by
  show eU g [(f,v)]=_
  by_cases h:g=f
  ·have hb:(g == f)=true:=beq_iff_eq.mpr h
   simp only [eU,hb,if_pos h]
  ·have hb:(g == f)=false:=beq_eq_false_iff_ne.mpr h
   simp only [eU,hb,if_neg h]
 | (k,x)::r=>by
  have ih:=fJ f g v r
  rw [show d9 f v ((k,x)::r)=(if k=f then (k,v)::r else (k,x)::d9 f v r) from rfl]
  by_cases hk:k=f
  ·rw [if_pos hk]
   by_cases h:g=k
   ·have hb:(g == k)=true:=beq_iff_eq.mpr h
    simp only [eU,hb,if_pos (h.trans hk)]
   ·have hb:(g == k)=false:=beq_eq_false_iff_ne.mpr h
    simp only [eU,hb,if_neg (λe:g=f=>h (e.trans hk.symm))]
  ·rw [if_neg hk]
   by_cases h:g=k
   ·have hb:(g == k)=true:=beq_iff_eq.mpr h
    simp only [eU,hb,if_neg (λe:g=f=>hk (h.symm.trans e))]
   ·have hb:(g == k)=false:=beq_eq_false_iff_ne.mpr h
    simp only [eU,hb]
    exact ih
theorem xq (f:bA) (v:V):∀ fs:List (bA×V),f∈(d9 f v fs).map (·.1)/\∀ g,g∈fs.map (·.1)->g∈(d9 f v fs).map (·.1)
 | []=>⟨by simp [d9],λg h=>by simp at h⟩
 | (k,x)::r=>by
  obtain ⟨i1,i2⟩:=xq f v r
  rw [show d9 f v ((k,x)::r)=(if k=f then (k,v)::r else (k,x)::d9 f v r) from rfl]
  by_cases hk:k=f
  ·rw [if_pos hk]
   subst hk
   exact ⟨by simp,λg h=>by simpa using h⟩
  ·rw [if_neg hk]
   refine ⟨?_,λg h=>?_⟩
   ·rw [bV]
    exact ag _ i1
   ·rw [bV] at h ⊢
    rcases ak.mp h with e|e
    ·exact ak.mpr (.inl e)
    ·exact ag _ (i2 g e)
theorem yn (f:bA) (v:V):∀ fs:List (bA×V),(d9 f v fs).length<=fs.length+1
 | []=>by simp [d9]
 | (k,x)::r=>by
  have ih:=yn f v r
  rw [show d9 f v ((k,x)::r)=(if k=f then (k,v)::r else (k,x)::d9 f v r) from rfl]
  by_cases hk:k=f
  ·rw [if_pos hk,cg,cg];omega
  ·rw [if_neg hk,cg,cg];omega
theorem RelO.some_of {v:V}{o:Option ai}(r:RelO (some v) o):∃ u,o=some u/\RelV v u:=by
 cases o with
 | none=>exact (show False from r).elim
 | some u=>exact ⟨u,rfl,r⟩
theorem RelO.none_of {o:Option ai}(r:RelO none o):o=none:=by
 cases o with
 | none=>rfl
 | some u=>exact (show False from r).elim
theorem KL {v:V}{u:ai}(r:RelV v u):N0 u=true:=by
 cases v with
 | non=>cases (show u=c9 from r);rfl
 | bl b=>cases (show u=qK b from r);rfl
 | int i=>obtain ⟨t,e⟩:=(show ∃ t,u=gN i t from r);cases e;rfl
 | str x=>obtain ⟨t,e⟩:=(show ∃ t,u=sM x t from r);cases e;rfl
 | byt b=>obtain ⟨t,e⟩:=(show ∃ t,u=Value.bytes b t from r);cases e;rfl
 | flt b=>obtain ⟨t,e⟩:=(show ∃ t,u=LC b t from r);cases e;rfl
 | ref a=>cases (show u=aI a from r);rfl
 | ty n=>cases (show u=fg n from r);rfl
section
variable {P:bp}{w:b8}{H H':Hp}{h h':cm}{a C dx:af}{fs fs':List (bA×V)}
theorem zB (hok:HOk P w H h) (e:H a=some (.ins C dx fs)):∃ mA,ObjM h a dx C mA/\(∀ f,RelO (fs.lookup f) (mA f))/\JK mA (fs.map (·.1))/\fs.length<=1000/\H dx=some (.own a):=by
 obtain ⟨d,z,ne,ob,mA,n,r,q⟩:=(show ObjOk P w H h a (.ins C dx fs) from hok a _ e)
 exact ⟨mA,⟨ob,n,ne⟩,r,q,z,d⟩
end
structure Cls (K:aa) (C:af):Prop where
 pg:jd K C Kp=true
 hd:j6 K C=true
 po:nu K C=true
 sa:bC K (.ref C) "__setattr__"=some (some (.builtin "object.__setattr__"))
theorem Cls.get {K:aa}{C:af}(c:Cls K C) (f:bA):jd K C f=true:=c.pg
def NoAttr (K:aa) (C:af) (f:bA):Prop:=bC K (.ref C) f=some none
theorem NoAttr.taker {K:aa}{C:af}{f:bA}(n:NoAttr K C f):BA K C f=some none:=by
 unfold BA
 rw [show bC K (.ref C) f=some none from n]
 rfl
structure OJ (K:aa) (C:af) (m:bA) (f:af):Prop where
 at_:bC K (.ref C) m=some (some (.ref f))
 fn:sN K (.ref f)=true
 kp:fH K (.ref f)=true
section
variable {X:Cx}{pins:List (af×fR)}{σ:St}{H:Hp}{s:au}{a C dx:af}{fs:List (bA×V)}{f:bA}{v:V}{A:cp}{E:ai->au->Prop}
theorem zZ {b:Bool}{Q:ai->au->Prop}(I:Inv X pins σ H s) (e:H a=some (.ins C dx fs)) (c:Cls X.K C) (n:NoAttr X.K C f) (l:fs.lookup f=some v)
  (h:∀ u s',Inv X pins σ H s'->RelV v u->Q u s'):aK (aU X.prog X.w) A (getAttr (.ref a) f b) Q E s:=by
 obtain ⟨mA,O,r,_,_,_⟩:=zB I.hok e
 obtain ⟨u,hu,ru⟩:=RelO.some_of (v:=v) (o:=mA f) (by rw [← l];exact r f)
 exact OH I.kIn O (c.get f) c.hd n hu (KL ru) (h u _ (I.tok _) ru)
theorem z4 {m:bA}{g:af}{pl:Qg Bool}{Q:ai×List ai->au->Prop}(I:Inv X pins σ H s) (e:H a=some (.ins C dx fs)) (c:Cls X.K C) (k:OJ X.K C m g) (l:fs.lookup m=none)
  (h:Q (.ref g,[.ref a]) s):aK (aU X.prog X.w) A (zM (.ref a) m pl) Q E s:=by
 obtain ⟨mA,O,r,_,_,_⟩:=zB I.hok e
 have hn:mA m=none:=RelO.none_of (by rw [← l];exact r m)
 exact Mr I.kIn O (c.get m) k.at_ k.fn hn h
theorem z6 {y:V}{u:ai}{Q:Unit->au->Prop}(I:Inv X pins σ H s) (e:H a=some (.ins C dx fs)) (c:Cls X.K C) (n:NoAttr X.K C f) (hl:fs.length<1000) (ry:RelV y u)
  (h:∀ s',Inv X pins σ (upd H a (.ins C dx (d9 f y fs))) s'->Q () s'):aK (aU X.prog X.w) A (setAttr (.ref a) f u) Q E s:=by
 obtain ⟨mA,O,r,wi,_,ho⟩:=zB I.hok e
 have hz:(fs.map (·.1)).length<=a0:=by rw [aj,qM];omega
 refine OI I.kIn O c.sa c.po n.taker c.hd wi hz λh' O' sb=>h _ ?_
 have hd:∃ o,h'.get? dx=some o:=let ⟨o,_,_,e',_⟩:=O'.ns;⟨o,e'⟩
 refine I.write (x:=a) (e:=dx) (by rw [e];exact jb) (.inr ho) (λb q hb z=>(sb.2 b hb).trans z) hd ?_
 refine ⟨by rw [aJ O.ne];exact ho,?_,O.ne,O'.obj,_,O'.ns,λg=>?_,λg hg=>?_⟩
 ·have:=yn f y fs;omega
 ·show RelO ((d9 f y fs).lookup g) (if g=f then some u else mA g)
  rw [fJ]
  by_cases q:g=f
  ·rw [if_pos q,if_pos q];exact ry
  ·rw [if_neg q,if_neg q];exact r g
 ·by_cases q:g=f
  ·rw [q];exact (xq f y fs).1
  ·refine (xq f y fs).2 g (wi g λz=>hg ?_)
   show (if g=f then some u else mA g)=none
   rw [if_neg q];exact z
theorem Inv.made (I:Inv X pins σ H s):Inv X pins σ (upd (upd H s.heap.objs.size (.own (s.heap.objs.size+1))) (s.heap.objs.size+1) (.ins C s.heap.objs.size []))
  { s with heap:=(s.heap.push fG).push (iG C s.heap.objs.size) }:=by
 have e1:(s.heap.push fG).get? s.heap.objs.size=some fG:=aM s.heap rfl
 have e2:((s.heap.push fG).push (iG C s.heap.objs.size)).get? (s.heap.objs.size+1)=some (iG C s.heap.objs.size):=by
  have:=aM (s.heap.push fG) (o:=iG C s.heap.objs.size) rfl
  rwa [jv] at this
 have e3:(s.heap.push fG).Ns s.heap.objs.size (λ_=>none):=⟨fG,#[],_,e1,rfl,(λe he=>absurd he (by simp)),λ_=>rfl⟩
 have I1:=I.laid (a:=s.heap.objs.size) (o:=.own (s.heap.objs.size+1)) (h':=s.heap.push fG) (t':=s.toks) (λb u q=>ax _ q) (aw _) ⟨_,e1⟩
 refine I1.laid (a:=s.heap.objs.size+1) (o:=.ins C s.heap.objs.size []) (t':=s.toks) (λb u q=>ax _ q) (BB (jv _ _)) ?_
 have ne:s.heap.objs.size≠s.heap.objs.size+1:=aW (lQ _)
 refine ⟨by rw [aJ ne,aD],a9 _,ne,e2,λ_=>none,(Heap.Ns1.of_empty e3).at λo q=>ax _ q,λ_=>jb,λy hy=>absurd rfl hy⟩
theorem OK {prog:bp}{w:b8}{env:HG}{e:Expr}{f:bA}{pos:qQ}{s:au}{Q:ai->au->Prop}(hb:BE e f env (fV e env)=fV e env)
  (h:aK (aU prog w) A (fV e env) (λo s₁=>aK (aU prog w) A (getAttr o f true) Q E s₁) E s):aK (aU prog w) A (fV (.Attribute e f pos) env) Q E s :=
 Attribute_any_ h (by rw [arm_eval_Attribute,hb])
end
def fj (K:aa) (ta:TE) (f:bA):TE:=λσ H Q=>ta σ H λx H1=>∃ a C dx fs v,x=.ref a/\H1 a=some (.ins C dx fs)/\Cls K C/\NoAttr K C f/\fs.lookup f=some v/\Q v H1
def uY (K:aa) (ta tv:TE) (f:bA):TS:=λD σ H=>tv σ H λy H1=>ta σ H1 λx H2=>∃ a C dx fs,x=.ref a/\H2 a=some (.ins C dx fs)/\Cls K C/\NoAttr K C f/\fs.length<1000 /\
 D.nx σ (upd H2 a (.ins C dx (d9 f y fs)))
def QH (X:Cx) (op:FG) (rd:V->V->Hp->VK->Prop):Prop :=
 ∀ (pins:List (af×fR)) (s:au) (σ:St) (H:Hp) (x y:V) (u v:ai) (Q:VK),Inv X pins σ H s->RelV x u->RelV y v->rd x y H Q->aK (aU X.prog X.w) X.A (zK op u v) (EP X pins σ Q) X.xe s
def t8 (K:aa) (ta tv:TE) (rd:V->V->Hp->VK->Prop) (f:bA):TS:=λD σ H=>ta σ H λx H1=>∃ a C dx fs v,x=.ref a/\H1 a=some (.ins C dx fs)/\Cls K C/\NoAttr K C f/\fs.lookup f=some v /\
 tv σ H1 λy H2=>rd v y H2 λz H3=>∃ dx' fs',H3 a=some (.ins C dx' fs')/\fs'.length<1000/\D.nx σ (upd H3 a (.ins C dx' (d9 f z fs')))
section
variable {X:Cx}{o e value:Expr}{f:bA}{pos pos' tpos:qQ}{ta tv:TE}
theorem cc (he:PE X e ta) (hb:BE e f X.env (fV e X.env)=fV e X.env):PE X (.Attribute e f pos) (fj X.K ta f):=by
 intro pins s σ H Q I h
 refine OK hb (ij (he pins s σ H _ I h) λu s1 ⟨x,H1,I1,rx,a,C,dx,fs,v,ex,ea,c,n,l,q⟩=>?_)
 subst ex
 obtain rfl:u=aI a:=rx
 exact zZ I1 ea c n l λu' s2 I2 ru=>⟨v,H1,I2,ru,q⟩
theorem nE (ha:PE X o ta) (hv:PE X value tv) (hs:Oi value (some (.Attribute o f pos')) pos.line X.env=pure false):PS X (.Assign [.Attribute o f pos'] value pos) (uY X.K ta tv f):=by
 intro pins s σ H D I h
 refine plainObj_wpAny_Assign_Attribute (ij (hv pins s σ H _ I h) λu s1 ⟨y,H1,I1,ry,q⟩=>ij (ha pins s1 σ H1 _ I1 q) λov s2 ⟨x,H2,I2,rx,a,C,dx,fs,ex,ea,c,n,l,q2⟩=>?_) hs
 subst ex
 obtain rfl:ov=aI a:=rx
 exact z6 I2 ea c n l ry λs3 I3=>⟨σ,_,I3,q2⟩
theorem t9 {op:FG}{rd:V->V->Hp->VK->Prop}(ha:PE X o ta) (hv:PE X value tv) (hop:QH X op rd):PS X (.AugAssign (.Attribute o f tpos) op value pos) (t8 X.K ta tv rd f):=by
 intro pins s σ H D I h
 refine wpAny_AugAssign_AttributeAny (ij (ha pins s σ H _ I h) λov s1 ⟨x,H1,I1,rx,a,C,dx,fs,v,ex,ea,c,n,l,q⟩=>?_)
 subst ex
 obtain rfl:ov=aI a:=rx
 refine zZ I1 ea c n l λu s2 I2 ru=>ij (hv pins s2 σ H1 _ I2 q) λw3 s3 ⟨y,H2,I3,ry,q3⟩=>ij (hop pins s3 σ H2 v y u w3 _ I3 ru ry q3) λw4 s4 ⟨z,H3,I4,rz,dx',fs',ea',l',q4⟩=>?_
 exact z6 I4 ea' c n l' rz λs5 I5=>⟨σ,_,I5,q4⟩
def KM:V->V->Hp->VK->Prop:=λx y H Q=>∃ i j,x=.int i/\y=.int j/\Q (.int (i+j)) H
theorem z7:QH X .Add KM:=by
 rintro pins s σ H x y u v Q I rx ry ⟨i,j,rfl,rfl,q⟩
 obtain ⟨t,rfl⟩:=(show ∃ t,u=gN i t from rx)
 obtain ⟨t',rfl⟩:=(show ∃ t',v=gN j t' from ry)
 exact Qi ⟨.int (i+j),H,I.tok _,⟨_,rfl⟩,q⟩
end
section
variable {X:Cx}{pins:List (af×fR)}{σ:St}{H:Hp}{s:au}{A:cp}{E:ai->au->Prop}{Q:ai->au->Prop}{c:ai}{b:Bool}
inductive vI (K:aa) (H:Hp):V->ai->Prop where
 | non:vI K H .non (.type "NoneType")
 | bl (x:Bool):vI K H (.bl x) (.type "bool")
 | int (i:Int):vI K H (.int i) (.type "int")
 | str (x:bA):vI K H (.str x) (.type "str")
 | flt (x:UInt64):vI K H (.flt x) (.type "float")
 | lst {a:af}{xs:List V}(e:H a=some (.lst xs)):vI K H (.ref a) (.type "list")
 | frz {a:af}{o:fR}{xs:List V}(e:H a=some (.frz o (.lst xs))):vI K H (.ref a) (.type "list")
 | tup {a:af}{xs:List V}(e:H a=some (.tup xs)):vI K H (.ref a) (.type "tuple")
 | dK {a:af}{kvs:List (ja×V)}(e:H a=some (.dK kvs)):vI K H (.ref a) (.type "dict")
 | dT {a:af}{kvs:List (List ja×V)}(e:H a=some (.dT kvs)):vI K H (.ref a) (.type "dict")
 | ins {a C dx:af}{fs:List (bA×V)}(e:H a=some (.ins C dx fs)) (cl:Cls K C) (ha:bC K (.ref C) "__class__"=some (some (.builtin "object.__class__")))
   (hn:PySem.W.specialIn K (.builtin "object.__class__") "__get__"=some (some (.builtin "getset_descriptor.__get__"))) (htk:PySem.W.takesIn K (.builtin "object.__class__")=some true)
   (hm:PySem.W.mroIn K C (.type "object")=some true):vI K H (.ref a) (.ref C)
theorem KN {x:V}{u t:ai}(I:Inv X pins σ H s) (rx:RelV x u) (ty:vI X.K H x t) (e:kO X.K t c=some b) (h:∀ tk,Q (.bool b) { s with toks:=tk }) :
  aK (aU X.prog X.w) A (call (.builtin "isinstance") [u,c]) Q E s:=by
 cases ty with
 | non=>cases (show u=c9 from rx);exact eX PySem.W.kitx_none I.kIn jb e (λz=>nomatch z) h
 | bl y=>cases (show u=qK y from rx);exact eX PySem.W.kitx_bool I.kIn jb e (λz=>nomatch z) h
 | int i=>obtain ⟨t,q⟩:=(show ∃ t,u=gN i t from rx);cases q;exact eX PySem.W.kitx_int I.kIn jb e (λz=>nomatch z) h
 | str y=>obtain ⟨t,q⟩:=(show ∃ t,u=sM y t from rx);cases q;exact eX PySem.W.kitx_str I.kIn jb e (λz=>nomatch z) h
 | flt y=>obtain ⟨t,q⟩:=(show ∃ t,u=LC y t from rx);cases q;exact eX PySem.W.kitx_float I.kIn jb e (λz=>nomatch z) h
 | @lst a xs ea =>
  cases (show u=aI a from rx)
  obtain ⟨_,_,n,_,h1⟩:=(show ObjOk X.prog X.w H s.heap a (.lst xs) from I.hok a _ ea)
  exact eX L9 I.kIn ⟨_,h1,rfl⟩ e (λz=>nomatch z) h
 | @frz a ob xs ea =>
  cases (show u=aI a from rx)
  obtain ⟨_,_,_,n,_,h1⟩:=(show ObjOk X.prog X.w H s.heap a (.frz ob (.lst xs)) from I.hok a _ ea)
  exact eX L9 I.kIn ⟨_,h1,rfl⟩ e (λz=>nomatch z) h
 | @tup a xs ea =>
  cases (show u=aI a from rx)
  obtain ⟨_,_,_,p⟩:=(show ObjOk X.prog X.w H s.heap a (.tup xs) from I.hok a _ ea)
  obtain ⟨o,h1,h2,_⟩:=p
  exact eX PySem.W.kitx_tuple I.kIn ⟨o,h1,h2⟩ e (λz=>nomatch z) h
 | @dK a kvs ea =>
  cases (show u=aI a from rx)
  obtain ⟨_,_,vs,_,p⟩:=(show ObjOk X.prog X.w H s.heap a (.dK kvs) from I.hok a _ ea)
  obtain ⟨o,es,ep,h1,h2,_⟩:=p
  exact eX Ma I.kIn ⟨o,h1,h2.1⟩ e (λz=>nomatch z) h
 | @dT a kvs ea =>
  cases (show u=aI a from rx)
  obtain ⟨_,_,xs,_,o,es,ep,h1,h2,_⟩:=(show ObjOk X.prog X.w H s.heap a (.dT kvs) from I.hok a _ ea)
  exact eX Ma I.kIn ⟨o,h1,h2.1⟩ e (λz=>nomatch z) h
 | @ins a C dx fs ea cl ha hn htk hm =>
  cases (show u=aI a from rx)
  obtain ⟨mA,O,_⟩:=zB I.hok ea
  obtain ⟨od,J,_⟩:=O.look
  exact eX (PySem.W.kitx_own (cl.get _) cl.hd ha hn htk hm) I.kIn J e (λz=>nomatch z) h
end
end L2
namespace L2
open PySem PySem.Spec PyProof.Rows
structure Room (k:Nat) (A:cp):Prop where
 hd:A.handled=none
 dp:A.depth+3*k+5<zq
 un:A.units+16*k+200<iH
theorem Room.mono {j k:Nat}{A:cp}(r:Room k A) (h:j<=k):Room j A:=⟨r.hd,by have:=r.dp;omega,by have:=r.un;omega⟩
theorem Room.deeper {k:Nat}{A:cp}(r:Room (k+1) A) (env:HG):Room k (A.deeper env) :=
 ⟨r.hd,by have:=r.dp;show A.depth+1+3*k+5<_;omega,by have:=r.un;show A.units+3+16*k+200<_;omega⟩
theorem Ig {A:cp}{C:af}{us:List ai}{kw:List (bA×ai)}:(A.under (.builtin "type.__call__" ⟨.ref C::us,kw⟩)).depth=A.depth+1:=by
 first|rfl|simp [HS,Code.weight,Code.isCreation,Code.isGuard,Code.isCaller,Code.frames,Kq,guardIds]
theorem Ih {A:cp}{C:af}{us:List ai}{kw:List (bA×ai)}:(A.under (.builtin "type.__call__" ⟨.ref C::us,kw⟩)).units=A.units+1:=by
 first|rfl|simp [HS,Code.cUnits,Code.frames,Kq]
theorem Room.make {k:Nat}{A:cp}(r:Room (k+1) A) (C:af) (us:List ai) (kw:List (bA×ai)):Room k (A.under (.builtin "type.__call__" ⟨.ref C::us,kw⟩)) :=
 ⟨r.hd,by have:=r.dp;rw [Ig];omega,by have:=r.un;rw [Ih];omega⟩
theorem Room.depth {k:Nat}{A:cp}(r:Room k A):A.depth<zq:=by have:=r.dp;omega
theorem Room.units {k:Nat}{A:cp}(r:Room k A):A.units+64<iH:=by have:=r.un;omega
def bj:TA:=λ_ H Q=>Q [] H
def aA (ta:TE) (tr:TA):TA:=λσ H Q=>ta σ H λx H1=>tr σ H1 λxs H2=>Q (x::xs) H2
section
variable {X:Cx}{e:Expr}{es:List Expr}{te:TE}{t:TA}{pos:qQ}
theorem aH:PA X [] bj:=λ_ _ _ _ H Q I h=>nR ⟨[],H,I,.nil,h⟩
theorem ah (ha:PE X e te) (hr:PA X es t) (hs:bG (e::es) X.env=(false,fV e X.env)::bG es X.env:=by rfl):PA X (e::es) (aA te t):=by
 intro pos pins s σ H Q I h
 rw [hs]
 show aK _ _ (Pr ((false,fV e X.env)::iV pos (bG es X.env))) _ _ s
 refine jQ (ij (ha pins s σ H _ I h) λu s1 ⟨x,H1,I1,r1,q1⟩=>?_)
 exact ij (hr pos pins s1 σ H1 _ I1 q1) λus s2 ⟨xs,H2,I2,r2,q2⟩=>⟨x::xs,H2,I2,.cons r1 r2,q2⟩
def uw (t:TA):TE:=λσ H Q=>t σ H λxs H1=>xs.length<=a0/\∀ p,H1 p=none->Q (.ref p) (upd H1 p (.tup xs))
def BJ (t:TA):TE:=λσ H Q=>t σ H λxs H1=>xs.length<=a0/\∀ p,H1 p=none->Q (.ref p) (upd H1 p (.lst xs))
theorem mj {x1} (h:PA X es t):PE X (.Tuple es x1 pos) (uw t):=by
 intro pins s σ H Q I hq
 refine R5 (ij (h pos pins s σ H _ I hq) λus s1 ⟨xs,H1,I1,r,z,q⟩=>⟨by rw [← r.length];exact z,?_⟩)
 have hf:H1 s1.heap.objs.size=none:=I1.hok.fresh (aw _)
 refine ⟨.ref s1.heap.objs.size,upd H1 s1.heap.objs.size (.tup xs),I1.laid (t':=s1.toks) (λb u e=>ax _ e) (aw _) ?_,rfl,q _ hf⟩
 exact ⟨z,us,r,⟨_,aM _ rfl,rfl,_,rfl⟩⟩
theorem sY (h:PA X es t):PE X (.List es pos) (BJ t):=by
 intro pins s σ H Q I hq
 refine wpAny_List_spliced (ij (h pos pins s σ H _ I hq) λus s1 ⟨xs,H1,I1,r,z,q⟩=>⟨by rw [← r.length];exact z,?_⟩)
 have hf:H1 s1.heap.objs.size=none:=I1.hok.fresh (aw _)
 refine ⟨.ref s1.heap.objs.size,upd H1 s1.heap.objs.size (.lst xs),I1.laid (t':=s1.toks) (λb u e=>ax _ e) (aw _) ?_,rfl,q _ hf⟩
 exact ⟨z,us,0,r,aM _ rfl⟩
end
abbrev Sp:=List V->Hp->VK->XK->Prop
abbrev Ii:=List HG->Hp->au->XK->ai->au->Prop
structure Env0 (P:bp) (w:b8) (K:aa) (mg:bA->Option ai) (base:cm) (A:cp) (outer:List HG) (s:au) (H:Hp):Prop where
 frames:A.frames=some outer
 mod:Mod K mg base
 bs:∀ b o,base.get? b=some o->s.heap.get? b=some o/\H b=none
 bsz:base.objs.size<=s.heap.objs.size
 funs:s.heap.FunFrames base outer
 frf:∀ b∈frs outer,H b=none
 hok:HOk P w H s.heap
 bare:wU s.gens
def CE (outer:List HG) (P:bp) (w:b8) (H:Hp) (s:au) (Q:VK) (u:ai) (s':au):Prop :=
 ∃ v H',s'.os=s.os/\wU s'.gens/\Un (frs outer) [] H H' s.heap s'.heap/\HOk P w H' s'.heap/\RelV v u/\Q v H'
def CR (CX:Ii) (outer:List HG) (P:bp) (w:b8) (H:Hp) (s:au) (Q:VK) (E:XK) (r:LG) (s':au):Prop :=
 match r with
 | .ok (.ret u)=>CE outer P w H s Q u s'
 | .ok _=>False
 | .error e=>CX outer H s E e s'
structure FnOk (P:bp) (w:b8) (K:aa) (mg:bA->Option ai) (base:cm) (CX:Ii) (k:Nat) (f:af) (fd:fP) (ps:List bA) (sp:Sp):Prop where
 len:∀ vs H Q E,sp vs H Q E->vs.length=ps.length
 run:∀ (A:cp) (outer:List HG) (s:au) (H:Hp) (args:Args) (us:List ai) (vs:List V) (Q:VK) (E:XK),Room k A->Env0 P w K mg base A outer s H->FH s fd args (ps.zip us)->Vals vs us->sp vs H Q E ->
  m8 (aU P w) A (.call (.ref f) args) (CR CX outer P w H s Q E) s
theorem Env0.make {P:bp}{w:b8}{K:aa}{mg:bA->Option ai}{base:cm}{A:cp}{outer:List HG}{s:au}{H:Hp}(e:Env0 P w K mg base A outer s H) (C:af) (us:List ai) (kw:List (bA×ai)) :
  Env0 P w K mg base (A.under (.builtin "type.__call__" ⟨.ref C::us,kw⟩)) outer s H:=⟨by first|exact e.frames|(simpa [HS,Code.envs,Kq,pushEnvs] using e.frames),e.mod,e.bs,e.bsz,e.funs,e.frf,e.hok,e.bare⟩
section
variable {X:Cx}{pins:List (af×fR)}{σ:St}{H:Hp}{s s':au}
theorem Inv.env0 (I:Inv X pins σ H s):Env0 X.prog X.w X.K X.mg X.base X.A X.stack s H :=
 ⟨I.ok.frames,I.ok.mod,I.bs,bg I.ok.bsz I.sz,I.stack,I.stkFree,I.hok,I.bare⟩
theorem Inv.after {Q:VK}{u:ai}(I:Inv X pins σ H s) (h:CE X.stack X.prog X.w H s Q u s'):EP X pins σ Q u s':=by
 obtain ⟨v,H',os,bare,un,hok,r,q⟩:=h
 obtain ⟨hh,g,d,t,os'⟩:=s'
 obtain rfl:os'=s.os:=os
 exact ⟨v,H',I.call (h':=hh) (g':=g) (d':=d) (t':=t) (ch:=[]) un hok bare (λb z=>absurd z (by simp)),r,q⟩
end
def de (sp:Sp) (dvs:List V) (E:XK) (t:TA):TE:=λσ H Q=>t σ H λvs H1=>sp (vs++dvs) H1 Q E
def eP (C:af) (m:bA) (sp:Sp) (dvs:List V) (E:XK) (ta:TE) (t:TA):TE:=λσ H Q=>ta σ H λx H1=>∃ a dx fs,x=.ref a/\H1 a=some (.ins C dx fs)/\fs.lookup m=none /\
 t σ H1 λvs H2=>sp (x::(vs++dvs)) H2 Q E
def Di (C:af) (sp:Sp) (dvs:List V) (E:XK) (t:TA):TE:=λσ H Q=>t σ H λvs H1=>∀ x dx,H1 x=none->H1 dx=none->dx≠x ->
 sp (.ref x::(vs++dvs)) (upd (upd H1 dx (.own x)) x (.ins C dx [])) (λv H2=>v=.non/\Q (.ref x) H2) E
def Binds (K:aa) (fd:fP) (ps:List bA) (ds:List ai):Prop :=
 ∀ (s:au) (us:List ai),K.In s.heap->(us++ds).length=ps.length->FH s fd ⟨us,[]⟩ (ps.zip (us++ds))
theorem Binds.all {K:aa}{fd:fP}{ps:List bA}(h:∀ us:List ai,us.length=ps.length->FI fd ⟨us,[]⟩=pure (ps.zip us)):Binds K fd ps []:=λs us _ hl=>by
 rw [DL] at hl ⊢
 exact .of_eq (h us hl)
def qD (CX:Ii) (X:Cx) (E:XK):Prop:=∀ (pins:List (af×fR)) (σ:St) (H:Hp) (s:au) (e:ai) (s':au),Inv X pins σ H s->CX X.stack H s E e s'->X.xe e s'
section
variable {X:Cx}{CX:Ii}{k:Nat}{f C:af}{fd:fP}{ps:List bA}{sp:Sp}{dvs:List V}{ds:List ai}{E:XK}{x m:bA}{p pos apos:qQ}{e o:Expr}{es:List Expr}{ta:TE}{t:TA}
theorem Ij {pins:List (af×fR)}{σ:St}{H:Hp}{s:au}{Q:VK}{us:List ai}{vs:List V}(F:FnOk X.prog X.w X.K X.mg X.base CX k f fd ps sp) (hr:Room k X.A) (hb:Binds X.K fd ps ds) (hd:Vals dvs ds) (hx:qD CX X E)
  (I:Inv X pins σ H s) (r:Vals vs us) (h:sp (vs++dvs) H Q E):aK (aU X.prog X.w) X.A (call (.ref f) us) (EP X pins σ Q) X.xe s:=by
 have r2:Vals (vs++dvs) (us++ds):=r.append hd
 have hl:(us++ds).length=ps.length:=by rw [← r2.length];exact F.len _ _ _ _ h
 refine LH (pC (F.run X.A X.stack s H ⟨us,[]⟩ (us++ds) (vs++dvs) Q E hr I.env0 (hb s us I.kIn hl) r2 h) λr s' hq=>?_)
 cases r with
 | error e=>exact hx pins σ H s e s' I hq
 | ok fl =>
  cases fl with
  | ret u=>exact I.after hq
  | next=>exact ip hq
  | brk=>exact ip hq
  | cont=>exact ip hq
theorem OL (F:FnOk X.prog X.w X.K X.mg X.base CX k f fd ps sp) (hr:Room k X.A) (hg:Gl X x) (hm:X.mg x=some (.ref f)) (hk:fH X.K (.ref f)=true) (hb:Binds X.K fd ps ds) (hd:Vals dvs ds) (hx:qD CX X E)
  (ha:PA X (e::es) t) (hdb:(x == ("__debug__":bA))=false:=by decide) (he:bG (e::es) X.env=(false,fV e X.env)::bG es X.env:=by rfl) (hpl:(iV pos (bG es X.env)).any (·.1)=false:=by rfl) :
  PE X (.Call (.Name x p) (e::es) [] pos) (de sp dvs E t):=by
 intro pins s σ H Q I h
 refine dN (DQ I hg hm ?_ hdb)
 refine wX (h₀:=X.base) I.ok.mod.kin hk (ij (ha pos pins s σ H _ I h) λus s1 ⟨vs,H1,I1,r,q⟩=>⟨I1.kIn,?_⟩) he hpl
 exact Ij F hr hb hd hx I1 r q
theorem OM {pl:Qg Bool}(he:PE X o ta) (c:Cls X.K C) (hm:OJ X.K C m f) (F:FnOk X.prog X.w X.K X.mg X.base CX k f fd ps sp) (hr:Room k X.A) (hb:Binds X.K fd ps ds) (hd:Vals dvs ds) (hx:qD CX X E) (ha:PA X (e::es) t)
  (hst:bG (e::es) X.env=(false,fV e X.env)::bG es X.env:=by rfl) (hpl:(iV pos (bG es X.env)).any (·.1)=false:=by rfl)
  (ht:fV (.Call (.Attribute o m apos) (e::es) [] pos) X.env=(do
   let ov ← fV o X.env
   zL apos.atName
   let (f,first) ← n5 [ov] (zM ov m pl)
   RG pos f first (iV pos (bG (e::es) X.env)) (LI pos (zr [] X.env))):=by rfl) :
  PE X (.Call (.Attribute o m apos) (e::es) [] pos) (eP C m sp dvs E ta t):=by
 intro pins s σ H Q I h
 refine HU (pl:=pl) (ij (he pins s σ H _ I h) λu s1 ⟨x,H1,I1,rx,a,dx,fs,ex,ea,l,q⟩=>?_) ht
 subst ex
 obtain rfl:u=aI a:=rx
 refine z4 I1 ea c hm l ?_
 refine wX (first:=[.ref a]) (h₀:=X.base) I.ok.mod.kin hm.kp (ij (ha pos pins s1 σ H1 _ I1 q) λus s2 ⟨vs,H2,I2,r,q2⟩=>⟨I2.kIn,?_⟩) hst hpl
 exact Ij (us:=.ref a::us) (vs:=.ref a::vs) F hr hb hd hx I2 (.cons rfl r) q2
theorem Mt {pl:Qg Bool}(he:PE X o ta) (c:Cls X.K C) (hm:OJ X.K C m f) (F:FnOk X.prog X.w X.K X.mg X.base CX k f fd ps sp) (hr:Room k X.A) (hb:Binds X.K fd ps ds) (hd:Vals dvs ds) (hx:qD CX X E)
  (ht:fV (.Call (.Attribute o m apos) [] [] pos) X.env=(do
   let ov ← fV o X.env
   zL apos.atName
   let (f,first) ← n5 [ov] (zM ov m pl)
   RG pos f first (iV pos (bG [] X.env)) (LI pos (zr [] X.env))):=by rfl) :
  PE X (.Call (.Attribute o m apos) [] [] pos) (eP C m sp dvs E ta bj):=by
 intro pins s σ H Q I h
 refine HU (pl:=pl) (ij (he pins s σ H _ I h) λu s1 ⟨x,H1,I1,rx,a,dx,fs,ex,ea,l,q⟩=>?_) ht
 subst ex
 obtain rfl:u=aI a:=rx
 refine z4 I1 ea c hm l ?_
 exact PySem.W.callWith_K0 (first:=[.ref a]) I1.kIn hm.kp (Ij (us:=[.ref a]) (vs:=[.ref a]) F hr hb hd hx I1 (.cons rfl .nil) q)
structure Mk (K:aa) (C f:af):Prop where
 makes:pB K C=true
 init:bC K (.ref C) "__init__"=some (some (.ref f))
 fn:sN K (.ref f)=true
 kp:fH K (.ref C)=true
theorem Mu {pins:List (af×fR)}{σ:St}{H:Hp}{s:au}{Q:VK}{us:List ai}{vs:List V}(M:Mk X.K C f) (F:FnOk X.prog X.w X.K X.mg X.base CX k f fd ps sp) (hr:Room (k+1) X.A) (hb:Binds X.K fd ps ds) (hd:Vals dvs ds)
  (hx:qD CX X E) (I:Inv X pins σ H s) (r:Vals vs us)
  (h:∀ x dx,H x=none->H dx=none->dx≠x->sp (.ref x::(vs++dvs)) (upd (upd H dx (.own x)) x (.ins C dx [])) (λv H2=>v=.non/\Q (.ref x) H2) E) :
  aK (aU X.prog X.w) X.A (call (.ref C) us) (EP X pins σ Q) X.xe s:=by
 have hq:=h (s.heap.objs.size+1) s.heap.objs.size (I.hok.fresh (eV _)) (I.hok.fresh (aw _)) (aW (lQ _))
 have I2:=Inv.made (C:=C) I
 have r2:Vals (V.ref (s.heap.objs.size+1)::(vs++dvs)) (aI (s.heap.objs.size+1)::(us++ds)):=.cons rfl (r.append hd)
 have hl:(aI (s.heap.objs.size+1)::us++ds).length=ps.length:=by
  have e:=r2.length
  rw [F.len _ _ _ _ hq] at e
  exact e.symm
 refine LH (Ms (f:=f) I.kIn M.makes M.init (beq_iff_eq.mp M.fn) (pC (F.run _ X.stack _ _ ⟨aI (s.heap.objs.size+1)::us,[]⟩ (aI (s.heap.objs.size+1)::(us++ds)) _ _ E (hr.make C us [])
  (I2.env0.make C us []) (hb _ (aI (s.heap.objs.size+1)::us) I2.kIn hl) r2 hq) λr s' hq'=>?_))
 cases r with
 | error e=>exact hx pins σ _ _ e s' I2 hq'
 | ok fl =>
  cases fl with
  | ret u =>
   obtain ⟨v,H',I3,rv,ev,q3⟩:=I2.after hq'
   subst ev
   exact ⟨rv,⟨V.ref (s.heap.objs.size+1),H',I3,rfl,q3⟩⟩
  | next=>exact ip hq'
  | brk=>exact ip hq'
  | cont=>exact ip hq'
theorem zC (M:Mk X.K C f) (F:FnOk X.prog X.w X.K X.mg X.base CX k f fd ps sp) (hr:Room (k+1) X.A) (hg:Gl X x) (hm:X.mg x=some (.ref C)) (hb:Binds X.K fd ps ds) (hd:Vals dvs ds) (hx:qD CX X E)
  (ha:PA X (e::es) t) (hdb:(x == ("__debug__":bA))=false:=by decide) (he:bG (e::es) X.env=(false,fV e X.env)::bG es X.env:=by rfl) (hpl:(iV pos (bG es X.env)).any (·.1)=false:=by rfl) :
  PE X (.Call (.Name x p) (e::es) [] pos) (Di C sp dvs E t):=by
 intro pins s σ H Q I h
 refine dN (DQ I hg hm ?_ hdb)
 refine wX (h₀:=X.base) I.ok.mod.kin M.kp (ij (ha pos pins s σ H _ I h) λus s1 ⟨vs,H1,I1,r,q⟩=>⟨I1.kIn,?_⟩) he hpl
 exact Mu M F hr hb hd hx I1 r q
end
section
variable {X:Cx}{CX:Ii}{k:Nat}{f C:af}{fd:fP}{ps ks:List bA}{sp:Sp}{E:XK}{x m:bA}{p pos apos kpos:qQ}{e o:Expr}{es:List Expr}{kws:List Keyword}{te ta:TE}{t tk:TA}{nm:Option bA}
variable {g:List ai->List ai->List ai}{gV:List V->List V->List V}
end
structure bL (N P:List bA) (sc:lH):Prop where
 kind:sc.kind=.function
 co:sc.isCoroutine=false
 gen:sc.isGenerator=false
 nd:N.Nodup
 pre:N.take P.length=P
 par:∀ x∈P,sc.names.lookup x=some .local\/sc.names.lookup x=some .cell
 nofree:∀ y∈sc.names,y.2≠.free
theorem Dj {kindOf:bA->Option k8}{x:bA}:∀ {binds:List (bA×ai)}{m:bA->Option ai},(∀ v,(x,v)∉binds)->Ol kindOf binds m x=m x
 | [],_,_=>rfl
 | (n,v)::r,m,h=>by
  unfold Ol
  rw [Dj λw hw=>h w (ag _ hw)]
  split
  ·have:x≠n:=by rintro rfl;exact h v aq
   simp [this]
  ·rfl
theorem Dk {kindOf:bA->Option k8}{x:bA}:∀ {binds:List (bA×ai)}{m:bA->Option ai},(∀ v,(x,v)∉binds)->Om kindOf binds m x=m x
 | [],_,_=>rfl
 | (n,v)::r,m,h=>by
  unfold Om
  rw [Dk λw hw=>h w (ag _ hw)]
  split
  ·rfl
  ·have:x≠n:=by rintro rfl;exact h v aq
   simp [this]
theorem Dl {kindOf:bA->Option k8}{x:bA}{v:ai}:∀ {P:List bA}{vs:List ai}{i:Nat}{m:bA->Option ai},P.Nodup->P[i]?=some x->vs[i]?=some v->kindOf x=some .local ->
  Ol kindOf (P.zip vs) m x=some v
 | [],_,_,_,_,h,_,_=>by simp at h
 | _::_,[],_,_,_,_,h,_=>by simp at h
 | p::P,w::vs,0,m,nd,h1,h2,hk=>by
  simp at h1 h2;subst h1;subst h2
  show Ol kindOf ((p,w)::P.zip vs) m p=_
  unfold Ol
  rw [Dj λv hv=>(bf.mp nd).1 (DM hv).1,if_pos hk]
  simp
 | p::P,w::vs,i+1,m,nd,h1,h2,hk=>by
  show Ol kindOf ((p,w)::P.zip vs) m x=_
  unfold Ol
  exact Dl (i:=i) (bf.mp nd).2 (by simpa using h1) (by simpa using h2) hk
theorem Dm {kindOf:bA->Option k8}{x:bA}{v:ai}:∀ {P:List bA}{vs:List ai}{i:Nat}{m:bA->Option ai},P.Nodup->P[i]?=some x->vs[i]?=some v->kindOf x≠some .local ->
  Om kindOf (P.zip vs) m x=some v
 | [],_,_,_,_,h,_,_=>by simp at h
 | _::_,[],_,_,_,_,h,_=>by simp at h
 | p::P,w::vs,0,m,nd,h1,h2,hk=>by
  simp at h1 h2;subst h1;subst h2
  show Om kindOf ((p,w)::P.zip vs) m p=_
  unfold Om
  rw [Dk λv hv=>(bf.mp nd).1 (DM hv).1,if_neg hk]
  simp
 | p::P,w::vs,i+1,m,nd,h1,h2,hk=>by
  show Om kindOf ((p,w)::P.zip vs) m x=_
  unfold Om
  exact Dm (i:=i) (bf.mp nd).2 (by simpa using h1) (by simpa using h2) hk
def start (N:List bA) (vs:List V):St:=vs.map some++qR (N.length-vs.length) none
def eW (CX:Ii) (P:bp) (w:b8) (K:aa) (mg:bA->Option ai) (base:cm) (N:List bA) (qual:bA) (scope:lH) (f:af) (cd:ai) (A:cp) (outer:List HG) (s:au) (H:Hp) (E:XK):Cx where
 prog:=P
 w:=w
 K:=K
 mg:=mg
 base:=base
 A:=A.deeper (zt qual scope s.heap.objs.size f cd)
 N:=N
 s₀:=s
 H₀:=H
 env:=zt qual scope s.heap.objs.size f cd
 outer:=outer
 stack:=zt qual scope s.heap.objs.size f cd::outer
 ex:=[]
 calm:=true
 fn:=λ_=>true
 pn:=[]
 xe:=λe s'=>aK (aU P w) (A.deeper (zt qual scope s.heap.objs.size f cd)) (leaving (zt qual scope s.heap.objs.size f cd) e) (λ_ s''=>CX outer H s E e s'') (λe' s''=>CX outer H s E e' s'') s'
theorem Gk {sc:lH}{n:Nat}{x:bA}(h:sc.names.lookup x=some .cell):∃ c,(cellsFrom n sc.names []).lookup x=some c:=by
 have q:=HI sc.names n [] (.inl h)
 exact Option.isSome_iff_exists.mp q
theorem KO {CX:Ii}{P:bp}{w:b8}{K:aa}{mg:bA->Option ai}{base:cm}{N ps:List bA}{qual:bA}{scope:lH}{f:af}{cd:ai}{A:cp}{outer:List HG}{s s1:au}{H:Hp}{E:XK}{us:List ai}{vs:List V}
  (S:bL N ps scope) (hd:A.handled=none) (e0:Env0 P w K mg base A outer s H) (hl:vs.length=ps.length) (r:Vals vs us)
  (x:InCallC s s.heap.objs.size (Ol (zt qual scope s.heap.objs.size f cd).kindOf (ps.zip us) λ_=>none) (cellsFrom (s.heap.objs.size+1) scope.names []) (Om (zt qual scope s.heap.objs.size f cd).kindOf (ps.zip us) λ_=>none) s1) :
  Inv (eW CX P w K mg base N qual scope f cd A outer s H E) [] (start N vs) H s1:=by
 have hpl:ps.length<=N.length:=by have:=congrArg ft S.pre;rw [bw] at this;omega
 obtain ⟨h1,tk,rfl,hk⟩:=x.done
 have noA:∀ b:af,b∉(eW CX P w K mg base N qual scope f cd A outer s H E).ex:=λb z=>absurd (show b∈([]:List af) from z) (by simp)
 refine ⟨⟨e0.mod,S.kind,rfl,rfl,aw _,λy z c h1 h2=>?_,λy hy=>?_,λy c _ h=>?_,λ_=>hd,Around.frames_deeper e0.frames,.inr ⟨rfl,rfl⟩,λb z=>absurd z (noA b),e0.bs,e0.bsz,λb _ _=>noA b,λb z=>absurd z (noA b),e0.funs,e0.frf⟩,
  rfl,e0.bare,Un.kept hk,⟨_,x.toInCall.ns,λi y v h1 h2 h3=>?_⟩,λy c h=>⟨_,x.cell y c h⟩,e0.hok.fresh (aw _),λy c h=>?_,λp hp=>absurd (show p∈([]:List (af×fR)) from hp) (by simp),e0.hok.kept hk,?_⟩
 ·exact name_of_addr x.apart (lR h1) (lR h2)
 ·have hy:scope.names.lookup y=some .cell\/scope.names.lookup y=some .free:=hy
  rcases hy with hy|hy
  ·exact Gk hy
  ·exact absurd rfl (S.nofree _ (lR hy))
 ·exact oM (x.above y c (lR h))
 ·have hi:i<vs.length:=by
   unfold start at h2
   by_cases hi:i<vs.length
   ·exact hi
   ·rw [bx (by simpa using hi)] at h2
    rw [JL] at h2
    split at h2<;>cases h2
  have ha:vs[i]?=some v:=by
   unfold start at h2
   rw [ck (by simpa using hi),ay] at h2
   cases e:vs[i]? with
   | none=>rw [e] at h2;cases h2
   | some a=>rw [e] at h2;cases h2;rfl
  obtain ⟨u,hu,rv⟩:=r.get ha
  have hp:ps[i]?=some y:=by
   rw [← S.pre,List.getElem?_take_of_lt (by omega)];exact h1
  have ndP:ps.Nodup:=by rw [← S.pre];exact S.nd.sublist (List.take_sublist _ _)
  refine ⟨u,rv,?_⟩
  rcases S.par y (aG hp) with k|k
  ·exact .inl ⟨k,Dl ndP hp hu k⟩
  ·obtain ⟨c,e⟩:=Gk (n:=s.heap.objs.size+1) k
   refine .inr ⟨.inl k,c,e,?_⟩
   have q:=x.cell y c e
   rw [Dm ndP hp hu (by show scope.names.lookup y≠_;rw [k];decide)] at q
   exact q
 ·exact e0.hok.fresh (oM (x.above y c (lR h)))
 ·unfold start
  show _=N.length
  rw [aX,aj,uT]
  omega
theorem PN {CX:Ii}{P:bp}{w:b8}{K:aa}{mg:bA->Option ai}{base:cm}{k:Nat}{f:af}{name qual:bA}{params:sC}{body:List dE}{scope:lH}{dV kV doc pm cdv ct oc:ai}{an od:Option af}
  {osl:Array (Option ai)}{N ps:List bA}{sp:Sp}(lk:K.lookup f=some ⟨oc,od,.func (iS name qual params body scope dV kV doc pm an cdv ct),osl⟩) (hcd:qk K cdv qual=true) (S:bL N ps scope)
  (len:∀ vs H Q E,sp vs H Q E->vs.length=ps.length)
  (hbody:∀ (A:cp) (outer:List HG) (s:au) (H:Hp) (vs:List V) (Q:VK) (E:XK),Room k (A.deeper (zt qual scope s.heap.objs.size f cdv))->sp vs H Q E ->
   ∃ t,PSs (eW CX P w K mg base N qual scope f cdv A outer s H E) body t/\t { nx:=λ_ H'=>Q .non H',rt:=Q } (start N vs) H) :
  FnOk P w K mg base CX (k+1) f (iS name qual params body scope dV kV doc pm an cdv ct) ps sp:=by
 refine ⟨len,λA outer s H args us vs Q E hr e0 hb r hsp=>?_⟩
 have hl:=len _ _ _ _ hsp
 have KX:K.In s.heap:=e0.mod.kin.keeps λb o e=>(e0.bs b o e).1
 have lim:s.heap.NoLimit:=e0.mod.nolimit.keeps λb o e=>(e0.bs b o e).1
 have hkind:∀ y∈ps.zip us,scope.names.lookup y.1=some .local\/(scope.names.lookup y.1=some .cell/\((cellsFrom (s.heap.objs.size+1) scope.names []).lookup y.1).isSome=true):=λ⟨n,v⟩ hy=>by
  rcases S.par n (DM hy).1 with q|q
  ·exact .inl q
  ·exact .inr ⟨q,HI _ _ _ (.inl q)⟩
 refine codeAny_call_function hr.depth (KX _ _ lk) rfl S.co S.gen rfl (PySem.W.codeRec_of KX hcd) (hb _ _ _ _ ?_)
 refine wpAny_newFunctionEnv_cells S.kind hkind λenv he s1 x=>?_
 subst he
 refine ⟨lim.keeps x.toInCall.keep,codeAny_func ?_⟩
 obtain ⟨t,ht,hq⟩:=hbody A outer s H vs Q E (hr.deeper _) hsp
 have I:Inv (eW CX P w K mg base N qual scope f cdv A outer s H E) [] (start N vs) H s1:=KO S hr.hd e0 hl r x
 refine gf (ht [] s1 (start N vs) H _ I hq) (λfl s' hs=>?_) λe s' hs=>hs
 have fin:∀ {σ':St}{H':Hp}{v:V}{u:ai},Inv (eW CX P w K mg base N qual scope f cdv A outer s H E) [] σ' H' s'->RelV v u->Q v H'->CE outer P w H s Q u s' :=
  λ{σ' H' v u} J rv q=>⟨v,H',J.os,J.bare,J.base,J.hok,rv,q⟩
 cases fl with
 | ret u =>
  obtain ⟨v,σ',H',J,rv,q⟩:=hs
  exact fin J rv q
 | next =>
  obtain ⟨σ',H',J,q⟩:=hs
  exact fin (v:=V.non) (u:=c9) J rfl q
 | brk =>
  obtain ⟨_,_,_,q⟩:=hs
  exact ip q
 | cont =>
  obtain ⟨_,_,_,q⟩:=hs
  exact ip q
end L2
namespace L2
open PySem PySem.Spec PyProof.Rows
section
variable {X:Cx}{x:bA}{p pos:qQ}{e:Expr}{es:List Expr}{t:TA}{id T:String}{r:List V->Hp->VK->Prop}
def ux (r:List V->Hp->VK->Prop) (t:TA):TE:=λσ H Q=>t σ H λvs H1=>r vs H1 Q
theorem cX (hc:CallR X (.builtin id) r) (hg:Gl X x) (hm:X.mg x=none) (hv:dz x=some (.builtin id)) (ha:PA X (e::es) t) (hn:x≠"__name__":=by decide) (hdb:(x == ("__debug__":bA))=false:=by decide)
  (he:bG (e::es) X.env=(false,fV e X.env)::bG es X.env:=by rfl) (hpl:(iV pos (bG es X.env)).any (·.1)=false:=by rfl):PE X (.Call (.Name x p) (e::es) [] pos) (ux r t):=by
 intro pins s σ H Q I h
 refine dN (oO I hg hm hv ?_ hn hdb)
 exact nh (ij (ha pos pins s σ H _ I h) λus s1 ⟨vs,H1,I1,r1,q1⟩=>hc pins s1 σ H1 vs us Q I1 r1 q1) he hpl
theorem KQ (hc:CallR X (.type T) r) (hg:Gl X x) (hm:X.mg x=none) (hv:dz x=some (.type T)) (ha:PA X (e::es) t) (hn:x≠"__name__":=by decide) (hdb:(x == ("__debug__":bA))=false:=by decide)
  (he:bG (e::es) X.env=(false,fV e X.env)::bG es X.env:=by rfl) (hpl:(iV pos (bG es X.env)).any (·.1)=false:=by rfl):PE X (.Call (.Name x p) (e::es) [] pos) (ux r t):=by
 intro pins s σ H Q I h
 refine dN (oO I hg hm hv ?_ hn hdb)
 exact dI (ij (ha pos pins s σ H _ I h) λus s1 ⟨vs,H1,I1,r1,q1⟩=>hc pins s1 σ H1 vs us Q I1 r1 q1) he hpl
end
end L2
namespace HT
open PySem PyProof.Rows
def lexLt:List Int->List Int->Bool
 | [],[]=>false
 | [],_::_=>true
 | _::_,[]=>false
 | x::xs,y::ys=>if x=y then lexLt xs ys else decide (x<y)
theorem z8 (x y:Int) (xs ys:List Int):lexLt (x::xs) (y::ys)=if x=y then lexLt xs ys else decide (x<y):=rfl
theorem BK:lexLt [] []=false:=rfl
theorem z9 (y:Int) (ys:List Int):lexLt [] (y::ys)=true:=rfl
theorem Aa (x:Int) (xs:List Int):lexLt (x::xs) []=false:=rfl
theorem Mv (A:cp) (s:au) (a:Int) (t:RE) (c:Int) (u:RE):∃ e,SeqAt.EqAt A s (.int a t) (.int c u) e/\(e=true↔a=c) :=
 ⟨(a == c),jh a t c u,by simp⟩
theorem Mw (A:cp) (s:au) (a:Int) (t:RE) (c:Int) (u:RE) (prog:bp) (w:b8) (E:ai->au->Prop) (Q:ai->au->Prop) (h:Q (.bool (decide (a<c))) s) :
  aK (aU prog w) A (richCompare .Lt (.int a t) (.int c u)) Q E s :=
 (Oj h:aK (aU prog w) A (dA .Lt (.int a t) (.int c u)) Q E s)
section
open PySem.SeqAt
open PySem.AutoSeq1 (wpAny_loadPart')
open PySem.MeetsSeq PySem.MeetsSeq2 PySem.MeetsSeq3
theorem BL (l b:af) (items items2:Array ai) (n n2:Nat) (dd dd2:Option af) (sl sl2:Array (Option ai)) (ns ms:List Int) (hi:fS items.toList ns) (hj:fS items2.toList ms) :
  Meets (jW.«tuple.__lt__» ⟨[.ref l,.ref b],[]⟩)
   (λ_ R s=>s.heap.get? l=some { cls:=.type "tuple",dict:=dd,data:=.seq items n,slots:=sl }/\s.heap.get? b=some { cls:=.type "tuple",dict:=dd2,data:=.seq items2 n2,slots:=sl2 } /\
    R (.ok (.ret (.bool (lexLt ns ms)))) s) :=
 .of_wp λprog w A R s h=>by
  obtain ⟨hp,g,d,tk,os⟩:=s;obtain ⟨hl,hb,h⟩:=h
  have f2:=AutoSeq1.sub_tuple_tuple
  have z1:items.size=ns.length:=by rw [← hi.length];simp
  have z2:items2.size=ms.length:=by rw [← hj.length];simp
  wp_walk using wpAny_loadPart' hl,wpAny_loadPart' hb,wpAny_forIn_list _ (λrest b s'=>b.1=none/\s'=⟨hp,g,d,tk,os⟩/\∃ (vs ws:List ai) (ns' ms':List Int),rest=vs.zip ws /\
   fS vs ns'/\fS ws ms'/\ns'.length+items2.size=ms'.length+items.size/\R (.ok (.ret (.bool (lexLt ns' ms')))) ⟨hp,g,d,tk,os⟩) _
  case turn =>
   rintro ⟨y,x⟩ rest b s' ⟨hb',rfl,vs,ws,ns',ms',hz,hvi,hwi,hlen,hR⟩
   cases hvi with
   | nil=>rw [List.zip_nil_left] at hz;cases hz
   | cons a t hvi' =>
    cases hwi with
    | nil=>rw [List.zip_nil_right] at hz;cases hz
    | cons c u hwi' =>
     rw [jX] at hz
     injection hz with hyx hrest
     injection hyx with hy hx
     subst hy hx
     rw [z8] at hR
     simp only [cg] at hlen
     obtain ⟨e,he,hiff⟩:=Mv A.in1 ⟨hp,g,d,tk,os⟩ a t c u
     refine ae (he prog w _ _ ?_)
     cases e with
     | true =>
      rw [if_pos (hiff.mp rfl)] at hR
      wp_walk
      exact ⟨rfl,rfl,_,_,_,_,hrest,hvi',hwi',by omega,hR⟩
     | false =>
      rw [if_neg (λq=>absurd (hiff.mpr q) bF)] at hR
      have hri:=Mw A.in1 ⟨hp,g,d,tk,os⟩ a t c u prog w
      wp_walk using hri
      exact ⟨_,rfl,by simpa using hR⟩
  case fin =>
   rintro ⟨b1,b2⟩ s' ⟨hb',rfl,vs,ws,ns',ms',hz,hvi,hwi,hlen,hR⟩
   simp only at hb'
   subst hb'
   have hv:lexLt ns' ms'=decide (items.size<items2.size):=by
    cases hvi with
    | nil =>
     cases hwi with
     | nil =>
      simp only [qg] at hlen
      rw [BK]
      exact (decide_eq_false (by omega)).symm
     | cons c u hw =>
      simp only [qg,cg] at hlen
      rw [z9]
      exact (decide_eq_true (by omega)).symm
    | cons a t hv =>
     cases hwi with
     | nil =>
      simp only [qg,cg] at hlen
      rw [Aa]
      exact (decide_eq_false (by omega)).symm
     | cons c u hw =>
      rw [jX] at hz
      cases hz
   rw [hv] at hR
   wp_walk
   exact ⟨_,rfl,by simpa [Builtin.Tuple.tupleCompareSizes] using hR⟩
  case h =>
   exact ⟨rfl,rfl,items.toList,items2.toList,ns,ms,rfl,hi,hj,by omega,h⟩
end
section
variable {prog:bp}{w:b8}{A:cp}{E:ai->au->Prop}{s:au}
theorem Ik {l b:af}{items items2:Array ai}{ns ms:List Int}{Q:ai->au->Prop}(hl:rZ s.heap l items) (hb:rZ s.heap b items2) (hi:fS items.toList ns) (hj:fS items2.toList ms)
  (hu:A.units<iH) (h:Q (.bool (lexLt ns ms)) s):aK (aU prog w) A (dA .Lt (.ref l) (.ref b)) Q E s:=by
 obtain ⟨⟨cls,dd,data,sl⟩,ho,hc,n,hd⟩:=id hl
 obtain ⟨⟨cls2,dd2,data2,sl2⟩,ho2,hc2,n2,hd2⟩:=id hb
 simp only at hc hd hc2 hd2
 subst hc hd hc2 hd2
 exact richCompare_meets_room (op:=.Lt) ⟨_,ho,rfl⟩ ⟨_,ho2,rfl⟩ PySem.F.slot_tuple_lt PySem.F.entry_tuple_lt (PySem.F.args_tuple_lt_2 _ _) (BL l b items items2 n n2 dd dd2 sl sl2 ns ms hi hj)
  ⟨ho,ho2,show qK (lexLt ns ms)≠Value.notImplemented/\Q (.bool (lexLt ns ms)) s from ⟨(λx=>nomatch x),h⟩⟩ hu
def nz (n d:Nat):Option Int->Nat
 | none=>d
 | some v=>if v<0 then (v+(n:Int)).toNat else min v.toNat n
theorem Gm (n d:Nat):nz n d none=d:=rfl
theorem ON (n d k:Nat):nz n d (some (k:Int))=min k n:=by
 show (if (k:Int)<0 then ((k:Int)+(n:Int)).toNat else min (k:Int).toNat n)=min k n
 rw [if_neg (by omega),hV]
theorem QI (n d:Nat) (hd:d<=n) (o:Option Int):nz n d o<=n:=by
 cases o with
 | none=>exact hd
 | some v =>
  show (if v<0 then (v+(n:Int)).toNat else min v.toNat n)<=n
  by_cases hv:v<0
  ·rw [if_pos hv];omega
  ·rw [if_neg hv];exact Nat.min_le_right _ _
theorem JY (v:Int) (n d:Nat):(if v<0 then max (v+(n:Int)) 0 else min v (n:Int))=((nz n d (some v):Nat):Int):=by
 show (if v<0 then max (v+(n:Int)) 0 else min v (n:Int))=(((if v<0 then (v+(n:Int)).toNat else min v.toNat n):Nat):Int)
 by_cases hv:v<0
 ·simp only [if_pos hv];omega
 ·simp only [if_neg hv];omega
theorem Il (lo hi:Option Int) (n:Nat):pD lo hi 1 (n:Int)=(((nz n 0 lo:Nat):Int),((nz n n hi:Nat):Int)):=by
 have h1:¬ ((1:Int)<0):=by omega
 unfold pD
 simp only [h1,if_false]
 refine FX ?_ ?_
 ·cases lo with
  | none=>rfl
  | some v=>exact JY v n 0
 ·cases hi with
  | none=>rfl
  | some v=>exact JY v n n
theorem Im (i j:Nat):j7 (i:Int) (j:Int) 1=j-i:=by
 unfold j7
 have h1:(1:Int)>0:=by omega
 simp only [h1,if_true,Int.ediv_one]
 split<;>omega
theorem Ab {v:ai}{o:Option Int}{Q:Option Int->au->Prop}(p:HJ v o) (h:Q o s):aK (aU prog w) A (Builtin.Slice.slicePartIndex v) Q E s:=by
 cases p with
 | none=>exact slicePart_none h
 | int i t=>exact slicePart_int h
theorem xr {sl:af}{vl vu:ai}{lo hi:Option Int}{n:Nat}{Q:Int×Int×Nat->au->Prop}(hs:s.heap.IsSliceOf sl vl vu .none) (pl:HJ vl lo) (pu:HJ vu hi)
  (h:Q (((nz n 0 lo:Nat):Int),1,nz n n hi-nz n 0 lo) s):aK (aU prog w) A (yj (.ref sl) (pure (n:Int))) Q E s:=by
 obtain ⟨os,hos,hcs,hds⟩:=id hs
 unfold yj Builtin.Slice.sliceFields
 refine ae (ae (lZ hos hds (x:=vl) rfl (ae (lZ hos hds (x:=vu) rfl (ae (lZ hos hds (x:=.none) rfl (ao ?_)))))))
 refine ae (slicePart_none ?_)
 show aK _ _ (if ((1:Int) == 0)=true then _ else _) _ _ s
 rw [if_neg (by decide)]
 refine ae (Ab pl (ae (Ab pu (ae (ao ?_)))))
 show aK _ _ (match pD lo hi 1 (n:Int) with|(lo,hi)=>pure (lo,(1:Int),j7 lo hi 1)) _ _ s
 rw [Il lo hi n]
 show aK _ _ (pure (((nz n 0 lo:Nat):Int),(1:Int),j7 ((nz n 0 lo:Nat):Int) ((nz n n hi:Nat):Int) 1)) _ _ s
 rw [Im]
 exact ao h
theorem Mx (xs:Array ai) (i k:Nat):((gh k).filterMap λ(m:Nat)=>xs[((i:Int)+(m:Int)*1).toNat]?).toArray=((xs.toList.drop i).take k).toArray:=by
 have e:(λ(m:Nat)=>xs[((i:Int)+(m:Int)*1).toNat]?)=λm=>xs[i+m]?:=by
  funext m
  have:((i:Int)+(m:Int)*1).toNat=i+m:=by omega
  rw [this]
 rw [e]
 have:=pick_run xs i k
 rw [List.filterMap_map] at this
 have e2:((λx=>xs[x]?)∘λx=>i+x)=λm=>xs[i+m]?:=rfl
 rw [e2] at this
 rw [this]
theorem vJ {t sl:af}{items:Array ai}{vl vu:ai}{lo hi:Option Int}{Q:ai->au->Prop}(ht:rZ s.heap t items) (hs:s.heap.IsSliceOf sl vl vu .none) (pl:HJ vl lo) (pu:HJ vu hi)
  (hw:¬ (nz items.size 0 lo=0/\nz items.size items.size hi=items.size))
  (h:Q (.ref s.heap.objs.size) { s with heap:=s.heap.push { cls:=.type "tuple",data:=.seq ((items.toList.drop (nz items.size 0 lo)).take (nz items.size items.size hi-nz items.size 0 lo)).toArray } })
  (hsz:items.size<=a0):aK (aU prog w) A (Kr (.ref t) (.ref sl)) Q E s:=by
 have htake:sizeOk (.seq ((items.toList.drop (nz items.size 0 lo)).take (nz items.size items.size hi-nz items.size 0 lo)).toArray):=by
  show ((items.toList.drop (nz items.size 0 lo)).take (nz items.size items.size hi-nz items.size 0 lo)).toArray.size<=a0
  rw [aR,bw,bz,aT]
  omega
 have hj:nz items.size items.size hi<=items.size:=QI _ _ (aw _) hi
 obtain ⟨os,hos,hcs,hds⟩:=id hs
 have hTs:s.TypeIs (.ref sl) "slice":=⟨os,hos,hcs⟩
 unfold Kr
 try with_reducible refine cB ?_
 first|refine ae (ao ?_)|skip
 refine ae (wpAny_sequenceKey ht.typeIs (by decide) ?_)
 refine ae (cZ (name:=gI "__getitem__") ht.typeIs jP
  (cH jP ht.typeIs entry_tuple_getitem ?_ (args_tuple_getitem _ _)))
 show aK _ _ (Builtin.Tuple.tupleItemsOf (.ref t) >>= _) _ _ s
 refine ae (tupleItemsOf_ ht ?_)
 refine ae (FJ hTs ?_)
 rw [if_pos (by decide)]
 refine ae (xr hs pl pu ?_)
 have hno:¬ ((((nz items.size 0 lo:Nat):Int) == 0 && (1:Int) == 1 && (nz items.size items.size hi-nz items.size 0 lo) == items.size)=true):=by
  intro q
  rw [gm,gm] at q
  have q1:((nz items.size 0 lo:Nat):Int)=0:=eq_of_beq q.1.1
  have q2:nz items.size items.size hi-nz items.size 0 lo=items.size:=eq_of_beq q.2
  exact hw ⟨by omega,by omega⟩
 show aK _ _ (if (((nz items.size 0 lo:Nat):Int) == 0 && (1:Int) == 1 && (nz items.size items.size hi-nz items.size 0 lo) == items.size)=true then _ else _) _ _ s
 rw [if_neg hno,Mx]
 first
  | exact ae (m:=kP _) (cI (ao ⟨_,rfl,ao h⟩) htake)
  | exact ae (m:=kP _) (cI (ae (ao (ao ⟨_,rfl,ao h⟩))) htake)
  | exact ae (ae (m:=kP _) (cI (ao (ao ⟨_,rfl,ao h⟩)) htake))
  | exact ae (ae (m:=kP _) (cI (ao ⟨_,rfl,ao h⟩) htake))
end
end HT
namespace L2
open PySem PySem.Spec PyProof.Rows
abbrev TO:=St->Hp->(Option Int->Hp->Prop)->Prop
def PO (X:Cx) (e:Option Expr) (t:TO):Prop :=
 ∀ (pins:List (af×fR)) (s:au) (σ:St) (H:Hp) (Q:Option Int->Hp->Prop),Inv X pins σ H s->t σ H Q ->
  aK (aU X.prog X.w) X.A (evalPart e X.env) (λu s'=>∃ o H',Inv X pins σ H' s'/\HJ u o/\Q o H') X.xe s
def kB:TO:=λ_ H Q=>Q none H
def om (t:TE):TO:=λσ H Q=>t σ H λx H1=>∃ i,x=.int i/\Q (some i) H1
theorem intsAre_of {ns:List Int}:∀ {us:List ai},Vals (ns.map V.int) us->fS us ns:=by
 induction ns with
 | nil=>intro us r;rw [Ks] at r;cases r;exact .nil
 | cons n ns ih =>
  intro us r
  rw [bV] at r
  cases r with
  | cons r1 r2 =>
   obtain ⟨t,e⟩:=r1
   subst e
   exact .cons n t (ih r2)
section
variable {X:Cx}{e:Expr}{te:TE}{lo hi:Option Expr}{tl th:TO}{pos p2:qQ}
theorem ml:PO X none kB:=by
 intro pins s σ H Q I h
 rw [evalPart_none]
 exact ao ⟨none,H,I,.none,h⟩
theorem jj (h:PE X e te):PO X (some e) (om te):=by
 intro pins s σ H Q I hw
 rw [evalPart_some]
 refine ij (h pins s σ H _ I hw) λu s1 ⟨x,H1,I1,r1,q1⟩=>?_
 obtain ⟨i,rfl,q⟩:=q1
 obtain ⟨t,rfl⟩:=r1
 exact ⟨some i,H1,I1,.int i t,q⟩
def Ug (X:Cx) (r:V->Option Int->Option Int->Hp->VK->Prop):Prop :=
 ∀ (pins:List (af×fR)) (s:au) (σ:St) (H:Hp) (x:V) (v vl vu:ai) (lo hi:Option Int) (sl:af) (Q:VK),Inv X pins σ H s->RelV x v->s.heap.IsSliceOf sl vl vu .none->HJ vl lo->HJ vu hi->r x lo hi H Q ->
  ∃ T id,typeLookup (.type T) "__getitem__"=pure (some (.builtin id))/\s.TypeIs v T/\aK (aU X.prog X.w) X.A (Kr v (.ref sl)) (EP X pins σ Q) X.xe s
def Io (r:V->Option Int->Option Int->Hp->VK->Prop) (te:TE) (tl th:TO):TE:=λσ H Q=>te σ H λx H1=>tl σ H1 λl H2=>th σ H2 λu H3=>r x l u H3 Q
theorem iY {r:V->Option Int->Option Int->Hp->VK->Prop}(hr:Ug X r) (he:PE X e te) (hl:PO X lo tl) (hu:PO X hi th):PE X (.Subscript e (.Slice lo hi none p2) pos) (Io r te tl th):=by
 intro pins s σ H Q I h
 refine Subscript_ (ij (he pins s σ H _ I h) λv s1 ⟨x,H1,I1,r1,q1⟩=>?_)
 refine wpAny_Slice (ij (hl pins s1 σ H1 _ I1 q1) λvl s2 ⟨l,H2,I2,pl,q2⟩=>ij (hu pins s2 σ H2 _ I2 q2) λvu s3 ⟨u,H3,I3,pu,q3⟩=>?_)
 rw [evalPart_none]
 refine ao ?_
 have I4:Inv X pins σ H3 { s3 with heap:=s3.heap.push { cls:=.type "slice",data:=.fields #[vl,vu,.none] } }:=I3.kept (t':=s3.toks) λb ob q=>ax _ q
 obtain ⟨T,id,hT,ht,hg⟩:=hr pins { s3 with heap:=s3.heap.push { cls:=.type "slice",data:=.fields #[vl,vu,.none] } } σ H3 x v vl vu l u s3.heap.objs.size Q I4 r1 (Heap.IsSliceOf.new ..) pl pu q3
 show aK (aU X.prog X.w) X.A (subscriptTail e (.Slice lo hi none p2) v (.ref s3.heap.objs.size)) (EP X pins σ Q) X.xe { s3 with heap:=s3.heap.push { cls:=.type "slice",data:=.fields #[vl,vu,.none] } }
 exact tail_any (ops:=[.ref s3.heap.objs.size,v]) ht hT hg (by with_unfolding_all rfl)
def xt (xs:List V) (lo hi:Option Int):List V:=(xs.drop (HT.nz xs.length 0 lo)).take (HT.nz xs.length xs.length hi-HT.nz xs.length 0 lo)
theorem yo (xs:List V) (lo hi:Option Int):(xt xs lo hi).length<=xs.length:=by
 unfold xt
 rw [bw,bz]
 omega
def QJ (K:aa):V->Option Int->Option Int->Hp->VK->Prop:=λx lo hi H Q=>∃ a xs,x=.ref a/\SqT K H a xs /\
 ¬ (HT.nz xs.length 0 lo=0/\HT.nz xs.length xs.length hi=xs.length)/\∀ p,H p=none->Q (.ref p) (upd H p (.tup (xt xs lo hi)))
theorem My:Ug X (QJ X.K):=by
 intro pins s σ H x v vl vu lo hi sl Q I rx hs pl pu h
 obtain ⟨a,xs,rfl,hx,hw,q⟩:=h
 cases rx
 obtain ⟨its,r,ht,hz⟩:=I.tuple hx
 have hlen:its.toArray.size=xs.length:=by rw [aR];exact r.length.symm
 refine ⟨"tuple",_,jP.lookup,ht.typeIs,?_⟩
 refine HT.vJ ht hs pl pu (by rw [hlen];exact hw) ?_ (by rw [hlen];exact hz)
 rw [hlen]
 refine ⟨.ref s.heap.objs.size,_,I.laid (t':=s.toks) (o:=.tup (xt xs lo hi)) (λb ob q=>ax _ q) (aw _) ?_,rfl,q _ (I.hok.fresh (aw _))⟩
 exact ⟨bg (yo xs lo hi) hz,_,(r.drop (HT.nz xs.length 0 lo)).take (HT.nz xs.length xs.length hi-HT.nz xs.length 0 lo),IsTup.new _ _⟩
end
end L2
namespace L2
open PySem PySem.Spec PyProof.Rows
def KR (n:Nat) (i:Int):Option Nat:=if 0<=i then (if i<n then some i.toNat else none) else if -(n:Int)<=i then some (i+n).toNat else none
def KU {α:Type} (xs:List α) (i:Int):Option α:=(KR xs.length i).bind λj=>xs[j]?
theorem JZ {n:Nat}{i:Int}{j:Nat}(h:KR n i=some j):seqIndex? i n=some j/\j<n/\-(n:Int)<=i/\i<n:=by
 unfold KR at h
 by_cases h0:0<=i
 ·rw [if_pos h0] at h
  by_cases h1:i<n
  ·rw [if_pos h1] at h
   have e:i.toNat=j:=aS h
   exact ⟨by rw [RH h0 h1,e],by omega,by omega,h1⟩
  ·rw [if_neg h1] at h;cases h
 ·rw [if_neg h0] at h
  by_cases h1:-(n:Int)<=i
  ·rw [if_pos h1] at h
   have e:(i+n).toNat=j:=aS h
   exact ⟨by rw [seqIndex_neg (by omega) h1,e],by omega,h1,by omega⟩
  ·rw [if_neg h1] at h;cases h
theorem J0 {α:Type} {xs:List α}{i:Int}{v:α}(h:KU xs i=some v):∃ j,seqIndex? i xs.length=some j/\xs[j]?=some v/\j<xs.length/\-(xs.length:Int)<=i/\i<xs.length:=by
 unfold KU at h
 cases e:KR xs.length i with
 | none=>rw [e] at h;cases h
 | some j =>
  rw [e] at h
  obtain ⟨h1,h2,h3,h4⟩:=JZ e
  exact ⟨j,h1,h,h2,h3,h4⟩
theorem OO {α:Type} {xs:List α}{j:Nat}{v:α}(h:xs[j]?=some v):KU xs (j:Int)=some v:=by
 have hj:j<xs.length:=(aB.mp h).1
 have e:KR xs.length (j:Int)=some j:=by
  unfold KR
  rw [if_pos (by omega),if_pos (by omega)];simp
 unfold KU;rw [e];exact h
theorem Ac {α:Type} (xs:List α) (v:α):KU (xs++[v]) (-1)=some v:=by
 have hl:(xs++[v]).length=xs.length+1:=by simp
 have e:KR (xs++[v]).length (-1)=some xs.length:=by
  unfold KR
  rw [hl,if_neg (by decide),if_pos (by omega)]
  congr 1
  omega
 unfold KU
 rw [e]
 show (xs++[v])[xs.length]?=some v
 simp
def OP (b:Expr):Prop:=∀ o i,subscripted b false o i=operate [o,i] (Kr o i)
def IxR (X:Cx) (r:R2):Prop :=
 ∀ (value slice:Expr) (pins:List (af×fR)) (s:au) (σ:St) (H:Hp) (x y:V) (v u:ai) (Q:VK),Inv X pins σ H s->RelV x v->RelV y u->r x y H Q ->
  subscripted slice false v u=operate [v,u] (Kr v u)->aK (aU X.prog X.w) X.A (subscriptTail value slice v u) (EP X pins σ Q) X.xe s
def MtR (X:Cx) (id:String) (r:V->List V->Hp->VK->Prop):Prop :=
 ∀ (pins:List (af×fR)) (s:au) (σ:St) (H:Hp) (x:V) (xs:List V) (v:ai) (us:List ai) (Q:VK),Inv X pins σ H s->RelV x v->Vals xs us->r x xs H Q ->
  aK (aU X.prog X.w) X.A (call (.builtin id) (v::us)) (EP X pins σ Q) X.xe s
section
variable {X:Cx}{a b:Expr}{ta tb:TE}{pos:qQ}
theorem IxR.or {r r':R2}(h:IxR X r) (h':IxR X r'):IxR X (λx y H Q=>r x y H Q\/r' x y H Q):=by
 intro value slice pins s σ H x y v u Q I rx ry q hs
 rcases q with q|q
 ·exact h value slice pins s σ H x y v u Q I rx ry q hs
 ·exact h' value slice pins s σ H x y v u Q I rx ry q hs
theorem df {r:R2}(hr:IxR X r) (ha:PE X a ta) (hb:PE X b tb) (hs:OP b):PE X (.Subscript a b pos) (dw r ta tb):=by
 intro pins s σ H Q I h
 exact Subscript_ (QE ha hb I h λv u s2 x y H2 I2 rx ry q=>hr a b pins s2 σ H2 x y v u Q I2 rx ry q (hs _ _))
def Si (K:aa):R2:=λx y H Q=>∃ p xs i v,x=.ref p/\y=.int i/\SqL K H p xs/\KU xs i=some v/\Q v H
def Sj (K:aa):R2:=λx y H Q=>∃ p xs i v,x=.ref p/\y=.int i/\SqT K H p xs/\KU xs i=some v/\Q v H
theorem OQ:IxR X (Si X.K):=by
 intro value slice pins s σ H x y v u Q I rx ry h hs
 obtain ⟨p,xs,i,z,rfl,rfl,hq,he,q⟩:=h
 cases rx
 obtain ⟨t,rfl⟩:=ry
 obtain ⟨its,r,pl,hz⟩:=I.list hq
 obtain ⟨j,h1,h2,h3,h4,h5⟩:=J0 he
 obtain ⟨w,ew,rw'⟩:=r.get h2
 have hl:=r.length
 have hn:=uX
 have fin:EP X pins σ Q w s:=⟨z,H,I,rw',q⟩
 by_cases h0:0<=i
 ·have hj:i.toNat=j:=by
   rw [RH h0 h5] at h1
   exact aS h1
  exact item_listR pl.isList h0 (by omega) (by rw [hj];simpa using ew) fin hs
 ·have hj:(i+(its.toArray.size:Int)).toNat=j:=by
   rw [seqIndex_neg (by omega) h4] at h1
   rw [aR,← hl]
   exact aS h1
  exact Pu (x:=w) pl.isList.typeIs slot_list_getitem.lookup
   (wpAny_getItem_list_neg (Q:=λr s'=>r=w/\EP X pins σ Q r s') pl.isList (by omega) (by rw [aR]<;>omega) (by omega) (by rw [hj];simpa using ew) ⟨rfl,fin⟩) hs
theorem QK:IxR X (Sj X.K):=by
 intro value slice pins s σ H x y v u Q I rx ry h hs
 obtain ⟨p,xs,i,z,rfl,rfl,hq,he,q⟩:=h
 cases rx
 obtain ⟨t,rfl⟩:=ry
 obtain ⟨its,r,pl,hz⟩:=I.tuple hq
 obtain ⟨j,h1,h2,h3,h4,h5⟩:=J0 he
 obtain ⟨w,ew,rw'⟩:=r.get h2
 have hl:=r.length
 have hn:=uX
 have fin:EP X pins σ Q w s:=⟨z,H,I,rw',q⟩
 exact Pu (x:=w) pl.typeIs jP.lookup
  (getItem_tuple (j:=j) (Q:=λr s'=>r=w/\EP X pins σ Q r s') pl (by omega) (by omega) (by rw [aR,← hl];exact h1) (by simpa using ew) ⟨rfl,fin⟩) hs
theorem Ip (its:List ai) (n j:Nat) (u:ai):bH (·.setIfInBounds j u) { cls:=.type "list",data:=.seq its.toArray n }={ cls:=.type "list",data:=.seq (its.set j u).toArray n }:=by
 simp [bH]
theorem Inv.lst {pins:List (af×fR)}{σ:St}{H:Hp}{s:au}{p:af}{xs:List V}(I:Inv X pins σ H s) (h:H p=some (.lst xs)) :
  ∃ (its:List ai) (n:Nat),Vals xs its/\s.heap.get? p=some { cls:=.type "list",data:=.seq its.toArray n }/\xs.length<=a0:=by
 obtain ⟨z,its,n,r,e⟩:=I.hok p _ h
 exact ⟨its,n,r,e,z⟩
theorem Inv.lstUpd {pins:List (af×fR)}{σ:St}{H:Hp}{s:au}{p:af}{xs ys:List V}{its its':List ai}{n n':Nat}{f:fR->fR}(I:Inv X pins σ H s) (h:H p=some (.lst xs))
  (ho:s.heap.get? p=some { cls:=.type "list",data:=.seq its.toArray n }) (hf:f { cls:=.type "list",data:=.seq its.toArray n }={ cls:=.type "list",data:=.seq its'.toArray n' }) (r:Vals ys its') (hz:ys.length<=a0) (t:Nat) :
  Inv X pins σ (upd H p (.lst ys)) { s with heap:=s.heap.update p f,toks:=t }:=by
 have e:(s.heap.update p f).get? p=some { cls:=.type "list",data:=.seq its'.toArray n' }:=by
  rw [bP f ho (by rw [hf]<;>rfl),hf]
 refine I.write (x:=p) (e:=p) (by rw [h];trivial) (.inl rfl) (λb u hb q=>(cu _ _ (Ne.symm hb)).trans q) ⟨_,e⟩ ?_
 exact ⟨hz,its',n',r,e⟩
def PP:V->V->V->Hp->(Hp->Prop)->Prop:=λo i v H Q=>∃ p xs k j,o=.ref p/\i=.int k/\H p=some (.lst xs)/\KR xs.length k=some j/\Q (upd H p (.lst (xs.set j v)))
theorem Mz:Oy X PP:=by
 intro pins s σ H o i v ov iv u Q I ro ri rv h
 obtain ⟨p,xs,k,j,rfl,rfl,hp,hj,q⟩:=h
 cases ro
 obtain ⟨t,rfl⟩:=ri
 obtain ⟨its,n,r,ho,hz⟩:=I.lst hp
 obtain ⟨h1,h2,h3,h4⟩:=JZ hj
 have hl:=r.length
 have hn:=uX
 have I':Inv X pins σ (upd H p (.lst (xs.set j v))) { s with heap:=s.heap.update p (bH (·.setIfInBounds j u)) } :=
  I.lstUpd hp ho (Ip its n j u) (r.set rv j) (by rw [List.length_set];exact hz) s.toks
 by_cases h0:0<=k
 ·have hk:k.toNat=j:=by
   rw [RH h0 h4] at h1
   exact aS h1
  exact PySem.W.ki_setAt ho h0 (by omega) (by rw [aR,← hl];exact h4) (by rw [hk];exact ⟨_,I',q⟩)
 ·have hk:(k+(its.toArray.size:Int)).toNat=j:=by
   rw [seqIndex_neg (by omega) h3] at h1
   rw [aR,← hl]
   exact aS h1
  exact PySem.W.ki_setBack ho (by omega) (by rw [aR,← hl];exact h3) (by omega) (by rw [hk];exact ⟨_,I',q⟩)
theorem DZ (lo hi:Option Int) (n:Nat):(qN lo hi none n).1=((HT.nz n 0 lo:Nat):Int)/\(qN lo hi none n).2.1=((HT.nz n n hi:Nat):Int)/\(qN lo hi none n).2.2=1:=by
 refine ⟨?_,?_,rfl⟩
 ·cases lo with
  | none=>simp [qN,HT.nz]
  | some i =>
   simp only [qN,HT.nz,On,show (1:Int)>0 by decide,if_true]
   by_cases h:i<0
   ·simp only [h,if_true]<;>omega
   ·simp only [h,if_false]<;>omega
 ·cases hi with
  | none=>simp [qN,HT.nz]
  | some i =>
   simp only [qN,HT.nz,On,show (1:Int)>0 by decide,if_true]
   by_cases h:i<0
   ·simp only [h,if_true]<;>omega
   ·simp only [h,if_false]<;>omega
theorem BM (its:List ai) (lo hi:Option Int):slicePick its.toArray lo hi none=((its.drop (HT.nz its.length 0 lo)).take (HT.nz its.length its.length hi-HT.nz its.length 0 lo)).toArray:=by
 obtain ⟨h1,h2,h3⟩:=DZ lo hi its.toArray.size
 unfold slicePick
 rw [h1,h2,h3]
 simp only [sliceRange_one,pick_run,aR]<;>rfl
def uz (K:aa):V->Option Int->Option Int->Hp->VK->Prop:=λx lo hi H Q=>∃ a xs,x=.ref a/\SqL K H a xs/\∀ p,H p=none->Q (.ref p) (upd H p (.lst (xt xs lo hi)))
theorem mn:Ug X (uz X.K):=by
 intro pins s σ H x v vl vu lo hi sl Q I rx hs pl pu h
 obtain ⟨a,xs,rfl,hx,q⟩:=h
 cases rx
 obtain ⟨its,r,ht,hz⟩:=I.list hx
 have hlen:=r.length
 refine ⟨"list",_,slot_list_getitem.lookup,ht.isList.typeIs,?_⟩
 refine wpAny_getItem_list_slice ht.isList hs pl pu .none (by simp) ?_ (by rw [aR]<;>omega)
 rw [BM,← hlen]
 refine ⟨.ref s.heap.objs.size,_,I.laid (t':=s.toks) (o:=.lst (xt xs lo hi)) (λb ob q=>ax _ q) (aw _) ?_,rfl,q _ (I.hok.fresh (aw _))⟩
 exact ⟨bg (yo xs lo hi) hz,_,0,(r.drop (HT.nz xs.length 0 lo)).take (HT.nz xs.length xs.length hi-HT.nz xs.length 0 lo),aM _ rfl⟩
theorem D0:CallR X (.builtin "len") (λxs H Q=>∃ p ys,xs=[.ref p]/\(SqL X.K H p ys\/SqT X.K H p ys)/\Q (.int ys.length) H):=by
 intro pins s σ H xs us Q I r h
 obtain ⟨p,ys,rfl,hq,q⟩:=h
 obtain ⟨u,rfl,rx⟩:=vals1 r
 cases rx
 have hn:=uX
 rcases hq with hq|hq
 ·obtain ⟨its,r',pl,hz⟩:=I.list hq
  have hlen:=r'.length
  exact Calls.call_len_list pl.isList (by simp only [aR]<;>omega) ⟨.int ys.length,H,I.tok _,⟨s.toks+1,by rw [aR,hlen]⟩,q⟩
 ·obtain ⟨its,r',pl,hz⟩:=I.tuple hq
  have hlen:=r'.length
  exact len_tuple pl (by simp only [aR]<;>omega) ⟨.int ys.length,H,I.tok _,⟨s.toks+1,by rw [aR,hlen]⟩,q⟩
theorem CallR.or {f:ai}{r r':List V->Hp->VK->Prop}(h:CallR X f r) (h':CallR X f r'):CallR X f (λxs H Q=>r xs H Q\/r' xs H Q):=by
 intro pins s σ H xs us Q I rs q
 rcases q with q|q
 ·exact h pins s σ H xs us Q I rs q
 ·exact h' pins s σ H xs us Q I rs q
theorem D5:CallR X (.type "list") (λxs H Q=>∃ p ys,xs=[.ref p]/\(SqL X.K H p ys\/SqT X.K H p ys)/\∀ l,H l=none->Q (.ref l) (upd H l (.lst ys))):=by
 intro pins s σ H xs us Q I r h
 obtain ⟨p,ys,rfl,hq,q⟩:=h
 obtain ⟨u,rfl,rx⟩:=vals1 r
 cases rx
 have fin:∀ (its:List ai),Vals ys its->ys.length<=a0->∀ (h':cm) (c':Nat),(∀ b o',s.heap.get? b=some o'->h'.get? b=some o') ->
   h'.get? s.heap.objs.size=some { cls:=.type "list",dict:=none,data:=.seq its.toArray c',slots:=#[] }->EP X pins σ Q (.ref s.heap.objs.size) { s with heap:=h' }:=λits r' hz h' c' kp e =>
  ⟨.ref s.heap.objs.size,_,I.laid (t':=s.toks) kp (aw _) (show ObjOk X.prog X.w _ h' _ (.lst ys) from ⟨hz,its,c',r',e⟩),rfl,q _ (I.hok.fresh (aw _))⟩
 rcases hq with hq|hq
 ·obtain ⟨its,r',pl,hz⟩:=I.list hq
  have hlen:=r'.length
  obtain ⟨o,ho,hc,n,hd⟩:=pl.isList
  exact call_list_seq p (.inl rfl) ho hc hd (λh' c' kp e=>fin its r' hz h' c' kp e) (by simp only [aR]<;>omega)
 ·obtain ⟨its,r',pl,hz⟩:=I.tuple hq
  have hlen:=r'.length
  obtain ⟨o,ho,hc,n,hd⟩:=pl
  exact call_list_seq p (.inr rfl) ho hc hd (λh' c' kp e=>fin its r' hz h' c' kp e) (by simp only [aR]<;>omega)
def Sk (K:aa) (T:String) (x:V) (H:Hp):Prop:=match x with
 | .str _=>T="str"
 | .int _=>T="int"
 | .ref p=>(T="list"/\∃ xs,SqL K H p xs)\/(T="tuple"/\∃ o,K.lookup p=some o/\o.cls=.type "tuple"/\o.dict=none) \/
   (T="dict"/\((∃ kvs,H p=some (.dK kvs))\/∃ kvs,H p=some (.dT kvs)))\/(T="set"/\∃ S n,H p=some (.set S n))
 | _=>False
theorem MA {pins:List (af×fR)}{σ:St}{H:Hp}{s:au}{T:String}{x:V}{v:ai}(I:Inv X pins σ H s) (r:RelV x v) (ty:Sk X.K T x H) :
  s.TypeIs v T/\∀ a,v=.ref a->∃ ob,s.heap.get? a=some ob/\ob.dict=none:=by
 cases x with
 | str z =>
  obtain ⟨t,rfl⟩:=r
  cases (show T="str" from ty)
  exact ⟨typeIs_str s z t,λ_ e=>nomatch e⟩
 | int i =>
  obtain ⟨t,rfl⟩:=r
  cases (show T="int" from ty)
  exact ⟨typeIs_int s i t,λ_ e=>nomatch e⟩
 | ref p =>
  cases r
  rcases ty with ⟨rfl,xs,hq⟩|⟨rfl,o,hk,hc,hd⟩|⟨rfl,hk⟩|⟨rfl,S,n,hk⟩
  ·obtain ⟨its,_,pl,_⟩:=I.list hq
   refine ⟨pl.isList.typeIs,λa e=>?_⟩
   cases e
   obtain ⟨o,n,e,c,hd,_⟩:=pl
   exact ⟨o,e,hd⟩
  ·refine ⟨⟨o,I.kIn p o hk,hc⟩,λa e=>?_⟩
   cases e
   exact ⟨o,I.kIn _ o hk,hd⟩
  ·have z:∃ o,s.heap.get? p=some o/\o.ExactDict:=by
    rcases hk with ⟨kvs,hk⟩|⟨kvs,hk⟩
    ·obtain ⟨_,_,_,_,o,_,_,e,ex,_⟩:=I.hok p _ hk
     exact ⟨o,e,ex⟩
    ·obtain ⟨_,_,_,_,o,_,_,e,ex,_⟩:=I.hok p _ hk
     exact ⟨o,e,ex⟩
   obtain ⟨o,e,ex⟩:=z
   refine ⟨⟨o,e,ex.1⟩,λa e2=>?_⟩
   cases e2
   exact ⟨o,e,ex.2.1⟩
  ·obtain ⟨o,_,_,_,e,ex,_⟩:=I.hok p _ hk
   refine ⟨⟨o,e,ex.1⟩,λa e2=>?_⟩
   cases e2
   exact ⟨o,e,ex.2.1⟩
 | _=>exact ip ty
def QL (K:aa) (T:String) (r:V->List V->Hp->VK->Prop) (to:TE):TE:=λσ H Q=>to σ H λx H1=>Sk K T x H1/\r x [] H1 Q
def D6 (K:aa) (T:String) (r:V->List V->Hp->VK->Prop) (to:TE) (t:TA):TE:=λσ H Q=>to σ H λx H1=>Sk K T x H1/\t σ H1 λxs H2=>r x xs H2 Q
variable {o e:Expr}{es:List Expr}{to:TE}{t:TA}{name:bA}{apos cpos:qQ}{T id:String}{r:V->List V->Hp->VK->Prop}
theorem QM (pa:PlainAttrs T) (slot:Slot T name id) (hty:typeOf (.builtin id)=pure (.type "method_descriptor")) (hm:MtR X id r) (ho:PE X o to)
  (hbase:BE o name X.env (fV o X.env)=fV o X.env:=by rfl) (hline:(apos.endLine == cpos.line)=true:=by rfl):PE X (.Call (.Attribute o name apos) [] [] cpos) (QL X.K T r to):=by
 intro pins s σ H Q I h
 refine wpAny_Call_method0_late hbase hline (ij (ho pins s σ H _ I h) λv s1 ⟨x,H1,I1,r1,ty,q1⟩=>?_)
 obtain ⟨h1,h2⟩:=MA I1 r1 ty
 exact ⟨T,id,pa,slot,hty,h1,h2,JM rfl (PySem.evalArgs_none (hm pins s1 σ H1 x [] v [] Q I1 r1 .nil q1))⟩
theorem oo (pa:PlainAttrs T) (slot:Slot T name id) (hty:typeOf (.builtin id)=pure (.type "method_descriptor")) (hm:MtR X id r) (ho:PE X o to) (ha:PA X (e::es) t)
  (hbase:BE o name X.env (fV o X.env)=fV o X.env:=by rfl)
  (hfew:((iV cpos (bG (e::es) X.env)).all (λx=>!x.1) && (LI cpos (zr [] X.env)).all (λx=>x.1.isSome)
   && decide ((e::es).length+([]:List Keyword).length+(if ([]:List Keyword).isEmpty then 0 else 1)<30))=true:=by rfl)
  (hline:(apos.endLine == cpos.line)=true:=by rfl) (hs:bG (e::es) X.env=(false,fV e X.env)::bG es X.env:=by rfl) (hplain:(iV cpos (bG es X.env)).any (·.1)=false:=by rfl) :
  PE X (.Call (.Attribute o name apos) (e::es) [] cpos) (D6 X.K T r to t):=by
 intro pins s σ H Q I h
 refine wpAny_Call_method_late hbase hfew hline rfl (ij (ho pins s σ H _ I h) λv s1 ⟨x,H1,I1,r1,ty,q1⟩=>?_)
 obtain ⟨h1,h2⟩:=MA I1 r1 ty
 refine ⟨T,id,pa,slot,hty,h1,h2,?_⟩
 have hA:=ha cpos pins s1 σ H1 _ I1 q1
 rw [hs] at hA ⊢
 refine JM (by show (false || (iV cpos (bG es X.env)).any (·.1))=false;rw [hplain]<;>rfl) (Calls.evalArgs_plain ?_)
 exact ij hA λus s2 ⟨vs,H2,I2,r2,q2⟩=>hm pins s2 σ H2 x vs v us Q I2 r1 r2 q2
end
end L2
namespace L2
open PySem PySem.Spec PyProof.Rows
def MtM (X:Cx) (id:String) (r:V->List V->Hp->VK->Prop):Prop :=
 ∀ (pins:List (af×fR)) (s:au) (σ:St) (H:Hp) (x:V) (xs:List V) (v:ai) (us:List ai) (Q:VK),Inv X pins σ H s->RelV x v->Vals xs us->r x xs H Q ->
  aK (aU X.prog X.w) X.A (call (.builtin id) (v::us)) (EP X pins σ Q) X.xe s
theorem Vals.one:∀ {x:V}{us:List ai},Vals [x] us->∃ u,us=[u]/\RelV x u
 | _,_,.cons r .nil=>⟨_,rfl,r⟩
theorem Vals.zero:∀ {us:List ai},Vals [] us->us=[]
 | _,.nil=>rfl
theorem Vals.dropLast {xs:List V}{us:List ai}(h:Vals xs us):Vals xs.dropLast us.dropLast:=by
 induction h with
 | nil=>exact .nil
 | cons r t ih =>
  cases t with
  | nil=>exact .nil
  | cons q t'=>exact .cons r ih
theorem Iq {α:Type} (l:List α):l.eraseIdx (l.length-1)=l.dropLast:=by
 induction l with
 | nil=>rfl
 | cons a r ih =>
  cases r with
  | nil=>rfl
  | cons b r =>
   have e:(a::b::r).length-1=((b::r).length-1)+1:=by
    have h1:(a::b::r).length=r.length+2:=rfl
    have h2:(b::r).length=r.length+1:=rfl
    omega
   rw [e,sQ,ih]
   all_goals rfl
section
variable {X:Cx}{pins:List (af×fR)}{σ:St}{H:Hp}{s:au}{l b:af}{xs ys zs:List V}
theorem Inv.lset {its its':List ai}{n:Nat}{f:Array ai->Array ai}{t':Nat}(I:Inv X pins σ H s) (hH:H l=some (.lst xs))
  (e:s.heap.get? l=some { cls:=.type "list",data:=.seq its.toArray n }) (hf:f its.toArray=its'.toArray) (hv:Vals ys its') (hz:ys.length<=a0) :
  Inv X pins σ (upd H l (.lst ys)) { s with heap:=s.heap.update l (bH f),toks:=t' }:=by
 have q:=PySem.IsL.update e f
 rw [hf] at q
 refine I.write (x:=l) (e:=l) (by rw [hH];exact trivial) (.inl rfl) (λb' u hb hu=>(cu s.heap (bH f) (Ne.symm hb)).trans hu) ⟨_,q⟩ ?_
 exact ⟨hz,its',_,hv,q⟩
theorem Inv.lnew {its:List ai}{t':Nat}(I:Inv X pins σ H s) (hv:Vals ys its) (hz:ys.length<=a0) :
  Inv X pins σ (upd H s.heap.objs.size (.lst ys)) { s with heap:=s.heap.push { cls:=.type "list",data:=.seq its.toArray },toks:=t' } :=
 I.laid (λ_ _ q=>ax _ q) (aw _) ⟨hz,its,0,hv,aM _ rfl⟩
theorem Inv.fresh (I:Inv X pins σ H s):H s.heap.objs.size=none:=I.hok.fresh (aw _)
theorem Inv.lstM (I:Inv X pins σ H s) (hH:H l=some (.lst xs)):xs.length<=a0/\∃ (its:List ai) (n:Nat),Vals xs its/\xs.length=its.length/\s.heap.get? l=some { cls:=.type "list",data:=.seq its.toArray n }:=by
 obtain ⟨z,its,n,r,e⟩:=I.hok l _ hH
 exact ⟨z,its,n,r,r.length,e⟩
end
section
variable {X:Cx}
def mq:V->List V->Hp->VK->Prop:=λx vs H Q=>∃ l xs y,x=.ref l/\vs=[y]/\H l=some (.lst xs)/\xs.length<a0/\Q .non (upd H l (.lst (xs++[y])))
theorem kC:MtM X "list.append" mq:=by
 intro pins s σ H x vs v us Q I rx rv h
 obtain ⟨l,xs,y,rfl,rfl,hH,hz,q⟩:=h
 cases rx
 obtain ⟨u,rfl,ru⟩:=rv.one
 obtain ⟨z,its,n,r,hl,e⟩:=I.lstM hH
 refine LJ F.slot_list_append ⟨_,e,rfl⟩ F.entry_list_append (F.args_list_append_2 _ _) (PySem.list_append l its.toArray n u (by rw [aR];omega)) ⟨e,?_⟩
 refine ⟨.non,_,I.lset (its':=its++[u]) hH e (by simp) (r.append (.cons ru .nil)) ?_,rfl,q⟩
 rw [aX,kx]
 omega
def QN:V->List V->Hp->VK->Prop:=λx vs H Q=>∃ l xs y,x=.ref l/\vs=[]/\H l=some (.lst xs)/\xs[xs.length-1]?=some y/\Q y (upd H l (.lst xs.dropLast))
theorem QO:MtM X "list.pop" QN:=by
 intro pins s σ H x vs v us Q I rx rv h
 obtain ⟨l,xs,y,rfl,rfl,hH,hy,q⟩:=h
 cases rx
 have hus:=rv.zero
 subst hus
 obtain ⟨z,its,n,r,hl,e⟩:=I.lstM hH
 obtain ⟨u,hu,ru⟩:=r.get hy
 have hy':its.toArray[its.toArray.size-1]?=some u:=by
  show its.toArray[its.length-1]?=some u
  rw [← dj,← hl]
  exact hu
 refine LJ F.slot_list_pop ⟨_,e,rfl⟩ F.entry_list_pop (F.args_list_pop_1 _) (MeetsSeq.list_pop_last l its.toArray n u hy' (by rw [aR];omega)) ⟨e,?_⟩
 refine ⟨y,_,I.lset (its':=its.dropLast) hH e ?_ r.dropLast ?_,ru,q⟩
 ·show its.toArray.eraseIdxIfInBounds (its.toArray.size-1)=its.dropLast.toArray
  rw [aR,List.eraseIdxIfInBounds_toArray,Iq]
 ·rw [lb]
  omega
def Sl:R2:=λx y H Q=>∃ l b xs zs,x=.ref l/\y=.ref b/\H l=some (.lst xs)/\H b=some (.lst zs)/\xs.length+zs.length<=a0/\∀ p,H p=none->Q (.ref p) (upd H p (.lst (xs++zs)))
theorem QP:OpR X (vt .Add) Sl:=by
 intro pins s σ H x y v u Q I rx ry h
 obtain ⟨l,b,xs,zs,rfl,rfl,hH,hB,hz,q⟩:=h
 cases rx
 cases ry
 obtain ⟨z,its,n,r,hl,e⟩:=I.lstM hH
 obtain ⟨z2,its2,n2,r2,hl2,e2⟩:=I.lstM hB
 refine PySem.P.add_list e e2 ?_ (by rw [aR,aR];omega)
 have ea:its.toArray++its2.toArray=(its++its2).toArray:=by simp
 rw [ea]
 exact ⟨.ref _,_,I.lnew (t':=s.toks) (r.append r2) (by rw [aX];omega),rfl,q _ I.fresh⟩
end
section
variable {prog:bp}{w:b8}{A:cp}{E:ai->au->Prop}{s:au}
end
section
variable {X:Cx}
end
end L2
namespace L2
open PySem PySem.Spec PyProof.Rows
section
variable {κ:Type} [DecidableEq κ]
def mr (kvs:List (κ×V)) (k:κ):Option V:=(kvs.find? λkv=>decide (kv.1=k)).map (·.2)
def uA (kvs:List (κ×V)) (k:κ) (v:V):List (κ×V) :=
 if (kvs.any λkv=>decide (kv.1=k))=true then kvs.map (λkv=>if kv.1=k then (kv.1,v) else kv) else kvs++[(k,v)]
def oR (kvs:List (κ×V)) (k:κ):List (κ×V):=kvs.filter λkv=>decide (kv.1≠k)
theorem sZ {p:κ×V}{r:List (κ×V)}{k:κ}(e:p.1=k):mr (p::r) k=some p.2:=by simp [mr,m9,e]
theorem qU {p:κ×V}{r:List (κ×V)}{k:κ}(e:¬ p.1=k):mr (p::r) k=mr r k:=by simp [mr,m9,e]
theorem vK (k:κ):∀ kvs:List (κ×V),(kvs.any λkv=>decide (kv.1=k))=(mr kvs k).isSome
 | []=>rfl
 | p::r=>by
  rw [HV]
  by_cases e:p.1=k
  ·simp only [sZ e,decide_eq_true e,Bool.true_or,Option.isSome_some]
  ·rw [qU e,decide_eq_false e,Bool.false_or];exact vK k r
theorem yp (kvs:List (κ×V)) (k:κ) (v:V):(uA kvs k v).length<=kvs.length+1:=by
 unfold uA
 split
 ·rw [aj];omega
 ·rw [aX,cg,qg];omega
theorem Gn {kvs:List (κ×V)}{k:κ}(v:V) (h:mr kvs k=none):uA kvs k v=kvs++[(k,v)]:=by
 unfold uA
 rw [vK,h]
 exact if_neg (by decide)
theorem RelO.isSome_eq {o:Option V}{u:Option ai}(r:RelO o u):o.isSome=u.isSome:=by
 cases o with
 | none=>cases u with
  | none=>rfl
  | some _=>exact (show False from r).elim
 | some _=>cases u with
  | none=>exact (show False from r).elim
  | some _=>rfl
theorem KV.val {kvs:List (κ×V)}{vs:List (κ×ai)}(r:KV kvs vs) (k:κ):RelO (mr kvs k) (FK vs k):=by
 unfold KV at r
 induction r with
 | nil=>exact jb
 | @cons p q ps qs h t ih =>
  obtain ⟨h1,h2⟩:=h
  by_cases e:p.1=k
  ·have e':q.1=k:=h1.symm.trans e
   have b:FK (q::qs) k=some q.2:=by simp [FK,m9,e']
   rw [sZ e,b];exact h2
  ·have e':¬ q.1=k:=λz=>e (h1.trans z)
   have b:FK (q::qs) k=FK qs k:=by simp [FK,m9,e']
   rw [qU e,b];exact ih
theorem KV.any {kvs:List (κ×V)}{vs:List (κ×ai)}(r:KV kvs vs) (k:κ):(kvs.any λkv=>decide (kv.1=k))=vs.any λkv=>decide (kv.1=k):=by
 unfold KV at r
 induction r with
 | nil=>rfl
 | cons h t ih=>rw [HV,HV,ih,h.1]
theorem KV.repl {kvs:List (κ×V)}{vs:List (κ×ai)}(r:KV kvs vs) (k:κ) {y:V}{u:ai}(ry:RelV y u) :
  KV (kvs.map λkv=>if kv.1=k then (kv.1,y) else kv) (vs.map λkv=>if kv.1=k then (kv.1,u) else kv):=by
 unfold KV at r ⊢
 induction r with
 | nil=>exact .nil
 | @cons p q ps qs h t ih =>
  rw [bV,bV]
  refine .cons ?_ ih
  obtain ⟨h1,h2⟩:=h
  by_cases e:p.1=k
  ·rw [if_pos e,if_pos (h1.symm.trans e)];exact ⟨h1,ry⟩
  ·rw [if_neg e,if_neg (λz=>e (h1.trans z))];exact ⟨h1,h2⟩
theorem KV.put {kvs:List (κ×V)}{vs:List (κ×ai)}(r:KV kvs vs) (k:κ) {y:V}{u:ai}(ry:RelV y u):KV (uA kvs k y) (stored vs k u):=by
 unfold uA stored
 rw [r.any k]
 by_cases e:(vs.any λkv=>decide (kv.1=k))=true
 ·rw [if_pos e,if_pos e];exact r.repl k ry
 ·rw [if_neg e,if_neg e];exact Paired.snoc r ⟨rfl,ry⟩
theorem KV.length {kvs:List (κ×V)}{vs:List (κ×ai)}(r:KV kvs vs):kvs.length=vs.length:=wQ r
end
theorem Gp {P:bp}{w:b8}{k:ja}{u:ai}(r:RelV (kV k) u):(fQ P w).is k u=true:=by
 cases k with
 | inl i=>obtain ⟨t,e⟩:=(show ∃ t,u=gN i t from r);subst e;exact Ga P w i t
 | inr x=>obtain ⟨t,e⟩:=(show ∃ t,u=sM x t from r);subst e;exact Gb P w x t
theorem Do {P:bp}{w:b8}:∀ {ks:List ja}{us:List ai},Vals (ks.map kV) us->ItemsAre (fQ P w) ks us
 | [],_,r=>by rw [Ks] at r;cases r;exact .nil
 | k::ks,_,r=>by
  rw [bV] at r
  cases r with
  | cons h t=>exact .cons (Gp h) (Do t)
abbrev KT (H:Hp):List (List ja×V)->List (List ja×af×ai)->Prop:=Paired λp q=>p.1=q.1/\H q.2.1=some (.tup (p.1.map kV))/\RelV p.2 q.2.2
theorem KT.val {H:Hp}{kvs:List (List ja×V)}{xs:List (List ja×af×ai)}(r:KT H kvs xs) (k:List ja):RelO (mr kvs k) ((FL xs k).map (·.2)):=by
 induction r with
 | nil=>exact jb
 | @cons p q ps qs h t ih =>
  obtain ⟨h1,_,h2⟩:=h
  by_cases e:p.1=k
  ·have e':q.1=k:=h1.symm.trans e
   have b:FL (q::qs) k=some q.2:=by simp [FL,m9,e']
   rw [sZ e,b];exact h2
  ·have e':¬ q.1=k:=λz=>e (h1.trans z)
   have b:FL (q::qs) k=FL qs k:=by simp [FL,m9,e']
   rw [qU e,b];exact ih
theorem KT.repl {H:Hp}{kvs:List (List ja×V)}{xs:List (List ja×af×ai)}(r:KT H kvs xs) (k:List ja) {y:V}{u:ai}(ry:RelV y u) :
  KT H (kvs.map λkv=>if kv.1=k then (kv.1,y) else kv) (xs.map (putAt k u)):=by
 induction r with
 | nil=>exact .nil
 | @cons p q ps qs h t ih =>
  rw [bV,bV]
  refine .cons ?_ ih
  obtain ⟨h1,h2,h3⟩:=h
  unfold putAt
  by_cases e:p.1=k
  ·rw [if_pos e,if_pos (h1.symm.trans e)];exact ⟨h1,h2,ry⟩
  ·rw [if_neg e,if_neg (λz=>e (h1.trans z))];exact ⟨h1,h2,h3⟩
theorem KT.put {H:Hp}{kvs:List (List ja×V)}{xs:List (List ja×af×ai)}(r:KT H kvs xs) (k:List ja) {b:af}{y:V}{u:ai}(hb:H b=some (.tup (k.map kV))) (ry:RelV y u) :
  KT H (uA kvs k y) (storedH xs k b u):=by
 have e:(kvs.any λkv=>decide (kv.1=k))=(FL xs k).isSome:=by
  rw [vK,(r.val k).isSome_eq,yC]
 unfold uA storedH
 rw [e]
 by_cases q:(FL xs k).isSome=true
 ·rw [if_pos q,if_pos q];exact r.repl k ry
 ·rw [if_neg q,if_neg q];exact Paired.snoc r ⟨rfl,hb,ry⟩
theorem KT.keeps {H H':Hp}{kvs:List (List ja×V)}{xs:List (List ja×af×ai)}(r:KT H kvs xs) (ht:∀ b ys,H b=some (.tup ys)->H' b=some (.tup ys)):KT H' kvs xs :=
 Paired.mapP r λ_ _ z=>⟨z.1,ht _ _ z.2.1,z.2.2⟩
section
variable {P:bp}{w:b8}{H:Hp}{h:cm}{a:af}
theorem PQ {u:HO}(ok:HOk P w H h) (e:Rd H a u):ObjOk P w H h a u:=e.ok ok
theorem Dp {kvs:List (ja×V)}(ok:HOk P w H h) (e:Rd H a (.dK kvs)):kvs.length<=a0/\(a == kN)=false/\∃ vs,KV kvs vs/\h.DictOf (fQ P w) a vs :=
 show ObjOk P w H h a (.dK kvs) from PQ ok e
theorem PR {kvs:List (ja×V)}(ok:HOk P w H h) (e:H a=some (.dK kvs)):kvs.length<=a0/\(a == kN)=false/\∃ vs,KV kvs vs/\h.DictOf (fQ P w) a vs:=Dp ok (.inl e)
theorem tj {ks:List ja}(ok:HOk P w H h) (e:H a=some (.tup (ks.map kV))):(m7 (fQ P w)).is h ks a:=by
 obtain ⟨_,its,r,o,h1,h2,n,h3⟩:=(show ObjOk P w H h a (.tup (ks.map kV)) from ok a _ e)
 exact ⟨o,its.toArray,n,h1,h2,h3,by simpa using Do r⟩
theorem Dq {kvs:List (List ja×V)}(ok:HOk P w H h) (e:Rd H a (.dT kvs)):kvs.length<=a0/\(a == kN)=false /\
  ∃ xs,KT H kvs xs/\h.DictOfH (m7 (fQ P w)) a xs:=by
 obtain ⟨z,y,xs,r,o,es,ep,h1,h2,h3,h4,h5⟩:=(show ObjOk P w H h a (.dT kvs) from PQ ok e)
 refine ⟨z,y,xs,r,o,es,ep,h1,h2,h3,h4,λx hx=>?_,h5⟩
 have all:∀ {l:List (List ja×V)}{m:List (List ja×af×ai)},KT H l m->∀ x∈m,(m7 (fQ P w)).is h x.1 x.2.1:=by
  intro l m q
  induction q with
  | nil=>intro x hx;exact nomatch hx
  | @cons p q ps qs hq t ih =>
   intro x hx
   rcases ak.mp hx with e|hx
   ·subst e
    exact tj ok (by rw [← hq.1];exact hq.2.1)
   ·exact ih x hx
 exact all r x hx
theorem Sm {kvs:List (List ja×V)}(ok:HOk P w H h) (e:H a=some (.dT kvs)):kvs.length<=a0/\(a == kN)=false /\
  ∃ xs,KT H kvs xs/\h.DictOfH (m7 (fQ P w)) a xs:=Dq ok (.inl e)
end
def DGet (H:Hp) (a:af) (y:V) (r:Option V):Prop :=
 (∃ kvs k,Rd H a (.dK kvs)/\y=kV k/\r=mr kvs k)\/∃ kvs k b,Rd H a (.dT kvs)/\y=.ref b/\H b=some (.tup (k.map kV))/\r=mr kvs k
def DPut (H:Hp) (a:af) (y v:V) (H':Hp):Prop :=
 (∃ kvs k,H a=some (.dK kvs)/\y=kV k/\kvs.length<a0/\H'=upd H a (.dK (uA kvs k v))) \/
 ∃ kvs k b,H a=some (.dT kvs)/\y=.ref b/\H b=some (.tup (k.map kV))/\kvs.length<a0/\H'=upd H a (.dT (uA kvs k v))
theorem DGet.t {H:Hp}{a b:af}{kvs:List (List ja×V)}{k:List ja}(e:H a=some (.dT kvs)) (eb:H b=some (.tup (k.map kV))):DGet H a (.ref b) (mr kvs k):=.inr ⟨kvs,k,b,.inl e,rfl,eb,rfl⟩
theorem DPut.t {H:Hp}{a b:af}{kvs:List (List ja×V)}{k:List ja}{v:V}(e:H a=some (.dT kvs)) (eb:H b=some (.tup (k.map kV))) (hl:kvs.length<a0) :
  DPut H a (.ref b) v (upd H a (.dT (uA kvs k v))):=.inr ⟨kvs,k,b,e,rfl,eb,hl,rfl⟩
section
variable {X:Cx}{pins:List (af×fR)}{σ:St}{H:Hp}{s:au}{a:af}{y v:V}{u r:ai}{o:Option V}{A:cp}{E:ai->au->Prop}
theorem Inv.big (I:Inv X pins σ H s):kN<s.heap.objs.size:=by
 have h:bQ<s.heap.objs.size:=(I.mod.glob.keeps I.bk).lt
 exact LK (by decide) h
theorem Ds {Q:ai->au->Prop}(hu:A.units+1<iH) (I:Inv X pins σ H s) (g:DGet H a y (some v)) (ry:RelV y u) (h:∀ w' s',Inv X pins σ H s'->RelV v w'->Q w' s') :
  aK (aU X.prog X.w) A (Kr (.ref a) u) Q E s:=by
 rcases g with ⟨kvs,k,e,ey,l⟩|⟨kvs,k,b,e,ey,eb,l⟩
 ·subst ey
  obtain ⟨z,hd,vs,rel,dd⟩:=Dp I.hok e
  obtain ⟨w',hw,rw'⟩:=RelO.some_of (v:=v) (o:=FK vs k) (by rw [l];exact rel.val k)
  exact wpAny_getItem_of (Gp ry) dd.mapOf hw (h w' _ (I.tok _) rw')
 ·subst ey
  cases (show u=aI b from ry)
  obtain ⟨z,hd,xs,rel,dd⟩:=Dq I.hok e
  obtain ⟨w',hw,rw'⟩:=RelO.some_of (v:=v) (o:=(FL xs k).map (·.2)) (by rw [l];exact rel.val k)
  obtain ⟨p,hp,hp2⟩:=bc.mp hw
  refine wpAny_getItem_heap (kQ hu) (tj I.hok eb) dd hp ?_
  rw [hp2]
  exact h w' _ (I.tok _) rw'
theorem Uh {Q:ai->au->Prop}(hu:A.units+1<iH) (I:Inv X pins σ H s) (g:DGet H a y o) (ry:RelV y u) (h:∀ s',Inv X pins σ H s'->Q (.bool o.isSome) s') :
  aK (aU X.prog X.w) A (dA .In u (.ref a)) Q E s:=by
 rcases g with ⟨kvs,k,e,ey,l⟩|⟨kvs,k,b,e,ey,eb,l⟩
 ·subst ey
  obtain ⟨z,hd,vs,rel,dd⟩:=Dp I.hok e
  refine wpAny_in_of (Gp ry) hd dd.mapOf ?_
  rw [← (rel.val k).isSome_eq,← l]
  exact h _ (I.tok _)
 ·subst ey
  cases (show u=aI b from ry)
  obtain ⟨z,hd,xs,rel,dd⟩:=Dq I.hok e
  refine wpAny_in_heap (kQ hu) (tj I.hok eb) hd dd ?_
  have q:=(rel.val k).isSome_eq
  rw [yC] at q
  rw [← q,← l]
  exact h _ (I.tok _)
theorem OR {Q:ai->au->Prop}(hu:A.units+1<iH) (I:Inv X pins σ H s) (g:DGet H a y o) (ry:RelV y u) (h:∀ s',Inv X pins σ H s'->Q (.bool (!o.isSome)) s') :
  aK (aU X.prog X.w) A (dA .NotIn u (.ref a)) Q E s:=by
 rcases g with ⟨kvs,k,e,ey,l⟩|⟨kvs,k,b,e,ey,eb,l⟩
 ·subst ey
  obtain ⟨z,hd,vs,rel,dd⟩:=Dp I.hok e
  refine wpAny_notIn_of (Gp ry) hd dd.mapOf ?_
  rw [← (rel.val k).isSome_eq,← l]
  exact h _ (I.tok _)
 ·subst ey
  cases (show u=aI b from ry)
  obtain ⟨z,hd,xs,rel,dd⟩:=Dq I.hok e
  refine wpAny_notIn_heap (kQ hu) (tj I.hok eb) hd dd ?_
  have q:=(rel.val k).isSome_eq
  rw [yC] at q
  rw [← q,← l]
  exact h _ (I.tok _)
theorem D7 {h':cm}{t':Nat}{ob:HO}(I:Inv X pins σ H s) (mu:Sb (H a)) (hs:ig a s.heap h') (he:∃ q,h'.get? a=some q) (new:ObjOk X.prog X.w (upd H a ob) h' a ob) :
  Inv X pins σ (upd H a ob) { s with heap:=h',toks:=t' } :=
 I.write (x:=a) (e:=a) mu (.inl rfl) (λb q hb z=>(hs.2 b hb).trans z) he new
theorem QQ {P:bp}{w:b8}{H':Hp}{h':cm}{kvs:List (ja×V)}{vs:List (ja×ai)}(z:kvs.length<=a0) (hd:(a == kN)=false) (rel:KV kvs vs) (dd:h'.DictOf (fQ P w) a vs) :
  ObjOk P w H' h' a (.dK kvs):=⟨z,hd,vs,rel,dd⟩
theorem Dt {H':Hp}{Q:Unit->au->Prop}(hu:A.units+1<iH) (I:Inv X pins σ H s) (g:DPut H a y v H') (ry:RelV y u) (rv:RelV v r) (h:∀ s',Inv X pins σ H' s'->Q () s') :
  aK (aU X.prog X.w) A (setItem (.ref a) u r) Q E s:=by
 rcases g with ⟨kvs,k,e,ey,l,eH⟩|⟨kvs,k,b,e,ey,eb,l,eH⟩
 ·subst ey eH
  obtain ⟨z,hd,vs,rel,dd⟩:=PR I.hok e
  have hz:vs.length<=a0:=by rw [← rel.length];exact z
  have hl:(uA kvs k v).length<=a0:=by have:=yp kvs k v;omega
  refine wpAny_setItem_pairs (hsz:=hz) (Gp ry) dd λh' dd' hs=>h _ ?_
  have he:∃ q,h'.get? a=some q:=let ⟨q,_,_,hq,_⟩:=dd';⟨q,hq⟩
  exact D7 I (by rw [e];exact jb) hs he (QQ hl hd (rel.put k rv) dd')
 ·subst ey eH
  cases (show u=aI b from ry)
  obtain ⟨z,hd,xs,rel,dd⟩:=Sm I.hok e
  have hz:xs.length<=a0:=by rw [← wQ rel];exact z
  have hl:(uA kvs k v).length<=a0:=by have:=yp kvs k v;omega
  refine wpAny_setItem_heap (hsz:=hz) (kQ hu) (tj I.hok eb) dd λh' dd' hs=>h _ ?_
  obtain ⟨q,es,ep,hq,h2,h3,h4,_,h5⟩:=dd'
  refine D7 I (by rw [e];exact jb) hs ⟨q,hq⟩ ⟨hl,hd,_,(rel.put k eb rv).keeps λc ys ec=>?_,q,es,ep,hq,h2,h3,h4,h5⟩
  rw [aJ (iA ec e (λz=>nomatch z))]
  exact ec
end
section
variable {X:Cx}{pins:List (af×fR)}{σ:St}{H:Hp}{s:au}{a:af}{kvs:List (ja×V)}{k:ja}{u:ai}{A:cp}{E:ai->au->Prop}
theorem Sn {Q:ai->au->Prop}(I:Inv X pins σ H s) (e:Rd H a (.dK kvs)) (h:∀ t s',Inv X pins σ H s'->Q (.int kvs.length t) s'):aK (aU X.prog X.w) A (call (.builtin "len") [.ref a]) Q E s:=by
 obtain ⟨z,hd,vs,rel,dd⟩:=Dp I.hok e
 refine call_len_dict hd dd (by rw [← rel.length];rw [qM] at z;omega) ?_
 rw [← rel.length]
 exact h _ _ (I.tok _)
end
theorem Gq {X:Cx}{pins:List (af×fR)}{σ:St}{H:Hp}{s:au}{a:af}{y:V}{o:Option V}(I:Inv X pins σ H s) (g:DGet H a y o):s.TypeIs (.ref a) "dict":=by
 rcases g with ⟨kvs,k,e,_,_⟩|⟨kvs,k,b,e,_,_,_⟩
 ·obtain ⟨_,_,vs,_,dd⟩:=Dp I.hok e
  exact dd.typeIs
 ·obtain ⟨_,_,xs,_,dd⟩:=Dq I.hok e
  exact dd.typeIs
def PU (td ty tv:TE) (rd:V->V->Hp->VK->Prop):TS:=λD σ H=>td σ H λx H1=>ty σ H1 λy H2=>∃ a v,x=.ref a/\DGet H2 a y (some v) /\
 tv σ H2 λy2 H3=>rd v y2 H3 λz H4=>∃ H5,DPut H4 a y z H5/\D.nx σ H5
section
variable {X:Cx}{o i e value:Expr}{pos pos' tpos:qQ}{td ty tv:TE}
theorem OS {op:FG}{rd:V->V->Hp->VK->Prop}(hu:X.A.units+1<iH) (ho:PE X o td) (hi:PE X i ty) (hv:PE X value tv) (hop:QH X op rd)
  (ha:∀ ov iv new,augStore i ov iv new=(do n5 [new,ov,iv] (setItem ov iv new);release [new,ov,iv] [];pure .next)):PS X (.AugAssign (.Subscript o i tpos) op value pos) (PU td ty tv rd):=by
 intro pins s σ H D I h
 refine wpAny_AugAssign_SubscriptAny (ij (ho pins s σ H _ I h) λu s1 ⟨x,H1,I1,rx,q1⟩=>ij (hi pins s1 σ H1 _ I1 q1) λiv s2 ⟨y,H2,I2,ry,a,v,ex,g,q2⟩=>?_) ha
 subst ex
 obtain rfl:u=aI a:=rx
 refine Ds hu I2 g ry λw' s3 I3 rw'=>ij (hv pins s3 σ H2 _ I3 q2) λw2 s4 ⟨y2,H3,I4,ry2,q3⟩=>ij (hop pins s4 σ H3 v y2 w' w2 _ I4 rw' ry2 q3) λw3 s5 ⟨z,H4,I5,rz,H5,g5,q4⟩=>?_
 exact Dt hu I5 g5 ry rz λs6 I6=>⟨σ,H5,I6,q4⟩
end
theorem MB {P:bp}{w:b8}{H:Hp}(h:cm) (hb:kN<h.objs.size):ObjOk P w H (h.push { cls:=.type "dict",data:=.dict #[] }) h.objs.size (.dT []) :=
 ⟨a9 _,beq_eq_false_iff_ne.mpr (Ne.symm (aW hb)),[],.nil,_,#[],0,aM _ rfl,⟨rfl,rfl,rfl⟩,rfl,rfl,vC⟩
def xu:TE:=λ_ H Q=>∀ p,H p=none->Q (.ref p) (upd H p (.dT []))
section
variable {X:Cx}{pos:qQ}
theorem vL:PE X (.Dict [] [] pos) xu:=λpins s σ H Q I h =>
 wpAny_Dict_empty ⟨.ref s.heap.objs.size,_,I.laid (a:=s.heap.objs.size) (o:=.dT []) (t':=s.toks) (λ_ _ q=>ax _ q) (aw _) (MB s.heap I.big),rfl,h _ (I.hok.fresh (aw _))⟩
end
section
variable {X:Cx}{pins:List (af×fR)}{σ:St}{H:Hp}{s:au}{a:af}{y d:V}{u r:ai}{o:Option V}{A:cp}{E:ai->au->Prop}
end
section
variable {X:Cx}{o e f:Expr}{apos cpos:qQ}{td ty tx:TE}
end
section
variable {X:Cx}{pins:List (af×fR)}{σ:St}{H:Hp}{s:au}{a:af}{kvs:List (ja×V)}{A:cp}{E:ai->au->Prop}
end
section
variable {X:Cx}{pins:List (af×fR)}{σ:St}{H:Hp}{s:au}{a:af}{y:V}{u:ai}{A:cp}{E:ai->au->Prop}
end
end L2
namespace Att
open PySem PySem.W PySem.Calls PyProof.Rows
theorem yH {P:Params}{h:cm}:∀ (ns:List Int) (vs:List ai),WellAll P h vs (ns.map WData.int)->fS vs ns:=by
 intro ns
 induction ns with
 | nil =>
  intro vs w
  rw [Ks] at w
  cases w
  exact .nil
 | cons n ns ih =>
  intro vs w
  rw [bV] at w
  cases w with
  | cons a b =>
   cases a
   exact .cons _ _ (ih _ b)
theorem KW {l:sD}{n:Nat}(hn:l.most=some n) {P:Params}{h:cm}{args:List WData}{vals:List ai}
  (hpre:l.row.toRowW.claim.pre args=true) (hwl:WellAll P h vals args) :
  ∃ a vs ns,vals=[aI a]/\args=[WData.list (ns.map WData.int)]/\h.get? a=some { cls:=.type "list",data:=.seq vs.toArray }/\fS vs ns/\ns.length<=n:=by
 have hsh:WShape.hasAll [] args [.list .int]=true:=(pre_splitW hpre).1
 have hc:l.pre.holds [] { args:=args }=true:=(pre_splitW hpre).2
 obtain ⟨d,r,rfl,h1,h2⟩:=hasAllW_cons hsh
 obtain rfl:=hasAllW_nil h2
 obtain ⟨xs,rfl,h3⟩:=hasW_list h1
 obtain ⟨ns,rfl⟩:=items_int h3
 have hlen:ns.length<=n:=by
  unfold OpenLaw.pre at hc
  have h4:(WTm.not (.lt (.lit (.int (n:Int))) (.len (.arg 0)))).holds [] { args:=[.list (ns.map .int)] }=true:=by
   have h4:=(holds_andW hc).1
   rw [hn] at h4
   exact h4
  have h5:=condW_of h4 (w_not (w_lt w_lit (w_len_list (w_arg rfl))))
  rw [aj] at h5
  refine pE λq=>?_
  have q':(n:Int)<((ns.length:Nat):Int):=by omega
  first
   | (rw [decide_eq_true q'] at h5;exact absurd h5 (by decide))
   | (simp at h5;omega)
 cases hwl with
 | cons w1 w2 =>
  cases w2
  cases w1 with
  | list ho hall=>exact ⟨_,_,ns,rfl,rfl,ho,yH ns _ hall,hlen⟩
theorem KY (l:sD) (args:List WData):l.row.toRowW.claim.post args (.bool true) args=true :=
 postW_of (r:=l.row.toRowW) (X:=(true == true))
  (show WShape.has [] (.bool true) .bool=true by first|rfl|decide|simp [WShape.has,WShape.arms,WShape.armsAll])
  (show (WTm.eq .res (.lit (.bool true))).value [] { args:=args,res:=some (.bool true),after:=args }=some (.bool (true == true)) from w_eq_bool (w_res rfl) w_lit) rfl
theorem Gs {l:sD}{n:Nat}{q:bp}{loose:List bA}{XP:(bA->Option ai)->cm->Prop}{YP:b8->cm->Prop}{d:DefRec}
  (hn:l.most=some n) (hdf:d.params.defaults=[])
  (call:∀ (w:b8) (s₀ s₁:au) (mg mb:bA->Option ai) (fa:af) (o:fR) (pm cd doc:ai) (a:af) (vs:List ai) (ns:List Int),
   Ground q loose [] XP w s₀ mg mb s₁.heap->YP w s₁.heap ->
   s₁.heap.get? fa=some o->o.data=.func (docDef d.name d.params d.body d.scope pm cd doc)->s₁.heap.CodeRec cd d.name->mg d.name=some (.ref fa) ->
   s₁.heap.get? a=some { cls:=.type "list",data:=.seq vs.toArray }->fS vs ns->ns.length<=n->s₁.gens=#[] ->
   m8 (aU l.prog w) FM (.call (.ref fa) ⟨[.ref a],[]⟩) (λr s'=>r=.ok (.ret (.bool true))/\OldK s₁.heap s'.heap/\s'.os=s₁.os/\wU s'.gens) s₁) :
  N8 q loose XP YP l.row.toRowW d [] (λf vs=>N9 f vs):=by
 intro w s₀ s₁ mg mb G Y fa o pm cd doc dV kV ho hd hcd hD hmg hg args vals as hpre hlay hrd hwl hlo
 obtain rfl:dV=.none:=Dflts.none hD hdf
 obtain rfl:kV=.none:=Dflts.noKw hD
 obtain ⟨a,vs,ns,rfl,rfl,hobj,hints,hlen⟩:=KW hn hpre hwl
 refine enter_call (pC (call w s₀ s₁ mg mb fa o pm cd doc a vs ns G Y ho (fd_plain hd) hcd hmg hobj hints hlen hg) λr s' hq=>?_)
 obtain ⟨rfl,h2,h3,h4⟩:=hq
 exact ⟨.inl ⟨.bool true,.bool true,[],rfl,λ_=>rfl,.bool true,KY l _,λ_=>⟨FY,λ_ hm=>(nomatch hm)⟩⟩,h2,h3,h4⟩
section
variable {prog:bp}{w:b8}{A:cp}{E:ai->au->Prop}{s:au}{K:aa}
end
end Att
namespace L2
open PySem PySem.Spec PyProof.Rows
theorem xv:∀ {vs:List ai}{ns:List Int},fS vs ns->Vals (ns.map V.int) vs
 | _,_,.nil=>.nil
 | _,_,.cons n t h=>.cons ⟨t,rfl⟩ (xv h)
end L2
namespace L2
open PySem PySem.Spec PyProof.Rows
end L2
namespace L2
open PySem PySem.Spec PyProof.Rows
def eJ (s:dE) (j:Nat):dE:=match s with
 | .ClassDef _ _ _ body _ _ _ _ _ _ _=>body.getD j (.Pass ⟨0,0,0,0⟩)
 | _=>.Pass ⟨0,0,0,0⟩
def qp (s:dE):sC:=match s with
 | .FunctionDef _ a _ _ _ _ _ _ _ _=>a
 | _=>{ posonlyargs:=[],args:=[],vararg:=none,kwonlyargs:=[],kw_defaults:=[],kwarg:=none,defaults:=[] }
def bq (s:dE):List dE:=match s with
 | .FunctionDef _ _ b _ _ _ _ _ _ _=>b
 | _=>[]
def aE (s:dE):lH:=match s with
 | .FunctionDef _ _ _ _ _ _ sc _ _ _=>sc
 | _=>{ kind:=.function,names:=[],isGenerator:=false,isCoroutine:=false }
abbrev bW:Ii:=λ_ _ _ _ _ _=>False
abbrev E0:XK:=λ_ _ _=>False
theorem bN {X:Cx}:qD bW X E0:=λ_ _ _ _ _ _ _ h=>h.elim
structure Fun (K:aa) (x qual:bA) (st:dE) (f:af) (fd:fP):Prop where
 ex:∃ (oc:ai) (od:Option af) (kV doc pm:ai) (an:Option af) (cdv ct:ai) (osl:Array (Option ai)),
  fd=iS x qual (qp st) (bq st) (aE st) .none kV doc pm an cdv ct/\K.lookup f=some ⟨oc,od,.func fd,osl⟩/\qk K cdv qual=true
 kp:fH K (.ref f)=true
section
variable {P:bp}{w:b8}{K:aa}{mg:bA->Option ai}{base:cm}
theorem Fun.ok {x qual:bA}{st:dE}{f:af}{fd:fP}{N ps:List bA}{k:Nat}{sp:Sp}(F:Fun K x qual st f fd) (S:bL N ps (aE st)) (len:∀ vs H Q E,sp vs H Q E->vs.length=ps.length)
  (hbody:∀ (cdv:ai) (A:cp) (outer:List HG) (s:au) (H:Hp) (vs:List V) (Q:VK) (E:XK),Room k (A.deeper (zt qual (aE st) s.heap.objs.size f cdv))->sp vs H Q E ->
   ∃ t,PSs (eW bW P w K mg base N qual (aE st) f cdv A outer s H E).nox (bq st) t/\t { nx:=λ_ H'=>Q .non H',rt:=Q } (start N vs) H):FnOk P w K mg base bW (k+1) f fd ps sp:=by
 obtain ⟨oc,od,kV,doc,pm,an,cdv,ct,osl,rfl,lk,hcd⟩:=F.ex
 refine PN lk hcd S len λA outer s H vs Q E hr hsp=>?_
 obtain ⟨t,h,q⟩:=hbody cdv A outer s H vs Q E hr hsp
 exact ⟨t,h.nox,q⟩
theorem Fun.binds {x qual:bA}{st:dE}{f:af}{fd:fP}{ps:List bA}(F:Fun K x qual st f fd)
  (h:∀ (kV doc pm:ai) (an:Option af) (cdv ct:ai) (us:List ai),us.length=ps.length->FI (iS x qual (qp st) (bq st) (aE st) .none kV doc pm an cdv ct) ⟨us,[]⟩=pure (ps.zip us)):Binds K fd ps []:=by
 obtain ⟨oc,od,kV,doc,pm,an,cdv,ct,osl,rfl,lk,hcd⟩:=F.ex
 exact .all (h kV doc pm an cdv ct)
theorem D8 {x qual:bA}{st:dE}{f:af}{oc:ai}{od an:Option af}{osl:Array (Option ai)}{kV doc pm cdv ct:ai}(l:K.lookup f=some ⟨oc,od,.func (iS x qual (qp st) (bq st) (aE st) .none kV doc pm an cdv ct),osl⟩)
  (c:qk K cdv qual=true) (k:fH K (.ref f)=true):Fun K x qual st f (iS x qual (qp st) (bq st) (aE st) .none kV doc pm an cdv ct):=⟨⟨oc,od,kV,doc,pm,an,cdv,ct,osl,rfl,l,c⟩,k⟩
end
section
variable {X:Cx}
theorem pv (i:Nat) {x:bA}{pos:qQ}(hN:X.N[i]?=some x:=by rfl) (hv:TJ X.env.scope x:=by first|exact Or.inl rfl|exact Or.inr (Or.inl rfl)|exact Or.inr (Or.inr rfl)) (hd:(x == ("__debug__":bA))=false:=by decide)
  (hcd:(x == ("__classdict__":bA))=false:=by decide):PE X (.Name x pos) (av i):=Qy hN hv hd hcd
end
theorem j8 {A B:Prop}(h:B):if false=true then A else B:=by
 rw [if_neg bF]
 exact h
theorem qi {A B:Prop}(h:A):if true=true then A else B:=by
 rw [if_pos rfl]
 exact h
def Same (H H':Hp):Prop:=∀ b o,H b=some o->H' b=some o
theorem Same.trans {H H1 H2:Hp}(a:Same H H1) (b:Same H1 H2):Same H H2:=λc o h=>b c o (a c o h)
theorem Same.free {H H':Hp}(e:Same H H') {l:af}(h:H' l=Option.none):H l=Option.none:=by
 cases q:H l with
 | none=>rfl
 | some o =>
  rw [e l o q] at h
  cases h
theorem Same.seq {K:aa}{H H':Hp}{a:af}{xs:List V}(e:Same H H') (h:SqL K H a xs):SqL K H' a xs:=by
 rcases h with (h|⟨o,h⟩)|h
 ·exact .inl (.inl (e _ _ h))
 ·exact .inl (.inr ⟨o,e _ _ h⟩)
 ·exact .inr h
end L2
namespace L2
open PySem PySem.Spec PyProof.Rows
section
variable {X:Cx}
theorem KZ:CallR X (.builtin "len") (λxs H Q=>∃ a kvs,xs=[V.ref a]/\H a=some (.dK kvs)/\Q (.int kvs.length) H):=by
 intro pins s σ H xs us Q I r h
 obtain ⟨a,kvs,rfl,ha,q⟩:=h
 obtain ⟨u,rfl,ru⟩:=vals1 r
 cases ru
 exact Sn I (.inl ha) λt s' I'=>⟨.int kvs.length,H,I',⟨t,rfl⟩,q⟩
end
section
variable {κ:Type} [DecidableEq κ]
theorem J1:∀ {l:List κ}{k:κ},l.Nodup->¬ k∈l->(l++[k]).Nodup
 | [],k,_,_=>by simp
 | a::r,k,h,hk=>by
  obtain ⟨h1,h2⟩:=bf.mp h
  show (a::(r++[k])).Nodup
  refine bf.mpr ⟨λm=>?_,J1 h2 λm=>hk (ak.mpr (Or.inr m))⟩
  rcases aP.mp m with q|q
  ·exact h1 q
  ·exact hk (ak.mpr (Or.inl (aC.mp q).symm))
theorem K0 {p:κ×V}{r:List (κ×V)}{k:κ}(e:p.1=k):oR (p::r) k=oR r k:=by
 unfold oR
 rw [Qj,if_neg (by simp [e])]
theorem Du {p:κ×V}{r:List (κ×V)}{k:κ}(e:¬ p.1=k):oR (p::r) k=p::oR r k:=by
 unfold oR
 rw [Qj,if_pos (by simp [e])]
theorem Gu:∀ {kvs:List (κ×V)}{k:κ},¬ k∈kvs.map (·.1)->oR kvs k=kvs
 | [],_,_=>rfl
 | p::r,k,h=>by
  have h':¬ k∈r.map (·.1):=λm=>by
   obtain ⟨q,hq,e⟩:=br.mp m
   exact h (br.mpr ⟨q,ak.mpr (Or.inr hq),e⟩)
  rw [Du λe=>h (br.mpr ⟨p,ak.mpr (Or.inl rfl),e⟩),Gu h']
end
end L2
namespace L2
open PySem PySem.Spec PyProof.Rows
def qj (cells:List (bA×af)):List (bA×k8)->List (bA×af)->List (bA×af)
 | [],acc=>acc
 | (n,k)::r,acc=>qj cells r (if k == .free then (n,(cells.lookup n).getD 0)::acc else acc)
theorem uZ {env:HG}:∀ (names:List (bA×k8)) (acc:List (bA×af)),(∀ n,(n,bJ)∈names->∃ c,env.cells.lookup n=some c) ->
  (forIn names acc λ(x:bA×k8) (r:List (bA×af))=>(if x.2 == .free then (cellOf env x.1 >>= λc=>pure (lI ((x.1,c)::r))) else pure (lI r):Qg (ForInStep (List (bA×af)))))=pure (qj env.cells names acc)
 | [],acc,_=>rfl
 | (n,k)::r,acc,h=>by
  rw [uH]
  have hr:∀ n,(n,bJ)∈r->∃ c,env.cells.lookup n=some c:=λn hn=>h n (ag _ hn)
  cases hk:k == bJ with
  | false =>
   simp only [hk,cf,if_false,pure_bind]
   rw [uZ r acc hr]
   show _=pure (qj env.cells r (if k == bJ then _ else acc))
   rw [hk];rfl
  | true =>
   have e:k=.free:=by simpa using hk
   subst e
   obtain ⟨c,hc⟩:=h n aq
   have e2:cellOf env n=pure c:=by unfold cellOf;rw [hc]
   simp only [hk,if_true,e2,pure_bind]
   rw [uZ r _ hr]
   show _=pure (qj env.cells r (if bJ == bJ then (n,(env.cells.lookup n).getD 0)::acc else acc))
   rw [hc];rfl
theorem u0 {scope:lH}{env:HG}(h:∀ n,(n,bJ)∈scope.names->∃ c,env.cells.lookup n=some c):closureFor scope env=pure (qj env.cells scope.names []):=by
 have e:=uZ (env:=env) scope.names [] h
 unfold closureFor
 rw [← bind_pure (pure (qj env.cells scope.names []):Qg _),← e]
theorem lT {cells:List (bA×af)}{x:bA}{c:af}:∀ (names:List (bA×k8)) (acc:List (bA×af)),(∀ n,(n,bJ)∈names->∃ c,cells.lookup n=some c) ->
  (qj cells names acc).lookup x=some c->cells.lookup x=some c\/acc.lookup x=some c
 | [],acc,_,h=>.inr h
 | (n,k)::r,acc,hf,h=>by
  have hr:∀ n,(n,bJ)∈r->∃ c,cells.lookup n=some c:=λn hn=>hf n (ag _ hn)
  unfold qj at h
  rcases lT r _ hr h with z|z
  ·exact .inl z
  ·cases hk:k == bJ with
   | false=>rw [hk] at z;exact .inr z
   | true =>
    have e:k=.free:=by simpa using hk
    subst e
    obtain ⟨d,hd⟩:=hf n aq
    rw [hk,if_pos rfl,hd] at z
    by_cases hx:x=n
    ·subst hx
     rw [cS,beq_self_eq_true] at z
     exact .inl (by rw [hd];exact z)
    ·rw [cS,beq_false_of_ne hx] at z
     exact .inr z
theorem vM {cells:List (bA×af)}{x:bA}:∀ (names:List (bA×k8)) (acc:List (bA×af)),((x,bJ)∈names\/∃ c,acc.lookup x=some c)->∃ c,(qj cells names acc).lookup x=some c
 | [],acc,h=>h.elim (λz=>nomatch z) λz=>z
 | (n,k)::r,acc,h=>by
  unfold qj
  refine vM r _ ?_
  rcases h with z|⟨c,z⟩
  ·rcases ak.mp z with e|z
   ·have e1:n=x:=(cE e).1.symm
    have e2:k=.free:=(cE e).2.symm
    subst e1 e2
    exact .inr ⟨_,by rw [if_pos (by rfl),cS,beq_self_eq_true]⟩
   ·exact .inl z
  ·refine .inr ?_
   split
   ·rw [cS]
    cases x == n
    ·exact ⟨c,z⟩
    ·exact ⟨_,rfl⟩
   ·exact ⟨c,z⟩
theorem vN {env:HG}{x:bA}{k:k8}:∀ {names:List (bA×k8)},
  (names.map λ(n,k)=>if (k == bJ && env.scope.kind == .function && env.kindOf n == some .cell) then (n,h9) else (n,k)).lookup x=some k ->
   ∃ k0,names.lookup x=some k0/\(k=k0\/(k0=.free/\k=.cell))
 | [],h=>by simp at h
 | (n,k1)::r,h=>by
  have ih:=@vN env x k r
  have h:eU x ((if (k1 == bJ && env.scope.kind == .function && env.kindOf n == some .cell)=true then (n,h9) else (n,k1))::r.map λ(n,k)=>if (k == bJ && env.scope.kind == .function && env.kindOf n == some .cell) then (n,h9) else (n,k))=some k:=h
  by_cases hc:(k1 == bJ && env.scope.kind == .function && env.kindOf n == some .cell)=true
  ·rw [if_pos hc,cS] at h
   rw [cS]
   have e:k1=.free:=by
    rw [gm,gm] at hc
    simpa using hc.1.1
   cases hx:x == n with
   | true=>rw [hx] at h;exact ⟨k1,rfl,.inr ⟨e,(aS h).symm⟩⟩
   | false=>rw [hx] at h;exact ih h
  ·rw [if_neg hc,cS] at h
   rw [cS]
   cases hx:x == n with
   | true=>rw [hx] at h;exact ⟨k1,rfl,.inl (aS h).symm⟩
   | false=>rw [hx] at h;exact ih h
theorem yq {env:HG}{x:bA}:∀ {names:List (bA×k8)},names.lookup x=some .free ->
  (names.map λ(n,k)=>if (k == bJ && env.scope.kind == .function && env.kindOf n == some .cell) then (n,h9) else (n,k)).lookup x=some .free \/
  (names.map λ(n,k)=>if (k == bJ && env.scope.kind == .function && env.kindOf n == some .cell) then (n,h9) else (n,k)).lookup x=some .cell
 | [],h=>by simp at h
 | (n,k1)::r,h=>by
  have ih:=@yq env x r
  show eU x ((if (k1 == bJ && env.scope.kind == .function && env.kindOf n == some .cell)=true then (n,h9) else (n,k1))::r.map λ(n,k)=>if (k == bJ && env.scope.kind == .function && env.kindOf n == some .cell) then (n,h9) else (n,k))=some .free \/
   eU x ((if (k1 == bJ && env.scope.kind == .function && env.kindOf n == some .cell)=true then (n,h9) else (n,k1))::r.map λ(n,k)=>if (k == bJ && env.scope.kind == .function && env.kindOf n == some .cell) then (n,h9) else (n,k))=some .cell
  rw [cS] at h
  by_cases hc:(k1 == bJ && env.scope.kind == .function && env.kindOf n == some .cell)=true
  ·rw [if_pos hc,cS]
   cases hx:x == n with
   | true=>exact .inr rfl
   | false=>rw [hx] at h;exact ih h
  ·rw [if_neg hc,cS]
   cases hx:x == n with
   | true=>rw [hx] at h;exact .inl h
   | false=>rw [hx] at h;exact ih h
theorem mem_of_lookup {x:bA}{k:k8}:∀ {names:List (bA×k8)},names.lookup x=some k->(x,k)∈names
 | [],h=>by simp at h
 | (n,k1)::r,h=>by
  rw [cS] at h
  cases hx:x == n with
  | true =>
   rw [hx] at h
   have e:x=n:=by simpa using hx
   rw [e,aS h];exact aq
  | false=>rw [hx] at h;exact ag _ (mem_of_lookup h)
def D9 (X:Cx) (N:List bA) (scope:lH) (s:au) (H:Hp) (fp:List af):Cx where
 prog:=X.prog
 w:=X.w
 K:=X.K
 mg:=X.mg
 base:=X.base
 A:=X.A
 N:=N
 s₀:=s
 H₀:=H
 env:=compEnvC scope (qj X.env.cells scope.names []) s.heap.objs.size X.env
 outer:=X.stack
 stack:=X.stack
 ex:=fp
 fn:=λ_=>false
 calm:=X.calm
 pn:=[]
 xe:=λ_ _=>False
def Caps (X:Cx) (scope:lH):List Nat->List bA->Prop
 | [],[]=>True
 | j::js,y::ys=>X.N[j]?=some y/\(X.env.kindOf y=some .cell\/X.env.kindOf y=some .free)/\scope.names.lookup y=some .free/\Caps X scope js ys
 | _,_=>False
def Gv (σ:St) (js:List Nat):St:=js.map λj=>(σ[j]?).join
theorem Caps.len {X:Cx}{scope:lH}:∀ {js:List Nat}{ys:List bA},Caps X scope js ys->js.length=ys.length
 | [],[],_=>rfl
 | _::_,_::_,h=>by rw [cg,cg,Caps.len h.2.2.2]
 | [],_::_,h=>h.elim
 | _::_,[],h=>h.elim
theorem Caps.get {X:Cx}{scope:lH}{σ:St}{y:bA}{v:V}:∀ {js:List Nat}{ys:List bA}{i:Nat},Caps X scope js ys->ys[i]?=some y->(Gv σ js)[i]?=some (some v) ->
  ∃ j:Nat,X.N[j]?=some y/\σ[j]?=some (some v)/\(X.env.kindOf y=some .cell\/X.env.kindOf y=some .free)/\scope.names.lookup y=some .free
 | [],[],i,_,e,_=>by simp at e
 | j::js,z::ys,0,h,e,q=>by
  simp only [nv,gj] at e
  subst e
  refine ⟨j,h.1,?_,h.2.1,h.2.2.1⟩
  have q':(σ[j]?).join=some v:=by simpa [Gv] using q
  cases hj:σ[j]? with
  | none=>rw [hj] at q';simp at q'
  | some o=>rw [hj] at q';rw [← q'];rfl
 | j::js,z::ys,i+1,h,e,q=>Caps.get (i:=i) h.2.2.2 (by simpa using e) (by simpa [Gv] using q)
 | [],_::_,_,h,_,_=>h.elim
 | _::_,[],_,h,_,_=>h.elim
section
variable {X:Cx}{pins:List (af×fR)}{σ:St}{H:Hp}{s s':au}{scope:lH}{fp:List af}
theorem Ir {N:List bA}(I:Inv X pins σ H s) (hf:∀ b∈fp,xn X pins H b) (hlt:∀ b∈fp,b<s.heap.objs.size) (hkind:scope.kind=.function) (hcell:∀ y∈scope.names,y.2≠.cell)
  (hfr:∀ n,(n,bJ)∈scope.names->∃ c,X.env.cells.lookup n=some c):(D9 X N scope s H fp).Ok where
 mod:=I.mod
 kind:=hkind
 glob:=I.ok.glob
 blt:=I.ok.blt
 above:=aw _
 inj:=λx y c h1 h2=>I.ok.inj x y c ((lT _ _ hfr h1).resolve_right (by simp)) ((lT _ _ hfr h2).resolve_right (by simp))
 has:=λx hx=>by
  refine vM _ _ (.inl ?_)
  have key:∀ k,(k=h9\/k=bJ)->(relabel scope X.env).names.lookup x=some k->(x,bJ)∈scope.names:=λk hk e=>by
   obtain ⟨k0,e0,z⟩:=vN e
   rcases z with z|⟨z,_⟩
   ·subst z
    rcases hk with hk|hk
    ·subst hk;exact absurd rfl (hcell _ (mem_of_lookup e0))
    ·subst hk;exact mem_of_lookup e0
   ·subst z;exact mem_of_lookup e0
  rcases hx with hx|hx
  ·exact key _ (.inl rfl) hx
  ·exact key _ (.inr rfl) hx
 cab:=λx c h=>by cases h
 hd:=I.ok.hd
 frames:=I.ok.frames
 stk:=.inl rfl
 exf:=λb hb=>⟨aW (hlt b hb),λx c e=>(hf b hb).2.2.2.2.1 x c ((lT _ _ hfr e).resolve_right (by simp))⟩
 bs:=I.bs
 bsz:=bg I.ok.bsz I.sz
 noex:=λb o e hb=>by
  rcases (hf b hb).2.2.2.1 with z|z
  ·exact I.ok.noex b o e z
  ·exact absurd (bh (aL e) (bg I.ok.bsz z)) (gH _)
 exfs:=λb hb hs=>by
  rcases ak.mp (I.stkSub b hs) with z|z
  ·exact (hf b hb).2.1 z
  ·exact (hf b hb).2.2.1 z
 funs:=I.stack
 frf:=I.stkFree
theorem OT {own ys:List bA}{js:List Nat}{h1:cm}{tk:Nat}{m:bA->Option ai}(I:Inv X pins σ H s) (hf:∀ b∈fp,xn X pins H b) (hlt:∀ b∈fp,b<s.heap.objs.size) (hkind:scope.kind=.function)
  (hcell:∀ y∈scope.names,y.2≠.cell) (hfr:∀ n,(n,bJ)∈scope.names->∃ c,X.env.cells.lookup n=some c) (hc:Caps X scope js ys)
  (hn:h1.Ns s.heap.objs.size m) (hk:∀ b o,s.heap.get? b=some o->h1.get? b=some o) :
  Inv (D9 X (own++ys) scope s H fp) [] (qR own.length none++Gv σ js) H { s with heap:=h1,toks:=tk }:=by
 have hcl:∀ x c,(qj X.env.cells scope.names []).lookup x=some c->X.env.cells.lookup x=some c:=λx c e=>(lT _ _ hfr e).resolve_right (by simp)
 refine ⟨Ir I hf hlt hkind hcell hfr,rfl,I.bare,Un.kept hk,⟨m,hn,λi x v e1 e2 e3=>?_⟩,λx c e=>?_,I.fresh,λx c e=>I.freeC x c (hcl x c e),(λp hp=>nomatch hp),I.hok.kept hk,?_⟩
 ·have e1':(own++ys)[i]?=some x:=e1
  by_cases hi:i<own.length
  ·rw [ck (by simpa using hi)] at e2
   rw [JL] at e2
   split at e2
   ·cases aS e2
   ·cases e2
  ·have hi':own.length<=i:=pE hi
   rw [bx hi'] at e1'
   rw [bx (by simpa using hi'),uT] at e2
   obtain ⟨j,q1,q2,q3,q4⟩:=hc.get e1' e2
   obtain ⟨m0,_,hl⟩:=I.loc
   obtain ⟨u,r,l⟩:=hl j x v q1 q2 (by
    rcases q3 with q3|q3
    ·exact .inr (.inl q3)
    ·exact .inr (.inr q3))
   refine ⟨u,r,.inr ⟨?_,?_⟩⟩
   ·rcases yq (env:=X.env) q4 with z|z
    ·exact .inr z
    ·exact .inl z
   ·rcases l with ⟨k,_⟩|⟨_,c,hc1,hc2⟩
    ·rcases q3 with q3|q3<;>rw [k] at q3<;>cases aS q3
    ·obtain ⟨d,hd⟩:=vM (cells:=X.env.cells) (x:=x) scope.names [] (.inl (mem_of_lookup q4))
     have hd':=hcl x d hd
     rw [hc1] at hd'
     cases aS hd'
     obtain ⟨o,ho,hod⟩:=hc2
     exact ⟨c,hd,o,hk c o ho,hod⟩
 ·obtain ⟨v,o,ho,hod⟩:=I.cell x c (hcl x c e)
  exact ⟨v,o,hk c o ho,hod⟩
 ·show (qR own.length none++Gv σ js).length=(own++ys).length
  rw [aX,aX,uT,Gv,aj,hc.len]
theorem MC {N:List bA}{σ':St}{H':Hp}(I:Inv X pins σ H s) (hf:∀ b∈fp,xn X pins H b) (J:Inv (D9 X N scope s H fp) [] σ' H' s'):Inv X pins σ H' s' :=
 I.call' (ch:=fp) J.os J.base J.hok J.bare λb hb=>⟨(hf b hb).2.2.2.1,(hf b hb).2.1,(hf b hb).2.2.2.2.1,(hf b hb).2.2.2.2.2⟩
end
section
variable {prog:bp}{w:b8}{A:cp}{R:LG->au->Prop}{s:au}
theorem Ea {elt target iter:Expr}{ifs:List Expr}{scope:lH}{pos:qQ}{it acc:ai}{env:HG}(I:Nat->au->Prop)
  (turn:∀ n s,I n s->aK (aU prog w) A (jy it) (λr s₁=>match r with
   | none=>R (.ok .next) s₁
   | some v=>aK (aU prog w) A (xh target it v) (λ_ s₁'=>aK (aU prog w) A (HH target env v) (λ_ s₂ =>
     aK (aU prog w) A (forIn ifs true λc r=>if r=true then do let ok ← isTrue c env (fV c env);pure (lI ok) else pure (lI r)) (λok s₃ =>
      if ok=true then aK (aU prog w) A (fV elt env) (λx s₄ =>
       aK (aU prog w) A (call (.builtin "list.append") [acc,x]) (λ_ s₅=>∃ m,m<n/\I m s₅) (λ_ _=>False) s₄) (λ_ _=>False) s₃
      else ∃ m,m<n/\I m s₃) (λ_ _=>False) s₂) (λ_ _=>False) s₁') (λ_ _=>False) s₁) (λ_ _=>False) s)
  (n:Nat) (h:I n s) :
  m8 (aU prog w) A (.compLoop (.ListComp elt [⟨target,iter,ifs,0⟩] scope pos) 0 it acc env) R s:=by
 refine codeAny_loop rfl I (λn s hI=>?_) n h
 show aK _ A ((compTurn (.ListComp elt [⟨target,iter,ifs,0⟩] scope pos) 0 it acc env).onRaise (λx=>do noteFrame x env;theTreesLotGoes x)) _ _ s
 refine wpAny_noted ?_
 rw [compTurn_list]
 refine ae (BD (ae (gf (turn n s hI) (λr s₁ h₁=>?_) λ_ _ h'=>h'.elim)))
 cases r with
 | none=>exact ao h₁
 | some v =>
  refine ae (gf h₁ (λ_ s₁' h₁'=>?_) λ_ _ h'=>h'.elim)
  refine ae (gf h₁' (λ_ s₂ h₂=>ae (gf h₂ (λok s₃ h₃=>?_) λ_ _ h'=>h'.elim)) λ_ _ h'=>h'.elim)
  cases ok with
  | false=>exact ao ⟨rfl,h₃⟩
  | true =>
   exact ae (ae (gf h₃ (λx s₄ h₄=>ae (gf h₄ (λ_ s₅ h₅=>ao (ao ⟨rfl,h₅⟩)) λ_ _ h'=>h'.elim)) λ_ _ h'=>h'.elim))
end
def MD (X:Cx) (ifs:List Expr) (t:TT):Prop :=
 ∀ (pins:List (af×fR)) (s:au) (σ:St) (H:Hp) (Q:Bool->Hp->Prop),Inv X pins σ H s->t σ H Q ->
  aK (aU X.prog X.w) X.A (forIn ifs true λc r=>if r=true then do let ok ← isTrue c X.env (fV c X.env);pure (lI ok) else pure (lI r)) (TP X pins σ Q) X.xe s
def Ae:TT:=λ_ H Q=>Q true H
theorem qV {X:Cx}:MD X [] Ae:=λ_ _ _ H _ I h=>wpAny_tests_nil ⟨H,I,h⟩
theorem qW {X:Cx}{c:Expr}{t:TT}(h:PT X c t):MD X [c] t:=λpins s σ H Q I q=>wpAny_tests_one (h pins s σ H Q I q)
def oS (own:Nat) (js:List Nat) (wi:TI) (g:TG) (tt:TT) (te:TE):TE:=λσ H Q=>wi σ H λJ H1=>∀ acc,H1 acc=none ->
 ∃ W:Nat->Nat->List V->St->Hp->Prop,(∃ m,W 0 m [] (qR own none++Gv σ js) (upd H1 acc (.lst [])))/\∀ i m ys σ' H',W i m ys σ' H'->H' acc=some (.lst ys) /\
  ((J.stop i H'/\Q (.ref acc) H')\/(J.go i H'/\∀ x H2,J.yld i H' x H2->g x σ' H2 λσ2 H3=>tt σ2 H3 λb H4 =>
   if b=true then te σ2 H4 λy H5=>H5 acc=some (.lst ys)/\ys.length<a0/\∃ m',m'<m/\W (i+1) m' (ys++[y]) σ2 (upd H5 acc (.lst (ys++[y]))) else ∃ m',m'<m/\W (i+1) m' ys σ2 H4))
section
variable {X:Cx}
theorem Gw {elt tg iter:Expr}{ifs:List Expr}{scope:lH}{pos:qQ}{own ys:List bA}{js:List Nat}{wi:TI}{g:TG}{tt:TT}{te:TE}{pins:List (af×fR)}{s:au}{σ:St}{H:Hp}{Q:VK}
  {use:Option (ai->Qg Unit)}{Q':ai->au->Prop}{p:qQ}(hcalm:X.calm=true)
  (hi:PI X tg iter wi) (hkind:scope.kind=.function) (hcell:∀ y∈scope.names,y.2≠.cell) (hnames:∀ y∈scope.names,y.2=.local->scope.names.lookup y.1=some .local)
  (hfr:∀ n,(n,bJ)∈scope.names->∃ c,X.env.cells.lookup n=some c) (hc:Caps X scope js ys)
  (hg:∀ s0 H0 fp,PG (D9 X (own++ys) scope s0 H0 fp) tg g) (ht:∀ s0 H0 fp,MD (D9 X (own++ys) scope s0 H0 fp) ifs tt) (he:∀ s0 H0 fp,PE (D9 X (own++ys) scope s0 H0 fp) elt te)
  (I:Inv X pins σ H s) (h:oS own.length js wi g tt te σ H Q)
  (hu:∀ (D C:af) (H':Hp) (s':au),Inv X pins σ H' s'->Q (.ref D) H'->xn X pins H' C->(∃ m,s'.heap.Ns C m)->compPost (aU X.prog X.w) X.A X.xe use Q' (.ref D) C (.ok .next) s')
  (hs:∀ x,uk iter X.env x=pure x) :
  aK (aU X.prog X.w) X.A (comprehension (.ListComp elt [⟨tg,iter,ifs,0⟩] scope pos) scope X.env p (newList []) false (fV iter X.env) use) Q' X.xe s:=by
 refine wpAny_comprehension_free (g:=⟨tg,iter,ifs,0⟩) (gs:=[]) rfl hs (u0 hfr) hkind hnames (ij (hi pins s σ H _ I h) λv s1 h1=>ij h1 λitv s2 h2=>?_)
 obtain ⟨it,fp,tn,J,H2,e,I2,T,st2,f2,q⟩:=h2
 subst e
 refine cI (RI hcell (by intro y hy;simp at hy) (λh₁ hns₁ hsb₁=>?_) hkind)
 dsimp only at hns₁ hsb₁ ⊢
 have nD:H2 s2.heap.objs.size=none:=I2.fresh
 have I3:Inv X pins σ (upd H2 s2.heap.objs.size (.lst [])) { s2 with heap:=s2.heap.push { cls:=.type "list",data:=.seq ([]:List ai).toArray },toks:=s2.toks }:=I2.lnew (its:=[]) .nil (a9 _)
 have hlt2:∀ b∈fp,b<s2.heap.objs.size:=λb hb=>let ⟨o,e,_⟩:=T.obj _ _ st2 b hb;aL e
 obtain ⟨W,⟨m0,w0⟩,turn⟩:=q _ nD
 generalize hs3:({ s2 with heap:=s2.heap.push { cls:=.type "list",data:=.seq ([]:List ai).toArray },toks:=s2.toks }:au)=s3 at I3
 have hh3:s2.heap.push { cls:=.type "list",dict:=none,data:=.seq ([]:List ai).toArray }=s3.heap:=by rw [← hs3]
 have hsz3:s3.heap.objs.size=s2.heap.objs.size+1:=by rw [← hh3,jv]
 have hlt3:∀ b∈fp,b<s3.heap.objs.size:=λb hb=>by rw [hsz3];exact sE (hlt2 b hb)
 have f3:∀ b∈fp,xn X pins (upd H2 s2.heap.objs.size (.lst [])) b:=λb hb=>⟨by rw [aJ (aW (hlt2 b hb))];exact (f2 b hb).1,(f2 b hb).2⟩
 have fC:xn X pins (upd H2 s2.heap.objs.size (.lst [])) s3.heap.objs.size:=I3.fpOk (aw _) I3.fresh
 rw [hh3] at hns₁ hsb₁ ⊢
 have hk3:∀ b o,s3.heap.get? b=some o->h₁.get? b=some o:=λb o e=>hsb₁.extBut b o (aW (aL e)) (ax _ e)
 have es4:({ s2 with heap:=h₁,toks:=s2.toks+([]:List (bA×ai)).length }:au)={ s3 with heap:=h₁,toks:=s2.toks+([]:List (bA×ai)).length }:=by rw [← hs3]
 have I4:=OT (own:=own) (h1:=h₁) (tk:=s2.toks+([]:List (bA×ai)).length) I3 f3 hlt3 hkind hcell hfr hc hns₁ hk3
 have st4:tn 0 h₁:=T.keep _ _ _ st2 λb hb o e=>hk3 b o (by rw [← hh3];exact ax _ e)
 have stat:∀ {H':Hp},(∀ b∈fp,H' b=none)->∀ b∈fp,xn (D9 X (own++ys) scope s3 (upd H2 s2.heap.objs.size (.lst [])) fp) [] H' b:=λhn b hb =>
  ⟨hn b hb,aW (hlt3 b hb),(Ir (N:=own++ys) I3 f3 hlt3 hkind hcell hfr).exfs b hb,.inl hb,λx c e=>((Ir (N:=own++ys) I3 f3 hlt3 hkind hcell hfr).exf b hb).2 x c e,λp hp=>nomatch hp⟩
 have Mn:∀ s4:au,s4={ s3 with heap:=h₁,toks:=s2.toks+([]:List (bA×ai)).length } ->
   m8 (aU X.prog X.w) X.A (.compLoop (.ListComp elt [⟨tg,iter,ifs,0⟩] scope pos) 0 (.ref it) (.ref s2.heap.objs.size) (compEnvC scope (qj X.env.cells scope.names []) s3.heap.objs.size X.env))
    (compPost (aU X.prog X.w) X.A X.xe use Q' (.ref s2.heap.objs.size) s3.heap.objs.size) s4:=by
  rintro s4 rfl
  refine Ea (λn s'=>∃ i ys' σ' H',Inv (D9 X (own++ys) scope s3 (upd H2 s2.heap.objs.size (.lst [])) fp) [] σ' H' s'/\tn i s'.heap/\(∀ b∈fp,H' b=none)/\W i n ys' σ' H') ?_ m0
   ⟨0,[],_,_,I4,st4,λb hb=>(f3 b hb).1,w0⟩
  rintro n s5 ⟨i,ys',σ5,H5,I5,st5,fr5,w5⟩
  obtain ⟨hacc,rest⟩:=turn i n ys' σ5 H5 w5
  rcases rest with ⟨stop,qn⟩|⟨go,step⟩
  ·refine ij (T.done (D9 X (own++ys) scope s3 (upd H2 s2.heap.objs.size (.lst [])) fp) rfl rfl rfl hcalm i [] s5 σ5 H5 _ I5 (stat fr5) st5 stop) λr s6 ⟨hr,I6⟩=>?_
   subst hr
   exact hu _ _ H5 s6 (MC I3 f3 I6) qn ⟨I6.free,fC.2⟩ (let ⟨m,hn,_⟩:=I6.loc;⟨m,hn⟩)
  ·refine ij (T.item (D9 X (own++ys) scope s3 (upd H2 s2.heap.objs.size (.lst [])) fp) rfl rfl rfl hcalm i [] s5 σ5 H5 _ I5 (stat fr5) st5 go) λr s6 ⟨u,hr,h6⟩=>?_
   subst hr
   refine ij h6 λ_ s7 ⟨x,H7,I7,r7,y7,st7,fr7⟩=>?_
   have I7':=I7.pinned (stat fr7) (T.obj _ _ st7)
   refine ij (hg _ _ _ _ s7 σ5 H7 x u _ I7' r7 (step x H7 y7)) λ_ s8 ⟨σ8,H8,I8,q8⟩=>?_
   refine ij (ht _ _ _ _ s8 σ8 H8 _ I8 q8) λok s9 ⟨H9,I9,q9⟩=>?_
   have kept:∀ {s10:au}{σ10:St}{H10:Hp},Inv (D9 X (own++ys) scope s3 (upd H2 s2.heap.objs.size (.lst [])) fp) ([]++zX fp s7.heap) σ10 H10 s10 ->
     Inv (D9 X (own++ys) scope s3 (upd H2 s2.heap.objs.size (.lst [])) fp) [] σ10 H10 s10/\tn (i+1) s10.heap/\∀ b∈fp,H10 b=none:=λ{s10 σ10 H10} I10=>by
    refine ⟨I10.unpinned,T.keep _ _ _ st7 λb hb o e=>(I10.pin (b,o) (aZ _ (aZ _ (sd hb e)))).1,λb hb=>?_⟩
    obtain ⟨o,e,d⟩:=T.obj _ _ st7 b hb
    exact (I10.pin (b,o) (aZ _ (aZ _ (sd hb e)))).2.1
   cases ok with
   | false =>
    simp only [cf,if_false] at q9 ⊢
    obtain ⟨m',hm,w9⟩:=q9
    obtain ⟨k1,k2,k3⟩:=kept I9
    exact ⟨m',hm,i+1,ys',σ8,H9,k1,k2,k3,w9⟩
   | true =>
    simp only [if_true] at q9 ⊢
    refine ij (he _ _ _ _ s9 σ8 H9 _ I9 q9) λyv s10 ⟨y,H10,I10,r10,a10,l10,m',hm,w10⟩=>?_
    refine ij (kC (X:=D9 X (own++ys) scope s3 (upd H2 s2.heap.objs.size (.lst [])) fp) _ s10 σ8 H10 (.ref s2.heap.objs.size) [y] (.ref s2.heap.objs.size) [yv] (λv H'=>v=.non/\H'=upd H10 s2.heap.objs.size (.lst (ys'++[y]))) I10 rfl (.cons r10 .nil) ⟨_,_,_,rfl,rfl,a10,l10,rfl,rfl⟩) λ_ s11 ⟨_,H11,I11,_,_,e11⟩=>?_
    subst e11
    obtain ⟨k1,k2,k3⟩:=kept I11
    exact ⟨m',hm,i+1,_,σ8,_,k1,k2,k3,w10⟩
 have fin:=codeAny_compStart_list (R:=compPost (aU X.prog X.w) X.A X.xe use Q' (.ref s2.heap.objs.size) s3.heap.objs.size) (Mn _ rfl) (T.self X.A 0 { s3 with heap:=h₁,toks:=s2.toks+([]:List (bA×ai)).length } _ _ st4 (Mn _ rfl))
 rw [← hs3] at fin ⊢
 exact fin
theorem vO {pins:List (af×fR)}{σ:St}{H:Hp}{s:au}{scope:lH}(I:Inv X pins σ H s) (h:(scope.names.all λy=>y.2 != .free || X.env.kindOf y.1 == some .cell || X.env.kindOf y.1 == some .free)=true) :
  ∀ n,(n,bJ)∈scope.names->∃ c,X.env.cells.lookup n=some c:=λn hn=>by
 have q:=Qk.mp h _ hn
 simp only [bne_self_eq_false,Bool.false_or,Bool.or_eq_true,beq_iff_eq] at q
 exact I.ok.has n q
theorem qq {elt tg iter:Expr}{ifs:List Expr}{scope:lH}{pos:qQ}(own:List bA) {ys:List bA}(js:List Nat) {wi:TI}{g:TG}{tt:TT}{te:TE}(hcalm:X.calm=true)
  (hi:PI X tg iter wi) (hc:Caps X scope js ys)
  (hg:∀ s0 H0 fp,PG (D9 X (own++ys) scope s0 H0 fp) tg g) (ht:∀ s0 H0 fp,MD (D9 X (own++ys) scope s0 H0 fp) ifs tt) (he:∀ s0 H0 fp,PE (D9 X (own++ys) scope s0 H0 fp) elt te)
  (hfr:(scope.names.all λy=>y.2 != .free || X.env.kindOf y.1 == some .cell || X.env.kindOf y.1 == some .free)=true:=by rfl)
  (hkind:scope.kind=.function:=by rfl) (hcell:∀ y∈scope.names,y.2≠.cell:=by decide +kernel) (hnames:∀ y∈scope.names,y.2=.local->scope.names.lookup y.1=some .local:=by decide +kernel)
  (hs:∀ x,uk iter X.env x=pure x:=by intro _;rfl):PE X (.ListComp elt [⟨tg,iter,ifs,0⟩] scope pos) (oS own.length js wi g tt te):=by
 intro pins s σ H Q I h
 rw [eval_ListComp]
 refine Gw (use:=none) hcalm hi hkind hcell hnames (vO I hfr) hc hg ht he I h (λD C H' s' I' q fC ⟨m,hn⟩=>⟨m,hn,λh' hs'=>⟨.ref D,H',?_,rfl,q⟩⟩) hs
 exact I'.turned (t':=s'.toks) (λb o hb e=>(hs'.2 b hb).trans e) fC.1 fC.2.1 fC.2.2.2.1 fC.2.2.2.2.1 fC.2.2.2.2.2
theorem zD {elt tg iter:Expr}{ifs:List Expr}{scope:lH}{pos spos py:qQ}{i:Nat}{y:bA}(own:List bA) {ys:List bA}(js:List Nat) {wi:TI}{g:TG}{tt:TT}{te:TE}(hcalm:X.calm=true)
  (hN:X.N.Nodup) (hy:X.N[i]?=some y) (hl:X.env.scope.names.lookup y=some .local)
  (hi:PI X tg iter wi) (hc:Caps X scope js ys)
  (hg:∀ s0 H0 fp,PG (D9 X (own++ys) scope s0 H0 fp) tg g) (ht:∀ s0 H0 fp,MD (D9 X (own++ys) scope s0 H0 fp) ifs tt) (he:∀ s0 H0 fp,PE (D9 X (own++ys) scope s0 H0 fp) elt te)
  (hfr:(scope.names.all λy=>y.2 != .free || X.env.kindOf y.1 == some .cell || X.env.kindOf y.1 == some .free)=true:=by rfl)
  (hsw:Oi (.ListComp elt [⟨tg,iter,ifs,0⟩] scope pos) (some (.Name y py)) spos.line X.env=pure true:=by rfl)
  (hkind:scope.kind=.function:=by rfl) (hcell:∀ y∈scope.names,y.2≠.cell:=by decide +kernel) (hnames:∀ y∈scope.names,y.2=.local->scope.names.lookup y.1=some .local:=by decide +kernel)
  (hs:∀ x,uk iter X.env x=pure x:=by intro _;rfl) :
  PS X (.Assign [.Name y py] (.ListComp elt [⟨tg,iter,ifs,0⟩] scope pos) spos) (eF (oS own.length js wi g tt te) (bI i)):=by
 intro pins s σ H D I h
 rw [exec_Assign_Name_used _ _ _ _ hsw]
 refine ae (BD (ae ?_))
 show aK _ X.A (do let _ ← comprehension (.ListComp elt [⟨tg,iter,ifs,0⟩] scope pos) scope X.env _ (newList []) false (fV iter X.env) (some (HH (.Name y py) X.env))) _ _ s
 refine ae (gf (Gw (Q:=λx H1=>bI i x σ H1 D.nx) (Q':=λ_ s'=>SP X pins D .next s') (use:=some (HH (.Name y py) X.env)) hcalm hi hkind hcell hnames (vO I hfr) hc hg ht he I h (λDd C H' s' I' q fC ⟨m,hn⟩=>?_) hs) (λ_ s' hq=>ao (ao hq)) λ_ _ e=>e)
 show aK _ X.A (HH (.Name y py) X.env (.ref Dd)) _ _ _
 refine wpAny_assign_Name (Df (v:=.ref Dd) I' hN hy (.inl hl) rfl (λs'' I'' ⟨a,sb,ha⟩=>?_) (.inr hl))
 have hCa:C≠a:=by
  rcases ha with z|z
  ·rw [z];exact fC.2.1
  ·exact Ne.symm (fC.2.2.2.2.1 _ _ z)
 refine ⟨m,hn.sameBut sb hCa,λh' hs'=>?_⟩
 exact ⟨_,H',I''.turned (t':=s''.toks) (λb o hb e=>(hs'.2 b hb).trans e) fC.1 fC.2.1 fC.2.2.2.1 fC.2.2.2.2.1 fC.2.2.2.2.2,q⟩
end
end L2
namespace L2
open PySem PySem.Spec PyProof.Rows
mutual
def Rep (K:aa) (H:Hp):iW->V->Prop
 | .none,v=>v=.non
 | .bool b,v=>v=.bl b
 | .int i,v=>v=.int i
 | .str x,v=>v=.str x
 | .list ds,v=>∃ a xs,v=.ref a/\SqL K H a xs/\RepAll K H ds xs
 | .tuple ds,v=>∃ a xs,v=.ref a/\SqT K H a xs/\RepAll K H ds xs
 | .dict _,_=>False
def RepAll (K:aa) (H:Hp):List iW->List V->Prop
 | [],vs=>vs=[]
 | d::ds,vs=>∃ v r,vs=v::r/\Rep K H d v/\RepAll K H ds r
end
section
variable {X:Cx}{pins:List (af×fR)}{σ:St}{H:Hp}{s:au}
mutual
theorem Rep.reads (I:Inv X pins σ H s):∀ (d:iW) (v:V) (u:ai),Rep X.K H d v->RelV v u->∃ as,Reads s.heap u d as
 | .none,v,u,h,r=>by
  cases (show v=.non by simpa only [Rep] using h)
  cases (show u=c9 from r);exact ⟨_,.none⟩
 | .bool b,v,u,h,r=>by
  cases (show v=.bl b by simpa only [Rep] using h)
  cases (show u=qK b from r);exact ⟨_,.bool b⟩
 | .int i,v,u,h,r=>by
  cases (show v=.int i by simpa only [Rep] using h)
  obtain ⟨t,rfl⟩:=(show ∃ t,u=gN i t from r);exact ⟨_,.int i t⟩
 | .str x,v,u,h,r=>by
  cases (show v=.str x by simpa only [Rep] using h)
  obtain ⟨t,rfl⟩:=(show ∃ t,u=sM x t from r);exact ⟨_,.str x t⟩
 | .list ds,v,u,h,r=>by
  obtain ⟨a,xs,rfl,hq,ha⟩:=(show ∃ a xs,v=.ref a/\SqL X.K H a xs/\RepAll X.K H ds xs by simpa only [Rep] using h)
  cases (show u=aI a from r)
  obtain ⟨its,rv,⟨o,n,e1,e2,_,e3⟩,_⟩:=I.list hq
  obtain ⟨as,ra⟩:=RepAll.reads I ds xs its ha rv
  exact ⟨_,.list e1 e2 e3 (by simpa using ra)⟩
 | .tuple ds,v,u,h,r=>by
  obtain ⟨a,xs,rfl,hq,ha⟩:=(show ∃ a xs,v=.ref a/\SqT X.K H a xs/\RepAll X.K H ds xs by simpa only [Rep] using h)
  cases (show u=aI a from r)
  obtain ⟨its,rv,⟨o,e1,e2,n,e3⟩,_⟩:=I.tuple hq
  obtain ⟨as,ra⟩:=RepAll.reads I ds xs its ha rv
  exact ⟨_,.tuple e1 e2 e3 (by simpa using ra)⟩
 | .dict _,v,u,h,r=>absurd h (by simp only [Rep];exact λz=>z)
theorem RepAll.reads (I:Inv X pins σ H s):∀ (ds:List iW) (vs:List V) (us:List ai),RepAll X.K H ds vs->Vals vs us->∃ as,ReadsAll s.heap us ds as
 | [],vs,us,h,r=>by
  cases (show vs=[] by simpa only [RepAll] using h)
  cases r;exact ⟨_,.nil⟩
 | d::ds,vs,us,h,r=>by
  obtain ⟨v,rr,rfl,h1,h2⟩:=(show ∃ v r,vs=v::r/\Rep X.K H d v/\RepAll X.K H ds r by simpa only [RepAll] using h)
  cases r with
  | cons ru rs =>
   obtain ⟨as,r1⟩:=Rep.reads I d v _ h1 ru
   obtain ⟨bs,r2⟩:=RepAll.reads I ds rr _ h2 rs
   exact ⟨_,.cons r1 r2⟩
end
end
theorem Same.seqT {K:aa}{H H':Hp}{a:af}{xs:List V}(e:Same H H') (h:SqT K H a xs):SqT K H' a xs:=by
 rcases h with (h|⟨o,h⟩)|h
 ·exact .inl (.inl (e _ _ h))
 ·exact .inl (.inr ⟨o,e _ _ h⟩)
 ·exact .inr h
theorem RepAll.cons {K:aa}{H:Hp}{d:iW}{v:V}{ds:List iW}{vs:List V}(h1:Rep K H d v) (h2:RepAll K H ds vs):RepAll K H (d::ds) (v::vs):=by
 simp only [RepAll];exact ⟨v,vs,rfl,h1,h2⟩
theorem RepAll.nil {K:aa}{H:Hp}:RepAll K H [] []:=by simp only [RepAll]
theorem Rep.int {K:aa}{H:Hp}(i:Int):Rep K H (.int i) (.int i):=by simp only [Rep]
theorem Rep.lst {K:aa}{H:Hp}{a:af}{xs:List V}{ds:List iW}(h:SqL K H a xs) (r:RepAll K H ds xs):Rep K H (.list ds) (.ref a):=by
 simp only [Rep];exact ⟨a,xs,rfl,h,r⟩
theorem Rep.tup {K:aa}{H:Hp}{a:af}{xs:List V}{ds:List iW}(h:SqT K H a xs) (r:RepAll K H ds xs):Rep K H (.tuple ds) (.ref a):=by
 simp only [Rep];exact ⟨a,xs,rfl,h,r⟩
theorem RepAll.ints {K:aa}{H:Hp}:∀ (ns:List Int),RepAll K H (ns.map .int) (ns.map V.int)
 | []=>RepAll.nil
 | n::ns=>RepAll.cons (Rep.int n) (RepAll.ints ns)
section
variable {X:Cx}
structure vP (d:iW):Prop where
 lay:d.canLay0=true
 dep:d.depth<=60
def OU (K:aa) (neg:Bool):R2:=λx y H Q=>∃ dx dy,Rep K H dx x/\Rep K H dy y/\vP dx/\vP dy/\Q (.bl (if neg then !PyData.eqv dx dy else du dx dy)) H
theorem QR (hu:X.A.units+64<iH):OpR X (dA .Eq) (OU X.K false):=by
 intro pins s σ H x y v u Q I rx ry h
 obtain ⟨dx,dy,h1,h2,f1,f2,q⟩:=h
 obtain ⟨as,r1⟩:=Rep.reads I dx x v h1 rx
 obtain ⟨bs,r2⟩:=Rep.reads I dy y u h2 ry
 have:=f1.dep
 exact SeqAt.compareEq_reads r1 r2 f1.lay f2.lay (bo (yk (bg (R6 _ _) (bg f1.dep (by decide))) _) hu) ⟨.bl _,H,I,rfl,q⟩
theorem QS (hu:X.A.units+64<iH):OpR X (dA .NotEq) (OU X.K true):=by
 intro pins s σ H x y v u Q I rx ry h
 obtain ⟨dx,dy,h1,h2,f1,f2,q⟩:=h
 obtain ⟨as,r1⟩:=Rep.reads I dx x v h1 rx
 obtain ⟨bs,r2⟩:=Rep.reads I dy y u h2 ry
 exact SeqAt.compareNe_reads r1 r2 f1.lay f2.lay (bo (yk (bg (R6 _ _) (bg f1.dep (by decide))) _) hu) ⟨.bl _,H,I,rfl,q⟩
def se (K:aa):R2:=λx y H Q=>rEq x y H Q\/OU K false x y H Q
def Af (K:aa):R2:=λx y H Q=>rNe x y H Q\/OU K true x y H Q
theorem lJ (hu:X.A.units+64<iH):OpR X (dA .Eq) (se X.K):=Se.or (QR hu)
theorem tm (hu:X.A.units+64<iH):OpR X (dA .NotEq) (Af X.K):=Sf.or (QS hu)
def QU (K:aa) (neg:Bool):R2:=λx y H Q=>∃ d ds,Rep K H d x/\(Rep K H (.list ds) y\/Rep K H (.tuple ds) y)/\vP d/\iU ds=true/\Q (.bl (if neg then !(ds.any λe=>du e d) else ds.any λe=>du e d)) H
theorem QV (hu:X.A.units+64<iH):OpR X (dA .In) (QU X.K false):=by
 intro pins s σ H x y v u Q I rx ry h
 obtain ⟨d,ds,h1,h2,f1,f2,q⟩:=h
 obtain ⟨as,r1⟩:=Rep.reads I d x v h1 rx
 have hb:X.A.units+1+min (fW ds) d.depth<iH:=bo (by have:=f1.dep;omega) hu
 rcases h2 with h2|h2
 ·obtain ⟨bs,r2⟩:=Rep.reads I _ y u h2 ry
  exact SeqAt.in_list_reads r2 r1 f2 f1.lay hb ⟨.bl _,H,I,rfl,q⟩
 ·obtain ⟨bs,r2⟩:=Rep.reads I _ y u h2 ry
  exact SeqAt.in_tuple_reads r2 r1 f2 f1.lay hb ⟨.bl _,H,I,rfl,q⟩
theorem K1 (hu:X.A.units+64<iH):OpR X (dA .NotIn) (QU X.K true):=by
 intro pins s σ H x y v u Q I rx ry h
 obtain ⟨d,ds,h1,h2,f1,f2,q⟩:=h
 obtain ⟨as,r1⟩:=Rep.reads I d x v h1 rx
 have hb:X.A.units+1+min (fW ds) d.depth<iH:=bo (by have:=f1.dep;omega) hu
 rcases h2 with h2|h2
 ·obtain ⟨bs,r2⟩:=Rep.reads I _ y u h2 ry
  exact SeqAt.notIn_list_reads r2 r1 f2 f1.lay hb ⟨.bl _,H,I,rfl,q⟩
 ·obtain ⟨bs,r2⟩:=Rep.reads I _ y u h2 ry
  exact SeqAt.notIn_tuple_reads r2 r1 f2 f1.lay hb ⟨.bl _,H,I,rfl,q⟩
def QW (neg:Bool):R2:=λy x H Q=>∃ a o,x=.ref a/\DGet H a y o/\Q (.bl (if neg then !o.isSome else o.isSome)) H
theorem QX (hu:X.A.units+64<iH):OpR X (dA .In) (QW false):=by
 intro pins s σ H y x iv u Q I ry rx h
 obtain ⟨a,o,rfl,g,q⟩:=h
 cases rx
 exact Uh (bo (by omega) hu) I g ry λs' I'=>⟨.bl _,H,I',rfl,q⟩
theorem K2 (hu:X.A.units+64<iH):OpR X (dA .NotIn) (QW true):=by
 intro pins s σ H y x iv u Q I ry rx h
 obtain ⟨a,o,rfl,g,q⟩:=h
 cases rx
 exact OR (bo (by omega) hu) I g ry λs' I'=>⟨.bl _,H,I',rfl,q⟩
def u6 (K:aa) (neg:Bool):R2:=λx y H Q=>QU K neg x y H Q\/QW neg x y H Q
theorem xy (hu:X.A.units+64<iH):OpR X (dA .In) (u6 X.K false):=(QV hu).or (QX hu)
theorem qX (hu:X.A.units+64<iH):OpR X (dA .NotIn) (u6 X.K true):=(K1 hu).or (K2 hu)
def ik:R2:=λx y H Q=>xo (λi j=>.int (i+j)) x y H Q\/Sl x y H Q
theorem eK:OpR X (vt .Add) ik:=QF.or QP
def So:R2:=λx y H Q=>∃ a v,x=.ref a/\DGet H a y (some v)/\Q v H
theorem OV (hu:X.A.units+64<iH):IxR X So:=by
 intro value slice pins s σ H x y v u Q I rx ry h hs
 obtain ⟨a,z,rfl,g,q⟩:=h
 cases rx
 exact tail_any (Gq I g) DN.lookup (Ds (bo (by omega) hu) I g ry λw' s' I' r'=>⟨z,H,I',r',q⟩) hs
def fk (K:aa):R2:=λx y H Q=>(Si K x y H Q\/Sj K x y H Q)\/So x y H Q
theorem fT (hu:X.A.units+64<iH):IxR X (fk X.K):=(OQ.or QK).or (OV hu)
def PV:V->V->V->Hp->(Hp->Prop)->Prop:=λo i v H Q=>∃ a H',o=.ref a/\DPut H a i v H'/\Q H'
theorem set_dict (hu:X.A.units+64<iH):Oy X PV:=by
 intro pins s σ H o i v ov iv u Q I ro ri rv h
 obtain ⟨a,H',rfl,g,q⟩:=h
 cases ro
 exact Dt (bo (by omega) hu) I g ri rv λs' I'=>⟨H',I',q⟩
def uQ:V->V->V->Hp->(Hp->Prop)->Prop:=λo i v H Q=>PP o i v H Q\/PV o i v H Q
theorem yr (hu:X.A.units+64<iH):Oy X uQ:=by
 intro pins s σ H o i v ov iv u Q I ro ri rv h
 rcases h with h|h
 ·exact Mz pins s σ H o i v ov iv u Q I ro ri rv h
 ·exact set_dict hu pins s σ H o i v ov iv u Q I ro ri rv h
def xA (K:aa):List V->Hp->VK->Prop:=λxs H Q=>(∃ p ys,xs=[.ref p]/\(SqL K H p ys\/SqT K H p ys)/\Q (.int ys.length) H)\/(∃ a kvs,xs=[V.ref a]/\H a=some (.dK kvs)/\Q (.int kvs.length) H)
theorem jD:CallR X (.builtin "len") (xA X.K):=D0.or KZ
def Gx (K:aa):List V->Hp->VK->Prop:=λxs H Q=>∃ x T t b,xs=[x,.ty T]/\vI K H x t/\kO K t (.type T)=some b/\Q (.bl b) H
theorem qY:CallR X (.builtin "isinstance") (Gx X.K):=by
 intro pins s σ H xs us Q I r h
 obtain ⟨x,T,t,b,rfl,ty,e,q⟩:=h
 obtain ⟨u,w',rfl,ru,rw'⟩:=vals2 r
 cases (show w'=fg T from rw')
 exact KN I ru ty e λtk=>⟨.bl b,H,I.tok tk,rfl,q⟩
theorem Inv.frs {pins:List (af×fR)}{σ:St}{H:Hp}{s:au}(I:Inv X pins σ H s):∃ m,Fr X.base X.env.locals s.heap m/\wR X.base X.env.locals s.heap (ma X.base s.heap X.env.locals) :=
 let ⟨m,F⟩:=I.fr
 ⟨m,F,Mh⟩
def QY (K:aa):List V->Hp->VK->Prop:=λxs H Q=>∃ (p:af) (bs:List Bool),xs=[.ref p]/\SqL K H p (bs.map V.bl)/\Q (.bl (bs.all id)) H
theorem yt:∀ {bs:List Bool}{us:List ai},Vals (bs.map V.bl) us->LSm.BoolsAre us bs
 | [],_,r=>by cases r;exact .nil
 | b::bs,_,r=>by
  rw [bV] at r
  cases r with
  | cons h t =>
   cases (show _=qK b from h)
   exact .cons b (yt t)
theorem ME (hc:X.calm=true):CallR X (.builtin "all") (QY X.K):=by
 intro pins s σ H xs us Q I r h
 obtain ⟨p,bs,rfl,hq,q⟩:=h
 obtain ⟨u,rfl,ru⟩:=vals1 r
 cases ru
 obtain ⟨its,rv,pl,hz⟩:=I.list hq
 have hb:=yt rv
 have hl:=pl.isList
 have hlt:p<s.heap.objs.size:=by obtain ⟨_,e,_⟩:=hl;exact aL e
 refine call_all_walk (FN hl ?_)
 refine ⟨s.heap.objs.size,[s.heap.objs.size,p],[s.heap.objs.size],its.toArray.size,_,_,λi=>(bs[i]?).getD true,rfl,Walks.list (A:=X.A.in1) (I.ok.hd hc) _ p (aW hlt) its.toArray,
  ⟨⟨_,aM _ rfl,rfl,rfl⟩,hl.push _⟩,λi v s' Q' E' hP hQ=>?_,λh' tk hk=>?_⟩
 ·obtain ⟨b,e,rfl⟩:=hb.get i v (by simpa using hP)
  simp only [e,Option.getD_some] at hQ
  exact jt hQ
 ·have e:((gh its.toArray.size).all λi=>(bs[i]?).getD true)=bs.all id:=by
   rw [aR,hb.length];exact LSm.range_all bs
  rw [e]
  exact ⟨.bl _,H,I.kept (LSm.kept_iter hk),rfl,q⟩
end
end L2
namespace L2
open PySem PySem.Spec PyProof.Rows
section
variable {σ:St}{H:Hp}{Q:VK}{D:sS}{ta tb te:TE}{t u:TS}{c c':TT}{tA:TA}{QT:Bool->Hp->Prop}{QA:List V->Hp->Prop}
theorem MF (h:t { D with nx:=u D } σ H):bX t u D σ H:=h
theorem Sq {g:TG}(h:te σ H λx H1=>g x σ H1 D.nx):eF te g D σ H:=h
theorem OW {i:Nat}{v:V}{R:St->Hp->Prop}(h:R (σ.set i (some v)) H):bI i v σ H R:=h
theorem QZ {to ti:TE}{ts:Ox}{v:V}{R:St->Hp->Prop}(h:to σ H λo H1=>ti σ H1 λi H2=>ts o i v H2 λH3=>R σ H3):BI to ti ts v σ H R:=h
theorem vQ {i:Nat}{v:V}(h:σ[i]?=some (some v)) (k:Q v H):av i σ H Q:=⟨v,h,k⟩
theorem x_c {v:V}(k:Q v H):tC v σ H Q:=k
theorem Ui {r:R2}(h:ta σ H λx H1=>tb σ H1 λy H2=>r x y H2 Q):dw r ta tb σ H Q:=h
theorem Uj {r:V->Hp->VK->Prop}(h:ta σ H λx H1=>r x H1 Q):RX r ta σ H Q:=h
theorem Sr (h:te σ H D.rt):fu te D σ H:=h
theorem Q0 (h:te σ H λ_ H1=>D.nx σ H1):fY te D σ H:=h
theorem Q1 (h:D.nx σ H):gL D σ H:=h
theorem PX (h:c σ H λb H1=>if b=true then t D σ H1 else u D σ H1):jZ c t u D σ H:=h
theorem Uk (h:c σ H λb H1=>if b=true then ta σ H1 Q else tb σ H1 Q):QD c ta tb σ H Q:=h
theorem Q2 (h:te σ H λx H'=>∃ k,x=.bl k/\QT k H'):fI te σ H QT:=h
theorem J2 (h:c σ H λb H1=>if b=true then c' σ H1 QT else QT false H1):yF c c' σ H QT:=h
theorem Ss (h:c σ H λb H1=>if b=true then QT true H1 else c' σ H1 QT):JR c c' σ H QT:=h
theorem J3 (h:c σ H λb H1=>QT (!b) H1):sH c σ H QT:=h
theorem Q3 (h:ta σ H λx H1=>∃ c,x=.bl c/\if c=true then tb σ H1 Q else Q (.bl false) H1):Dh ta tb σ H Q:=h
theorem Q4 (h:ta σ H λx H1=>∃ c,x=.bl c/\Q (.bl (!c)) H1):JS ta σ H Q:=h
theorem Su (h:QT true H):Ae σ H QT:=h
theorem PY (h:QA [] H):bj σ H QA:=h
theorem Ag (h:te σ H λx H1=>tA σ H1 λxs H2=>QA (x::xs) H2):aA te tA σ H QA:=h
theorem Sv (h:tA σ H λxs H1=>xs.length<=a0/\∀ p,H1 p=none->Q (.ref p) (upd H1 p (.tup xs))):uw tA σ H Q:=h
theorem Sy (h:tA σ H λxs H1=>xs.length<=a0/\∀ p,H1 p=none->Q (.ref p) (upd H1 p (.lst xs))):BJ tA σ H Q:=h
theorem MG {sp:Sp}{dvs:List V}{E:XK}(h:tA σ H λvs H1=>sp (vs++dvs) H1 Q E):de sp dvs E tA σ H Q:=h
theorem Ul {r:List V->Hp->VK->Prop}(h:tA σ H λvs H1=>r vs H1 Q):ux r tA σ H Q:=h
theorem Um {K:aa}{T:String}{r:V->List V->Hp->VK->Prop}{to:TE}(h:to σ H λx H1=>Sk K T x H1/\tA σ H1 λxs H2=>r x xs H2 Q):D6 K T r to tA σ H Q:=h
theorem Uo {r:V->Option Int->Option Int->Hp->VK->Prop}{tl th:TO}(h:te σ H λx H1=>tl σ H1 λl H2=>th σ H2 λu H3=>r x l u H3 Q):Io r te tl th σ H Q:=h
theorem MH {R:Option Int->Hp->Prop}(h:R none H):kB σ H R:=h
theorem Q5 {R:Option Int->Hp->Prop}(h:te σ H λx H1=>∃ i,x=.int i/\R (some i) H1):om te σ H R:=h
theorem Sz {g:Int->Int->V}{i j:Int}(h:Q (g i j) H):xo g (.int i) (.int j) H Q:=⟨i,j,rfl,rfl,h⟩
theorem Uq {C:Int->Int->Prop}{g:Int->Int->V}{i j:Int}(hc:C i j) (h:Q (g i j) H):rI C g (.int i) (.int j) H Q:=⟨i,j,rfl,rfl,hc,h⟩
theorem Q6 {i j:Int}(h:Q (.int (i+j)) H):ik (.int i) (.int j) H Q:=.inl ⟨i,j,rfl,rfl,h⟩
theorem SB {K:aa}{i j:Int}(h:Q (.bl (decide (V.int i=V.int j))) H):se K (.int i) (.int j) H Q:=.inl ⟨rfl,h⟩
theorem SC {K:aa}{i j:Int}(h:Q (.bl (!decide (V.int i=V.int j))) H):Af K (.int i) (.int j) H Q:=.inl ⟨rfl,h⟩
theorem nA {K:aa}{p:af}{xs:List V}{i:Int}{v:V}(h:SqL K H p xs) (e:KU xs i=some v) (k:Q v H):fk K (.ref p) (.int i) H Q:=.inl (.inl ⟨p,xs,i,v,rfl,rfl,h,e,k⟩)
theorem oU {K:aa}{p:af}{xs:List V}{i:Int}{v:V}(h:SqT K H p xs) (e:KU xs i=some v) (k:Q v H):fk K (.ref p) (.int i) H Q:=.inl (.inr ⟨p,xs,i,v,rfl,rfl,h,e,k⟩)
theorem Eb {K:aa}{p:af}{xs:List V}(h:SqL K H p xs) (k:Q (.int xs.length) H):xA K [.ref p] H Q:=.inl ⟨p,xs,rfl,.inl h,k⟩
theorem oq {l:af}{xs:List V}{y:V}(h:H l=some (.lst xs)) (hl:xs.length<a0) (k:Q .non (upd H l (.lst (xs++[y])))):mq (.ref l) [y] H Q:=⟨l,xs,y,rfl,rfl,h,hl,k⟩
theorem Iu {p:af}{xs:List V}{k:Int}{j:Nat}{v:V}{R:Hp->Prop}(h:H p=some (.lst xs)) (e:KR xs.length k=some j) (q:R (upd H p (.lst (xs.set j v)))):uQ (.ref p) (.int k) v H R:=.inl ⟨p,xs,k,j,rfl,rfl,h,e,q⟩
theorem zE {p A B:Prop} [Decidable p] (h1:p->A) (h2:¬ p->B):if decide p=true then A else B:=by
 by_cases h:p
 ·rw [if_pos (decide_eq_true h)];exact h1 h
 ·rw [if_neg (by rw [decide_eq_false h];decide)];exact h2 h
theorem K3 {p A B:Prop} [Decidable p] (h1:¬ p->A) (h2:p->B):if (!decide p)=true then A else B:=by
 by_cases h:p
 ·rw [if_neg (by rw [decide_eq_true h];decide)];exact h2 h
 ·rw [if_pos (by rw [decide_eq_false h];decide)];exact h1 h
theorem ifV {p A B:Prop}{b:Bool}(hb:b=true↔p) (h1:p->A) (h2:¬ p->B):if b=true then A else B:=by
 by_cases h:b=true
 ·rw [if_pos h];exact h1 (hb.mp h)
 ·rw [if_neg h];exact h2 λz=>h (hb.mpr z)
theorem j9 {i j:Int}:(V.int i=V.int j)↔i=j:=⟨λh=>by injection h,λh=>by rw [h]⟩
end
end L2
namespace BootT
open PySem
theorem len:dz "len"=some (.builtin "len"):=by decide +kernel
theorem nF:dz "isinstance"=some (.builtin "isinstance"):=by decide +kernel
theorem Ah:dz "sorted"=some (.builtin "sorted"):=by decide +kernel
theorem all:dz "all"=some (.builtin "all"):=by decide +kernel
theorem min:dz "min"=some (.builtin "min"):=by decide +kernel
theorem max:dz "max"=some (.builtin "max"):=by decide +kernel
theorem int:dz "int"=some (.type "int"):=by decide +kernel
theorem bool:dz "bool"=some (.type "bool"):=by decide +kernel
theorem list:dz "list"=some (.type "list"):=by decide +kernel
end BootT
namespace L2
open PySem PySem.Spec PyProof.Rows
def Gy:List V->Hp->VK->Prop:=λxs H Q=>∃ i j,xs=[.int i,.int j]/\Q (.int (if j<i then j else i)) H
def J5:List V->Hp->VK->Prop:=λxs H Q=>∃ i j,xs=[.int i,.int j]/\Q (.int (if j>i then j else i)) H
def PZ (K:aa):List V->Hp->VK->Prop:=λxs H Q=>∃ p ys,xs=[.ref p]/\(SqL K H p ys\/SqT K H p ys)/\∀ l,H l=none->Q (.ref l) (upd H l (.lst ys))
def mv (K:aa) (ta:TE):TT:=λσ H Q=>ta σ H λx H'=>∃ k,OG K x H' k/\Q k H'
theorem Gz {K:aa}{ta:TE}{σ:St}{H:Hp}{Q:Bool->Hp->Prop}(h:ta σ H λx H'=>∃ k,OG K x H' k/\Q k H'):mv K ta σ H Q:=h
section
variable {X:Cx}{a:Expr}{ta:TE}
theorem gO (ha:PE X a ta) (he:∀ whole,isTrue a X.env whole=(do let v ← whole;zL a.pos;n5 [v] (truthy v))):PT X a (mv X.K ta):=Mq ha he
end
def Ur (a:af) (kvs:List (ja×V)) (o:fR):It :=
 ⟨λi H=>i<kvs.length/\H a=some (.frz o (.dK kvs)),λi H x H'=>H'=H/\∃ k v,kvs[i]?=some (k,v)/\x=kV k,λi H=>kvs.length<=i/\H a=some (.frz o (.dK kvs))⟩
theorem Q7 {k:ja}{u:ai}(h:zS k u=true):RelV (kV k) u:=by
 rcases gR h with ⟨i,t,rfl,rfl⟩|⟨x,t,rfl,rfl⟩
 ·exact ⟨t,rfl⟩
 ·exact ⟨t,rfl⟩
theorem KV.get {kvs:List (ja×V)}{vs:List (ja×ai)}(r:KV kvs vs) {i:Nat}{k:ja}{v:V}(e:kvs[i]?=some (k,v)):∃ u,vs[i]?=some (k,u)/\RelV v u:=by
 unfold KV at r
 induction r generalizing i with
 | nil=>simp at e
 | @cons p q ps qs h t ih =>
  cases i with
  | zero =>
   simp at e
   subst e
   obtain ⟨q1,q2⟩:=q
   obtain ⟨h1,h2⟩:=h
   simp only at h1 h2
   subst h1
   exact ⟨q2,rfl,h2⟩
  | succ i =>
   obtain ⟨u,e1,e2⟩:=ih (by simpa using e)
   exact ⟨u,by simpa using e1,e2⟩
theorem K4 {P:bp}{w:b8}{K:aa}{tg:Expr}(a it:af) (o:fR) (kvs:List (ja×V)) (vs:List (ja×ai)) (ep:Nat) (rel:KV kvs vs)
  (od:∀ h:cm,h.get? a=some o->h.DictAt (fQ P w) a vs ep):KF P w K tg (Ur a kvs o) [it] it (λi h=>h.IsKeyIter it a i vs.length ep) where
 mem:=by simp
 obj:=λi h st b hb=>by
  have e:b=it:=by simpa using hb
  subst e
  obtain ⟨o,e,c,d⟩:=st
  exact ⟨o,e,λv z=>by rw [d] at z;cases z⟩
 keep:=λi h h' st k=>st.at λo e=>k it (by simp) o e
 item:=by
  intro X hP hw hK hc i pins s σ H E I hf st hg
  subst hP hw hK
  obtain ⟨hlt,hq⟩:=hg
  obtain ⟨e0,_⟩:=(show ObjOk X.prog X.w H s.heap a (.frz o (.dK kvs)) from I.hok a _ hq)
  obtain ⟨⟨k,v⟩,hx⟩:∃ p,kvs[i]?=some p:=⟨kvs[i],by simp [hlt]⟩
  obtain ⟨u,hu,ru⟩:=rel.get hx
  obtain ⟨f0,f1,f2,f3,f4,f5⟩:=hf it (by simp)
  refine wpAny_pyNext_dict_item st (od _ e0) hu λkey h' hkey st' sb=>?_
  have I1:Inv X pins σ H { s with heap:=h' }:=I.turned (t':=s.toks) (λb o hb e=>(sb.2 b hb).trans e) f0 f1 f3 f4 f5
  obtain ⟨o',e,c,d⟩:=id st'
  exact ⟨key,rfl,Gg (s:={ s with heap:=h' }) e c d (by decide) ⟨kV k,H,I1,Q7 hkey,⟨rfl,k,v,hx,rfl⟩,st',λb hb=>(hf b hb).1⟩⟩
 done:=by
  intro X hP hw hK hc i pins s σ H E I hf st hg
  subst hP hw hK
  obtain ⟨hle,hq⟩:=hg
  obtain ⟨e0,_⟩:=(show ObjOk X.prog X.w H s.heap a (.frz o (.dK kvs)) from I.hok a _ hq)
  obtain ⟨f0,f1,f2,f3,f4,f5⟩:=hf it (by simp)
  have hl:=rel.length
  exact wpAny_pyNext_dict_end (I.ok.hd hc) st (od _ e0) (by simp;omega) λh' eb=>⟨rfl,I.turned (t':=s.toks) (λb o hb e=>eb b o hb e) f0 f1 f3 f4 f5⟩
 self:=λ_ _ _ _ _ st h=>RJ st h
def sf (K:aa) (tl:TE):TI:=λσ H R=>tl σ H λx H1=>∃ a,x=.ref a/\(((∃ xs,SqL K H1 a xs)/\R (LZ K a) H1)\/((∃ xs,SqT K H1 a xs)/\R (RW K a) H1) \/
 ∃ kvs,H1 a=some (.dK kvs)/\∀ o,R (Ur a kvs o) (upd H1 a (.frz o (.dK kvs))))
theorem Q8 {K:aa}{tl:TE}{σ:St}{H:Hp}{R:It->Hp->Prop}(h:tl σ H λx H1=>∃ a,x=.ref a/\(((∃ xs,SqL K H1 a xs)/\R (LZ K a) H1)\/((∃ xs,SqT K H1 a xs)/\R (RW K a) H1) \/
 ∃ kvs,H1 a=some (.dK kvs)/\∀ o,R (Ur a kvs o) (upd H1 a (.frz o (.dK kvs))))):sf K tl σ H R:=h
section
variable {X:Cx}{tg:Expr}
theorem ka {l:Expr}{tl:TE}(hl:PE X l tl):PI X tg l (sf X.K tl):=by
 intro pins s σ H R I h
 refine ij (hl pins s σ H _ I h) λv s1 ⟨x,H1,I1,r1,q1⟩=>?_
 obtain ⟨a,e,q1⟩:=q1
 subst e
 cases r1
 rcases q1 with ⟨⟨xs,hq⟩,q⟩|⟨⟨xs,hq⟩,q⟩|⟨kvs,hq,q⟩
 ·obtain ⟨its,rv,p,hz⟩:=I1.list hq
  refine FN p.isList ?_
  refine ⟨s1.heap.objs.size,[s1.heap.objs.size],_,_,H1,rfl,I1.kept (t':=s1.toks) λb o e=>ax _ e,KG a _,⟨_,aM _ rfl,rfl,rfl⟩,λb hb=>?_,q⟩
  have e:b=s1.heap.objs.size:=by simpa using hb
  subst e
  exact I1.fpOk (aw _) (I1.hok.fresh (aw _))
 ·obtain ⟨its,rv,p,hz⟩:=I1.tuple hq
  refine wpAny_pyIter_tuple (show s1.heap.IsTuple a its.toArray from p) ?_
  refine ⟨s1.heap.objs.size,[s1.heap.objs.size],_,_,H1,rfl,I1.kept (t':=s1.toks) λb o e=>ax _ e,Ia a _,⟨_,aM _ rfl,rfl,rfl⟩,λb hb=>?_,q⟩
  have e:b=s1.heap.objs.size:=by simpa using hb
  subst e
  exact I1.fpOk (aw _) (I1.hok.fresh (aw _))
 ·obtain ⟨hz,hsys,vs,rel,dd⟩:=PR I1.hok hq
  obtain ⟨ep,da⟩:=dd.dictAt
  obtain ⟨ob,es,ho,rr⟩:=id da
  have od:∀ h:cm,h.get? a=some ob->h.DictAt (fQ X.prog X.w) a vs ep:=λh e=>⟨ob,es,e,rr⟩
  have un:Un X.fs [] H1 (upd H1 a (.frz ob (.dK kvs))) s1.heap s1.heap:=by
   have hne:∀ b u,H1 b=some u->u≠.dK kvs->b≠a:=λb u e n z=>by subst z;rw [hq] at e;exact n (aS e).symm
   refine ⟨λb o e _ _ _=>e,λb o e _ _ _=>⟨o.slots,e⟩,λb o e n _=>?_,λb o e _=>⟨o,e⟩,λb ys e=>?_,λb o u e=>?_,λb ps e=>?_⟩
   ·rw [aJ (λz=>by subst z;rw [hq] at n;cases n)];exact n
   ·rw [aJ (hne b _ e (by intro z;cases z))];exact e
   ·rw [aJ (hne b _ e (by intro z;cases z))];exact e
   ·exact ⟨#[],by rw [aJ (hne b _ e (by intro z;cases z)),e];simp⟩
  have hok:HOk X.prog X.w (upd H1 a (.frz ob (.dK kvs))) s1.heap:=λb u e=>by
   by_cases hb:b=a
   ·subst hb
    rw [aD] at e
    cases e
    exact ⟨ho,hz,hsys,vs,rel,dd⟩
   ·rw [aJ hb] at e
    refine (I1.hok b u e).stay (λc v _ q=>q) (λc q0=>?_) λc ys q0=>?_
    ·rw [aJ (λz=>by rw [z,hq] at q0;cases q0)];exact q0
    ·rw [aJ (λz=>by rw [z,hq] at q0;cases q0)];exact q0
  have I2:Inv X pins σ (upd H1 a (.frz ob (.dK kvs))) { s1 with heap:=s1.heap,toks:=s1.toks }:=I1.un un hok
  refine wpAny_pyIter_dict hsys da ?_
  refine ⟨s1.heap.objs.size,[s1.heap.objs.size],_,_,_,rfl,I2.kept (t':=s1.toks) λb o e=>ax _ e,K4 a _ ob kvs vs ep rel od,⟨_,aM _ rfl,rfl,rfl⟩,λb hb=>?_,q ob⟩
  have e:b=s1.heap.objs.size:=by simpa using hb
  subst e
  exact I2.fpOk (aw _) (I2.hok.fresh (aw _))
end
section
variable {K:aa}{σ:St}{H:Hp}{Q:VK}
structure CNext (n i:Nat) (S:St->Prop) (Pv:List V->Hp->Prop) (m:Nat) (ys:List V) (σ:St) (H:Hp):Prop where
 m:m=n-i
 le:i<=n
 s:S σ
 p:Pv ys H
theorem CNext.mk' {n i:Nat}{S:St->Prop}{Pv:List V->Hp->Prop}{ys:List V}{σ:St}{H:Hp}(hi:i<n) (s:S σ) (p:Pv ys H):∃ m',m'<n-i/\CNext n (i+1) S Pv m' ys σ H:=⟨n-(i+1),by omega,rfl,hi,s,p⟩
theorem oX {σ0:St}{g:TG}{tt:TT}{te:TE}{J:It}{n:Nat}{acc:af}{R:Hp->Prop}(Pv:Nat->List V->Hp->Prop) (S:St->Prop) (h0:Pv 0 [] (upd H acc (.lst []))) (s0:S σ0)
  (ha:∀ i ys H,Pv i ys H->H acc=some (.lst ys)) (hst:∀ ys H,Pv n ys H->J.stop n H/\R H) (hgo:∀ i ys H,i<n->Pv i ys H->J.go i H)
  (hs:∀ i ys σ' H x H2,i<n->Pv i ys H->S σ'->J.yld i H x H2->g x σ' H2 λσ2 H3=>tt σ2 H3 λb H4=>if b=true then te σ2 H4 λy H5=>H5 acc=some (.lst ys)/\ys.length<a0/\∃ m',m'<n-i/\CNext n (i+1) S (Pv (i+1)) m' (ys++[y]) σ2 (upd H5 acc (.lst (ys++[y]))) else ∃ m',m'<n-i/\CNext n (i+1) S (Pv (i+1)) m' ys σ2 H4) :
  ∃ W:Nat->Nat->List V->St->Hp->Prop,(∃ m,W 0 m [] σ0 (upd H acc (.lst [])))/\∀ i m ys σ' H',W i m ys σ' H'->H' acc=some (.lst ys) /\
  ((J.stop i H'/\R H')\/(J.go i H'/\∀ x H2,J.yld i H' x H2->g x σ' H2 λσ2 H3=>tt σ2 H3 λb H4 =>
   if b=true then te σ2 H4 λy H5=>H5 acc=some (.lst ys)/\ys.length<a0/\∃ m',m'<m/\W (i+1) m' (ys++[y]) σ2 (upd H5 acc (.lst (ys++[y]))) else ∃ m',m'<m/\W (i+1) m' ys σ2 H4)):=by
 refine ⟨λi m ys σ' H'=>CNext n i S (Pv i) m ys σ' H',⟨n,by simp,a9 _,s0,h0⟩,?_⟩
 rintro i m ys σ' H' ⟨rfl,hi,hS,p⟩
 refine ⟨ha i ys H' p,?_⟩
 by_cases hlt:i<n
 ·exact .inr ⟨hgo i ys H' hlt p,λx H2 y=>hs i ys σ' H' x H2 hlt p hS y⟩
 ·have e:i=n:=by omega
  subst e
  exact .inl (hst ys H' p)
structure MI (Pv:St->Hp->Prop) (μ:St->Hp->Nat) (m:Nat) (σ:St) (H:Hp):Prop where
 m:m=μ σ H
 p:Pv σ H
theorem GA {c:TT}{tb:TS}{D:sS}(Pv:St->Hp->Prop) (μ:St->Hp->Nat) (h0:Pv σ H)
  (hs:∀ σ H,Pv σ H->c σ H λb H1=>if b=true then ∃ N:St->Hp->Prop,(∀ σ' H',N σ' H'->∃ m',m' < μ σ H/\MI Pv μ m' σ' H')/\tb { D with nx:=N,ct:=N,bk:=D.nx } σ H1 else D.nx σ H1):DW c tb D σ H:=by
 refine ⟨MI Pv μ,⟨_,rfl,h0⟩,?_⟩
 rintro m σ H ⟨rfl,p⟩
 exact hs σ H p
def wN (Pv:St->Hp->Prop) (μ:St->Hp->Nat) (b:Nat):St->Hp->Prop:=λσ H=>Pv σ H/\μ σ H<b
theorem P0 {Pv:St->Hp->Prop}{μ:St->Hp->Nat} {b:Nat}:∀ σ' H',wN Pv μ b σ' H'->∃ m',m'<b/\MI Pv μ m' σ' H':=λσ' H' ⟨p,l⟩=>⟨_,l,rfl,p⟩
end
end L2
namespace L2
open PySem PySem.Spec PyProof.Rows
section
variable {σ:St}{H:Hp}{Q:VK}{D:sS}{ta tb te:TE}{t u:TS}{tA:TA}{QT:Bool->Hp->Prop}{QA:List V->Hp->Prop}{K:aa}
theorem OX {r r':R2}{tc:TE}(h:ta σ H λx H1=>tb σ H1 λy H2=>r x y H2 λz H3=>∃ k,z=.bl k/\(if k=true then tc σ H3 λw' H4=>r' y w' H4 Q else Q (.bl false) H3)):DY r r' ta tb tc σ H Q:=h
theorem Us {g:Int->V}{i:Int}(h:Q (g i) H):rU g (.int i) H Q:=⟨i,rfl,h⟩
theorem SD {i j:Bool}(h:Q (.bl (decide (V.bl i=V.bl j))) H):se K (.bl i) (.bl j) H Q:=.inl ⟨rfl,h⟩
theorem SE (h:te σ H λx H1=>∃ c,x=.bl c/\QT c H1):tB te σ H QT:=h
theorem SF (h:ta σ H λx H1=>Q (.bl (decide (x=.non))) H1):Qz ta σ H Q:=h
theorem MJ (h:ta σ H λx H1=>Q (.bl (!decide (x=.non))) H1):Dg ta σ H Q:=h
theorem Q9 {R:It->Hp->Prop}(h:tA σ H λvs H1=>∃ j:Int,vs=[.int j]/\-(2^62)<=j/\j<2^62/\R (Oz 0 j.toNat) H1):zW tA σ H R:=h
theorem SG {wi:TI}{g:TG}{tb:TS}(h:wi σ H λJ H1=>∃ W:Nat->Nat->St->Hp->Prop,(∃ m,W 0 m σ H1)/\∀ i m σ H,W i m σ H ->
 (J.stop i H/\D.nx σ H)\/(J.go i H/\∃ N:St->Hp->Prop,(∀ σ' H',N σ' H'->∃ m',m'<m/\W (i+1) m' σ' H')/\∀ x H',J.yld i H x H'->g x σ H' λσ2 H2=>tb { D with nx:=N,ct:=N,bk:=D.nx } σ2 H2)):uv wi g tb D σ H:=h
theorem Ra {own:Nat}{js:List Nat}{wi:TI}{g:TG}{tt:TT}(h:wi σ H λJ H1=>∀ acc,H1 acc=none ->
 ∃ W:Nat->Nat->List V->St->Hp->Prop,(∃ m,W 0 m [] (qR own none++Gv σ js) (upd H1 acc (.lst [])))/\∀ i m ys σ' H',W i m ys σ' H'->H' acc=some (.lst ys) /\
  ((J.stop i H'/\Q (.ref acc) H')\/(J.go i H'/\∀ x H2,J.yld i H' x H2->g x σ' H2 λσ2 H3=>tt σ2 H3 λb H4 =>
   if b=true then te σ2 H4 λy H5=>H5 acc=some (.lst ys)/\ys.length<a0/\∃ m',m'<m/\W (i+1) m' (ys++[y]) σ2 (upd H5 acc (.lst (ys++[y]))) else ∃ m',m'<m/\W (i+1) m' ys σ2 H4))):oS own js wi g tt te σ H Q:=h
theorem SH {i:Nat}{ti:TL}{x:V}(hx:σ[i]?=some (some x)) (h:te σ H λy H1=>ti x y H1 λz H2=>D.nx (σ.set i (some z)) H2):Ml i te ti D σ H:=⟨x,hx,h⟩
theorem xB {n:Nat}{ts:Ow}{a:af}{xs:List V}{R:St->Hp->Prop}(h:SqT K H a xs) (hn:xs.length=n) (k:ts xs σ H R):DV K n ts (.ref a) σ H R:=⟨a,xs,rfl,h,hn,k⟩
theorem OY {g:TG}{gs:Ow}{v:V}{r:List V}{R:St->Hp->Prop}(h:g v σ H λσ' H'=>gs r σ' H' R):kU g gs (v::r) σ H R:=⟨v,r,rfl,h⟩
theorem Rb {R:St->Hp->Prop}(h:R σ H):Ge [] σ H R:=⟨rfl,h⟩
theorem SI {l b:af}{xs zs:List V}(h:H l=some (.lst xs)) (h':H b=some (.lst zs)) (hl:xs.length+zs.length<=a0) (k:∀ p,H p=none->Q (.ref p) (upd H p (.lst (xs++zs)))):ik (.ref l) (.ref b) H Q:=.inr ⟨l,b,xs,zs,rfl,rfl,h,h',hl,k⟩
theorem SJ {i j:Int}(k:Q (.int (if j<i then j else i)) H):Gy [.int i,.int j] H Q:=⟨i,j,rfl,k⟩
theorem SK {i j:Int}(k:Q (.int (if j>i then j else i)) H):J5 [.int i,.int j] H Q:=⟨i,j,rfl,k⟩
theorem Dv {x:V}{T:String}{t:ai}{b:Bool}(ty:vI K H x t) (e:kO K t (.type T)=some b) (k:Q (.bl b) H):Gx K [x,.ty T] H Q:=⟨x,T,t,b,rfl,ty,e,k⟩
theorem GB {a:af}{xs:List V}{lo hi:Option Int}(h:SqL K H a xs) (k:∀ p,H p=none->Q (.ref p) (upd H p (.lst (xt xs lo hi)))):uz K (.ref a) lo hi H Q:=⟨a,xs,rfl,h,k⟩
theorem Rc {p:af}{ys:List V}(h:SqL K H p ys) (k:∀ l,H l=none->Q (.ref l) (upd H l (.lst ys))):PZ K [.ref p] H Q:=⟨p,ys,rfl,.inl h,k⟩
theorem SL {x y:V}{dx dy:iW}(h1:Rep K H dx x) (h2:Rep K H dy y) (f1:vP dx) (f2:vP dy) (k:Q (.bl (du dx dy)) H):se K x y H Q:=.inr ⟨dx,dy,h1,h2,f1,f2,k⟩
theorem P8 {x y:V}{dx dy:iW}(h1:Rep K H dx x) (h2:Rep K H dy y) (f1:vP dx) (f2:vP dy) (k:Q (.bl (!PyData.eqv dx dy)) H):Af K x y H Q:=.inr ⟨dx,dy,h1,h2,f1,f2,k⟩
theorem Ai {x y:V}{d:iW}{ds:List iW}(h1:Rep K H d x) (h2:Rep K H (.list ds) y) (f1:vP d) (f2:iU ds=true) (k:Q (.bl (!(ds.any λe=>du e d))) H):u6 K true x y H Q:=.inl ⟨d,ds,h1,.inl h2,f1,f2,k⟩
theorem J7 {x y:V}{d:iW}{ds:List iW}(h1:Rep K H d x) (h2:Rep K H (.list ds) y) (f1:vP d) (f2:iU ds=true) (k:Q (.bl (ds.any λe=>du e d)) H):u6 K false x y H Q:=.inl ⟨d,ds,h1,.inl h2,f1,f2,k⟩
theorem SM {p:af}{bs:List Bool}(h:SqL K H p (bs.map V.bl)) (k:Q (.bl (bs.all id)) H):QY K [.ref p] H Q:=⟨p,bs,rfl,h,k⟩
end
section
variable {K:aa}
theorem MK:kO K (.type "int") (.type "int")=some true:=by rfl
theorem ML:kO K (.type "int") (.type "bool")=some false:=by rfl
theorem Re:kO K (.type "bool") (.type "bool")=some true:=by rfl
theorem Rf:kO K (.type "list") (.type "list")=some true:=by rfl
end
theorem Same.upd_new {H:Hp}{l:af}{o:HO}(h:H l=none):Same H (upd H l o):=λb u e=>by rw [aJ (aN e h)];exact e
def SameBut1 (c:af) (H H':Hp):Prop:=∀ b o,H b=some o->b≠c->H' b=some o
theorem SameBut1.refl (c:af) (H:Hp):SameBut1 c H H:=λ_ _ h _=>h
theorem SameBut1.trans {c:af}{H H1 H2:Hp}(a:SameBut1 c H H1) (b:SameBut1 c H1 H2):SameBut1 c H H2:=λx o h n=>b x o (a x o h n) n
theorem SameBut1.same {c:af}{H H':Hp}(e:Same H H'):SameBut1 c H H':=λb o h _=>e b o h
theorem SameBut1.upd {c:af}{H:Hp}{o:HO}:SameBut1 c H (upd H c o):=λb u e n=>by rw [aJ n];exact e
theorem fv {α:Type} {xs:List α}{j:Nat}{i:Int}{v:α}(hi:i=(j:Int)) (h:xs[j]?=some v):KU xs i=some v:=by subst hi;exact OO h
theorem Iv {n j:Nat}{i:Int}(hi:i=(j:Int)) (h:j<n):KR n i=some j:=by
 subst hi
 unfold KR
 rw [if_pos (by omega),if_pos (by omega)]
 rfl
theorem b0 {n m:Nat}(h:n<=m) (hm:m<=100000:=by decide):n<=a0:=bg h (bg hm (by rw [qM];decide))
theorem eG {n m:Nat}(h:n<m) (hm:m<=100000:=by decide):n<a0:=bh h (bg hm (by rw [qM];decide))
mutual
def nG:iW->Bool
 | .int _=>true
 | .list xs=>iB xs
 | .tuple xs=>iB xs
 | _=>false
def iB:List iW->Bool
 | []=>true
 | x::xs=>nG x && iB xs
end
mutual
theorem xC:∀ d:iW,nG d=true->d.canLay0=true
 | .int _,_=>by simp [uU]
 | .list xs,h=>by simp only [nG] at h;simp only [uU];exact eS xs h
 | .tuple xs,h=>by simp only [nG] at h;simp only [uU];exact eS xs h
 | .none,h=>by simp [nG] at h
 | .bool _,h=>by simp [nG] at h
 | .str _,h=>by simp [nG] at h
 | .dict _,h=>by simp [nG] at h
theorem eS:∀ ds:List iW,iB ds=true->iU ds=true
 | [],_=>by simp [iU]
 | d::ds,h=>by
  simp only [iB,gm] at h
  simp only [iU,gm]
  exact ⟨xC d h.1,eS ds h.2⟩
end
end L2
namespace L2
open PySem PySem.Spec PyProof.Rows
section
variable {σ:St}{H:Hp}{Q:VK}{K:aa}
end
end L2
namespace L2
open PySem PySem.Spec PySem.Calls PyProof.Rows
open PySem.W (kla_fn kla_obj tabObj CodeHd)
theorem SN {h:cm}{a:af}{m m':bA->Option ai}(x:h.Ns a m) (y:h.Ns a m'):m=m':=by
 obtain ⟨o,es,ep,e,d,_,r⟩:=x
 obtain ⟨o',es',ep',e',d',_,r'⟩:=y
 rw [e] at e';cases e'
 rw [d] at d';cases d'
 funext n
 rw [← r n,← r' n]
theorem Inv.news {X:Cx}{pins:List (af×fR)}{σ:St}{H:Hp}{s:au}{h':cm}{m:bA->Option ai}{t':Nat}(I:Inv X pins σ H s) (hm:s.heap.Ns X.env.locals m) (F:Fr X.base X.env.locals h' m)
  (N:wR X.base X.env.locals h' (ma X.base s.heap X.env.locals)):Inv X pins σ H { s with heap:=h',toks:=t' }:=by
 have k:∀ b o,b≠X.env.locals->s.heap.get? b=some o->h'.get? b=some o:=λb o h1 e=>by
  cases q:X.base.get? b with
  | some u =>
   have:=I.bk b u q
   rw [e] at this;cases this
   exact F.keep b _ q
  | none=>exact (N (b,o) (oi h1 q e)).1
 refine I.step (g':=s.gens) (d':=s.drawn) (ch:=[]) (λ_ z=>nomatch z) (λb o h1 _ _ e _=>k b o h1 e) (λb o h1 _ _ e _=>⟨o.slots,k b o h1 e⟩) (λ_ _ _ _ n=>n) (λb o _ e=>?_) (λ_ _ e=>e) (λ_ _ _ e=>e)
  (λb ps e=>⟨#[],by rw [e];simp⟩) (λm' hm'=>by rw [← SN hm hm'];exact F.ns) (λb u e=>?_) I.bare
 ·by_cases hb:b=X.env.locals
  ·subst hb
   obtain ⟨o',_,_,e',_⟩:=F.ns
   exact ⟨o',e'⟩
  ·exact ⟨o,k b o hb e⟩
 ·refine (I.hok b u e).stay (λc v hc q=>k c v ?_ q) (λ_ q=>q) λ_ _ q=>q
  rintro rfl
  rcases hc with hc|hc
  ·rw [← hc,I.free] at e;cases e
  ·rw [I.free] at hc;cases hc
def GC (Pt:af) (H H':Hp):Prop:=∀ b o,b≠Pt->H b=some o->H' b=some o
def LamT (Pt:af) (pos:qQ) (qual:bA) (H:Hp):Prop :=
 H Pt=some (.tbl #[])\/∃ c' oc vs t,H Pt=some (.tbl #[cw pos.line,cw pos.col,.ref c'])/\H c'=some (.frz oc (.ext λ_=>True))/\oc.data=.fields vs/\vs[1]?=some (sM qual t)
theorem LamT.tbl {Pt:af}{pos:qQ}{qual:bA}{H:Hp}(h:LamT Pt pos qual H):∃ ps,H Pt=some (.tbl ps):=by
 rcases h with h|⟨_,_,_,_,h,_⟩
 ·exact ⟨_,h⟩
 ·exact ⟨_,h⟩
section
variable {X:Cx}{pins:List (af×fR)}{σ:St}{H:Hp}{s:au}{c Pt:af}
theorem MM {E:ai->au->Prop}{Q:ai->au->Prop}{params:sC}{body:Expr}{scope:lH}{pos:qQ}(I:Inv X pins σ H s) (hcode:X.env.code=.ref c) (C:pF X.base c Pt) (B:X.base.BuiltinsAt X.mg Pt)
  (hdef:defaultsOf params X.env=([],[])) (hfr:∀ n,(n,bJ)∈scope.names->∃ c,X.env.cells.lookup n=some c) (hT:LamT Pt pos (X.env.qual++"<lambda>") H)
  (h:∀ f c' ctv h' tk H2,Inv X pins σ H2 { s with heap:=h',toks:=tk }->h'.get? f=some (wY "<lambda>" (X.env.qual++"<lambda>") params body scope (qj X.env.cells scope.names []) ((X.mg "__name__").getD .none) c' ctv)->h'.CodeRec (.ref c') (X.env.qual++"<lambda>") ->
   GC Pt H H2->LamT Pt pos (X.env.qual++"<lambda>") H2->(∀ b o,b≠Pt->s.heap.get? b=some o->h'.get? b=some o)->Q (.ref f) { s with heap:=h',toks:=tk }) :
  aK (aU X.prog X.w) X.A (fV (.Lambda params body scope pos) X.env) Q E s:=by
 have hg:s.heap.Ns bQ X.mg:=I.mod.glob.keeps I.bk
 have C1:=C.keeps I.bk
 have B1:s.heap.BuiltinsAt X.mg Pt:=let ⟨bm,o,b1,b2,b3,b4,b5,b6⟩:=B;⟨bm,o,b1,b2,b3,b4,I.bk _ _ b5,b6⟩
 refine PySem.W.kla_eval hdef ?_
 rcases hT with hT|⟨c',oc,vs,t,hT,hc',hd,hv⟩
 ·have hP:s.heap.get? Pt=some (HK #[]):=I.hok Pt _ hT
  have hgP:bQ≠Pt:=λq=>by
   obtain ⟨o,es,ep,e,hd,_⟩:=hg
   rw [q,hP] at e;cases e;cases hd
  refine PySem.W.kla_makeFunction (mg:=X.mg) (u0 hfr) I.ok.glob hg hcode C1 hP trivial rfl hgP B1 λc' ctv h' tk hx hge hlt hrec htb=>?_
  obtain ⟨c₂,oc,vs,t,e2,hoc,hd,hv⟩:=id hrec
  cases e2
  have hn:H c'=none:=I.hok.fresh hge
  have ncP:c'≠Pt:=λq=>by rw [q,hT] at hn;cases hn
  have hL:X.env.locals≠Pt:=λq=>by have:=I.free;rw [q,hT] at this;cases this
  have k:∀ b o,b≠Pt->s.heap.get? b=some o->(h'.push (wY "<lambda>" (X.env.qual++"<lambda>") params body scope (qj X.env.cells scope.names []) ((X.mg "__name__").getD .none) c' ctv)).get? b=some o:=λb o hb e=>ax _ (hx b o hb e)
  have hP':(h'.push (wY "<lambda>" (X.env.qual++"<lambda>") params body scope (qj X.env.cells scope.names []) ((X.mg "__name__").getD .none) c' ctv)).get? Pt=some (HK #[cw pos.line,cw pos.col,.ref c']):=ax _ htb
  have hoc':(h'.push (wY "<lambda>" (X.env.qual++"<lambda>") params body scope (qj X.env.cells scope.names []) ((X.mg "__name__").getD .none) c' ctv)).get? c'=some oc:=ax _ hoc
  have hf:(h'.push (wY "<lambda>" (X.env.qual++"<lambda>") params body scope (qj X.env.cells scope.names []) ((X.mg "__name__").getD .none) c' ctv)).get? h'.objs.size=some (wY "<lambda>" (X.env.qual++"<lambda>") params body scope (qj X.env.cells scope.names []) ((X.mg "__name__").getD .none) c' ctv):=aM _ rfl
  generalize h'.push (wY "<lambda>" (X.env.qual++"<lambda>") params body scope (qj X.env.cells scope.names []) ((X.mg "__name__").getD .none) c' ctv)=h2 at k hP' hoc' hf
  have st:∀ b o,b≠Pt->H b=some o->upd (upd H Pt (.tbl #[cw pos.line,cw pos.col,.ref c'])) c' (.frz oc (.ext λ_=>True)) b=some o:=λb o hb e=>by
   rw [aJ (aN e hn),aJ hb];exact e
  refine h _ c' ctv h2 tk (upd (upd H Pt (.tbl #[cw pos.line,cw pos.col,.ref c'])) c' (.frz oc (.ext λ_=>True))) ?_ hf ⟨c',oc,vs,t,rfl,hoc',hd,hv⟩ st (.inr ⟨c',oc,vs,t,by rw [aJ (Ne.symm ncP)];exact aD,aD,hd,hv⟩) k
  have nP:∀ b,H b=none->b≠Pt:=λb e q=>by rw [q,hT] at e;cases e
  refine I.step (g':=s.gens) (d':=s.drawn) (ch:=[]) (λ_ z=>nomatch z) (λb o _ _ _ e n=>k b o (nP b n) e) (λb o _ _ _ e n=>⟨o.slots,k b o (nP b n) e⟩) (λb o _ e n=>?_) (λb o _ e=>?_) (λb xs e=>?_) (λb o u e=>?_)
   (λb ps e=>?_) (λm' hm'=>?_) (λb u e=>?_) I.bare
  ·rw [aJ (aW (bh (aL e) hge)),aJ (nP b n)];exact n
  ·by_cases hb:b=Pt
   ·exact ⟨_,hb▸hP'⟩
   ·exact ⟨o,k b o hb e⟩
  ·exact st b _ (λq=>by rw [q,hT] at e;cases e) e
  ·exact st b _ (λq=>by rw [q,hT] at e;cases e) e
  ·by_cases hb:b=Pt
   ·subst hb
    rw [hT] at e;cases e
    exact ⟨#[cw pos.line,cw pos.col,.ref c'],by rw [aJ (Ne.symm ncP),aD];simp⟩
   ·exact ⟨#[],by rw [st b _ hb e];simp⟩
  ·obtain ⟨o,es,ep,e,r⟩:=hm'
   exact ⟨o,es,ep,k _ o hL e,r⟩
  ·by_cases hb:b=c'
   ·subst hb
    rw [aD] at e;cases e
    exact ⟨hoc',trivial,⟨oc,hoc'⟩,λ_ _ _ _=>trivial⟩
   ·rw [aJ hb] at e
    by_cases hb2:b=Pt
    ·subst hb2
     rw [aD] at e;cases e
     exact hP'
    ·rw [aJ hb2] at e
     refine (I.hok b u e).stay (λd v hc q=>k d v ?_ q) (λd q=>st d _ (λz=>by rw [z,hT] at q;cases q) q) λd xs q=>st d _ (λz=>by rw [z,hT] at q;cases q) q
     rintro rfl
     rcases hc with hc|hc
     ·exact hb2 hc.symm
     ·rw [hT] at hc;cases hc
 ·have hP:s.heap.get? Pt=some (HK #[cw pos.line,cw pos.col,.ref c']):=I.hok Pt _ hT
  refine PySem.W.kla_makeFunctionHit (mg:=X.mg) (cv:=.ref c') (u0 hfr) I.ok.glob hg hcode C1 hP (by simp [TriplesOk,cw]) (by simp [codeAmong,cw]) B1 λctv h' tk hk hsz=>?_
  have k:∀ b o,s.heap.get? b=some o->(h'.push (wY "<lambda>" (X.env.qual++"<lambda>") params body scope (qj X.env.cells scope.names []) ((X.mg "__name__").getD .none) c' ctv)).get? b=some o:=λb o e=>ax _ (hk b o e)
  refine h h'.objs.size c' ctv _ tk H (I.kept k) (aM _ rfl) ⟨c',oc,vs,t,rfl,k _ _ (I.hok c' _ hc').1,hd,hv⟩ (λ_ _ _ e=>e) (.inr ⟨c',oc,vs,t,hT,hc',hd,hv⟩) λb o _ e=>k b o e
end
end L2
namespace L2
open PySem PySem.Spec PySem.Calls PyProof.Rows
open PySem.W (kla_fn kla_obj tabObj CodeHd)
section
variable {X:Cx}{c Pt:af}{e:Expr}{tx:TA}{x y:bA}{j:Nat}{params:sC}{scope:lH}{p0 p1 p2 p3 lpos kpos pos:qQ}
end
end L2
namespace L2
open PySem PySem.Spec PySem.Calls PyProof.Rows
open PySem.W (tabObj CodeHd noTabs tabIn)
end L2
namespace L2
open PySem PySem.Spec PyProof.Rows
theorem Fun.okC {P:bp}{w:b8}{K:aa}{mg:bA->Option ai}{base:cm}{x qual:bA}{st:dE}{f:af}{fd:fP}{N ps:List bA}{k:Nat}{sp:Sp}{cdv:ai}(F:Fun K x qual st f fd) (hc:fd.code=cdv) (S:bL N ps (aE st)) (len:∀ vs H Q E,sp vs H Q E->vs.length=ps.length)
  (hbody:∀ (A:cp) (outer:List HG) (s:au) (H:Hp) (vs:List V) (Q:VK) (E:XK),Room k (A.deeper (zt qual (aE st) s.heap.objs.size f cdv))->sp vs H Q E ->
   ∃ t,PSs (eW bW P w K mg base N qual (aE st) f cdv A outer s H E).nox (bq st) t/\t { nx:=λ_ H'=>Q .non H',rt:=Q } (start N vs) H):FnOk P w K mg base bW (k+1) f fd ps sp:=by
 obtain ⟨oc,od,kV,doc,pm,an,cdv',ct,osl,rfl,lk,hcd⟩:=F.ex
 have e:cdv'=cdv:=hc
 subst e
 refine PN lk hcd S len λA outer s H vs Q E hr hsp=>?_
 obtain ⟨t,h,q⟩:=hbody A outer s H vs Q E hr hsp
 exact ⟨t,h.nox,q⟩
end L2
namespace L2
open PySem PySem.Spec PyProof.Rows
end L2
namespace L2
open PySem PySem.Spec PyProof.Rows
end L2
namespace L2
open PySem PySem.Spec PyProof.Rows
section
variable {K:aa}{σ:St}{H:Hp}{Q:VK}
theorem zF {σ0:St}{g:TG}{tt:TT}{te:TE}{z acc:af}{xs:List V}{R:Hp->Prop}{α:Type} (items:List α) (p:α->Bool) (f:α->V) (S:St->Prop) (hlen:items.length=xs.length) (hz:SqL K H z xs) (ha:H acc=none) (s0:S σ0) (hs:xs.length<=100000)
  (turn:∀ (i:Nat) (a:α) (x:V) (σ':St) (H':Hp) (G:V->St->Hp->Prop) (G':St->Hp->Prop),items[i]?=some a->xs[i]?=some x->Same H H'->S σ'->(p a=true->∀ σ2,S σ2->G (f a) σ2 H')->(p a=false->∀ σ2,S σ2->G' σ2 H') ->
   g x σ' H' λσ2 H3=>tt σ2 H3 λb H4=>if b=true then te σ2 H4 λy H5=>G y σ2 H5 else G' σ2 H4)
  (fin:∀ H',Same H H'->H' acc=some (.lst ((items.filter p).map f))->R H') :
  ∃ W:Nat->Nat->List V->St->Hp->Prop,(∃ m,W 0 m [] σ0 (upd H acc (.lst [])))/\∀ i m ys σ' H',W i m ys σ' H'->H' acc=some (.lst ys) /\
  (((LZ K z).stop i H'/\R H')\/((LZ K z).go i H'/\∀ x H2,(LZ K z).yld i H' x H2->g x σ' H2 λσ2 H3=>tt σ2 H3 λb H4 =>
   if b=true then te σ2 H4 λy H5=>H5 acc=some (.lst ys)/\ys.length<a0/\∃ m',m'<m/\W (i+1) m' (ys++[y]) σ2 (upd H5 acc (.lst (ys++[y]))) else ∃ m',m'<m/\W (i+1) m' ys σ2 H4)):=by
 refine oX (n:=xs.length) (λi ys H'=>ys=((items.take i).filter p).map f/\H' acc=some (.lst ys)/\Same H H') S ⟨by simp,aD,Same.upd_new ha⟩ s0 ?_ ?_ ?_ ?_
 ·rintro i ys H' ⟨_,h,_⟩;exact h
 ·rintro ys H' ⟨e,h,S'⟩
  refine ⟨⟨_,S'.seq hz,aw _⟩,fin H' S' ?_⟩
  rw [h,e,bY (by omega)]
 ·rintro i ys H' hi ⟨e,h,S'⟩
  exact ⟨_,_,S'.seq hz,ar hi⟩
 ·rintro i ys σ' H' x H2 hi ⟨e,h,S'⟩ hσ ⟨e2,hx⟩
  subst e2
  have hxi:=hx _ (S'.seq hz)
  obtain ⟨a,hai⟩:∃ a,items[i]?=some a:=⟨_,ar (by omega)⟩
  have et:items.take (i+1)=items.take i++[a]:=by rw [gP,hai];rfl
  refine turn i a x σ' H2 _ _ hai hxi S' hσ (λhp σ2 h2=>?_) λhp σ2 h2=>?_
  ·refine ⟨h,bo (m:=i) ?_ (bh hi (b0 hs)),CNext.mk' hi h2 ⟨?_,aD,λb o q=>by rw [aJ (aN q ha)];exact S' _ _ q⟩⟩
   ·rw [e,aj];exact bg (dk _ _) (by rw [bw];omega)
   ·rw [et,e,eD,aV]
    simp [hp]
  ·refine CNext.mk' hi h2 ⟨?_,h,S'⟩
   rw [et,e,eD,aV]
   simp [hp]
theorem lK:∀ ns:List Int,iB (ns.map .int)=true
 | []=>rfl
 | n::ns=>by simp only [bV,iB,gm];exact ⟨by simp [nG],lK ns⟩
theorem Aj:∀ ns:List Int,fW (ns.map .int)<=1
 | []=>by simp [fW]
 | n::ns=>by
  have:=Aj ns
  simp only [bV,fW]
  have e:(Mb n).depth<=1:=by simp [nC]
  omega
theorem mw {H:Hp}{a:af}{ns:List Int}(h:SqL K H a (ns.map V.int)):Rep K H (.list (ns.map .int)) (.ref a):=.lst h (RepAll.ints ns)
end
end L2
namespace BootT
open PySem
theorem sum:dz "sum"=some (.builtin "sum"):=by decide +kernel
theorem zip:dz "zip"=some (.type "zip"):=by decide +kernel
theorem set:dz "set"=some (.type "set"):=by decide +kernel
end BootT
namespace L2
open PySem PySem.Spec PyProof.Rows PySem.SeqAt
section
variable {X:Cx}
def MN (K:aa):V->List V->Hp->VK->Prop:=λx vs H Q=>∃ (l:af) (ns:List Int) (k:Int),x=.ref l/\vs=[.int k]/\SqL K H l (ns.map V.int)/\k∈ns/\Q (.int (ns.idxOf k:Nat)) H
theorem MO:MtM X "list.index" (MN X.K):=by
 intro pins s σ H x vs v us Q I rx rv h
 obtain ⟨l,ns,k,rfl,rfl,hq,hk,q⟩:=h
 cases rx
 obtain ⟨u,rfl,t,rfl⟩:=rv.one
 obtain ⟨its,r,pl,hz⟩:=I.list hq
 have hi:fS its ns:=intsAre_of r
 have hlen:=hi.length
 have hl2:=r.length
 have hj:ns.idxOf k<ns.length:=gC.mpr hk
 have h63:=uX
 rw [aj] at hz hl2
 obtain ⟨⟨cls,dd,data,sl⟩,ho,hc,n,hd⟩:=pl.isList
 simp only at hc hd
 subst hc hd
 refine LJ fh ⟨_,ho,rfl⟩ FO (DO _ _)
  (list_indexAt l its.toArray n dd sl (.int k t) (isInt k) (ns.idxOf k) (by rw [aR];omega) (by omega) ?_ ?_) ⟨ho,λy hy=>(eq_isInt k t hi y (by simpa using hy)).at _ _,⟨.int _,H,I.tok _,⟨_,rfl⟩,q⟩⟩
 ·show isInt k its[ns.idxOf k]=true
  rw [isInt_at k hi _ (by omega) hj]
  simpa using qS hj
 ·intro j hjs hlt
  show isInt k its[j]=false
  rw [isInt_at k hi j (by simpa using hjs) (by omega)]
  exact ne_of_lt_idxOf hlt _
def J8 (K:aa):V->List V->Hp->VK->Prop:=λx vs H Q=>∃ (l:af) (y:V) (ds:List iW) (d:iW) (j:Nat) (ej:iW),x=.ref l/\vs=[y]/\Rep K H (.list ds) (.ref l)/\Rep K H d y/\vP d/\iU ds=true /\
 ds.length<=a0/\ds[j]?=some ej/\du ej d=true/\(∀ m e,m<j->ds[m]?=some e->du e d=false)/\Q (.int (j:Nat)) H
theorem K5 (hu:X.A.units+64<iH):MtM X "list.index" (J8 X.K):=by
 intro pins s σ H x vs v us Q I rx rv h
 obtain ⟨l,y,ds,d,j,ej,rfl,rfl,hR,hd,hf,hc,hz,hj,he,hno,q⟩:=h
 cases rx
 obtain ⟨u,rfl,ru⟩:=rv.one
 obtain ⟨as,r1⟩:=Rep.reads I _ _ _ hR rfl
 obtain ⟨bs,r2⟩:=Rep.reads I d y u hd ru
 have h63:=uX
 have hdep:=hf.dep
 have hjl:j<ds.length:=(aB.mp hj).1
 cases r1 with
 | @list _ o items n _ as2 h1 h2 h3 h4 =>
  obtain ⟨cls,dd,data,sl⟩:=o
  have h2':cls=_:=h2
  have h3':data=_:=h3
  subst h2' h3'
  have hm:=readsAll_map _ _ _ hc h4
  have hsz:items.size=ds.length:=by rw [← hm,aj,aT]
  have at_:∀ (m:Nat) (hm':m<items.size) (e:iW),ds[m]?=some e->readOf s.heap items[m]=e:=λm hm' e z=>by
   rw [← hm,ay,dj,bZ hm'] at z
   exact aS z
  refine LJ fh ⟨_,h1,rfl⟩ FO (DO _ _)
   (list_indexAt l items n dd sl u (λy=>du (readOf s.heap y) d) j (by omega) (by omega) ?_ ?_) ⟨h1,items_eqAt h4 r2 hc hf.lay (by omega),⟨.int _,H,I.tok _,⟨_,rfl⟩,q⟩⟩
  ·show du (readOf s.heap items[j]) d=true
   rw [at_ j (by omega) _ hj];exact he
  ·intro m hm' hlt
   obtain ⟨e,z⟩:∃ e,ds[m]?=some e:=⟨_,ar (by omega)⟩
   show du (readOf s.heap items[m]) d=false
   rw [at_ m hm' e z]
   exact hno m e hlt z
theorem MtM.or {id:String}{r r':V->List V->Hp->VK->Prop}(h:MtM X id r) (h':MtM X id r'):MtM X id (λx vs H Q=>r x vs H Q\/r' x vs H Q):=by
 intro pins s σ H x vs v us Q I rx rv z
 rcases z with z|z
 ·exact h pins s σ H x vs v us Q I rx rv z
 ·exact h' pins s σ H x vs v us Q I rx rv z
def qr (K:aa):V->List V->Hp->VK->Prop:=λx vs H Q=>MN K x vs H Q\/J8 K x vs H Q
theorem qZ (hu:X.A.units+64<iH):MtM X "list.index" (qr X.K):=MO.or (K5 hu)
variable {tg:Expr}
theorem SQ {K:aa}{T:String}{r:V->List V->Hp->VK->Prop}{to:TE}{σ:St}{H:Hp}{Q:VK}(h:to σ H λx H1=>Sk K T x H1/\r x [] H1 Q):QL K T r to σ H Q:=h
theorem Ec {K:aa}{l:af}{ns:List Int}{k:Int}{H:Hp}{Q:VK}(h:SqL K H l (ns.map V.int)) (hk:k∈ns) (q:Q (.int (ns.idxOf k:Nat)) H):qr K (.ref l) [.int k] H Q:=.inl ⟨l,ns,k,rfl,rfl,h,hk,q⟩
end
end L2
namespace L2
end L2
namespace L2
open PySem PySem.Spec PyProof.Rows
section
variable {K:aa}{H:Hp}{Q:VK}{a:af}{xs:List V}{ns:List Int}{i i':Int}{j j':Nat}
theorem Ee {n d:Nat}(h:i=(j:Int)):HT.nz n d (some i)=min j n:=by subst h;exact HT.ON n d j
theorem MP (h:i=(j:Int)):xt xs (some i) none=xs.drop j:=by
 unfold xt
 rw [Ee h,HT.Gm]
 by_cases e:j<=xs.length
 ·rw [uV e,bY (by rw [bz];omega)]
 ·rw [C9 (by omega),n6 (aw _),n6 (by omega)];simp
theorem Ak (h:i=(j:Int)):xt xs none (some i)=xs.take j:=by
 unfold xt
 rw [Ee h,HT.Gm,R7,Nat.sub_zero]
 by_cases e:j<=xs.length
 ·rw [uV e]
 ·rw [C9 (by omega),bY (aw _),bY (by omega)]
theorem OZ (h:i=(j:Int)) (h':i'=(j':Int)):xt xs (some i) (some i')=(xs.drop j).take (j'-j):=by
 unfold xt
 rw [Ee h,Ee h']
 by_cases e:j<=xs.length
 ·rw [uV e]
  by_cases e':j'<=xs.length
  ·rw [uV e']
  ·rw [C9 (by omega),bY (by rw [bz];omega),bY (by rw [bz];omega)]
 ·rw [n6 (show xs.length<=min j xs.length by omega),n6 (show xs.length<=j by omega)];simp
theorem vR (h:SqL K H a (ns.map V.int)) (e:i=(j:Int)) (k:∀ p,H p=none->Q (.ref p) (upd H p (.lst ((ns.drop j).map V.int)))):uz K (.ref a) (some i) none H Q :=
 GB h λp hp=>by rw [MP e,← yl];exact k p hp
theorem Iw (h:SqL K H a (ns.map V.int)) (e:i=(j:Int)) (k:∀ p,H p=none->Q (.ref p) (upd H p (.lst ((ns.take j).map V.int)))):uz K (.ref a) none (some i) H Q :=
 GB h λp hp=>by rw [Ak e,← l7];exact k p hp
theorem J9 (h:SqL K H a (ns.map V.int)) (e:i=(j:Int)) (e':i'=(j':Int)) (k:∀ p,H p=none->Q (.ref p) (upd H p (.lst (((ns.drop j).take (j'-j)).map V.int)))):uz K (.ref a) (some i) (some i') H Q :=
 GB h λp hp=>by rw [OZ e e',← yl,← l7];exact k p hp
theorem Ef {l b:af}{ms:List Int}(h:H l=some (.lst (ns.map V.int))) (h':H b=some (.lst (ms.map V.int))) (hl:ns.length+ms.length<=100000) (k:∀ p,H p=none->Q (.ref p) (upd H p (.lst ((ns++ms).map V.int)))):ik (.ref l) (.ref b) H Q :=
 SI h h' (by rw [aj,aj];exact b0 hl) λp hp=>by rw [← aV];exact k p hp
theorem Ka {j:Nat}{v:Int}(h:ns[j]?=some v):(ns.map V.int)[j]?=some (.int v):=by rw [ay,h];rfl
theorem rg {v:Int}(h:SqL K H a (ns.map V.int)) (e:i=(j:Int)) (g:ns[j]?=some v) (k:Q (.int v) H):fk K (.ref a) (.int i) H Q:=nA h (fv e (Ka g)) k
theorem u7 (h:SqL K H a (ns.map V.int)) (k:Q (.int ns.length) H):xA K [.ref a] H Q:=Eb h (by rw [aj];exact k)
theorem O0 {α:Type} {xs:List α}{j:Nat}{v:α}(hj:j<xs.length) (h:xs[xs.length-(j+1)]?=some v):KU xs (-((j:Int)+1))=some v:=by
 unfold KU KR
 rw [if_neg (by omega),if_pos (by omega)]
 have e:(-((j:Int)+1)+(xs.length:Int)).toNat=xs.length-(j+1):=by omega
 simpa [e] using h
end
end L2
namespace L2
open PySem PySem.Spec PyProof.Rows
section
variable {K:aa}{σ:St}{H:Hp}{Q:VK}
theorem MQ {σ0:St}{g:TG}{te:TE}{J:It}{n:Nat}{acc:af}{R:Hp->Prop}(E:Nat->V->Hp->Prop) (X:Nat->V->Prop) (S:St->Prop) (ha:H acc=none) (s0:S σ0) (hn:n<=100000)
  (hgo:∀ i H',Same H H'->i<n->J.go i H') (hstop:∀ H',Same H H'->J.stop n H') (hy:∀ i H' x H2,Same H H'->i<n->J.yld i H' x H2->H2=H'/\X i x)
  (st:∀ i y H1 H2 zs,H1 acc=some (.lst zs)->SameBut1 acc H1 H2->E i y H1->E i y H2)
  (turn:∀ (i:Nat) (x:V) (σ':St) (H':Hp) (G:V->St->Hp->Prop),i<n->X i x->Same H H'->S σ'->(∀ y σ2 H5,S σ2->Same H' H5->E i y H5->G y σ2 H5)->g x σ' H' λσ2 H3=>te σ2 H3 λy H5=>G y σ2 H5)
  (fin:∀ ys H',ys.length=n->H' acc=some (.lst ys)->Same H H'->(∀ i y,ys[i]?=some y->E i y H')->R H') :
  ∃ W:Nat->Nat->List V->St->Hp->Prop,(∃ m,W 0 m [] σ0 (upd H acc (.lst [])))/\∀ i m ys σ' H',W i m ys σ' H'->H' acc=some (.lst ys) /\
  ((J.stop i H'/\R H')\/(J.go i H'/\∀ x H2,J.yld i H' x H2->g x σ' H2 λσ2 H3=>Ae σ2 H3 λb H4 =>
   if b=true then te σ2 H4 λy H5=>H5 acc=some (.lst ys)/\ys.length<a0/\∃ m',m'<m/\W (i+1) m' (ys++[y]) σ2 (upd H5 acc (.lst (ys++[y]))) else ∃ m',m'<m/\W (i+1) m' ys σ2 H4)):=by
 refine oX (n:=n) (tt:=Ae) (λi ys H'=>ys.length=i/\H' acc=some (.lst ys)/\Same H H'/\∀ j y,ys[j]?=some y->E j y H') S ⟨rfl,aD,Same.upd_new ha,λj y e=>by simp at e⟩ s0 ?_ ?_ ?_ ?_
 ·rintro i ys H' ⟨_,h,_⟩;exact h
 ·rintro ys H' ⟨e,h,S',hE⟩
  exact ⟨hstop H' S',fin ys H' e h S' hE⟩
 ·rintro i ys H' hi ⟨e,h,S',hE⟩
  exact hgo i H' S' hi
 ·rintro i ys σ' H' x H2 hi ⟨e,h,S',hE⟩ hσ hyl
  obtain ⟨rfl,hX⟩:=hy i H' x H2 S' hi hyl
  have z:=turn i x σ' H2 (λy σ2 H5=>H5 acc=some (.lst ys)/\ys.length<a0/\∃ m',m'<n-i/\CNext n (i+1) S (λys H'=>ys.length=i+1/\H' acc=some (.lst ys)/\Same H H'/\∀ j y,ys[j]?=some y->E j y H') m' (ys++[y]) σ2 (upd H5 acc (.lst (ys++[y])))) hi hX S' hσ ?_
  ·exact z
  ·intro y σ2 H5 h2 S5 hE5
   refine ⟨S5 _ _ h,eG (m:=100000) (by omega),CNext.mk' hi h2 ⟨by rw [aX,e];rfl,aD,λb o q=>by rw [aJ (aN q ha)];exact S5 _ _ (S' _ _ q),λj v hv=>?_⟩⟩
   have hb:SameBut1 acc H5 (upd H5 acc (.lst (ys++[y]))):=SameBut1.upd
   by_cases hj:j<ys.length
   ·rw [ck hj] at hv
    exact st j v _ _ _ (S5 _ _ h) hb (st j v _ _ _ h (SameBut1.same S5) (hE j v hv))
   ·rw [bx (by omega)] at hv
    have ej:j=i:=by
     by_cases z:j-ys.length=0
     ·omega
     ·rw [cV (by simp;omega)] at hv;cases hv
    subst ej
    rw [e,uI] at hv
    have ev:y=v:=by simpa using hv
    subst ev
    exact st j y _ _ _ (S5 _ _ h) hb hE5
theorem MR {σ0:St}{g:TG}{te:TE}{z acc:af}{xs:List V}{R:Hp->Prop}(E:Nat->V->Hp->Prop) (S:St->Prop) (hz:SqL K H z xs) (ha:H acc=none) (s0:S σ0) (hn:xs.length<=100000)
  (st:∀ i y H1 H2 zs,H1 acc=some (.lst zs)->SameBut1 acc H1 H2->E i y H1->E i y H2)
  (turn:∀ (i:Nat) (x:V) (σ':St) (H':Hp) (G:V->St->Hp->Prop),i<xs.length->xs[i]?=some x->Same H H'->S σ'->(∀ y σ2 H5,S σ2->Same H' H5->E i y H5->G y σ2 H5)->g x σ' H' λσ2 H3=>te σ2 H3 λy H5=>G y σ2 H5)
  (fin:∀ ys H',ys.length=xs.length->H' acc=some (.lst ys)->Same H H'->(∀ i y,ys[i]?=some y->E i y H')->R H') :
  ∃ W:Nat->Nat->List V->St->Hp->Prop,(∃ m,W 0 m [] σ0 (upd H acc (.lst [])))/\∀ i m ys σ' H',W i m ys σ' H'->H' acc=some (.lst ys) /\
  (((LZ K z).stop i H'/\R H')\/((LZ K z).go i H'/\∀ x H2,(LZ K z).yld i H' x H2->g x σ' H2 λσ2 H3=>Ae σ2 H3 λb H4 =>
   if b=true then te σ2 H4 λy H5=>H5 acc=some (.lst ys)/\ys.length<a0/\∃ m',m'<m/\W (i+1) m' (ys++[y]) σ2 (upd H5 acc (.lst (ys++[y]))) else ∃ m',m'<m/\W (i+1) m' ys σ2 H4)) :=
 MQ E (λi x=>xs[i]?=some x) S ha s0 hn (λi H' S' h=>⟨xs,_,S'.seq hz,ar h⟩) (λH' S'=>⟨xs,S'.seq hz,aw _⟩) (λi H' x H2 S' _ h=>⟨h.1,h.2 xs (S'.seq hz)⟩) st turn fin
theorem SR {l:af}{xs:List V}{y:V}(h:H l=some (.lst (xs++[y]))) (k:Q y (upd H l (.lst xs))):QN (.ref l) [] H Q:=⟨l,xs++[y],y,rfl,rfl,h,by simp,by simpa using k⟩
end
end L2
namespace Sx
open PySem PySem.W PyProof.Rows
variable {n:Nat}{k:Nat->Int}
def Sat (n:Nat) (k:Nat->Int) {α:Type}:KasT α->(α->Prop)->Prop
 | .ret a,Q=>Q a
 | .ask i j f,Q=>i<n/\j<n/\Sat n k (f (decide (k i<k j))) Q
theorem Sat.bind {α β:Type} {f:α->KasT β}{Q:β->Prop}:∀ {t:KasT α},Sat n k t (λa=>Sat n k (f a) Q)->Sat n k (t.bind f) Q
 | .ret _,h=>h
 | .ask _ _ _,h=>⟨h.1,h.2.1,Sat.bind h.2.2⟩
theorem Sat.mono {α:Type} {Q Q':α->Prop}(hq:∀ a,Q a->Q' a):∀ {t:KasT α},Sat n k t Q->Sat n k t Q'
 | .ret _,h=>hq _ h
 | .ask _ _ _,h=>⟨h.1,h.2.1,Sat.mono hq h.2.2⟩
def Pm (n:Nat) (p:Array Nat):Prop:=p.toList.Perm (gh n)
theorem Pm.size {p:Array Nat}(h:Pm n p):p.size=n:=by have:=h.length_eq;simpa using this
theorem Pm.lt {p:Array Nat}(h:Pm n p) (hn:0<n) (i:Nat):p.getD i 0<n:=by
 by_cases hi:i<p.size
 ·have e:p.getD i 0=p[i]:=by simp [qO,hi]
  rw [e]
  have:p[i]∈gh n:=h.mem_iff.mp (by simp)
  simpa using this
 ·have e:p.getD i 0=0:=by simp [qO,hi]
  omega
def Ky (k:Nat->Int) (p:Array Nat) (i:Nat):Int:=k (p.getD i 0)
theorem Ky.congr {p q:Array Nat}{i j:Nat}(h:p[i]?=q[j]?):Ky k p i=Ky k q j:=by
 unfold Ky
 have e:∀ (r:Array Nat) (a:Nat),r.getD a 0=(r[a]?).getD 0:=λr a=>by by_cases h:a<r.size<;>simp [qO,h]
 rw [e,e,h]
theorem Pm.rev {p:Array Nat}(h:Pm n p) (i j:Nat):Pm n (Kt p i j):=(FP.mp (mirror_perm p i j _)).trans h
theorem Pm.bub {p:Array Nat}(h:Pm n p) (i j:Nat):Pm n (bubble p i j):=(FP.mp (bubble_perm p i j)).trans h
theorem Iy {p:Array Nat}{a b:Nat}(hb:b<=p.size) (i:Nat):Ky k (Kt p a b) i=if a<=i/\i<b then Ky k p (a+b-1-i) else Ky k p i:=by
 have e:=getElem?_mirror_all (i:=a) hb i
 split
 ·rename_i h;rw [if_pos h] at e;exact Ky.congr e
 ·rename_i h;rw [if_neg h] at e;exact Ky.congr e
theorem Eg {p:Array Nat}{a b:Nat}(hb:b<=p.size) (h:∀ i,a<=i->i+1<b->Ky k p i=Ky k p (i+1)) (i:Nat):Ky k (Kt p a b) i=Ky k p i:=by
 have all:∀ d i,a<=i->i+d<b->Ky k p i=Ky k p (i+d):=λd=>by
  induction d with
  | zero=>intro i _ _;rfl
  | succ d ih=>intro i h1 h2;rw [ih i h1 (by omega),h (i+d) (by omega) (by omega)];rfl
 rw [Iy hb]
 split
 ·rename_i z
  by_cases c:a+b-1-i<=i
  ·have:=all (i-(a+b-1-i)) (a+b-1-i) (by omega) (by omega)
   rw [this];congr 1;omega
  ·have:=all (a+b-1-i-i) i (by omega) (by omega)
   rw [this];congr 1;omega
 ·rfl
def Up (k:Nat->Int) (p:Array Nat) (m:Nat):Prop:=∀ i,i+1<m->Ky k p i<=Ky k p (i+1)
def Dn (k:Nat->Int) (p:Array Nat) (m:Nat):Prop:=∀ i,i+1<m->Ky k p (i+1)<=Ky k p i
theorem Up.le {p:Array Nat}{m:Nat}(h:Up k p m) {i j:Nat}(hij:i<=j) (hj:j<m):Ky k p i<=Ky k p j:=by
 induction j with
 | zero =>
  have:i=0:=by omega
  subst this;exact Int.le_refl _
 | succ j ih =>
  by_cases e:i=j+1
  ·subst e;exact Int.le_refl _
  ·exact Int.le_trans (ih (by omega) (by omega)) (h j hj)
theorem Up.one {p:Array Nat}{m:Nat}(hm:m<=1):Up k p m:=λi hi=>absurd hi (by omega)
theorem Eh {p:Array Nat}(hp:Pm n p) (hn:0<n):∀ (f m:Nat),1<=m->m+f<=n->Up k p m->Sat n k (kas_asc p f m) λm'=>m<=m'/\m'<=m+f/\Up k p m'/\(m'<m+f->Ky k p m'<Ky k p (m'-1))
 | 0,m,_,_,h=>⟨aw _,aw _,h,λz=>absurd z (by omega)⟩
 | f+1,m,h1,h2,h=>by
  refine ⟨hp.lt hn _,hp.lt hn _,?_⟩
  by_cases c:k (p.getD m 0)<k (p.getD (m-1) 0)
  ·rw [decide_eq_true c]
   exact ⟨aw _,by omega,h,λ_=>c⟩
  ·rw [decide_eq_false c]
   refine Sat.mono (λm' z=>⟨by omega,by omega,z.2.2.1,λw=>z.2.2.2 (by omega)⟩) (Eh hp hn f (m+1) (by omega) (by omega) λi hi=>?_)
   by_cases e:i+1=m
   ·subst e
    have:Ky k p i=k (p.getD (i+1-1) 0):=rfl
    have:Ky k p (i+1)=k (p.getD (i+1) 0):=rfl
    omega
   ·exact h i (by omega)
structure Rg (n:Nat) (k:Nat->Int) (p:Array Nat) (m q:Nat):Prop where
 pm:Pm n p
 dn:Dn k p m
 le:q+1<=m
 eq:∀ i,m-(q+1)<=i->i+1<m->Ky k p i=Ky k p (i+1)
theorem vS (hn:0<n):∀ (f:Nat) (p:Array Nat) (m q:Nat),1<=m->m+f<=n->Rg n k p m q->Sat n k (kas_desc f p m q) λr=>m<=r.2.1/\r.2.1<=m+f/\Rg n k r.1 r.2.1 r.2.2
 | 0,p,m,q,_,_,h=>⟨aw _,aw _,h⟩
 | f+1,p,m,q,h1,h2,h=>by
  refine ⟨h.pm.lt hn _,h.pm.lt hn _,?_⟩
  by_cases c:k (p.getD m 0)<k (p.getD (m-1) 0)
  ·rw [decide_eq_true c]
   show Sat n k (if q>0 then _ else _) _
   have hc:Ky k p m<=Ky k p (m-1):=LL c
   by_cases hq:q>0
   ·rw [if_pos hq]
    have sm:∀ i,Ky k (Kt p (m-(q+1)) m) i=Ky k p i:=Eg (by rw [h.pm.size];omega) h.eq
    refine Sat.mono (λr z=>⟨by omega,by omega,z.2.2⟩) (vS hn f _ (m+1) 0 (by omega) (by omega) ⟨h.pm.rev _ _,λi hi=>?_,by omega,λi h3 h4=>absurd h4 (by omega)⟩)
    rw [sm,sm]
    by_cases e:i+1=m
    ·subst e;exact hc
    ·exact h.dn i (by omega)
   ·rw [if_neg hq]
    refine Sat.mono (λr z=>⟨by omega,by omega,z.2.2⟩) (vS hn f _ (m+1) 0 (by omega) (by omega) ⟨h.pm,λi hi=>?_,by omega,λi h3 h4=>absurd h4 (by omega)⟩)
    by_cases e:i+1=m
    ·subst e;exact hc
    ·exact h.dn i (by omega)
  ·rw [decide_eq_false c]
   refine ⟨h.pm.lt hn _,h.pm.lt hn _,?_⟩
   by_cases d:k (p.getD (m-1) 0)<k (p.getD m 0)
   ·rw [decide_eq_true d]
    exact ⟨aw _,jz m (f+1),h⟩
   ·rw [decide_eq_false d]
    have he:Ky k p m=Ky k p (m-1):=by
     have e1:Ky k p m=k (p.getD m 0):=rfl
     have e2:Ky k p (m-1)=k (p.getD (m-1) 0):=rfl
     omega
    have hle:=h.le
    refine Sat.mono (λr z=>⟨by omega,by omega,z.2.2⟩) (vS hn f p (m+1) (q+1) (by omega) (by omega) ⟨h.pm,λi hi=>?_,by omega,λi h3 h4=>?_⟩)
    ·by_cases e:i+1=m
     ·subst e;exact Int.le_of_eq he
     ·exact h.dn i (by omega)
    ·by_cases e:i+1=m
     ·subst e;exact he.symm
     ·exact h.eq i (by omega) (by omega)
theorem GD {p:Array Nat}{m:Nat}(hn:0<n) (hp:Pm n p) (h1:1<=m) (hm:m<=n) (h:Dn k p m):Sat n k (kas_tail3 m n p) λr=>Pm n r.2/\1<=r.1/\r.1<=n/\Up k r.2 r.1:=by
 refine Sat.bind (Sat.mono (λm' z=>⟨hp.rev _ _,by omega,by omega,z.2.2.1⟩) (Eh (hp.rev 0 m) hn (n-m) m h1 (by omega) λi hi=>?_))
 rw [Iy (by rw [hp.size];exact hm),Iy (by rw [hp.size];exact hm),if_pos (by omega),if_pos (by omega)]
 have:=h (0+m-1-(i+1)) (by omega)
 have e:0+m-1-(i+1)+1=0+m-1-i:=by omega
 rw [e] at this;exact this
theorem vT {p:Array Nat}{m:Nat}(hn:0<n) (hp:Pm n p) (h1:1<=m) (hm:m+1<=n) (h:Dn k p (m+1)):Sat n k (kas_descPart m n p) λr=>Pm n r.2/\1<=r.1/\r.1<=n/\Up k r.2 r.1:=by
 refine Sat.bind (Sat.mono ?_ (vS hn (n-(m+1)) p (m+1) 0 (by omega) (by omega) ⟨hp,h,by omega,λi h3 h4=>absurd h4 (by omega)⟩))
 rintro ⟨p',m',q'⟩ ⟨a1,a2,a3⟩
 show Sat n k (if q'>0 then _ else _) _
 have a1:m+1<=m':=a1
 have a2:m'<=m+1+(n-(m+1)):=a2
 have a3:Rg n k p' m' q':=a3
 by_cases hq:q'>0
 ·rw [if_pos hq]
  refine GD hn (a3.pm.rev _ _) (by omega) (by omega) λi hi=>?_
  have sm:∀ i,Ky k (Kt p' (m'-(q'+1)) m') i=Ky k p' i:=Eg (by rw [a3.pm.size];omega) a3.eq
  rw [sm,sm];exact a3.dn i hi
 ·rw [if_neg hq]
  exact GD hn a3.pm (by omega) (by omega) a3.dn
theorem K6 {p:Array Nat}(hn:0<n) (hp:Pm n p):Sat n k (kas_count n p) λr=>Pm n r.2/\1<=r.1/\r.1<=n/\Up k r.2 r.1:=by
 refine Sat.bind (Sat.mono ?_ (Eh hp hn (n-1) 1 (aw _) (by omega) (Up.one (aw _))))
 rintro m ⟨a1,a2,a3,a4⟩
 show Sat n k (if (m == n)=true then _ else _) _
 by_cases e:m=n
 ·subst e
  rw [if_pos (by simp)]
  exact ⟨hp,a1,aw _,a3⟩
 ·rw [if_neg (by simpa using e)]
  have a4:=a4 (by omega)
  by_cases h1:m>1
  ·rw [if_pos h1]
   refine ⟨hp.lt hn _,hp.lt hn _,?_⟩
   by_cases c:k (p.getD 0 0)<k (p.getD (m-1) 0)
   ·rw [decide_eq_true c]
    exact ⟨hp,a1,by omega,a3⟩
   ·rw [decide_eq_false c]
    have eqs:∀ i,i+1<m->Ky k p i=Ky k p (i+1):=λi hi=>by
     have b1:=a3.le (a9 i) (show i<m by omega)
     have b2:=a3 i hi
     have b3:=a3.le (show i+1<=m-1 by omega) (by omega)
     have e1:Ky k p 0=k (p.getD 0 0):=rfl
     have e2:Ky k p (m-1)=k (p.getD (m-1) 0):=rfl
     omega
    have sm:∀ i,Ky k (Kt p 0 m) i=Ky k p i:=Eg (by rw [hp.size];omega) λi _ hi=>eqs i hi
    refine vT hn (hp.rev _ _) a1 (by omega) λi hi=>?_
    rw [sm,sm]
    by_cases e3:i+1=m
    ·subst e3;exact LL a4
    ·exact Int.le_of_eq (eqs i (by omega)).symm
  ·rw [if_neg h1]
   have e1:m=1:=by omega
   subst e1
   refine vT hn hp (aw _) (by omega) λi hi=>?_
   have e2:i=0:=by omega
   subst e2
   exact LL a4
theorem xD {p:Array Nat}{x:Nat}(hn:0<n) (hp:Pm n p) (hx:Up k p x):∀ (f l r:Nat),r-l<=f->l<=r->r<=x->(∀ i,i<l->Ky k p i<=Ky k p x)->(∀ i,r<=i->i<x->Ky k p x<Ky k p i) ->
  Sat n k (kas_place p x f l r) λl'=>l'<=x/\(∀ i,i<l'->Ky k p i<=Ky k p x)/\∀ i,l'<=i->i<x->Ky k p x<Ky k p i
 | 0,l,r,h1,h2,h3,h4,h5=>⟨by omega,h4,λi z1 z2=>h5 i (by omega) z2⟩
 | f+1,l,r,h1,h2,h3,h4,h5=>by
  show Sat n k (if l>=r then _ else _) _
  by_cases c:l>=r
  ·rw [if_pos c]
   exact ⟨by omega,h4,λi z1 z2=>h5 i (by omega) z2⟩
  ·rw [if_neg c]
   refine ⟨hp.lt hn _,hp.lt hn _,?_⟩
   by_cases d:k (p.getD x 0)<k (p.getD ((l+r)/2) 0)
   ·rw [decide_eq_true d]
    refine xD hn hp hx f l ((l+r)/2) (by omega) (by omega) (by omega) h4 λi z1 z2=>?_
    have b:=hx.le z1 z2
    have d:Ky k p x<Ky k p ((l+r)/2):=d
    omega
   ·rw [decide_eq_false d]
    refine xD hn hp hx f ((l+r)/2+1) r (by omega) (by omega) h3 (λi z1=>?_) h5
    have b:=hx.le (show i<=(l+r)/2 by omega) (by omega)
    have d:¬ Ky k p x<Ky k p ((l+r)/2):=d
    omega
theorem MS {p:Array Nat}{x l:Nat}(hx:x<p.size) (hl:l<=x) (i:Nat):Ky k (bubble p x (x-l)) i=if i=l then Ky k p x else if l<i/\i<=x then Ky k p (i-1) else Ky k p i:=by
 have e:=getElem?_bubble hx (x-l) (by omega) i
 have e2:x-(x-l)=l:=by omega
 rw [e2] at e
 by_cases h1:i=l
 ·rw [if_pos h1] at e ⊢;exact Ky.congr e
 ·rw [if_neg h1] at e ⊢
  by_cases h2:l<i/\i<=x
  ·rw [if_pos h2] at e ⊢;exact Ky.congr e
  ·rw [if_neg h2] at e ⊢;exact Ky.congr e
theorem Kb (hn:0<n):∀ (f:Nat) (p:Array Nat) (x:Nat),x+f=n->Pm n p->Up k p x->Sat n k (kas_bin f p x) λp'=>Pm n p'/\Up k p' n
 | 0,p,x,h1,hp,h=>⟨hp,by rw [← h1];exact h⟩
 | f+1,p,x,h1,hp,h=>by
  refine Sat.bind (Sat.mono ?_ (xD hn hp h x 0 x (by omega) (a9 _) (aw _) (λi z=>absurd z (by omega)) (λi z1 z2=>absurd z2 (by omega))))
  rintro l ⟨a1,a2,a3⟩
  refine Kb hn f _ (x+1) (by omega) (hp.bub _ _) λi hi=>?_
  have hs:x<p.size:=by rw [hp.size];omega
  rw [MS hs a1,MS hs a1]
  by_cases c1:i+1<l
  ·rw [if_neg (by omega),if_neg (by omega),if_neg (by omega),if_neg (by omega)]
   exact h i (by omega)
  ·by_cases c2:i+1=l
   ·rw [if_neg (by omega),if_neg (by omega),if_pos c2]
    exact a2 i (by omega)
   ·by_cases c3:i=l
    ·rw [if_pos c3,if_neg (by omega),if_pos (by omega)]
     have:=a3 i (by omega) (by omega)
     have e:i+1-1=i:=by omega
     rw [e];omega
    ·rw [if_neg c3,if_pos (by omega),if_neg (by omega),if_pos (by omega)]
     have:=h (i-1) (by omega)
     have e:i-1+1=i+1-1:=by omega
     rw [e] at this;exact this
theorem MT:Pm n (List.toArray (gh n)):=by unfold Pm;simp
theorem GE (hn:0<n):Sat n k (kas_sort n) λp=>Pm n p/\Up k p n:=by
 refine Sat.bind (Sat.mono ?_ (K6 hn MT))
 rintro ⟨m,p⟩ ⟨a1,a2,a3,a4⟩
 show Sat n k (if m<n then _ else _) _
 have a2:1<=m:=a2
 have a3:m<=n:=a3
 have a4:Up k p m:=a4
 by_cases c:m<n
 ·rw [if_pos c]
  have e:max m 1=m:=by omega
  show Sat n k (kas_bin (n-max m 1) p (max m 1)) _
  rw [e]
  exact Kb hn (n-m) p m (by omega) a1 a4
 ·rw [if_neg c]
  have:m=n:=by omega
  subst this
  exact ⟨a1,a4⟩
theorem Sat.ask {cmp:Nat->Nat->(Bool->au->Prop)->au->Prop}{s:au}(hc:∀ i j C,i<n->j<n->C (decide (k i<k j)) s->cmp i j C s) {α:Type} {Q:α->Prop}{G:α->au->Prop}(hG:∀ a,Q a->G a s):∀ {t:KasT α},Sat n k t Q->t.kasWp cmp G s
 | .ret _,h=>hG _ h
 | .ask i j f,h=>hc i j _ h.1 h.2.1 (Sat.ask hc hG h.2.2)
end Sx
namespace L2
open PySem PySem.Spec PyProof.Rows PySem.W
theorem Rh {h:cm}{a:af}{m m':bA->Option ai}(x:h.Ns a m) (y:h.Ns a m'):m=m':=by
 obtain ⟨o,es,ep,e,d,_,r⟩:=x
 obtain ⟨o',es',ep',e',d',_,r'⟩:=y
 rw [e] at e';cases e'
 rw [d] at d';cases d'
 funext n
 rw [← r n,← r' n]
theorem ObjOk.obj {P:bp}{w:b8}{H:Hp}{h:cm}{a:af}{o:HO}(x:ObjOk P w H h a o):∃ ob,h.get? a=some ob:=by
 cases o with
 | lst xs=>obtain ⟨_,_,_,_,e⟩:=x;exact ⟨_,e⟩
 | tup xs=>obtain ⟨_,_,_,ob,e,_⟩:=x;exact ⟨_,e⟩
 | dK kvs=>obtain ⟨_,_,_,_,ob,_,_,e,_⟩:=x;exact ⟨_,e⟩
 | dT kvs=>obtain ⟨_,_,_,_,ob,_,_,e,_⟩:=x;exact ⟨_,e⟩
 | set S n=>obtain ⟨ob,_,_,_,e,_⟩:=x;exact ⟨_,e⟩
 | ins C dx fs=>obtain ⟨_,_,_,e,_⟩:=x;exact ⟨_,e⟩
 | own y=>exact x
 | xd fs=>obtain ⟨_,⟨ob,_,_,e,_⟩,_⟩:=x;exact ⟨_,e⟩
 | rng lo hi=>obtain ⟨_,_,_,e⟩:=x;exact ⟨_,e⟩
 | frz ob u=>exact ⟨_,x.1⟩
 | tbl ps=>exact ⟨_,x⟩
 | met f y=>exact ⟨_,x⟩
 | ext φ=>exact x.2.1
section
variable {X:Cx}{pins:List (af×fR)}{σ:St}{H:Hp}{s:au}
theorem Inv.newsLaid {h':cm}{m:bA->Option ai}{t':Nat}{D:af}{ob:fR}{o:HO}(I:Inv X pins σ H s) (hm:s.heap.Ns X.env.locals m) (F:Fr X.base X.env.locals h' m)
  (N:wR X.base X.env.locals h' ((D,ob)::ma X.base s.heap X.env.locals)) (hD:∀ q∈ma X.base s.heap X.env.locals,q.1<D) (new:ObjOk X.prog X.w (upd H D o) h' D o):H D=none/\Inv X pins σ (upd H D o) { s with heap:=h',toks:=t' }:=by
 have nd:=N (D,ob) aq
 have gD:s.heap.get? D=none:=by
  cases q:s.heap.get? D with
  | none=>rfl
  | some u=>exact absurd (hD (D,u) (oi nd.2.1 nd.2.2 q)) (gH _)
 have hn:H D=none:=by
  cases q:H D with
  | none=>rfl
  | some u =>
   obtain ⟨w,e⟩:∃ w,s.heap.get? D=some w:=(I.hok D u q).obj
   rw [gD] at e;cases e
 have k:∀ b o,b≠X.env.locals->s.heap.get? b=some o->h'.get? b=some o:=λb o h1 e=>by
  cases q:X.base.get? b with
  | some u =>
   have z:=I.bk b u q
   rw [e] at z
   cases z
   exact F.keep b _ q
  | none=>exact (N (b,o) (ag _ (oi h1 q e))).1
 have nD:∀ b o,s.heap.get? b=some o->b≠D:=λb o e z=>by rw [z,gD] at e;cases e
 have hH:∀ b u,H b=some u->b≠D:=λb u e=>aN e hn
 refine ⟨hn,I.step (g':=s.gens) (d':=s.drawn) (ch:=[]) (λ_ z=>nomatch z) (λb o h1 _ _ e _=>k b o h1 e) (λb o h1 _ _ e _=>⟨o.slots,k b o h1 e⟩) (λb o _ e n=>by rw [aJ (nD b o e)];exact n) (λb o _ e=>?_)
  (λb _ e=>by rw [aJ (hH b _ e)];exact e) (λb _ _ e=>by rw [aJ (hH b _ e)];exact e) (λb ps e=>⟨#[],by rw [aJ (hH b _ e),e];simp⟩) (λm' hm'=>by rw [← Rh hm hm'];exact F.ns) (λb u e=>?_) I.bare⟩
 ·by_cases hb:b=X.env.locals
  ·subst hb
   obtain ⟨o',_,_,e',_⟩:=F.ns
   exact ⟨o',e'⟩
  ·exact ⟨o,k b o hb e⟩
 ·by_cases hb:b=D
  ·subst hb
   rw [aD] at e
   cases e
   exact new
  ·rw [aJ hb] at e
   refine (I.hok b u e).stay (λc v hc q=>k c v ?_ q) (λc q=>by rw [aJ (hH c _ q)];exact q) λc _ q=>by rw [aJ (hH c _ q)];exact q
   rintro rfl
   rcases hc with hc|hc
   ·rw [← hc,I.free] at e;cases e
   ·rw [I.free] at hc;cases hc
end
theorem GF {α:Type} {p q:α->Bool}:∀ {l:List α}{x:α},(∀ y∈l,p y=true->q y=true)->x∈l->p x=false->q x=true->l.countP p<l.countP q
 | y::l,x,h,hx,h1,h2=>by
  have hl:∀ y∈l,p y=true->q y=true:=λy hy=>h y (ag _ hy)
  have hle:l.countP p<=l.countP q:=LM hl
  rw [Ql,Ql]
  rcases ak.mp hx with e|hx
  ·subst e
   rw [h1,h2]
   simp
   omega
  ·have hlt:=GF hl hx h1 h2
   by_cases hp:p y=true
   ·rw [if_pos hp,if_pos (h y aq hp)];omega
   ·rw [if_neg hp];omega
abbrev Zt:=Int×Int×af
def zP (z:Zt):Int×Int:=(z.1,z.2.1)
def oP (z:Zt):V:=.ref z.2.2
def iI (H:Hp) (z:Zt):Prop:=H z.2.2=some (.tup [.int z.1,.int z.2.1])
section
variable {prog:bp}{w:b8}{A:cp}{s:au}
end
end L2
namespace L2
open PySem PySem.Spec PyProof.Rows PySem.W
theorem Dw:∀ zs:List Zt,Vals (zs.map oP) (zs.map λz=>aI z.2.2)
 | []=>.nil
 | z::zs=>.cons rfl (Dw zs)
theorem Iz {α:Type} (l:List α) (d:α):(gh l.length).map (λi=>l.getD i d)=l:=by
 apply n9
 intro i
 rw [ay]
 by_cases h:i<l.length
 ·rw [Oa h,ar h];simp [h]
 ·rw [cV (by simp;omega),cV (by omega)];rfl
section
variable {X:Cx}
theorem Ei {prog:bp}{w:b8}{A:cp}{E:ai->au->Prop}{s:au}{l:af}{vs:List ai}{Q:ai->au->Prop}(hl:s.heap.IsList l vs.toArray) (h2:vs.length<2)
  (h:Q (.ref (s.heap.objs.size+1)) { s with heap:=sortedAll s.heap vs vs.toArray }):aK (aU prog w) A (call (.builtin "sorted") [.ref l]) Q E s:=by
 have hz:vs.length<=a0:=b0 (m:=2) (by omega)
 refine rV RK Pw Px (args_sorted1 _) (ae (m:=checkCount "sorted" 1 1 _) (ao (ae (collect_list hl (ae (uJ ?_ hz)) hz))))
 have e1:((s.heap.push (bD "list" #[] 0)).update s.heap.objs.size (bH (·++vs.toArray))).objs.size=s.heap.objs.size+1:=(oW ..).trans (size_push' ..)
 have g1:(((s.heap.push (bD "list" #[] 0)).update s.heap.objs.size (bH (·++vs.toArray))).push (bD "list" vs.toArray 0)).get? (s.heap.objs.size+1)=some (bD "list" vs.toArray 0):=e1▸aM _ rfl
 have e0:(bD "list" vs.toArray 0:fR)={ cls:=.type "list",data:=.seq vs.toArray }:=rfl
 have hlt:s.heap.objs.size+1<(((s.heap.push (bD "list" #[] 0)).update s.heap.objs.size (bH (·++vs.toArray))).push (bD "list" vs.toArray 0)).objs.size:=aL g1
 show aK (aU prog w) A.in1 (do let _ ← n5 [aI ((s.heap.push (bD "list" #[] 0)).update s.heap.objs.size (bH (·++vs.toArray))).objs.size] (call (.builtin "list.sort") [aI ((s.heap.push (bD "list" #[] 0)).update s.heap.objs.size (bH (·++vs.toArray))).objs.size]);ret (aI ((s.heap.push (bD "list" #[] 0)).update s.heap.objs.size (bH (·++vs.toArray))).objs.size)) _ _ { s with heap:=((s.heap.push (bD "list" #[] 0)).update s.heap.objs.size (bH (·++vs.toArray))).push (bD "list" vs.toArray 0) }
 rw [e1]
 generalize hh:((s.heap.push (bD "list" #[] 0)).update s.heap.objs.size (bH (·++vs.toArray))).push (bD "list" vs.toArray 0)=hp at g1 hlt
 unfold sortedAll at h
 rw [hh] at h
 refine ae (cB (cH LN ⟨_,g1,rfl⟩ JN ?_ (args_list_sort _)))
 rw [list_sort_plain]
 obtain ⟨c1,g2⟩:∃ c1,(hp.update (s.heap.objs.size+1) (bH λ_=>#[])).get? (s.heap.objs.size+1)=some (bD "list" #[] c1):=⟨_,rW g1 λ_=>#[]⟩
 refine ae (wZ g1 rfl (ae (uK g1 rfl (ae (RL g2 rfl (ae (zu (ae (uJ (cB ?_) (a9 _))) hz)))) (by rw [aR];exact hz) (a9 _))))
 have g6:(((hp.update (s.heap.objs.size+1) (bH λ_=>#[])).push (bD "tuple" vs.toArray 0)).push (bD "list" #[] 0)).get? (s.heap.objs.size+1)=some (bD "list" #[] c1):=ax _ (ax _ g2)
 have hn:vs.toArray.size<2:=by rw [aR];exact h2
 show aK (aU prog w) A.in1.in1 _ _ _ { s with heap:=((hp.update (s.heap.objs.size+1) (bH λ_=>#[])).push (bD "tuple" vs.toArray 0)).push (bD "list" #[] 0) }
 dsimp only
 rw [if_pos hn,if_pos hn]
 refine ae (ao ?_)
 rw [Py]
 refine ae (ao ?_)
 dsimp only
 have es:(arrOf (SortSt.mk' general' (vs.toArray.zip vs.toArray) #[] 7 none)).map (·.2)=vs.toArray:=by
  show (vs.toArray.zip vs.toArray).map (·.2)=vs.toArray
  apply Pz.mp
  simp
  exact Qm (aw _)
 rw [es]
 refine ae (RL g6 rfl (ae (uK g6 rfl ?_ (a9 _) (by rw [aR];exact Qn hz))))
 simp only [bne_self_eq_false,cf,if_false]
 exact ao ⟨_,rfl,ao ⟨_,rfl,h⟩⟩
end
section
variable {X:Cx}
end
end L2
namespace Zl
open PySem PySem.W PyProof.Rows
section
variable {prog:bp}{w:b8}{A:cp}{E:ai->au->Prop}{s:au}{z TI TO i1 i2 l1 l2:af}{xs ys:Array ai}{k:Nat}
abbrev Al (h:cm) (z TI TO T:af) (f:Bool):Prop:=h.get? z=some { cls:=.type "zip",dict:=none,data:=.fields #[cw T,.bool f,.bool false,.ref TI,.ref TO],slots:=#[] }
theorem GG {T:af}{f:Bool}{oT:fR}{Q:Bool->au->Prop}(hz:Al s.heap z TI TO T f) (hT:s.heap.get? T=some oT)
  (hQ:∀ h',Al h' z TI TO T true->ig z s.heap h'->Q false { s with heap:=h' }):aK (aU prog w) A (gg (.ref z)) Q E s:=by
 unfold gg
 refine ae (lZ hz rfl (x:=cw T) rfl ?_)
 unfold cw
 dsimp only
 refine ae (kdx_alive (a:=T) hT ?_)
 simp only [Mc,cf,if_false]
 refine ae (lZ hz rfl (x:=.bool f) rfl ?_)
 cases f with
 | true =>
  rw [if_neg (by decide)]
  exact ao (hQ s.heap hz ⟨rfl,λb hb=>rfl⟩)
 | false =>
  rw [if_pos (by decide)]
  exact ae (wpAny_setField_rec hz (by simp) λh' hz' hs'=>ao (hQ h' hz' hs'))
theorem MU {T:af}{f:Bool}{oT:fR}{x y:ai}{Q:ai->au->Prop}(D:zw z TI TO i1 i2 l1 l2) (hz:Al s.heap z TI TO T f) (hT:s.heap.get? T=some oT) (hTI:uL s.heap TI (.ref i1) (.ref i2))
  (h1:s.heap.IsListIter i1 l1 k) (h2:s.heap.IsListIter i2 l2 k) (hl1:s.heap.IsList l1 xs) (hl2:s.heap.IsList l2 ys) (hx:xs[k]?=some x) (hy:ys[k]?=some y)
  (hQ:∀ h',Al h' z TI TO T true->h'.IsListIter i1 l1 (k+1)->h'.IsListIter i2 l2 (k+1)->uL h' s.heap.objs.size x y ->
   (∀ c o,c≠z->c≠i1->c≠i2->s.heap.get? c=some o->h'.get? c=some o)->Q (.ref s.heap.objs.size) { s with heap:=h' }) :
  aK (aU prog w) A (jW.«zip.__next__» ⟨[.ref z],[]⟩) (λfin s'=>∃ v,fin=.done (.ret v)/\Q v s') E s:=by
 show aK _ _ (field (.ref z) 2 >>= _) _ _ _
 refine ae (lZ hz rfl (x:=.bool false) rfl ?_)
 show aK _ _ (field (.ref z) 3 >>= _) _ _ _
 refine ae (lZ hz rfl (x:=.ref TI) rfl (ae (wpAny_seqItems hTI rfl ?_)))
 show aK _ _ (gg (.ref z) >>= _) _ _ _
 refine ae (GG hz hT λh₀ z₀ s₀=>?_)
 simp only [cf,if_false]
 refine ae ?_
 rw [← Ob]
 simp only [uH,vD]
 refine ae (ae (cB ?_))
 show aK _ _ (jA (.ref i1) >>= _) _ _ _
 refine ae (w6 (s:={ s with heap:=h₀ }) (h1.extBut s₀.extBut D.i1z) (hl1.extBut s₀.extBut D.l1z) hx λh₁ j₁ s₁=>ao (ao ?_))
 refine ae (ae (cB ?_))
 show aK _ _ (jA (.ref i2) >>= _) _ _ _
 refine ae (w6 (s:={ s with heap:=h₁ }) ((h2.extBut s₀.extBut D.i2z).extBut s₁.extBut D.i12.symm) ((hl2.extBut s₀.extBut D.l2z).extBut s₁.extBut D.l2i1) hy λh₂ j₂ s₂=>ao (ao (ao ?_)))
 have sz:h₂.objs.size=s.heap.objs.size:=by rw [s₂.1,s₁.1,s₀.1]
 have zz:Al h₂ z TI TO T true:=s₂.extBut _ _ D.i2z.symm (s₁.extBut _ _ D.i1z.symm z₀)
 have kp:∀ c o,c≠z->c≠i1->c≠i2->s.heap.get? c=some o->h₂.get? c=some o:=λc o c1 c2 c3 e=>s₂.extBut _ _ c3 (s₁.extBut _ _ c2 (s₀.extBut _ _ c1 e))
 refine ae (zu ?_ (by show 2<=a0;exact L2.b0 (m:=2) (aw 2)))
 refine ao ⟨_,rfl,?_⟩
 show Q (.ref h₂.objs.size) { s with heap:=h₂.push { cls:=.type "tuple",data:=.seq #[x,y] } }
 rw [sz]
 refine hQ _ (ax _ zz) ((Heap.IsListIter.extBut j₁ s₂.extBut D.i12).at λo e=>ax _ e) (j₂.at λo e=>ax _ e) (by rw [← sz];exact aM _ rfl) λc o c1 c2 c3 e=>ax _ (kp c o c1 c2 c3 e)
theorem O1 {T:af}{f:Bool}{oT:fR}{Q:PySem.Fin->au->Prop}(hh:A.handled=none) (D:zw z TI TO i1 i2 l1 l2) (hz:Al s.heap z TI TO T f) (hT:s.heap.get? T=some oT) (hTI:uL s.heap TI (.ref i1) (.ref i2))
  (h1:s.heap.IsListIter i1 l1 k) (h2:s.heap.IsListIter i2 l2 k) (hl1:s.heap.IsList l1 xs) (hl2:s.heap.IsList l2 ys) (hend:xs[k]?=none\/ys[k]?=none)
  (hE:∀ h' e,(∀ c o,c≠z->c≠i1->c≠i2->s.heap.get? c=some o->h'.get? c=some o)->(∃ o,h'.get? e=some o/\o.cls=.type "StopIteration")->E (.ref e) { s with heap:=h' }) :
  aK (aU prog w) A (jW.«zip.__next__» ⟨[.ref z],[]⟩) Q E s:=by
 show aK _ _ (field (.ref z) 2 >>= _) _ _ _
 refine ae (lZ hz rfl (x:=.bool false) rfl ?_)
 show aK _ _ (field (.ref z) 3 >>= _) _ _ _
 refine ae (lZ hz rfl (x:=.ref TI) rfl (ae (wpAny_seqItems hTI rfl ?_)))
 show aK _ _ (gg (.ref z) >>= _) _ _ _
 refine ae (GG hz hT λh₀ z₀ s₀=>?_)
 simp only [cf,if_false]
 refine ae ?_
 rw [← Ob]
 simp only [uH,vD]
 refine ae (ae (cB ?_))
 show aK _ _ (jA (.ref i1) >>= _) _ _ _
 cases hx:xs[k]? with
 | none=>exact ae (Qo (s:={ s with heap:=h₀ }) hh (h1.extBut s₀.extBut D.i1z) (hl1.extBut s₀.extBut D.l1z) hx λh₁ e s₁ he=>hE h₁ e (λc o c1 c2 c3 q=>s₁ _ _ c2 (s₀.extBut _ _ c1 q)) he)
 | some x =>
  have hy:ys[k]?=none:=by rcases hend with q|q;rw [hx] at q;cases q;exact q
  refine ae (w6 (s:={ s with heap:=h₀ }) (h1.extBut s₀.extBut D.i1z) (hl1.extBut s₀.extBut D.l1z) hx λh₁ j₁ s₁=>ao (ao ?_))
  refine ae (ae (cB ?_))
  show aK _ _ (jA (.ref i2) >>= _) _ _ _
  exact ae (Qo (s:={ s with heap:=h₁ }) hh ((h2.extBut s₀.extBut D.i2z).extBut s₁.extBut D.i12.symm) ((hl2.extBut s₀.extBut D.l2z).extBut s₁.extBut D.l2i1) hy λh₂ e s₂ he =>
   hE h₂ e (λc o c1 c2 c3 q=>s₂ _ _ c3 (s₁.extBut _ _ c2 (s₀.extBut _ _ c1 q))) he)
structure ZS (h:cm) (z TI TO i1 i2 l1 l2 S:af) (xs ys:Array ai) (k:Nat):Prop where
 zz:(k=0/\IsZip h z TI TO .none/\∃ a b,uL h TO a b)\/∃ T f oT,Al h z TI TO T f/\h.get? T=some oT/\T≠z/\T≠i1/\T≠i2/\T≠S
 ti:uL h TI (.ref i1) (.ref i2)
 a1:h.IsListIter i1 l1 k
 a2:h.IsListIter i2 l2 k
 b1:h.IsList l1 xs
 b2:h.IsList l2 ys
structure Off (z TI TO i1 i2 l1 l2 S:af):Prop where
 z:z≠S
 ti:TI≠S
 to:TO≠S
 i1:i1≠S
 i2:i2≠S
 l1:l1≠S
 l2:l2≠S
theorem ZS.keep {h h':cm}{S:af}(x:ZS h z TI TO i1 i2 l1 l2 S xs ys k) (O:Off z TI TO i1 i2 l1 l2 S) (hk:∀ b o,b≠S->h.get? b=some o->h'.get? b=some o):ZS h' z TI TO i1 i2 l1 l2 S xs ys k where
 zz:=by
  rcases x.zz with ⟨e,hz,a,b,hp⟩|⟨T,f,oT,hz,hT,n1,n2,n3,n4⟩
  ·exact .inl ⟨e,hk _ _ O.z hz,a,b,hk _ _ O.to hp⟩
  ·exact .inr ⟨T,f,oT,hk _ _ O.z hz,hk _ _ n4 hT,n1,n2,n3,n4⟩
 ti:=hk _ _ O.ti x.ti
 a1:=x.a1.at λo e=>hk _ o O.i1 e
 a2:=x.a2.at λo e=>hk _ o O.i2 e
 b1:=x.b1.at λo e=>hk _ o O.l1 e
 b2:=x.b2.at λo e=>hk _ o O.l2 e
theorem ZS.item {S:af}{x y:ai}{Q:Option ai->au->Prop}(D:zw z TI TO i1 i2 l1 l2) (st:ZS s.heap z TI TO i1 i2 l1 l2 S xs ys k) (hS:S<s.heap.objs.size) (hx:xs[k]?=some x) (hy:ys[k]?=some y)
  (hQ:∀ h',ZS h' z TI TO i1 i2 l1 l2 S xs ys (k+1)->uL h' s.heap.objs.size x y->(∀ c o,c≠z->c≠TO->c≠i1->c≠i2->s.heap.get? c=some o->h'.get? c=some o)->Q (some (.ref s.heap.objs.size)) { s with heap:=h' }) :
  aK (aU prog w) A (jy (.ref z)) Q E s:=by
 have lt1:i1<s.heap.objs.size:=by obtain ⟨_,e,_⟩:=st.a1;exact aL e
 have lt2:i2<s.heap.objs.size:=by obtain ⟨_,e,_⟩:=st.a2;exact aL e
 rcases st.zz with ⟨e,hz,a,b,hp⟩|⟨T,f,oT,hz,hT,n1,n2,n3,n4⟩
 ·refine wpAny_pyNext_zip_item D hz st.ti hp st.a1 st.a2 st.b1 st.b2 hx hy λh' q1 q2 q3 q4 q5 q6 q7=>?_
  refine hQ h' ⟨.inr ⟨_,false,_,q1,q5,eO (aL hz),eO lt1,eO lt2,eO hS⟩,q7 _ _ D.TIz D.TITO D.TIi1 D.TIi2 st.ti,q3,q4,st.b1.at λo e=>q7 _ o D.l1z D.l1TO D.l1i1 D.l1i2 e,st.b2.at λo e=>q7 _ o D.l2z D.l2TO D.l2i1 D.l2i2 e⟩ q5 q7
 ·have ty:s.TypeIs (.ref z) "zip":=⟨_,hz,rfl⟩
  unfold jy
  refine ae (jB (cZ (name:=gI "__next__") ty F.slot_zip_next (cH F.slot_zip_next ty F.entry_zip_next
   (MU D hz hT st.ti st.a1 st.a2 st.b1 st.b2 hx hy λh' q1 q3 q4 q5 q7=>ao ?_) (F.args_zip_next_1 _))))
  refine hQ h' ⟨.inr ⟨T,true,oT,q1,q7 _ _ n1 n2 n3 hT,n1,n2,n3,n4⟩,q7 _ _ D.TIz D.TIi1 D.TIi2 st.ti,q3,q4,st.b1.at λo e=>q7 _ o D.l1z D.l1i1 D.l1i2 e,st.b2.at λo e=>q7 _ o D.l2z D.l2i1 D.l2i2 e⟩ q5 λc o c1 _ c3 c4 e=>q7 c o c1 c3 c4 e
theorem ZS.done {S:af}{Q:Option ai->au->Prop}(hh:A.handled=none) (D:zw z TI TO i1 i2 l1 l2) (st:ZS s.heap z TI TO i1 i2 l1 l2 S xs ys k) (hend:xs[k]?=none\/ys[k]?=none)
  (hQ:∀ h',(∀ c o,c≠z->c≠TO->c≠i1->c≠i2->s.heap.get? c=some o->h'.get? c=some o)->Q none { s with heap:=h' }):aK (aU prog w) A (jy (.ref z)) Q E s:=by
 rcases st.zz with ⟨e,hz,a,b,hp⟩|⟨T,f,oT,hz,hT,n1,n2,n3,n4⟩
 ·exact wpAny_pyNext_zip_end hh D hz st.ti hp st.a1 st.a2 st.b1 st.b2 hend hQ
 ·have ty:s.TypeIs (.ref z) "zip":=⟨_,hz,rfl⟩
  unfold jy
  refine ae (jB (cZ (name:=gI "__next__") ty F.slot_zip_next (cH F.slot_zip_next ty F.entry_zip_next
   (O1 hh D hz hT st.ti st.a1 st.a2 st.b1 st.b2 hend λh' e hk he=>?_) (F.args_zip_next_1 _))))
  obtain ⟨o,ho,hc⟩:=he
  exact ae (qm (T:="StopIteration") (b:=true) ⟨o,ho,hc⟩ zx (ao (hQ _ λc o c1 _ c3 c4 q=>hk c o c1 c3 c4 q)))
structure Made (h:cm) (lo:af) (xs ys:Array ai) (as:List af):Prop where
 up:as.Pairwise (· < ·)
 lo:∀ a∈as,lo<a
 pr:∀ (j:Nat) (a:af),as[j]?=some a->∃ x y,xs[j]?=some x/\ys[j]?=some y/\uL h a x y
theorem Mn {S n:Nat}{R:LG->au->Prop}(hh:A.handled=none) (D:zw z TI TO i1 i2 l1 l2) (O:Off z TI TO i1 i2 l1 l2 S) (hn:min xs.size ys.size=n) (hn2:n<=100000) (res:ai) (lo:af) (hlo:z<=lo/\TO<=lo/\i1<=lo/\i2<=lo/\S<=lo) {h₀:cm}
  (hR:∀ h' tk acc c as,(∀ b o,b≠S->b≠z->b≠TO->b≠i1->b≠i2->h₀.get? b=some o->h'.get? b=some o)->h'.get? S=some { cls:=.type "list",dict:=none,data:=.seq acc c,slots:=#[] }->acc.toList=as.map aI->as.length=n->Made h' lo xs ys as->R (.ok (.ret res)) { s with heap:=h',toks:=tk }) :
  ∀ (m i:Nat) (h:cm) (tk c:Nat) (acc:Array ai) (as:List af),n-i=m->i<=n->ZS h z TI TO i1 i2 l1 l2 S xs ys i->(∀ b o,b≠S->b≠z->b≠TO->b≠i1->b≠i2->h₀.get? b=some o->h.get? b=some o) ->
   h.get? S=some { cls:=.type "list",dict:=none,data:=.seq acc c,slots:=#[] }->acc.toList=as.map aI->as.length=i->Made h lo xs ys as->lo<h.objs.size ->
   m8 (aU prog w) A (.builtin "list.extend.loop" ⟨[.ref S,.ref z,res],[]⟩) R { s with heap:=h,toks:=tk }:=by
 intro m
 induction m with
 | zero =>
  intro i h tk c acc as hm hi st kp hS hacc hal hM hlh
  have ei:i=n:=by omega
  subst ei
  refine ji DP ?_
  rw [gE eI _]
  show aK _ A.in1 (jy (.ref z) >>= _) _ _ _
  have hend:xs[i]?=none\/ys[i]?=none:=by
   by_cases q:xs.size<=i
   ·exact .inl (jR q)
   ·exact .inr (jR (by omega))
  refine ae (ZS.done (s:={ s with heap:=h,toks:=tk }) (A:=A.in1) hh D st hend λh' he=>?_)
  refine ao (hR h' tk acc c as (λb o b1 b2 b3 b4 b5 e=>he b o b2 b3 b4 b5 (kp b o b1 b2 b3 b4 b5 e)) (he S _ (Ne.symm O.z) (Ne.symm O.to) (Ne.symm O.i1) (Ne.symm O.i2) hS) hacc hal ⟨hM.up,hM.lo,λj a hj=>?_⟩)
  obtain ⟨x,y,q1,q2,q3⟩:=hM.pr j a hj
  have far:∀ {b:af},b<=lo->a≠b:=λhb=>eO (bo hb (hM.lo a (aG hj)))
  exact ⟨x,y,q1,q2,he a _ (far hlo.1) (far hlo.2.1) (far hlo.2.2.1) (far hlo.2.2.2.1) q3⟩
 | succ m ih =>
  intro i h tk c acc as hm hi st kp hS hacc hal hM hlh
  have hlt:i<n:=by omega
  obtain ⟨x,hx⟩:∃ x,xs[i]?=some x:=⟨_,bZ (by omega)⟩
  obtain ⟨y,hy⟩:∃ y,ys[i]?=some y:=⟨_,bZ (by omega)⟩
  refine ji DP ?_
  rw [gE eI _]
  show aK _ A.in1 (jy (.ref z) >>= _) _ _ _
  refine ae (ZS.item (s:={ s with heap:=h,toks:=tk }) (A:=A.in1) D st (aL hS) hx hy λh' st' hp kk=>?_)
  have hS':=kk S _ (Ne.symm O.z) (Ne.symm O.to) (Ne.symm O.i1) (Ne.symm O.i2) hS
  have hsz:acc.size=i:=by rw [← aT,hacc,aj,hal]
  show aK _ A.in1 (HL S (·.push (aI h.objs.size)) >>= _) _ _ _
  refine ae (rX hS' rfl (ao ⟨lg eI _,?_⟩) (by rw [hsz];exact L2.b0 (m:=100000) (by omega)) (by rw [Array.size_push,hsz];exact Qn (L2.b0 (m:=100000) (by omega))))
  have oth:∀ b o,b≠S->h'.get? b=some o->(h'.update S (bH (·.push (aI h.objs.size)))).get? b=some o:=λb o hb e=>(cu _ _ (Ne.symm hb)).trans e
  have hnS:h.objs.size≠S:=eO (aL hS)
  refine ih (i+1) _ tk _ (acc.push (aI h.objs.size)) (as++[h.objs.size]) (by omega) hlt (st'.keep O oth) (λb o b1 b2 b3 b4 b5 e=>oth b o b1 (kk b o b2 b3 b4 b5 (kp b o b1 b2 b3 b4 b5 e))) (bP _ hS' rfl) (by rw [zy,hacc,aV];rfl) (by rw [aX,hal];rfl) ⟨?_,λa ha=>?_,λj a hj=>?_⟩ ?_
  ·refine vE.mpr ⟨hM.up,sR _ _,λa ha b hb=>?_⟩
   rw [aC.mp hb]
   obtain ⟨j,hj⟩:=bE.mp ha
   obtain ⟨_,_,_,_,q⟩:=hM.pr j a hj
   exact aL q
  ·rcases aP.mp ha with q|q
   ·exact hM.lo a q
   ·rw [aC.mp q];exact hlh
  ·by_cases q:j<as.length
   ·rw [ck q] at hj
    obtain ⟨x',y',q1,q2,q3⟩:=hM.pr j a hj
    have far:∀ {b:af},b<=lo->a≠b:=λhb=>eO (bo hb (hM.lo a (aG hj)))
    exact ⟨x',y',q1,q2,oth a _ (far hlo.2.2.2.2) (kk a _ (far hlo.1) (far hlo.2.1) (far hlo.2.2.1) (far hlo.2.2.2.1) q3)⟩
   ·rw [bx (by omega)] at hj
    have ej:j-as.length=0:=by
     by_cases w:j-as.length=0
     ·exact w
     ·rw [cV (by simp;omega)] at hj;cases hj
    rw [ej] at hj
    have ea:h.objs.size=a:=by simpa using hj
    have ej':j=i:=by omega
    subst ea ej'
    exact ⟨x,y,hx,hy,oth _ _ hnS hp⟩
  ·rw [oW]
   exact bh hlh (oM (aL hp))
theorem Ri:typeLookup (.type "zip") "__len__"=pure none:=by rw [xi,qh];kernel_rfl
theorem O2:typeLookup (.type "zip") "__length_hint__"=pure none:=by rw [xi,qh];kernel_rfl
theorem Ut {Q:Bool->au->Prop}(ty:s.TypeIs (.ref z) "zip") (h:Q true s):aK (aU prog w) A (jC (.ref z)) Q E s:=by
 unfold jC
 refine ae (JO ty Ri ?_)
 refine ae (JO ty O2 ?_)
 exact ao h
theorem Rj {S c₀ n:Nat} {R:LG->au->Prop}{va vb:ai}(hh:A.handled=none) (D:zw z TI TO i1 i2 l1 l2) (O:Off z TI TO i1 i2 l1 l2 S) (hn:min xs.size ys.size=n) (hn2:n<=100000) (res:ai) (hz:IsZip s.heap z TI TO .none) (hTO:uL s.heap TO va vb)
  (st:ZS s.heap z TI TO i1 i2 l1 l2 S xs ys 0) (hS:s.heap.get? S=some { cls:=.type "list",data:=.seq #[] c₀ })
  (hR:∀ h' tk acc c as,(∀ b o,b≠S->b≠z->b≠TO->b≠i1->b≠i2->s.heap.get? b=some o->h'.get? b=some o)->h'.get? S=some { cls:=.type "list",dict:=none,data:=.seq acc c,slots:=#[] }->acc.toList=as.map aI->as.length=n->Made h' (s.heap.objs.size-1) xs ys as->R (.ok (.ret res)) { s with heap:=h',toks:=tk }) :
  aK (aU prog w) A.in1 (gK (.ref S) (.ref z) res) (λfin s'=>match fin with | .done f=>R (.ok f) s' | .again c'=>c'.quiet=true/\m8 (aU prog w) A c' R s') (λe s'=>R (.error e) s') s:=by
 have ty:s.TypeIs (.ref z) "zip":=⟨_,hz,rfl⟩
 have lts:∀ {b:af}{o:fR},s.heap.get? b=some o->b<=s.heap.objs.size-1:=λe=>Nat.le_sub_one_of_lt (aL e)
 have lt1:i1<=s.heap.objs.size-1:=by obtain ⟨_,e,_⟩:=st.a1;exact lts e
 have lt2:i2<=s.heap.objs.size-1:=by obtain ⟨_,e,_⟩:=st.a2;exact lts e
 have pos:0<s.heap.objs.size:=bo (a9 _) (aL hz)
 have key:∀ (h:cm) (c₁ tk:Nat),h.objs.size=s.heap.objs.size->(∀ b o,b≠S->s.heap.get? b=some o->h.get? b=some o)->h.get? S=some { cls:=.type "list",data:=.seq #[] c₁ } ->
   m8 (aU prog w) A (.builtin "list.extend.loop" ⟨[.ref S,.ref z,res],[]⟩) R { s with heap:=h,toks:=tk }:=λh c₁ tk hsz kp hS₁ =>
  Mn (h₀:=s.heap) hh D O hn hn2 res (s.heap.objs.size-1) ⟨lts hz,lts hTO,lt1,lt2,lts hS⟩ hR n 0 h tk c₁ #[] [] rfl (a9 _) (st.keep O kp) (λb o b1 _ _ _ _ e=>kp b o b1 e) hS₁ rfl rfl ⟨FY,(λa ha=>nomatch ha),λj a hj=>by simp at hj⟩ (by rw [hsz];exact Nat.sub_lt pos (by decide))
 unfold gK
 refine ae (FJ (T:="zip") ty ?_)
 have e1:kW (.ref S) (.ref z)=false:=by simp [kW,Ne.symm O.z]
 have e2:(fg "zip" == fg "list")=false:=by decide
 have e3:(fg "zip" == fg "tuple")=false:=by decide
 simp only [e1,e2,e3,Bool.or_false,cf,if_false]
 refine ae (wpAny_pyIter_zip hz (ae (cB (Ut ty ?_))))
 refine k9 (λ_=>ae (sO (ae ?_))) (λ_=>ao ⟨lg eI _,key _ c₀ _ rfl (λb o _ e=>e) hS⟩)
 show aK _ _ (HL S (·.push .none) >>= λ_=>HL S (·.pop)) _ _ _
 have g₂:=bP (bH (·.push c9)) hS rfl
 have g₃:=bP (bH (·.pop)) g₂ rfl
 refine ae (rX hS rfl (rX (hz:=by seq_fits) g₂ rfl (ao ⟨lg eI _,key _ _ _ ?_ (λb o hb e=>?_) g₃⟩)))
 ·rw [oW,oW]
 ·exact (cu _ _ (Ne.symm hb)).trans ((cu _ _ (Ne.symm hb)).trans e)
theorem K7 {n:Nat}{Q:ai->au->Prop}{va vb:ai}(hh:A.handled=none) (D:zw z TI TO i1 i2 l1 l2) (hn:min xs.size ys.size=n) (hn2:n<=100000) (hz:IsZip s.heap z TI TO .none) (hTO:uL s.heap TO va vb) (hTI:uL s.heap TI (.ref i1) (.ref i2))
  (a1:s.heap.IsListIter i1 l1 0) (a2:s.heap.IsListIter i2 l2 0) (b1:s.heap.IsList l1 xs) (b2:s.heap.IsList l2 ys)
  (hQ:∀ h' tk acc c as,(∀ b o,b≠z->b≠TO->b≠i1->b≠i2->s.heap.get? b=some o->h'.get? b=some o)->h'.get? s.heap.objs.size=some { cls:=.type "list",dict:=none,data:=.seq acc c,slots:=#[] }->acc.toList=as.map aI->as.length=n->Made h' s.heap.objs.size xs ys as->Q (.ref s.heap.objs.size) { s with heap:=h',toks:=tk }) :
  aK (aU prog w) A (call (.type "list") [.ref z]) Q E s:=by
 refine callType_codes (Q₁:=λobj s₁=>obj=.ref s.heap.objs.size/\s₁={ s with heap:=s.heap.push { cls:=.type "list",data:=.seq #[] } }) PySem.F.called_list (PySem.F.typeCall_list_1 _) PySem.F.entry_list_init (code_list_new _ ⟨rfl,rfl⟩) ?_
 rintro obj s₁ ⟨rfl,rfl⟩
 have hS:(s.heap.push { cls:=.type "list",data:=.seq #[] }).get? s.heap.objs.size=some { cls:=.type "list",data:=.seq #[] }:=aM _ rfl
 refine ⟨⟨_,hS,rfl⟩,PySem.F.args_list_init_2 _ _,?_⟩
 have ne:∀ {b:af}{o:fR},s.heap.get? b=some o->b≠s.heap.objs.size:=λe=>aW (aL e)
 have O:Off z TI TO i1 i2 l1 l2 s.heap.objs.size:=⟨ne hz,ne hTI,ne hTO,by obtain ⟨_,e,_⟩:=a1;exact ne e,by obtain ⟨_,e,_⟩:=a2;exact ne e,by obtain ⟨_,e,_⟩:=b1;exact ne e,by obtain ⟨_,e,_⟩:=b2;exact ne e⟩
 show aK _ _ (do let old ← Builtin.List.listItems (.ref s.heap.objs.size);Builtin.List.listUpdate (.ref s.heap.objs.size) (λ_=>#[]);letGo old.toList.reverse;gK (.ref s.heap.objs.size) (.ref z) .none) _ _ _
 refine ae (wZ hS rfl (ae (uK hS rfl (ae (RM ?_)) (a9 _) (a9 _))))
 have g₂:=bP (bH (λ_=>(#[]:Array ai))) hS rfl
 have kp:∀ b o,s.heap.get? b=some o->((s.heap.push { cls:=.type "list",data:=.seq #[] }).update s.heap.objs.size (bH (λ_=>(#[]:Array ai)))).get? b=some o:=λb o e=>(cu _ _ (Ne.symm (ne e))).trans (ax _ e)
 have sz:((s.heap.push { cls:=.type "list",data:=.seq #[] }).update s.heap.objs.size (bH (λ_=>(#[]:Array ai)))).objs.size-1=s.heap.objs.size:=by rw [oW,jv];rfl
 refine Rj (s:={ s with heap:=(s.heap.push { cls:=.type "list",data:=.seq #[] }).update s.heap.objs.size (bH (λ_=>(#[]:Array ai))) }) (A:=A.in1) hh D O hn hn2 .none (kp _ _ hz) (kp _ _ hTO) ⟨.inl ⟨rfl,kp _ _ hz,_,_,kp _ _ hTO⟩,kp _ _ hTI,a1.at λo e=>kp _ o e,a2.at λo e=>kp _ o e,b1.at λo e=>kp _ o e,b2.at λo e=>kp _ o e⟩ g₂ λh' tk acc c as k1 k2 k3 k4 k5=>?_
 have k5':Made h' s.heap.objs.size xs ys as:=sz▸k5
 exact ⟨rfl,hQ h' tk acc c as (λb o c1 c2 c3 c4 e=>k1 b o (ne e) c1 c2 c3 c4 (kp b o e)) k2 k3 k4 k5'⟩
end
end Zl
namespace L2
open PySem PySem.Spec PyProof.Rows PySem.W
section
variable {X:Cx}{pins:List (af×fR)}{σ:St}{H H':Hp}{s:au}
theorem Inv.grow {h':cm}{t':Nat}(I:Inv X pins σ H s) (k:∀ b u,s.heap.get? b=some u->h'.get? b=some u) (sub:Same H H') (new:∀ b,b<s.heap.objs.size->H b=none->H' b=none) (ok:HOk X.prog X.w H' h'):Inv X pins σ H' { s with heap:=h',toks:=t' } :=
 I.un ⟨λb o e _ _ _=>k b o e,λb o e _ _ _=>⟨o.slots,k b o e⟩,λb o e n _=>new b (aL e) n,λb o e _=>⟨o,k b o e⟩,λb _ e=>sub _ _ e,λb _ _ e=>sub _ _ e,λb ps e=>⟨#[],by rw [sub _ _ e];simp⟩⟩ ok
end
def BN (H:Hp) (zs:List Zt):Hp:=λb=>match zs.find? (λz=>z.2.2 == b) with|some z=>some (.tup [.int z.1,.int z.2.1])|none=>H b
theorem MV {H:Hp}{zs:List Zt}{b:af}(h:∀ z∈zs,z.2.2≠b):BN H zs b=H b:=by
 unfold BN
 rw [List.find?_eq_none.mpr λz hz=>by simpa using h z hz]
theorem GH {H:Hp}:∀ {zs:List Zt}{z:Zt},(zs.map λz=>z.2.2).Nodup->z∈zs->BN H zs z.2.2=some (.tup [.int z.1,.int z.2.1])
 | y::zs,z,hn,hz=>by
  unfold BN
  rw [bV,bf] at hn
  rcases ak.mp hz with e|hz
  ·subst e
   rw [List.find?_cons_of_pos (by simp)]
  ·have hne:¬ (y.2.2 == z.2.2)=true:=λq=>hn.1 (by
    have e:y.2.2=z.2.2:=by simpa using q
    rw [e];exact bu hz)
   rw [List.find?_cons_of_neg (p:=λw:Zt=>w.2.2 == z.2.2) hne]
   exact GH hn.2 hz
def MW (K:aa) (t:TA):TE:=λσ H Q=>t σ H λvs H1=>∃ (a b:af) (ns ms:List Int),vs=[.ref a,.ref b]/\SqL K H1 a (ns.map V.int)/\SqL K H1 b (ms.map V.int)/\ns.length<=100000 /\
 ∀ (l:af) (zs:List Zt) (H2:Hp),Same H1 H2->H1 l=none->H2 l=some (.lst (zs.map oP))->(∀ z∈zs,iI H2 z)->zs.map zP=ns.zip ms->Q (.ref l) H2
theorem Ej:∀ {vs:List ai}{ns:List Int}{j:Nat}{v:ai},fS vs ns->vs[j]?=some v->∃ i t,ns[j]?=some i/\v=.int i t
 | _,_,0,v,.cons n t r,e=>by simp at e;exact ⟨n,t,rfl,e.symm⟩
 | _,_,j+1,v,.cons n t r,e=>Ej (j:=j) r (by simpa using e)
 | _,_,j,v,.nil,e=>by simp at e
theorem MX {h:cm}{lo:af}{xs ys:List ai}{ns ms:List Int}(hx:fS xs ns) (hy:fS ys ms):∀ {as:List af},(∀ (j:Nat) (a:af),as[j]?=some a->∃ x y,xs.toArray[j]?=some x/\ys.toArray[j]?=some y/\uL h a x y)->as.length=min ns.length ms.length ->
  ∃ zs:List Zt,zs.map (λz=>z.2.2)=as/\zs.map zP=ns.zip ms/\∀ z∈zs,∃ t u,uL h z.2.2 (.int z.1 t) (.int z.2.1 u):=by
 intro as hp hl
 have hlx:=hx.length
 have hly:=hy.length
 refine ⟨(ns.zip ms).zipWith (λt a=>(t.1,t.2,a)) as,?_,?_,λz hz=>?_⟩
 ·apply n9
  intro j
  rw [ay,uW]
  by_cases hj:j<as.length
  ·rw [ar hj,ar (by rw [uM];omega)];rfl
  ·rw [cV (pE hj)]
   cases (ns.zip ms)[j]?<;>rfl
 ·apply n9
  intro j
  rw [ay,uW]
  by_cases hj:j<as.length
  ·rw [ar hj,ar (by rw [uM];omega)];rfl
  ·rw [cV (pE hj),cV (by rw [uM];omega)];rfl
 ·obtain ⟨j,hj⟩:=bE.mp hz
  rw [uW] at hj
  cases ea:as[j]? with
  | none =>
   rw [ea] at hj
   cases ew:(ns.zip ms)[j]? with
   | none=>rw [ew] at hj;cases hj
   | some w=>rw [ew] at hj;cases hj
  | some a =>
   obtain ⟨x,y,q1,q2,q3⟩:=hp j a ea
   obtain ⟨i,t,e1,rfl⟩:=Ej (j:=j) hx (by simpa using q1)
   obtain ⟨i',u,e2,rfl⟩:=Ej (j:=j) hy (by simpa using q2)
   have ez:(ns.zip ms)[j]?=some (i,i'):=by rw [HM];exact ⟨e1,e2⟩
   rw [ea,ez] at hj
   have:z=(i,i',a):=(aS hj).symm
   subst this
   exact ⟨t,u,q3⟩
section
variable {X:Cx}{x y:Expr}{t:TA}{p1 p2 q1 q2:qQ}
theorem O3 (hc:X.calm=true) (hgl:Gl X "list") (hml:X.mg "list"=none) (hgz:Gl X "zip") (hmz:X.mg "zip"=none) (ha:PA X [x,y] t)
  (he:bG [.Call (.Name "zip" p1) [x,y] [] p2] X.env=[(false,fV (.Call (.Name "zip" p1) [x,y] [] p2) X.env)]:=by rfl) (he2:bG [x,y] X.env=(false,fV x X.env)::bG [y] X.env:=by rfl) (hpl:(iV p2 (bG [y] X.env)).any (·.1)=false:=by rfl) :
  PE X (.Call (.Name "list" q1) [.Call (.Name "zip" p1) [x,y] [] p2] [] q2) (MW X.K t):=by
 intro pins s σ H Q I h
 refine dN (oO I hgl hml BootT.list (dI ?_ he rfl))
 rw [he]
 show aK _ _ (Pr ((false,fV (.Call (.Name "zip" p1) [x,y] [] p2) X.env)::iV q2 (bG [] X.env))) _ _ s
 refine jQ (dN (oO I hgz hmz BootT.zip (dI (ij (ha p2 pins s σ H _ I h) λus s1 ⟨vs,H1,I1,r1,q⟩=>?_) he2 hpl)))
 obtain ⟨a,b,ns,ms,rfl,hA,hB,hle,k⟩:=q
 obtain ⟨u,v,rfl,ru,rv⟩:=vals2 r1
 cases ru
 cases rv
 obtain ⟨xs,vx,px,_⟩:=I1.list hA
 obtain ⟨ys,vy,py,_⟩:=I1.list hB
 have ix:=intsAre_of vx
 have iy:=intsAre_of vy
 have lx:=ix.length
 have ly:=iy.length
 have al:a<s1.heap.objs.size:=by obtain ⟨_,e,_⟩:=px.isList;exact aL e
 have bl:b<s1.heap.objs.size:=by obtain ⟨_,e,_⟩:=py.isList;exact aL e
 refine call_zip_2 px.isList py.isList λh' hz hTI hTO j1 j2 hsz hk=>nR ?_
 refine Zl.K7 (s:={ s1 with heap:=h' }) (n:=min ns.length ms.length) (I1.ok.hd hc) (zipApart_new al bl) (by rw [aR,aR,lx,ly]) (by omega) hz hTO hTI j1 j2 (px.isList.at λo e=>hk _ o e) (py.isList.at λo e=>hk _ o e) λh2 tk acc c as k1 k2 k3 k4 k5=>?_
 obtain ⟨zs,e1,e2,e3⟩:=MX (lo:=0) ix iy k5.pr k4
 have old:∀ b o,s1.heap.get? b=some o->h2.get? b=some o:=λb o e=>by
  have hb:=aL e
  refine k1 b o (aW (bh hb (jz _ _))) (aW (bh hb (jz _ _))) (aW hb) (aW (bh hb (jz _ _))) (hk b o e)
 have up:∀ z∈zs,h'.objs.size<z.2.2:=λz hz=>k5.lo _ (by rw [← e1];exact bu hz)
 have hs5:h'.objs.size=s1.heap.objs.size+5:=hsz
 have nd:(zs.map λz=>z.2.2).Nodup:=by rw [e1];exact k5.up.imp λq=>aW q
 have far:∀ z∈zs,∀ b:af,b<s1.heap.objs.size->z.2.2≠b:=λz hz b hb=>eO (LK (bh hb (by rw [hs5];exact jz _ _)) (up z hz))
 have lf:∀ b:af,b<s1.heap.objs.size->b≠h'.objs.size:=λb hb=>aW (bh hb (by rw [hs5];exact jz _ _))
 have hold:∀ b:af,b<s1.heap.objs.size->upd (BN H1 zs) h'.objs.size (.lst (zs.map oP)) b=H1 b:=λb hb=>by rw [aJ (lf b hb),MV λz hz=>far z hz b hb]
 have S:Same H1 (upd (BN H1 zs) h'.objs.size (.lst (zs.map oP))):=λb o e=>by rw [hold b (I1.hok.lt e)];exact e
 have hpair:∀ z∈zs,iI (upd (BN H1 zs) h'.objs.size (.lst (zs.map oP))) z:=λz hz=>by
  show upd (BN H1 zs) h'.objs.size (.lst (zs.map oP)) z.2.2=_
  rw [aJ (eO (up z hz))]
  exact GH nd hz
 have hlz:zs.length<=100000:=by
  have:=congrArg ft e2
  rw [aj,uM] at this
  omega
 have I2:Inv X pins σ (upd (BN H1 zs) h'.objs.size (.lst (zs.map oP))) { s1 with heap:=h2,toks:=tk }:=I1.grow old S (λb hb n=>by rw [hold b hb];exact n) λb o e=>by
  by_cases hb:b<s1.heap.objs.size
  ·rw [hold b hb] at e
   exact (I1.hok b o e).stay (λc v _ q=>old c v q) (λc q=>S _ _ q) λc _ q=>S _ _ q
  ·by_cases hl:b=h'.objs.size
   ·subst hl
    rw [aD] at e
    cases e
    refine ⟨by rw [aj];exact b0 hlz,acc.toList,c,?_,by rw [Array.toArray_toList];exact k2⟩
    rw [k3,← e1,cW]
    exact Dw zs
   ·rw [aJ hl] at e
    unfold BN at e
    cases w:zs.find? (λz=>z.2.2 == b) with
    | none =>
     rw [w] at e
     have e:H1 b=some o:=e
     rw [I1.hok.fresh (pE hb)] at e
     cases e
    | some z =>
     rw [w] at e
     cases e
     have hz':=List.mem_of_find?_eq_some w
     have eb:z.2.2=b:=by simpa using List.find?_some w
     subst eb
     obtain ⟨t,u,hp⟩:=e3 z hz'
     exact ⟨b0 (m:=2) (aw 2),[.int z.1 t,.int z.2.1 u],.cons ⟨t,rfl⟩ (.cons ⟨u,rfl⟩ .nil),⟨_,hp,rfl,_,rfl⟩⟩
 exact ⟨.ref h'.objs.size,_,I2,rfl,k _ zs _ S (I1.hok.fresh (by rw [hs5];exact jz _ _)) aD hpair e2⟩
theorem Rk {K:aa}{t:TA}{σ:St}{H:Hp}{Q:VK}(h:t σ H λvs H1=>∃ (a b:af) (ns ms:List Int),vs=[.ref a,.ref b]/\SqL K H1 a (ns.map V.int)/\SqL K H1 b (ms.map V.int)/\ns.length<=100000 /\
 ∀ (l:af) (zs:List Zt) (H2:Hp),Same H1 H2->H1 l=none->H2 l=some (.lst (zs.map oP))->(∀ z∈zs,iI H2 z)->zs.map zP=ns.zip ms->Q (.ref l) H2):MW K t σ H Q:=h
end
end L2
namespace L2
open PySem PySem.Spec PyProof.Rows PySem.W
def RawD (h:cm) (d:af) (ks:List ai) (ep:Nat):Prop:=∃ o es,h.get? d=some o/\o.ExactDict/\o.data=.dict es ep/\es.toList.map (·.key)=ks
section
variable {prog:bp}{w:b8}{A:cp}{E:ai->au->Prop}{s:au}{d it:af}{ks:List ai}{ep i:Nat}
theorem RawD.typeIs (x:RawD s.heap d ks ep):s.TypeIs (.ref d) "dict":=let ⟨o,_,e,c,_⟩:=x;⟨o,e,c.1⟩
theorem GI {Q:ai->au->Prop}(hd:(d == kN)=false) (x:RawD s.heap d ks ep)
  (q:Q (.ref s.heap.objs.size) { s with heap:=s.heap.push { cls:=.type "dict_keyiterator",data:=.fields #[.ref d,.int 0 0,.int ks.length 0,.int ep 0] } }):aK (aU prog w) A (LD (.ref d)) Q E s:=by
 have hT:=x.typeIs
 obtain ⟨o,es,e,c,da,hk⟩:=x
 have hs:es.size=ks.length:=by rw [← hk,aj,aT]
 refine FQ hT F.slot_dict_iter (cH F.slot_dict_iter hT F.entry_dict_iter ?_ (F.args_dict_iter_1 _))
 unfold jW.«dict.__iter__» Builtin.Dict.dictSlotNone
 refine ae (ae (Qp hT ?_))
 show aK _ _ (pure (aI d)) _ _ s
 refine ao ?_
 show aK _ _ (Da d >>= _) _ _ s
 unfold Da
 rw [if_neg (by rw [hd];exact bF)]
 refine ae (ao (ae (pG e da (ae (JP e da ?_)))))
 refine ae (cI (ao ⟨_,rfl,"dict_keyiterator",_,⟨_,aM _ rfl,rfl⟩,F.slot_dict_keyiterator_next.lookup,?_⟩))
 simpa [cw,hs] using q
theorem MY {Q:Option ai->au->Prop}{v:ai}(t:s.heap.IsKeyIter it d i ks.length ep) (x:RawD s.heap d ks ep) (hv:ks[i]?=some v)
  (q:∀ h',h'.IsKeyIter it d (i+1) ks.length ep->ig it s.heap h'->Q (some v) { s with heap:=h' }):aK (aU prog w) A (jy (.ref it)) Q E s:=by
 have tt:=t.typeIs
 obtain ⟨ob,g,gc,gd⟩:=id t
 obtain ⟨o,es,e,c,da,hk⟩:=x
 have hs:es.size=ks.length:=by rw [← hk,aj,aT]
 have hi:i<es.size:=by rw [hs];exact (aB.mp hv).1
 have ev:es[i].key=v:=by
  rw [← hk,ay] at hv
  simpa [hi] using hv
 unfold jy
 refine ae (jB (cZ (name:=gI "__next__") tt F.slot_dict_keyiterator_next (cH F.slot_dict_keyiterator_next tt F.entry_dict_keyiterator_next ?_ (F.args_dict_keyiterator_next_1 _))))
 refine ae (ao (ae (ae ?_)))
 first|refine ae (ky tt (ao ?_))|refine ae (nS tt (ao ?_))
 refine ae (pH g gd ?_)
 simp only [show um "dict_keyiterator"=false by decide,cf,if_false]
 show aK _ _ (if (aI d == c9)=true then _ else _) _ _ s
 rw [if_neg (show ¬ ((aI d == c9)=true) from bF)]
 refine ae (ao (ae (pG e da ?_)))
 rw [if_neg (by rw [hs];simp)]
 refine ae (ao (ae (JP e da ?_)))
 rw [if_neg (by simp)]
 refine ao ?_
 simp only [show ¬ ((i:Int)<0) from by omega,if_false,hV,bZ hi]
 refine ae ?_
 first|refine ae (ky tt (ao ?_))|refine ae (nS tt (ao ?_))
 refine ae (Qq tt ?_)
 show aK _ _ (setField (.ref it) 1 (cw ((i:Int)+1)) >>= _) _ _ s
 refine ae (j4 g gd (by simp) ?_)
 have t':(s.heap.update it (pP (·.setIfInBounds 1 (cw ((i:Int)+1))))).IsKeyIter it d (i+1) ks.length ep :=
  ⟨_,bP _ g (kR (dg gd _)),(sF ..).trans gc,by rw [dg gd];simp [cw]⟩
 refine ae (cB ?_)
 refine ae (Qq (s:={ s with heap:=s.heap.update it (pP (·.setIfInBounds 1 (cw ((i:Int)+1)))) }) t'.typeIs ?_)
 show aK _ _ (pure es[i].key) _ _ _
 rw [ev]
 exact ao (ao ⟨_,rfl,ao (q _ t' (cD ..))⟩)
theorem O4 {Q:Option ai->au->Prop}(hh:A.handled=none) (hi:ks.length<=i) (t:s.heap.IsKeyIter it d i ks.length ep) (x:RawD s.heap d ks ep) (q:∀ h',Md it s.heap h'->Q none { s with heap:=h' }):aK (aU prog w) A (jy (.ref it)) Q E s:=by
 have tt:=t.typeIs
 obtain ⟨ob,g,gc,gd⟩:=id t
 obtain ⟨o,es,e,c,da,hk⟩:=x
 have hs:es.size=ks.length:=by rw [← hk,aj,aT]
 unfold jy
 refine ae (jB (cZ (name:=gI "__next__") tt F.slot_dict_keyiterator_next (cH F.slot_dict_keyiterator_next tt F.entry_dict_keyiterator_next ?_ (F.args_dict_keyiterator_next_1 _))))
 refine ae (ao (ae (ae ?_)))
 first|refine ae (ky tt (ao ?_))|refine ae (nS tt (ao ?_))
 refine ae (pH g gd ?_)
 simp only [show um "dict_keyiterator"=false by decide,cf,if_false]
 show aK _ _ (if (aI d == c9)=true then _ else _) _ _ s
 rw [if_neg (show ¬ ((aI d == c9)=true) from bF)]
 refine ae (ao (ae (pG e da ?_)))
 rw [if_neg (by rw [hs];simp)]
 refine ae (ao (ae (JP e da ?_)))
 rw [if_neg (by simp)]
 refine ao ?_
 simp only [show ¬ ((i:Int)<0) from by omega,if_false,hV,jR (bg (BB hs) hi)]
 refine ae ?_
 first|refine ae (ky tt (ao ?_))|refine ae (nS tt (ao ?_))
 show aK _ _ (setField (.ref it) 0 .none >>= _) _ _ s
 refine ae (j4 g gd (by simp) ?_)
 show aK _ _ (PB (.type "StopIteration") [] >>= _) _ _ _
 refine ae ?_
 simp only [PB,newTuple]
 refine ae (cI ?_ (by size_fits))
 refine ae (m:=pI _ _) (HW (a:=c9) (by first|rfl|(simp only [pI];rfl)) ?_)
 refine cI ?_ (by size_fits)
 simp only [raiseNew]
 refine ae (Oc ?_)
 rw [show A.in1.handled=none from hh]
 refine ae (ao (RN ?_))
 refine ae (qm (T:="StopIteration") (b:=true) ⟨_,aM _ rfl,rfl⟩ zx ?_)
 exact ao (q _ (((cD ..).extBut.push _).push _))
theorem MZ {acc:Array ai}(h:ItemsOf (λi v=>ks[i]?=some v) acc ks.length):acc.toList=ks:=by
 apply n9
 intro j
 cases e:acc.toList[j]? with
 | some v=>exact (h.2 j v (by rw [← dj];exact e)).symm
 | none =>
  have:ks.length<=j:=by have:=List.getElem?_eq_none_iff.mp e;rw [aT,h.1] at this;exact this
  exact (cV this).symm
end
section
variable {X:Cx}
end
end L2
namespace L2
open PySem PySem.Spec PyProof.Rows PySem.W
theorem Paired.at {α β:Type} {F:α->β->Prop}{l₁:List α} {l₂:List β} (r:Paired F l₁ l₂):∀ {i:Nat}{a:α},l₁[i]?=some a->∃ b,l₂[i]?=some b/\F a b:=by
 induction r with
 | nil=>intro i a e;simp at e
 | cons h t ih =>
  intro i a e
  cases i with
  | zero =>
   simp only [nv,gj] at e
   subst e
   exact ⟨_,rfl,h⟩
  | succ i=>exact ih (by simpa using e)
theorem Paired.len {α β:Type} {F:α->β->Prop}{l₁:List α} {l₂:List β} (r:Paired F l₁ l₂):l₁.length=l₂.length:=by
 induction r with
 | nil=>rfl
 | cons h t ih=>simp [ih]
def P9 (a:af) (kvs:List (List ja×V)) (o:fR):It :=
 ⟨λi H=>i<kvs.length/\H a=some (.frz o (.dT kvs)),λi H x H'=>H'=H/\∃ k v b,kvs[i]?=some (k,v)/\x=.ref b/\H b=some (.tup (k.map kV)),λi H=>kvs.length<=i/\H a=some (.frz o (.dT kvs))⟩
theorem Kc {P:bp}{w:b8}{K:aa}{tg:Expr}(a it:af) (o:fR) (kvs:List (List ja×V)) (es:Array DictEntry) (ep:Nat) (hx:o.ExactDict) (hd:o.data=.dict es ep) (hl:es.size=kvs.length) :
  KF P w K tg (P9 a kvs o) [it] it (λi h=>h.IsKeyIter it a i (es.toList.map (·.key)).length ep) where
 mem:=by simp
 obj:=λi h st b hb=>by
  have e:b=it:=by simpa using hb
  subst e
  obtain ⟨o,e,c,d⟩:=st
  exact ⟨o,e,λv z=>by rw [d] at z;cases z⟩
 keep:=λi h h' st k=>st.at λo e=>k it (by simp) o e
 item:=by
  intro X hP hw hK hc i pins s σ H E I hf st hg
  subst hP hw hK
  obtain ⟨hlt,hq⟩:=hg
  obtain ⟨e0,_,_,xs,rel,o',es',ep',e1,e2,e3,e4,e5⟩:=(show ObjOk X.prog X.w H s.heap a (.frz o (.dT kvs)) from I.hok a _ hq)
  rw [e0] at e1
  cases e1
  rw [hd] at e3
  injection e3 with e3 e3'
  subst e3 e3'
  obtain ⟨⟨k,v⟩,hkv⟩:∃ p,kvs[i]?=some p:=⟨kvs[i],by simp [hlt]⟩
  obtain ⟨q,hq2,rq⟩:=L2.Paired.at rel hkv
  have hkey:(es.toList.map (·.key))[i]?=some (.ref q.2.1):=by rw [e4,cW,ay,hq2];rfl
  obtain ⟨f0,f1,f2,f3,f4,f5⟩:=hf it (by simp)
  refine MY st ⟨o,es,e0,hx,hd,rfl⟩ hkey λh' st' sb=>?_
  have I1:Inv X pins σ H { s with heap:=h' }:=I.turned (t':=s.toks) (λb o hb e=>(sb.2 b hb).trans e) f0 f1 f3 f4 f5
  obtain ⟨o',e,c,d⟩:=id st'
  exact ⟨_,rfl,Gg (s:={ s with heap:=h' }) e c d (by decide) ⟨.ref q.2.1,H,I1,rfl,⟨rfl,k,v,q.2.1,hkv,rfl,rq.2.1⟩,st',λb hb=>(hf b hb).1⟩⟩
 done:=by
  intro X hP hw hK hc i pins s σ H E I hf st hg
  subst hP hw hK
  obtain ⟨hle,hq⟩:=hg
  obtain ⟨e0,_⟩:=(show ObjOk X.prog X.w H s.heap a (.frz o (.dT kvs)) from I.hok a _ hq)
  obtain ⟨f0,f1,f2,f3,f4,f5⟩:=hf it (by simp)
  have hn:(es.toList.map (·.key)).length=kvs.length:=by rw [aj,aT,hl]
  exact O4 (I.ok.hd hc) (by omega) st ⟨o,es,e0,hx,hd,rfl⟩ λh' eb=>⟨rfl,I.turned (t':=s.toks) (λb o hb e=>eb b o hb e) f0 f1 f3 f4 f5⟩
 self:=λ_ _ _ _ _ st h=>RJ st h
def SS (tl:TE):TI:=λσ H R=>tl σ H λx H1=>∃ a kvs,x=.ref a/\((H1 a=some (.dT kvs)/\∀ o,R (P9 a kvs o) (upd H1 a (.frz o (.dT kvs))))\/∃ o,H1 a=some (.frz o (.dT kvs))/\R (P9 a kvs o) H1)
theorem M0 {tl:TE}{σ:St}{H:Hp}{R:It->Hp->Prop}(h:tl σ H λx H1=>∃ a kvs,x=.ref a/\((H1 a=some (.dT kvs)/\∀ o,R (P9 a kvs o) (upd H1 a (.frz o (.dT kvs))))\/∃ o,H1 a=some (.frz o (.dT kvs))/\R (P9 a kvs o) H1)):SS tl σ H R:=h
section
variable {X:Cx}{tg:Expr}
theorem M1 {l:Expr}{tl:TE}(hl:PE X l tl):PI X tg l (SS tl):=by
 intro pins s σ H R I h
 refine ij (hl pins s σ H _ I h) λv s1 ⟨x,H1,I1,r1,q1⟩=>?_
 obtain ⟨a,kvs,e,q1⟩:=q1
 subst e
 cases r1
 rcases q1 with ⟨hq,q⟩|⟨ob,hq,q⟩
 rotate_left
 ·obtain ⟨ho,hz,hsys,xs,rel,ob',es,ep,ho',hx,hd,he,hn⟩:=(show ObjOk X.prog X.w H1 s1.heap a (.frz ob (.dT kvs)) from I1.hok a _ hq)
  rw [ho] at ho'
  cases ho'
  have hl:es.size=kvs.length:=by rw [← aT,he,aj,Paired.len rel]
  refine GI hsys ⟨ob,es,ho,hx,hd,rfl⟩ ?_
  refine ⟨s1.heap.objs.size,[s1.heap.objs.size],_,_,_,rfl,I1.kept (t':=s1.toks) λb o e=>ax _ e,Kc a _ ob kvs es ep hx hd hl,⟨_,aM _ rfl,rfl,rfl⟩,λb hb=>?_,q⟩
  have e:b=s1.heap.objs.size:=by simpa using hb
  subst e
  exact I1.fpOk (aw _) (I1.hok.fresh (aw _))
 obtain ⟨hz,hsys,xs,rel,ob,es,ep,ho,hx,hd,he,hn⟩:=(show ObjOk X.prog X.w H1 s1.heap a (.dT kvs) from I1.hok a _ hq)
 have un:Un X.fs [] H1 (upd H1 a (.frz ob (.dT kvs))) s1.heap s1.heap:=by
  have hne:∀ b u,H1 b=some u->u≠.dT kvs->b≠a:=λb u e n z=>by subst z;rw [hq] at e;exact n (aS e).symm
  refine ⟨λb o e _ _ _=>e,λb o e _ _ _=>⟨o.slots,e⟩,λb o e n _=>?_,λb o e _=>⟨o,e⟩,λb ys e=>?_,λb o u e=>?_,λb ps e=>?_⟩
  ·rw [aJ (λz=>by subst z;rw [hq] at n;cases n)];exact n
  ·rw [aJ (hne b _ e (by intro z;cases z))];exact e
  ·rw [aJ (hne b _ e (by intro z;cases z))];exact e
  ·exact ⟨#[],by rw [aJ (hne b _ e (by intro z;cases z)),e];simp⟩
 have nt:∀ c ys,H1 c=some (.tup ys)->(upd H1 a (.frz ob (.dT kvs))) c=some (.tup ys):=λc ys q0=>by
  rw [aJ (λz=>by rw [z,hq] at q0;cases q0)];exact q0
 have hok:HOk X.prog X.w (upd H1 a (.frz ob (.dT kvs))) s1.heap:=λb u e=>by
  by_cases hb:b=a
  ·subst hb
   rw [aD] at e
   cases e
   exact ⟨ho,hz,hsys,xs,Paired.mapP rel λp q z=>⟨z.1,nt _ _ z.2.1,z.2.2⟩,ob,es,ep,ho,hx,hd,he,hn⟩
  ·rw [aJ hb] at e
   refine (I1.hok b u e).stay (λc v _ q=>q) (λc q0=>?_) nt
   rw [aJ (λz=>by rw [z,hq] at q0;cases q0)];exact q0
 have I2:Inv X pins σ (upd H1 a (.frz ob (.dT kvs))) { s1 with heap:=s1.heap,toks:=s1.toks }:=I1.un un hok
 have hl:es.size=kvs.length:=by rw [← aT,he,aj,Paired.len rel]
 refine GI hsys ⟨ob,es,ho,hx,hd,rfl⟩ ?_
 refine ⟨s1.heap.objs.size,[s1.heap.objs.size],_,_,_,rfl,I2.kept (t':=s1.toks) λb o e=>ax _ e,Kc a _ ob kvs es ep hx hd hl,⟨_,aM _ rfl,rfl,rfl⟩,λb hb=>?_,q ob⟩
 have e:b=s1.heap.objs.size:=by simpa using hb
 subst e
 exact I2.fpOk (aw _) (I2.hok.fresh (aw _))
end
theorem Rn {a:af}{kvs:List (List ja×V)}{o:fR}{g:TG}{tb:TS}{D:sS}{σ:St}{H:Hp}(Pv:Nat->St->Hp->Prop) (h0:Pv 0 σ H) (hl:∀ i σ H,i<=kvs.length->Pv i σ H->H a=some (.frz o (.dT kvs)))
  (hs:∀ i k v b σ H,kvs[i]?=some (k,v)->H b=some (.tup (k.map kV))->Pv i σ H->g (.ref b) σ H λσ2 H2=>tb { D with nx:=Pv (i+1),ct:=Pv (i+1),bk:=D.nx } σ2 H2) (hd:∀ σ H,Pv kvs.length σ H->D.nx σ H) :
  ∃ W:Nat->Nat->St->Hp->Prop,(∃ m,W 0 m σ H)/\∀ i m σ H,W i m σ H ->
   ((P9 a kvs o).stop i H/\D.nx σ H)\/((P9 a kvs o).go i H/\∃ N:St->Hp->Prop,(∀ σ' H',N σ' H'->∃ m',m'<m/\W (i+1) m' σ' H')/\∀ x H',(P9 a kvs o).yld i H x H'->g x σ H' λσ2 H2=>tb { D with nx:=N,ct:=N,bk:=D.nx } σ2 H2):=by
 refine ⟨λi m σ H=>m=kvs.length-i/\i<=kvs.length/\Pv i σ H,⟨kvs.length,by simp,a9 _,h0⟩,?_⟩
 rintro i m σ H ⟨hm,hi,p⟩
 by_cases e:i=kvs.length
 ·subst e
  exact .inl ⟨⟨aw _,hl _ _ _ (aw _) p⟩,hd _ _ p⟩
 ·refine .inr ⟨⟨by omega,hl _ _ _ hi p⟩,Pv (i+1),λσ' H' p'=>⟨kvs.length-(i+1),by omega,rfl,by omega,p'⟩,?_⟩
  rintro x H' ⟨rfl,k,v,b,hk,rfl,hb⟩
  exact hs i k v b σ H' hk hb p
def M3 (H:Hp) (Q:VK):VK:=λx H'=>Q x H'\/∃ a o kvs,(∀ o' u',H a≠some (.frz o' u'))/\H' a=some (.frz o (.dT kvs))/\Q x (upd H' a (.dT kvs))
theorem Un.thaw {fs ex:List af}{H H':Hp}{h h':cm}{a:af}{o:fR}{kvs:List (List ja×V)}(u:Un fs ex H H' h h') (hn:∀ o' u',H a≠some (.frz o' u')) (ha:H' a=some (.frz o (.dT kvs))):Un fs ex H (upd H' a (.dT kvs)) h h' where
 keep:=u.keep
 slot:=u.slot
 free:=λb ob e n hx=>by
  have q:=u.free b ob e n hx
  rw [aJ (λz=>by rw [z,ha] at q;cases q)];exact q
 there:=u.there
 tups:=λb xs e=>by
  have q:=u.tups b xs e
  rw [aJ (λz=>by rw [z,ha] at q;cases q)];exact q
 frzs:=λb ob w e=>by
  have q:=u.frzs b ob w e
  rw [aJ (λz=>hn ob w (by rw [← z];exact e))];exact q
 tbls:=λb ps e=>by
  obtain ⟨more,q⟩:=u.tbls b ps e
  exact ⟨more,by rw [aJ (λz=>by rw [z,ha] at q;cases q)];exact q⟩
theorem HOk.thaw {P:bp}{w:b8}{H:Hp}{h:cm}{a:af}{o:fR}{kvs:List (List ja×V)}(k:HOk P w H h) (ha:H a=some (.frz o (.dT kvs))):HOk P w (upd H a (.dT kvs)) h:=by
 have nt:∀ c ys,H c=some (.tup ys)->(upd H a (.dT kvs)) c=some (.tup ys):=λc ys q0=>by
  rw [aJ (λz=>by rw [z,ha] at q0;cases q0)];exact q0
 intro b u e
 by_cases hb:b=a
 ·subst hb
  rw [aD] at e
  cases e
  obtain ⟨_,hz,hsys,xs,rel,ob,es,ep,r⟩:=(show ObjOk P w H h b (.frz o (.dT kvs)) from k b _ ha)
  exact ⟨hz,hsys,xs,Paired.mapP rel λp q z=>⟨z.1,nt _ _ z.2.1,z.2.2⟩,ob,es,ep,r⟩
 ·rw [aJ hb] at e
  refine (k b u e).stay (λc v _ q=>q) (λc q0=>?_) nt
  rw [aJ (λz=>by rw [z,ha] at q0;cases q0)];exact q0
end L2
namespace BootT
end BootT
namespace L2
open PySem PySem.Spec PyProof.Rows PySem.W
theorem FnOk.thaw {P:bp}{w:b8}{K:aa}{mg:bA->Option ai}{base:cm}{CX:Ii}{k:Nat}{f:af}{fd:fP}{ps:List bA}{sp sp':Sp}(F:FnOk P w K mg base CX k f fd ps sp')
  (h:∀ vs H Q E,sp vs H Q E->sp' vs H (M3 H Q) E):FnOk P w K mg base CX k f fd ps sp:=by
 refine ⟨λvs H Q E q=>F.len vs H _ E (h _ _ _ _ q),λA outer s H args us vs Q E hr he hb hv hs=>?_⟩
 refine pC (F.run A outer s H args us vs _ E hr he hb hv (h _ _ _ _ hs)) λr s' q=>?_
 cases r with
 | error e=>exact q
 | ok fl =>
  cases fl with
  | ret u =>
   obtain ⟨v,H',h1,h2,h3,h4,h5,q⟩:=(show CE outer P w H s (M3 H Q) u s' from q)
   rcases q with q|⟨a,o,kvs,hn,ha,q⟩
   ·exact (show CE outer P w H s Q u s' from ⟨v,H',h1,h2,h3,h4,h5,q⟩)
   ·exact (show CE outer P w H s Q u s' from ⟨v,_,h1,h2,h3.thaw hn ha,h4.thaw ha,h5,q⟩)
  | _=>exact q
theorem Paired.eraseIdx {α β:Type} {F:α->β->Prop}{l₁:List α} {l₂:List β} (r:Paired F l₁ l₂):∀ j,Paired F (l₁.eraseIdx j) (l₂.eraseIdx j):=by
 induction r with
 | nil=>intro j;exact .nil
 | cons h t ih =>
  intro j
  cases j with
  | zero=>exact t
  | succ j=>exact .cons h (ih j)
theorem Am {κ:Type} [DecidableEq κ] {k:κ}{v:V}:∀ {kvs:List (κ×V)}{j:Nat},(kvs.map (·.1)).Nodup->kvs[j]?=some (k,v)->kvs.eraseIdx j=oR kvs k
 | [],j,_,e=>by simp at e
 | p::r,0,hn,e=>by
  simp only [nv,gj] at e
  subst e
  have h1:=(bf.mp hn).1
  rw [K0 rfl,Gu h1];rfl
 | p::r,j+1,hn,e=>by
  simp only [JQ] at e
  have h1:=(bf.mp hn).1
  have hm:k∈r.map (·.1):=br.mpr ⟨_,aG e,rfl⟩
  have hne:¬ p.1=k:=λz=>h1 (by rw [show (λx:κ×V=>x.1) p=k from z];exact hm)
  rw [Du hne,sQ,Am (bf.mp hn).2 e]
theorem yu {κ:Type} [DecidableEq κ] {k:κ}{v:V}:∀ {kvs:List (κ×V)}{j:Nat},(kvs.map (·.1)).Nodup->kvs[j]?=some (k,v)->mr kvs k=some v
 | [],j,_,e=>by simp at e
 | p::r,0,hn,e=>by
  simp only [nv,gj] at e
  subst e
  exact sZ rfl
 | p::r,j+1,hn,e=>by
  simp only [JQ] at e
  have h1:=(bf.mp hn).1
  have hm:k∈r.map (·.1):=br.mpr ⟨_,aG e,rfl⟩
  have hne:¬ p.1=k:=λz=>h1 (by rw [show (λx:κ×V=>x.1) p=k from z];exact hm)
  rw [qU hne]
  exact yu (bf.mp hn).2 e
theorem Dx {α β:Type} (f:α->β):∀ (l:List α) (j:Nat),(l.map f).eraseIdx j=(l.eraseIdx j).map f
 | [],_=>by simp
 | a::l,0=>rfl
 | a::l,j+1=>by simp [sQ,Dx f l j]
theorem K8 {H:Hp}{kvs:List (List ja×V)}{xs:List (List ja×af×ai)}(r:KT H kvs xs):kvs.map (·.1)=xs.map (·.1):=by
 induction r with
 | nil=>rfl
 | cons h t ih=>simp [h.1,ih]
section
variable {X:Cx}
def GJ:V->List V->Hp->VK->Prop:=λx vs H Q=>∃ a kvs k b v,x=.ref a/\vs=[.ref b]/\H a=some (.dT kvs)/\H b=some (.tup (k.map kV))/\mr kvs k=some v/\Q v (upd H a (.dT (oR kvs k)))
theorem zG (hu:X.A.units+64<iH):MtM X "dict.pop" GJ:=by
 intro pins s σ H x xs v us Q I rx rs h
 obtain ⟨a,kvs,k,b,y,rfl,rfl,ha,hb,hy,q⟩:=h
 cases rx
 obtain ⟨u,rfl,ru⟩:=vals1 rs
 cases ru
 obtain ⟨hz,lo,ys,rel,o,es,ep,e1,e2,e3,e4,e5⟩:=(show ObjOk X.prog X.w H s.heap a (.dT kvs) from I.hok a _ ha)
 have hl:es.size=kvs.length:=by rw [← aT,e4,aj,Paired.len rel]
 have hT:s.TypeIs (.ref a) "dict":=⟨o,e1,e2.1⟩
 have hes:es.size<=a0:=by rw [hl];exact hz
 have hkey:=tj (P:=X.prog) (w:=X.w) I.hok hb
 have his:∀ x∈ys,(m7 (fQ X.prog X.w)).is s.heap x.1 x.2.1:=λx hx=>by
  obtain ⟨i,hi⟩:=bE.mp hx
  obtain ⟨p,hp⟩:∃ p,kvs[i]?=some p:=⟨kvs[i]'(by rw [Paired.len rel];exact (aB.mp hi).1),by simp⟩
  obtain ⟨x',hx',r1,r2,_⟩:=L2.Paired.at rel hp
  rw [hi] at hx'
  cases hx'
  rw [← r1]
  exact tj I.hok r2
 have rel:KT H kvs ys:=rel
 have ev:=KT.val rel k
 rw [hy] at ev
 have hroom:(m7 (fQ X.prog X.w)).room X.A.in1:=kQ (by omega)
 have hnd:(kvs.map (·.1)).Nodup:=by rw [K8 rel];exact e5
 refine cH F.slot_dict_pop hT F.entry_dict_pop ?_ (F.args_dict_pop_2 _ _)
 unfold jW.«dict.pop» Builtin.Dict.keyAndDefault
 refine ae (ae (Qp hT ?_))
 show aK _ _ (pure (a,aI b,none)) _ _ s
 refine ao ?_
 have hne:es.isEmpty=false:=by
  cases e:es.isEmpty with
  | false=>rfl
  | true =>
   have:es.size=0:=by simpa [Array.isEmpty] using e
   have:kvs=[]:=jS (by omega)
   subst this
   cases hy
 show aK _ _ (dictEntries a >>= _) _ _ s
 refine ae (pG e1 e3 ?_)
 simp only [hne,cf,if_false,pure_bind]
 refine ae ?_
 unfold Builtin.Dict.takeOut
 try with_reducible refine cB ?_
 refine ae ((m7 (fQ X.prog X.w)).pyHash hroom hkey ?_)
 refine ae (wpAny_dictFind_heap (s:={ s with toks:=s.toks+(m7 (fQ X.prog X.w)).draws k }) hroom hkey e1 e3 e4 his e5 (λhno=>?_) λj p hj=>?_)
 ·rw [atKey_none_of_get hno] at ev
  exact ev.elim
 ·have ep':FL ys k=some p:=atKey_of_get e5 hj
  rw [ep'] at ev
  have ev:RelV y p.2:=ev
  refine ae (pG (s:={ s with toks:=s.toks+(m7 (fQ X.prog X.w)).draws k }) e1 e3 ?_)
  rw [entry_at e4 j,hj]
  refine ae (wpAny_updateDictKeys (hz:=hes) (s:={ s with toks:=s.toks+(m7 (fQ X.prog X.w)).draws k }) e1 e3 (ao ?_))
  simp only [Pq,Mc,cf,if_false]
  refine ae (RM (ao ⟨_,rfl,y,upd H a (.dT (oR kvs k)),?_,ev,q⟩))
  have hk2:kvs[j]?=some (k,y):=by
   have hjl:j<kvs.length:=by rw [Paired.len rel];exact (aB.mp hj).1
   obtain ⟨x',hx',r1,_⟩:=L2.Paired.at rel (ar hjl)
   rw [hj] at hx'
   cases hx'
   have e:kvs[j]?=some (k,kvs[j].2):=by
    rw [ar hjl]
    have r1:kvs[j].1=k:=r1
    exact congrArg some (FX r1 rfl)
   have:=yu hnd e
   rw [hy] at this
   rw [e,← aS this]
  have hrel:KT H (oR kvs k) (ys.eraseIdx j):=by rw [← Am hnd hk2];exact Paired.eraseIdx rel j
  refine D7 I (by rw [ha];exact jb) (cD ..) ⟨_,bP _ e1 (Oo (w8 e3 _))⟩
   ⟨bg (dk _ _) hz,lo,_,hrel.keeps λc zs ec=>?_,_,_,ep+1,bP _ e1 (Oo (w8 e3 _)),e2.mapDictKeys _,w8 e3 _,?_,?_⟩
  ·rw [aJ (iA ec ha (λz=>nomatch z))]
   exact ec
  ·have:(es.eraseIdxIfInBounds j).toList=es.toList.eraseIdx j:=by obtain ⟨l⟩:=es;simp
   rw [this,e4,Dx]
  ·exact (vF _ (List.eraseIdx_sublist _ _)).nodup e5
end
end L2
namespace L2
open PySem PySem.Spec PyProof.Rows PySem.W
namespace Rv
section
variable {prog:bp}{w:b8}{A:cp}{E:ai->au->Prop}{s:au}{I l:af}
end
end Rv
section
variable {X:Cx}{x:Expr}{t:TA}{p1 p2 q1 q2:qQ}
end
end L2
namespace Sw
open PySem
def Rise (xs:Array Nat):Prop:=xs.toList.Pairwise (· < ·)
theorem Rise.lt {xs:Array Nat}(h:Rise xs) {i j a b:Nat}(hij:i<j) (h1:xs[i]?=some a) (h2:xs[j]?=some b):a<b:=by
 rw [← dj] at h1 h2
 obtain ⟨hi,e1⟩:=aB.mp h1
 obtain ⟨hj,e2⟩:=aB.mp h2
 have:=r0.mp h i j hi hj hij
 rw [e1,e2] at this;exact this
theorem An {xs:Array Nat}{j:Nat}(h:Rise xs):∀ (fuel lo hi:Nat),lo<=hi->hi<=xs.size->hi-lo<=fuel->(∀ i a,i<lo->xs[i]?=some a->a<j)->(∀ i a,hi<=i->xs[i]?=some a->j<=a) ->
  (pJ xs j fuel lo hi<=xs.size/\(∀ i a,i<pJ xs j fuel lo hi->xs[i]?=some a->a<j)/\∀ i a,pJ xs j fuel lo hi<=i->xs[i]?=some a->j<=a)
 | 0,lo,hi,h1,h2,h3,h4,h5=>by
  have:lo=hi:=by omega
  subst this
  exact ⟨h2,h4,h5⟩
 | fuel+1,lo,hi,h1,h2,h3,h4,h5=>by
  unfold pJ
  by_cases c:lo<hi
  ·rw [if_pos c]
   have hm:(lo+hi)/2<xs.size:=by omega
   have em:xs[(lo+hi)/2]?=some xs[(lo+hi)/2]:=bZ hm
   have eg:xs.getD ((lo+hi)/2) j=xs[(lo+hi)/2]:=by simp [qO,hm]
   simp only [eg]
   by_cases c2:xs[(lo+hi)/2]<j
   ·rw [if_pos c2]
    refine An h fuel _ _ (by omega) h2 (by omega) (λi a hi' ha=>?_) h5
    by_cases e:i=(lo+hi)/2
    ·subst e;rw [em] at ha;cases ha;exact c2
    ·exact LK (h.lt (show i<(lo+hi)/2 by omega) ha em) c2
   ·rw [if_neg c2]
    refine An h fuel _ _ (by omega) (by omega) (by omega) h4 (λi a hi' ha=>?_)
    by_cases e:i=(lo+hi)/2
    ·subst e;rw [em] at ha;cases ha;omega
    ·have:=h.lt (show (lo+hi)/2<i by omega) em ha;omega
  ·rw [if_neg c]
   have:lo=hi:=by omega
   subst this
   exact ⟨h2,h4,h5⟩
theorem Ao {xs:Array Nat}(h:Rise xs) (j:Nat):dG xs j<=xs.size/\(∀ i a,i<dG xs j->xs[i]?=some a->a<j)/\∀ i a,dG xs j<=i->xs[i]?=some a->j<=a :=
 An h _ _ _ (a9 _) (aw _) (by omega) (λi a hi=>absurd hi (by omega)) λi a hi ha=>by
  have:=(iq.mp ha).1;omega
theorem GK {xs:Array Nat}(h:Rise xs) {k p:Nat}(hk:k=0/\p=0\/∃ k',k=k'+1/\∃ a,xs[k']?=some a/\p=a+1):dG xs p=k:=by
 obtain ⟨h1,h2,h3⟩:=Ao h p
 rcases hk with ⟨rfl,rfl⟩|⟨k',rfl,a,ha,rfl⟩
 ·by_cases e:dG xs 0=0
  ·exact e
  ·have:xs[0]?=some xs[0]:=bZ (by omega)
   have:=h2 0 _ (by omega) this;omega
 ·have hk:=(iq.mp ha).1
  rcases Nat.lt_trichotomy (dG xs (a+1)) (k'+1) with c|c|c
  ·have:=h3 k' a (by omega) ha;omega
  ·exact c
  ·have e:xs[k'+1]?=some (xs[k'+1]'(by omega)):=bZ (by omega)
   have q1:=h2 (k'+1) _ c e
   have q2:=h.lt (show k'<k'+1 by omega) ha e
   omega
theorem Rise.insert {xs:Array Nat}(h:Rise xs) {j:Nat}(hj:xs[dG xs j]?≠some j):Rise (SetTable.insertAt xs (dG xs j) j):=by
 obtain ⟨h1,h2,h3⟩:=Ao h j
 generalize dG xs j=p at h1 h2 h3 hj
 unfold Rise
 rw [SetTable.toList_insertAt]
 have e:xs.toList=xs.toList.take p++xs.toList.drop p:=(iF _ _).symm
 have hp:(xs.toList.take p++xs.toList.drop p).Pairwise (· < ·):=by rw [← e];exact h
 rw [vE] at hp
 obtain ⟨p1,p2,p3⟩:=hp
 have m1:∀ a∈xs.toList.take p,a<j:=λa ha=>by
  obtain ⟨i,hi⟩:=bE.mp ha
  rw [eE] at hi
  split at hi
  ·exact h2 i a (by assumption) (by rw [← dj];exact hi)
  ·cases hi
 have m2:∀ a∈xs.toList.drop p,j<a:=λa ha=>by
  obtain ⟨i,hi⟩:=bE.mp ha
  rw [cn,dj] at hi
  have q:=h3 (p+i) a (by omega) hi
  rcases Nat.lt_or_eq_of_le q with q|q
  ·exact q
  ·subst q
   cases i with
   | zero=>exact absurd hi hj
   | succ i =>
    have e0:xs[p]?=some (xs[p]'(by have:=(iq.mp hi).1;omega)):=bZ _
    have q1:=h3 p _ (aw _) e0
    have q2:=h.lt (show p<p+(i+1) by omega) e0 hi
    omega
 rw [vE]
 refine ⟨p1,yD.mpr ⟨m2,p2⟩,λa ha b hb=>?_⟩
 rcases ak.mp hb with rfl|hb
 ·exact m1 a ha
 ·exact p3 a ha b hb
structure TI (t:gJ):Prop where
 rise:Rise t.place
 nod:t.dummies=#[]
theorem Kd (j:Nat):FZ #[] j=false:=by simp [FZ]
theorem GL {t:gJ}(h:TI t) {hashAt:Nat->Int}{hh:Int}:∀ (fuel:Nat) (p:SetTable.Probe) {j:Nat}{d:Option Nat},uo t hashAt hh fuel p=some (.empty j d)->p.dummy=none->d=none/\t.place[dG t.place j]?≠some j
 | 0,p,j,d,e,_=>by simp [uo] at e
 | fuel+1,p,j,d,e,hd=>by
  unfold uo at e
  have adv:(t.advance p).dummy=none:=by unfold SetTable.advance;split<;>exact hd
  cases hs:t.slot p.j with
  | empty =>
   rw [hs] at e
   simp only [gj,Qr] at e
   obtain ⟨rfl,rfl⟩:=e
   refine ⟨hd,λz=>?_⟩
   unfold PD at hs
   simp [z] at hs
  | dummy =>
   unfold PD at hs
   rw [h.nod] at hs
   simp only [Kd] at hs
   split at hs<;>simp at hs
  | live i =>
   rw [hs] at e
   simp only at e
   split at e
   ·simp at e
   ·exact GL h fuel _ e adv
theorem K9 {t:gJ}(h:TI t) {hh:Int}{j:Nat}{b:Bool}(e:t.freeSlot hh=some (j,b)):t.place[dG t.place j]?≠some j:=by
 unfold SetTable.freeSlot at e
 split at e
 ·rename_i j' d he
  obtain ⟨e1,e2⟩:=GL h _ _ he rfl
  subst e1
  simp at e
  rw [← e.1];exact e2
 ·cases e
theorem TI.standIn (t:gJ) (n:Nat):TI (t.standIn n):=⟨by unfold Rise SetTable.standIn;simp only [Array.toList_range];exact Ku,rfl⟩
theorem TI.orStandIn {t:gJ}(h:TI t) (n:Nat):TI (t.orStandIn n):=by
 unfold Kv
 split
 ·exact h
 ·exact TI.standIn t n
theorem TI.put {t:gJ}(h:TI t) {j:Nat}(hj:t.place[dG t.place j]?≠some j):TI (t.put j).1:=by
 refine ⟨h.rise.insert hj,?_⟩
 show (if FZ t.dummies j then _ else t.dummies)=#[]
 rw [h.nod,Kd,if_neg (by decide)]
theorem TI.layNew {t:gJ}(h:TI t) (es:Array (Int×ai)) (hh:Int) (x:ai):TI (zA t es hh x).2.1:=by
 unfold zA
 split
 ·rename_i slot wd he
  exact (h.put (K9 h he)).orStandIn _
 ·exact TI.standIn t _
theorem TI.relayAll {t:gJ}(es:Array (Int×ai)) (wanted:Nat):TI (vw t es wanted).2.1:=by
 unfold vw
 split
 ·rename_i t' order he
  dsimp only
  split
  ·unfold Od PF at he
   simp only [LO,HN,PH,gj] at he
   obtain ⟨owner,_,he⟩:=he
   have:=(cE he).1
   subst this
   refine ⟨?_,rfl⟩
   show ((gh _).filterMap _ |>.map _).toArray.toList.Pairwise _
   rw [List.toList_toArray,List.map_filterMap]
   have:(λx=>xj (λy:Nat×Nat=>y.1) (xj (λy=>(x,y)) (owner.getD x none)))=λx=>xj (λ_=>x) (owner.getD x none):=by funext x;cases owner.getD x none<;>rfl
   refine List.Pairwise.filterMap _ (λa b hab c hc d hd=>?_) Ku
   cases ha:owner.getD a none<;>rw [ha] at hc<;>simp at hc
   cases hb:owner.getD b none<;>rw [hb] at hd<;>simp at hd
   omega
  ·exact TI.standIn t _
 ·exact TI.standIn t _
theorem TI.off {t:gJ}(h:TI t):TI { t with plain:=false }:=⟨h.rise,h.nod⟩
theorem TI.fresh (a b:Nat) (c:Bool):TI (Oq a b c):=⟨by simp [Rise,Oq],rfl⟩
theorem IA (t:gJ) (es:Array (Int×ai)) (hh:Int) (x:ai):(zA t es hh x).2.1.led=t.led:=by
 unfold zA
 split
 ·simp only [Kv];split<;>rfl
 ·rfl
theorem Ek (t:gJ) (es:Array (Int×ai)) (wanted:Nat):(vw t es wanted).2.1.led=t.led:=by
 unfold vw
 split
 ·rename_i t' order he
  dsimp only
  split
  ·unfold Od PF at he
   simp only [LO,HN,PH,gj] at he
   obtain ⟨owner,_,he⟩:=he
   have:=(cE he).1
   subst this
   rfl
  ·rfl
 ·rfl
end Sw
namespace Sw
open PySem PySem.Spec PyProof.Rows
def key (e:Int×ai):Int:=match e.2 with | .int i _=>i|_=>0
section
variable {prog:bp}{w:b8}
def SO (prog:bp) (w:b8) (bt:Bool) (h:cm) (a:af) (ks:List Int):Prop :=
 ∃ o es ep t,h.get? a=some o/\o.ExactSet/\o.data=.set es ep t/\ElemsOf (pA prog w) es.toList/\(∀ e∈es.toList,∃ u,e.2=.int (key e) u)/\es.size<sG/\t.fits es.size=true/\TI t/\t.led=!bt/\ks=es.toList.map key/\ks.Nodup
theorem SO.keep {bt:Bool}{h h':cm}{a:af}{ks:List Int}(x:SO prog w bt h a ks) (k:∀ o,h.get? a=some o->h'.get? a=some o):SO prog w bt h' a ks :=
 let ⟨o,es,ep,t,e,r⟩:=x;⟨o,es,ep,t,k o e,r⟩
theorem SO.lt {bt:Bool}{h:cm}{a:af}{ks:List Int}(x:SO prog w bt h a ks):a<h.objs.size:=let ⟨_,_,_,_,e,_⟩:=x;aL e
variable {A:cp}{E:ai->au->Prop}{s:au}
theorem GM {g:Bool->Qg Unit}(hg:∀ (b:Bool) (s₁:au) (Q':Unit->au->Prop),Q' () s₁->aK (aU prog w) A (g b) Q' E s₁)
  {a:af}{o:fR}{es:Array (Int×ai)}{ep:Nat}{t:gJ}(ho:s.heap.get? a=some o) (hd:o.data=.set es ep t)
  {es1:Array (Int×ai)}{t2:gJ}(hb1:es1.size<sG) (hf2:t2.fits es1.size=true) (ti:TI t2) {wasDummy:Bool}{R:Option Bool->au->Prop}
  (h:∀ h' es2 ep2 t3,ig a s.heap h'->h'.get? a=some { o with data:=.set es2 ep2 t3 }->es2.toList.Perm es1.toList->t3.fits es2.size=true->TI t3->t3.led=t2.led->R (some true) { s with heap:=h' }) :
  aK (aU prog w) A (do
    storeSet a es1 t2
    if (!wasDummy && t2.tooFull)=true then do
      g (relayAll t2 es1 (jc es1.size)).2.2
      storeSet a (relayAll t2 es1 (jc es1.size)).1 (relayAll t2 es1 (jc es1.size)).2.1
      pure (some true)
     else pure (some true)) R E s:=by
 refine ae (wpAny_storeSet_of ho hd ?_ (uq hb1))
 have g1:(s.heap.update a (uN es1 t2)).get? a=some { o with data:=.set es1 (ep+1) t2 }:=by
  have:=bP (uN es1 t2) ho (by rw [putSet_of es1 t2 hd];rfl)
  rw [putSet_of es1 t2 hd] at this;exact this
 have b1:=cD s.heap a (uN es1 t2)
 split
 ·have hp:=relayAll_perm t2 es1 (jc es1.size)
  have hfr:=relayAll_fits t2 es1 (jc es1.size)
  have tir:=TI.relayAll (t:=t2) es1 (jc es1.size)
  have lr:=Ek t2 es1 (jc es1.size)
  generalize relayAll t2 es1 (jc es1.size)=Rl at hp hfr tir lr ⊢
  obtain ⟨es2,t3,gave2⟩:=Rl
  dsimp only at hp hfr tir lr ⊢
  have hsz:es2.size=es1.size:=by rw [← aT,hp.length_eq,aT]
  refine ae (hg _ _ _ (ae (wpAny_storeSet_of g1 rfl ?_ (uq (by rw [hsz];exact hb1)))))
  have g2:((s.heap.update a (uN es1 t2)).update a (uN es2 t3)).get? a=some { o with data:=.set es2 (ep+1+1) t3 }:=bP (uN es2 t3) g1 rfl
  exact ao (h _ es2 _ t3 (b1.trans (cD _ a _)) g2 hp hfr tir lr)
 ·exact ao (h _ es1 _ t2 b1 g1 (nc _) hf2 ti rfl)
theorem Ro {bt:Bool}{a:af}{ks:List Int}{k:Int}{u:RE}{Q:Bool->au->Prop}(hS:SO prog w bt s.heap a ks) (hroom:ks.length+1<sG)
  (h:∀ h' ks' b,ig a s.heap h'->SO prog w bt h' a ks'->(∀ x,x∈ks'↔x∈ks\/x=k)->ks'.length<=ks.length+1->Q b { s with heap:=h' }) :
  aK (aU prog w) A (setAddHashed a (.int k u) ((pA prog w).hash k)) Q E s:=by
 obtain ⟨o,es,ep,t,ho,hex,hd,hel,hin,hb,hf,ti,hled,rfl,hnd⟩:=hS
 have hsc:(gN k u).scannable=true:=rfl
 have hkey:(pA prog w).is k (.int k u)=true:=intKind_is _ _ _ _
 have hisk:∀ e∈es.toList,((pA prog w).is k e.2=true↔key e=k):=λe he=>by
  obtain ⟨v,hv⟩:=hin e he
  rw [hv,KeyKind.is_eq_decide (intKind_is prog w (key e) v) k,decide_eq_true_iff]
  exact eq_comm
 unfold setAddHashed setAddHashedIn
 refine cB (ae (ju ho hd hf ?_))
 dsimp only
 rw [byScan_of hsc hb hel]
 simp only [↓reduceIte]
 unfold setAddByScan
 refine ae (ae (sO (ae (wpAny_setScan_of hkey ho hd hf hel ?_))))
 cases hr:List.findIdx? (λe=>(pA prog w).is k e.2) es.toList with
 | some j =>
  dsimp only
  obtain ⟨hj,hpj,_⟩:=List.findIdx?_eq_some_iff_getElem.mp hr
  have hm:k∈es.toList.map key:=br.mpr ⟨es.toList[j],dO hj,(hisk _ (dO hj)).mp hpj⟩
  refine ao (ao ?_)
  have e:s={ s with heap:=s.heap }:=by cases s;rfl
  rw [e]
  exact h s.heap _ _ (Heap.SameBut.refl a s.heap) ⟨o,es,ep,t,ho,hex,hd,hel,hin,hb,hf,ti,hled,rfl,hnd⟩ (λx=>⟨.inl,λq=>q.elim id λe=>e▸hm⟩) (eV _)
 | none =>
  dsimp only
  have hnm:k∉es.toList.map key:=λhm=>by
   obtain ⟨e,he,ek⟩:=br.mp hm
   have:=List.findIdx?_eq_none_iff.mp hr e he
   rw [(hisk e he).mpr ek] at this;exact Bool.noConfusion this
  have hgw:∀ (b:Bool) {s₁:au} {Q':Unit->au->Prop},Q' () s₁->aK (aU prog w) A (match b with|true=>rule "set.scan.the-table-gave-way" | false=>pure ()) Q' E s₁ :=
   λb s₁ Q' hq=>by cases b<;>first|exact ao hq|exact sO hq
  have hperm:=layNew_perm t es ((pA prog w).hash k) (.int k u)
  have hfits:=layNew_fits t es ((pA prog w).hash k) (.int k u)
  have tin:=ti.layNew es ((pA prog w).hash k) (.int k u)
  have ledn:=IA t es ((pA prog w).hash k) (.int k u)
  generalize layNew t es ((pA prog w).hash k) (.int k u)=L at hperm hfits tin ledn ⊢
  obtain ⟨es1,t1,wasDummy,gave⟩:=L
  dsimp only at hperm hfits tin ledn ⊢
  rw [zy] at hperm
  have hsz1:es1.size=es.size+1:=by rw [← aT,hperm.length_eq,aX,aT];rfl
  rw [aj,aT] at hroom
  have hb1:es1.size<sG:=by omega
  refine ae (hgw _ ?_)
  have hend:∀ (h':cm) (es2:Array (Int×ai)) (ep2:Nat) (t2 t3:gJ),t2.led=t1.led->ig a s.heap h'->h'.get? a=some { o with data:=.set es2 ep2 t3 }->es2.toList.Perm es1.toList->t3.fits es2.size=true->TI t3->t3.led=t2.led->Q true { s with heap:=h' }:=by
   intro h' es2 ep2 t2 t3 l2 sb g2 hp2 hf3 ti3 l3
   have hpp:=hp2.trans hperm
   have hpk:=hpp.map key
   rw [aV] at hpk
   have ek:[((pA prog w).hash k,gN k u)].map key=[k]:=rfl
   rw [ek] at hpk
   have hs2:es2.size=es.size+1:=by rw [← aT,hp2.length_eq,aT];exact hsz1
   refine h h' (es2.toList.map key) true sb ⟨_,es2,ep2,t3,g2,hex,rfl,(hel.push hkey hsc).perm hpp,λe he=>?_,by omega,hf3,ti3,by rw [l3,l2,ledn,hled],rfl,?_⟩ (λx=>?_) (by rw [aj,aj,aT,aT];omega)
   ·rcases aP.mp (hpp.mem_iff.mp he) with he|he
    ·exact hin e he
    ·rw [aC.mp he];exact ⟨u,rfl⟩
   ·exact hpk.nodup_iff.mpr (L2.J1 hnd hnm)
   ·rw [hpk.mem_iff,aP,aC]
  split
  ·refine ae ?_
   rw [hashByValue_scannable 8 hsc]
   refine ao ?_
   refine GM (λb s₁ Q' hq=>by cases b<;>first|exact ao hq|exact sO hq) ho hd hb1 ?_ ?_ ?_
   ·split
    ·exact hfits
    ·exact SetTable.fits_plain_off hfits
   ·split
    ·exact tin
    ·exact tin.off
   ·intro h' es2 ep2 t3 q1 q2 q3 q4 q5 q6
    dsimp only
    refine ao (hend h' es2 ep2 _ t3 ?_ q1 q2 q3 q4 q5 q6)
    split<;>rfl
  ·refine ae (ao ?_)
   simp only [↓reduceIte]
   refine GM (λb s₁ Q' hq=>by cases b<;>first|exact ao hq|exact sO hq) ho hd hb1 hfits tin ?_
   intro h' es2 ep2 t3 q1 q2 q3 q4 q5 q6
   dsimp only
   exact ao (hend h' es2 ep2 _ t3 rfl q1 q2 q3 q4 q5 q6)
end
end Sw
namespace Sw
open PySem PySem.Spec PyProof.Rows
abbrev bt (w:b8):Bool:=w.params.followText "set-order"
section
variable {prog:bp}{w:b8}{A:cp}{E:ai->au->Prop}{s:au}
theorem M4 (a:ai) {Q₁:ai->au->Prop} (h:Q₁ (.ref s.heap.objs.size) { s with heap:=s.heap.push { cls:=.type "set",dict:=none,data:=.set #[] 0 (.fresh 0 0 (!bt w)) } }) :
  m8 (aU prog w) A (.call (.builtin "set.__new__") ⟨[.type "set",a],[]⟩) (wants Q₁ E) s:=by
 refine codeAny_of_tree ?_
 show aK _ A.in1 (do checkBuiltinCall "set.__new__" ⟨[.type "set",a],[]⟩;again (.builtin "set.__new__" ⟨[.type "set",a],[]⟩)) _ _ s
 refine ae (HW (F.newCall_set_1 a) (ao ⟨lg F.plain_set_new _,ji F.entry_set_new ?_⟩))
 rw [gE F.plain_set_new _]
 unfold jW.«set.__new__» RO
 have hsub:=sub_set_self
 obtain ⟨hp,g,d,tk,os⟩:=s
 dsimp only
 wp_walk
 refine iT (ao ?_)
 dsimp only
 simp only [newObj]
 refine ae (wpAny_alloc (ao ?_))
 exact ao h
theorem O5 {R:LG->au->Prop}{I:af}{fp wr:List af}{G:Array RF->Array RF->Prop}{n:Nat}{P:Nat->ai->Prop}{St:Nat->au->Prop}(W:WalksS prog w A.in1 I fp wr G n P St) (S:af) (hSf:S∉fp) (ns:List Int) (hl:ns.length=n) (hval:∀ i v,P i v->∃ k t,ns[i]?=some k/\v=.int k t) (hb:n+1<sG) :
  ∀ (k i:Nat) (s:au) (ks:List Int),n-i=k->i<=n->St i s->SO prog w (bt w) s.heap S ks->(∀ x,x∈ks↔x∈ns.take i)->ks.length<=i ->
   (∀ s' ks',Moved (S::wr) G s s'->SO prog w (bt w) s'.heap S ks'->(∀ x,x∈ks'↔x∈ns)->ks'.length<=n->R (.ok (.ret .none)) s') ->
   m8 (aU prog w) A (.builtin "set.update.loop" ⟨[.ref S,.ref I],[]⟩) R s:=by
 have hSw:S∉wr:=λh=>hSf (W.sub _ h)
 have hsub:∀ b∈wr,b∈S::wr:=λb hb=>ag _ hb
 intro k
 induction k with
 | zero =>
  intro i s ks hk hi hst hS hm0 hle hR
  have hin:i=n:=by omega
  subst hin
  refine ji F.entry_set_update_loop ?_
  rw [gE F.plain_set_update_loop _]
  show aK _ A.in1 (jy (.ref I) >>= _) _ _ s
  refine ae (W.done s _ _ hst λs' hm=>?_)
  show aK _ A.in1 (ret c9) _ _ s'
  exact ao (hR s' ks (hm.mono hsub) (hS.keep λo e=>hm.heap S o hSw e) (λx=>by rw [hm0,← hl,Qs]) hle)
 | succ k ih =>
  intro i s ks hk hi hst hS hm0 hle hR
  have hlt:i<n:=by omega
  refine ji F.entry_set_update_loop ?_
  rw [gE F.plain_set_update_loop _]
  show aK _ A.in1 (jy (.ref I) >>= _) _ _ s
  refine ae (W.item i s _ _ hlt hst λv s' hP hst' hm=>?_)
  obtain ⟨c,t,hc,rfl⟩:=hval i v hP
  show aK _ A.in1 (n5 [gN c t] (setAdd S (.int c t)) >>= _) _ _ s'
  refine ae (cB ?_)
  unfold setAdd
  refine cB ?_
  refine ae ((pA prog w).pyHash (k:=c) (intKind_is _ _ _ _) ?_)
  refine Ro (s:={ s' with toks:=s'.toks+1 }) (hS.keep λo e=>hm.heap S o hSw e) (by omega) λh' ks' b hsb hS2 hmem hlen=>?_
  refine ao ⟨lg F.plain_set_update_loop _,ih (i+1) _ ks' (by omega) hlt (W.frame _ s' _ _ hst' (eV _) λb hb o e=>?_) hS2 (λx=>?_) (by omega) λs'' ks'' hm'' hS'' hmem'' hlen''=>?_⟩
  ·rw [hsb.2 b (λh:b=S=>hSf (by rw [← h];exact hb))];exact e
  ·rw [hmem,hm0,R8,hc,aP];simp
  ·refine hR s'' ks'' (Moved.trans W.gtrans ((hm.mono hsub).then_heap (eV _) λb o hb e=>?_) hm'') hS'' hmem'' hlen''
   rw [hsb.2 b (λh:b=S=>hb (by rw [h];exact aq))];exact e
theorem GN {l:af}{items:Array ai}{ns:List Int}{Q:ai->au->Prop}(hh:A.handled=none) (hl:s.heap.IsList l items) (hi:fS items.toList ns) (hb:items.size+1<sG)
  (h:∀ (h':cm) (tk:Nat) (ks:List Int),SO prog w (bt w) h' s.heap.objs.size ks->(∀ x,x∈ks↔x∈ns)->ks.length<=items.size->(∀ b o,s.heap.get? b=some o->h'.get? b=some o)->Q (.ref s.heap.objs.size) { s with heap:=h',toks:=tk }) :
  aK (aU prog w) A (call (.type "set") [.ref l]) Q E s:=by
 obtain ⟨c,tl,hmro⟩:=F.called_set.mro
 have hmade:=F.called_set.made
 have hsub:=F.called_set.sub
 refine LH (codeAny_of_tree ?_)
 show aK _ _ (callAny (.type "set") _) _ _ _
 refine ao ⟨Code.quiet_builtin _ (by decide +kernel),ji F.entry_type_call ?_⟩
 rw [Around.under_plain (weight_type_call_type "set" [.ref l] []) rfl]
 have h1:=F.called_set.notType
 have h2:=F.called_set.canCreate
 have hct:=F.typeCall_set_1 (.ref l)
 repeat (any_goals (first|assumption|wp_step))
 refine pC (M4 (.ref l) (E:=E) (Q₁:=λobj s₁=>obj=.ref s.heap.objs.size/\s₁={ s with heap:=s.heap.push { cls:=.type "set",dict:=none,data:=.set #[] 0 (.fresh 0 0 (!bt w)) } }) ⟨rfl,rfl⟩) λr s₁ hr=>?_
 cases r with
 | error e=>exact hr
 | ok fl =>
  cases fl with
  | ret obj =>
   obtain ⟨rfl,rfl⟩:=hr
   have hS:(s.heap.push { cls:=.type "set",dict:=none,data:=.set #[] 0 (.fresh 0 0 (!bt w)) }).get? s.heap.objs.size=some { cls:=.type "set",dict:=none,data:=.set #[] 0 (.fresh 0 0 (!bt w)) }:=aM _ rfl
   have hT:Shared.TypeIs { s with heap:=s.heap.push { cls:=.type "set",dict:=none,data:=.set #[] 0 (.fresh 0 0 (!bt w)) } } (.ref s.heap.objs.size) "set":=⟨_,hS,rfl⟩
   have hli:=F.called_set.init.lookup
   have hbi:=F.called_set.init.bind (.ref s.heap.objs.size)
   repeat (any_goals (first|assumption|wp_step))
   refine pC (codeAny_call_builtin (R:=wants (λr s₂=>r=.none/\∃ h' tk ks,s₂={ s with heap:=h',toks:=tk }/\SO prog w (bt w) h' s.heap.objs.size ks/\(∀ x,x∈ks↔x∈ns)/\ks.length<=items.size/\(∀ b o,s.heap.get? b=some o->h'.get? b=some o)) E) F.called_set.init.plain F.entry_set_init (check_set_init_1 hT ?_)) λr₂ s₂ hr₂=>?_
   ·obtain ⟨ol,hol,hcl,nl,hdl⟩:=hl
    obtain ⟨ocls,odict,odata,oslots⟩:=ol
    simp only at hcl hdl
    subst hcl;subst hdl
    have hol':(s.heap.push { cls:=.type "set",dict:=none,data:=.set #[] 0 (.fresh 0 0 (!bt w)) }).get? l=some { cls:=.type "list",dict:=odict,data:=.seq items nl,slots:=oslots }:=ax _ hol
    have hsls:=F.sub_list_set
    have hslf:=F.sub_list_frozenset
    have hne:(fg "list" == fg "dict")=false:=by decide
    have hl1:(s.heap.push { cls:=.type "set",dict:=none,data:=.set #[] 0 (.fresh 0 0 (!bt w)) }).IsList l items:=⟨_,hol',rfl,nl,rfl⟩
    unfold jW.«set.__init__» noKeywords RP
    generalize hPI:LD=PI
    wp_walk
    subst hPI
    refine FN hl1 ?_
    refine ae (wpAny_runValue ?_)
    have hlS:l<s.heap.objs.size:=aL hol
    have hh3:A.in1.in1.in1.handled=none:=by simp [hh]
    have hneI:l≠(s.heap.push { cls:=.type "set",dict:=none,data:=.set #[] 0 (.fresh 0 0 (!bt w)) }).objs.size:=by
     rw [jv];exact aW (sE hlS)
    have hSf:s.heap.objs.size∉[(s.heap.push { cls:=.type "set",dict:=none,data:=.set #[] 0 (.fresh 0 0 (!bt w)) }).objs.size,l]:=by
     rw [jv];simp only [ak,aC,dP,or_false,not_or]
     exact ⟨aW (lQ _),eO hlS⟩
    have hlen:=hi.length
    rw [aT] at hlen
    have hval:∀ (i:Nat) (v:ai),items[i]?=some v->∃ k t,ns[i]?=some k/\v=.int k t:=λi v hv=>by
     obtain ⟨t,e⟩:=Os hi i v (by rw [dj];exact hv)
     have hlt:=(iq.mp hv).1
     have:ns[i]?=some (ns.getD i 0):=by rw [lh,ar (by omega)];rfl
     exact ⟨_,t,this,e⟩
    refine O5 ((Walks.list hh3 _ l hneI items).toS) s.heap.objs.size hSf ns hlen.symm hval hb (items.size-0) 0 _ [] (by omega) (a9 _)
     ⟨⟨_,aM _ rfl,rfl,rfl⟩,(hl1.push _)⟩ ?hS0 (λx=>by simp) (aw _) ?hR
    case hS0 =>
     have hget:((s.heap.push { cls:=.type "set",dict:=none,data:=.set #[] 0 (.fresh 0 0 (!bt w)) }).push { cls:=.type "list_iterator",data:=.fields #[.ref l,.int 0 0] }).get? s.heap.objs.size
       = some { cls:=.type "set",dict:=none,data:=.set #[] 0 (.fresh 0 0 (!bt w)) }:=ax _ hS
     exact ⟨_,#[],0,_,hget,⟨rfl,rfl,rfl⟩,rfl,(λe he=>by simp at he),(λe he=>by simp at he),by decide,rfl,TI.fresh _ _ _,rfl,rfl,vC⟩
    case hR =>
     intro s' ks' hm hS' hmem hlen'
     obtain ⟨h',g',d',tk',os'⟩:=s'
     have eg:g'=s.gens:=hm.gens
     have ed:d'=s.drawn:=hm.drawn
     have eo:os'=s.os:=hm.os
     subst eg;subst ed;subst eo
     show aK _ _ _ _ _ _
     refine ao ?_
     show aK _ _ (ret c9) _ _ _
     refine ao ⟨rfl,h',tk',ks',rfl,hS',hmem,hlen',λb o e=>?_⟩
     have hb:=aL e
     have hb1:b≠s.heap.objs.size:=aW hb
     have hb2:b≠(s.heap.push { cls:=.type "set",dict:=none,data:=.set #[] 0 (.fresh 0 0 (!bt w)) }).objs.size:=by
      rw [jv];exact aW (sE hb)
     exact hm.heap b o (by simp only [ak,aC,dP,or_false,not_or];exact ⟨hb1,hb2⟩) (ax _ (ax _ e))
   ·cases r₂ with
    | error e=>exact hr₂
    | ok fl₂ =>
     cases fl₂ with
     | ret r =>
      obtain ⟨rfl,h',tk,ks,rfl,hS',hm',hl',hk'⟩:=hr₂
      repeat (any_goals (first|assumption|wp_step))
      exact h _ _ _ hS' hm' hl' hk'
     | _=>exact hr₂.elim
  | _=>exact hr.elim
end
end Sw
namespace Sw
open PySem PySem.Spec PyProof.Rows
theorem GO:Manifest.owners.lookup (String.ofList ['r','o','t','a','r','e','t','i','_','t','e','s'].reverse)=some Manifest.sig_set_iterator:=by kernel_rfl
theorem fw:Slot "set_iterator" "__next__" "set_iterator.__next__" :=
 .of (owner:="set_iterator") (n:="__next__") (by rw [xi,qh];kernel_rfl) (by decide +kernel) (by decide +kernel) (by decide +kernel)
  (by first|exact .inl (by decide +kernel)|exact .inr (by decide +kernel)) (by rw [LP];kernel_rfl)
theorem nT:entryFor table "set_iterator.__next__"=some jW.«set_iterator.__next__»:=entryFor_of_tree (by kernel_rfl)
theorem oY (a:ai):argsOk "set_iterator.__next__" ⟨[a],[]⟩:=by
 unfold argsOk;rw [signature?_of (id:="set_iterator.__next__") (n:=['_','_','t','x','e','n','_','_']) (o:=['r','o','t','a','r','e','t','i','_','t','e','s']) (by kernel_rfl) GO];kernel_rfl
theorem vU:Slot "set_iterator" "__iter__" "set_iterator.__iter__" :=
 .of (owner:="set_iterator") (n:="__iter__") (by rw [xi,qh];kernel_rfl) (by decide +kernel) (by decide +kernel) (by decide +kernel)
  (by first|exact .inl (by decide +kernel)|exact .inr (by decide +kernel)) (by rw [LP];kernel_rfl)
theorem El (a:ai):argsOk "set_iterator.__iter__" ⟨[a],[]⟩:=by
 unfold argsOk;rw [signature?_of (id:="set_iterator.__iter__") (n:=['_','_','r','e','t','i','_','_']) (o:=['r','o','t','a','r','e','t','i','_','t','e','s']) (by kernel_rfl) GO];kernel_rfl
theorem BO:entryFor table "set_iterator.__iter__"=some jW.«dict_keyiterator.__iter__» :=
 entryFor_alias (id':="dict_keyiterator.__iter__") (by kernel_rfl) rfl (by decide +kernel) (by kernel_rfl)
theorem Aq:entryFor table "set.__iter__"=some jW.«frozenset.__iter__» :=
 entryFor_alias (id':="frozenset.__iter__") (by kernel_rfl) rfl (by decide +kernel) (by kernel_rfl)
theorem Ar {α:Type} {l:List α}{i:Nat}(h:i<l.length):(l[i]::l.eraseIdx i).Perm l:=by
 rw [List.eraseIdx_eq_take_drop_succ]
 have e:l=l.take i++l[i]::l.drop (i+1):=by rw [List.getElem_cons_drop,iF]
 conv=>rhs;rw [e]
 exact BF.symm
theorem Dy {α:Type} (next:Nat->Nat):∀ (fuel k:Nat) (left:List α) (out:Array α),fuel=left.length->(FR next fuel k left out).toList.Perm (out.toList++left)
 | 0,k,left,out,h=>by
  have:left=[]:=jS h.symm
  subst this;simp [FR]
 | fuel+1,k,left,out,h=>by
  unfold FR
  have hlt:next k%left.length<left.length:=Nat.mod_lt _ (by omega)
  rw [ar hlt]
  dsimp only
  refine (Dy next fuel _ _ _ (by rw [Me];simp [hlt];omega)).trans ?_
  rw [zy,dS]
  refine sP _ ?_
  exact Ar hlt
def IsSI (h:cm) (it:af) (first:ai) (i:Nat) (a:af) (n ep:Nat):Prop:=∃ o,h.get? it=some o/\o.cls=.type "set_iterator"/\o.data=.fields #[first,cw i,.ref a,cw n,cw ep]
theorem IsSI.keep {h h':cm}{it a:af}{first:ai}{i n ep:Nat}(x:IsSI h it first i a n ep) (k:∀ o,h.get? it=some o->h'.get? it=some o):IsSI h' it first i a n ep:=let ⟨o,e,r⟩:=x;⟨o,k o e,r⟩
def RS (h:cm) (a:af) (es:Array (Int×ai)) (ep:Nat) (t:gJ):Prop:=∃ o,h.get? a=some o/\o.ExactSet/\o.data=.set es ep t/\t.fits es.size=true
theorem RS.keep {h h':cm}{a:af}{es:Array (Int×ai)}{ep:Nat}{t:gJ}(x:RS h a es ep t) (k:∀ o,h.get? a=some o->h'.get? a=some o):RS h' a es ep t:=let ⟨o,e,r⟩:=x;⟨o,k o e,r⟩
section
variable {prog:bp}{w:b8}{A:cp}{E:ai->au->Prop}{s:au}{it a:af}{es:Array (Int×ai)}{ep n:Nat}{t:gJ}
theorem Ke {first:ai}{i:Nat}{Q:ai->au->Prop}(x:IsSI s.heap it first i a n ep) (h:Q (.ref it) s):aK (aU prog w) A (LD (.ref it)) Q E s:=by
 have hT:s.TypeIs (.ref it) "set_iterator":=let ⟨o,e,c,_⟩:=x;⟨o,e,c⟩
 refine FQ hT vU (cH vU hT BO ?_ (El _))
 show aK _ _ (ret (.ref it)) _ _ s
 exact ao ⟨_,rfl,"set_iterator",_,hT,fw.lookup,h⟩
def Ord (w:b8) (a:af) (es:Array (Int×ai)) (ep:Nat) (t:gJ) (vs:List ai) (sl:Nat->Nat):Prop :=
 sl 0=0/\vs.length=es.size/\((bt w=true/\vs=(zN (w.params.setOrder a ep) es).toList.map (·.2)/\∀ i,sl i=0) \/
  (bt w=false/\vs=es.toList.map (·.2)/\(!t.plain && decide (es.size>1))=false/\(t.led=true)/\Rise t.place/\∀ i p,t.place[i]?=some p->sl (i+1)=p+1))
theorem La {i:Nat}{v:ai}{vs:List ai}{sl:Nat->Nat}{Q:Option ai->au->Prop}(x:IsSI s.heap it (cw (sl i)) i a es.size ep) (r:RS s.heap a es ep t) (o:Ord w a es ep t vs sl) (hv:vs[i]?=some v)
  (q:∀ h',IsSI h' it (cw (sl (i+1))) (i+1) a es.size ep->ig it s.heap h'->Q (some v) { s with heap:=h' }):aK (aU prog w) A (jy (.ref it)) Q E s:=by
 have hT:s.TypeIs (.ref it) "set_iterator":=let ⟨o,e,c,_⟩:=x;⟨o,e,c⟩
 obtain ⟨ob,g,gc,gd⟩:=x
 obtain ⟨oa,ra,rx,rd,rf⟩:=r
 unfold jy
 refine ae (jB (cZ (name:=gI "__next__") hT fw (cH fw hT nT ?_ (oY _))))
 unfold jW.«set_iterator.__next__»
 refine ae (m:=LQ "__next__" 0 _) (ao ?_)
 refine ae (pH g gd ?_)
 show aK _ _ (LR a >>= _) _ _ s
 refine ae (jY ra rd rf ?_)
 rw [if_neg (by simp)]
 show aK _ _ (Kw a ((sl i:Nat):Int).toNat ((i:Nat):Int).toNat ((ep:Nat):Int).toNat >>= _) _ _ s
 simp only [hV]
 have nxt:aK (aU prog w) A.in1 (Kw a (sl i) i ep) (λz s'=>z=some (v,sl (i+1))/\s'=s) (λ_ _=>False) s:=by
  unfold Kw
  refine ae (ju ra rd rf ?_)
  dsimp only
  refine ae ?_
  unfold Dc
  refine ae (iT (ao ?_))
  obtain ⟨o0,o1,⟨b1,b2,b3⟩|⟨b1,b2,b3,b4,b5,b6⟩⟩:=o
  ·have b1':(({ program:=(aU prog w).prog,params:=(aU prog w).w.params }:Setting).params.followText "set-order")=true:=b1
   rw [b1']
   simp only [↓reduceIte]
   rw [if_neg (by simp)]
   refine ae ?_
   unfold setWalk
   refine ae (ju ra rd rf ?_)
   dsimp only
   refine ae ?_
   unfold Dc
   refine ae (iT (ao ?_))
   rw [b1']
   simp only [↓reduceIte]
   refine ae (iT (ao (ao ⟨?_,rfl⟩)))
   have hv':=hv
   rw [b2,ay,dj] at hv'
   show xj (λe=>(e.2,sl i)) (zN (w.params.setOrder a ep) es)[i]?=_
   obtain ⟨e,he,ev⟩:=bc.mp hv'
   rw [he,b3 i,b3 (i+1)]
   simp [ev]
  ·have b1':(({ program:=(aU prog w).prog,params:=(aU prog w).w.params }:Setting).params.followText "set-order")=false:=b1
   rw [b1']
   simp only [cf,↓reduceIte]
   refine k9 (λhd=>absurd (show (!t.plain && decide (es.size>1))=true from hd) (by rw [b3];decide)) (λ_=>ae ?_)
   show aK _ _ (if (!t.led && !es.isEmpty)=true then _ else _) _ _ _
   rw [if_neg (by rw [b4];simp)]
   refine ao (ao ⟨?_,rfl⟩)
   have hlt:i<es.size:=by rw [← o1];exact (aB.mp hv).1
   have hfs:t.place.size=es.size:=by
    have:=rf
    unfold PJ at this
    simp at this
    exact this.1
   have hp:t.place[i]?=some (t.place[i]'(by omega)):=bZ _
   have hbel:dG t.place (sl i)=i:=by
    refine GK b5 ?_
    cases i with
    | zero=>exact .inl ⟨rfl,o0⟩
    | succ k =>
     have hk:t.place[k]?=some (t.place[k]'(by omega)):=bZ _
     exact .inr ⟨k,rfl,_,hk,b6 k _ hk⟩
   rw [hbel,hp,b6 i _ hp]
   rw [b2,ay,dj] at hv
   obtain ⟨e,he,ev⟩:=bc.mp hv
   rw [he]
   obtain ⟨e1,e2⟩:=e
   simp at ev
   simp [ev]
 refine ae (gf nxt (λz s' hz=>?_) λ_ _ x=>x.elim)
 obtain ⟨rfl,rfl⟩:=hz
 dsimp only
 have g1:=bP (pP (·.setIfInBounds 0 (cw ((sl (i+1):Nat):Int)))) g (kR (dg gd _))
 refine ae (j4 g gd (by simp) (ae (j4 g1 (dg gd _) (by simp) ?_)))
 have g2:=bP (pP (·.setIfInBounds 1 (cw ((i:Int)+1)))) g1 (kR (dg (dg gd _) _))
 refine ao ⟨_,rfl,ao (q _ ⟨_,g2,(sF ..).trans ((sF ..).trans gc),?_⟩ ((cD ..).trans (cD ..)))⟩
 rw [dg (dg gd _)]
 simp [cw]
theorem M5 {vs:List ai}{sl:Nat->Nat}{Q:Option ai->au->Prop}(hh:A.handled=none) (x:IsSI s.heap it (cw (sl vs.length)) vs.length a es.size ep) (r:RS s.heap a es ep t) (o:Ord w a es ep t vs sl)
  (q:∀ h',Md it s.heap h'->Q none { s with heap:=h' }):aK (aU prog w) A (jy (.ref it)) Q E s:=by
 have hT:s.TypeIs (.ref it) "set_iterator":=let ⟨o,e,c,_⟩:=x;⟨o,e,c⟩
 obtain ⟨ob,g,gc,gd⟩:=x
 obtain ⟨oa,ra,rx,rd,rf⟩:=r
 unfold jy
 refine ae (jB (cZ (name:=gI "__next__") hT fw (cH fw hT nT ?_ (oY _))))
 unfold jW.«set_iterator.__next__»
 refine ae (m:=LQ "__next__" 0 _) (ao ?_)
 refine ae (pH g gd ?_)
 show aK _ _ (LR a >>= _) _ _ s
 refine ae (jY ra rd rf ?_)
 rw [if_neg (by simp)]
 show aK _ _ (Kw a ((sl vs.length:Nat):Int).toNat ((vs.length:Nat):Int).toNat ((ep:Nat):Int).toNat >>= _) _ _ s
 simp only [hV]
 have nxt:aK (aU prog w) A.in1 (Kw a (sl vs.length) vs.length ep) (λz s'=>z=none/\s'=s) (λ_ _=>False) s:=by
  unfold Kw
  refine ae (ju ra rd rf ?_)
  dsimp only
  refine ae ?_
  unfold Dc
  refine ae (iT (ao ?_))
  obtain ⟨o0,o1,⟨b1,b2,b3⟩|⟨b1,b2,b3,b4,b5,b6⟩⟩:=o
  ·have b1':(({ program:=(aU prog w).prog,params:=(aU prog w).w.params }:Setting).params.followText "set-order")=true:=b1
   rw [b1']
   simp only [↓reduceIte]
   rw [if_neg (by simp)]
   refine ae ?_
   unfold setWalk
   refine ae (ju ra rd rf ?_)
   dsimp only
   refine ae ?_
   unfold Dc
   refine ae (iT (ao ?_))
   rw [b1']
   simp only [↓reduceIte]
   refine ae (iT (ao (ao ⟨?_,rfl⟩)))
   show xj (λe=>(e.2,sl vs.length)) (zN (w.params.setOrder a ep) es)[vs.length]?=_
   rw [jR (by have h:=o1;rw [b2,aj,aT] at h;rw [o1];exact BB h)]
   rfl
  ·have b1':(({ program:=(aU prog w).prog,params:=(aU prog w).w.params }:Setting).params.followText "set-order")=false:=b1
   rw [b1']
   simp only [cf,↓reduceIte]
   refine k9 (λhd=>absurd (show (!t.plain && decide (es.size>1))=true from hd) (by rw [b3];decide)) (λ_=>ae ?_)
   show aK _ _ (if (!t.led && !es.isEmpty)=true then _ else _) _ _ _
   rw [if_neg (by rw [b4];simp)]
   refine ao (ao ⟨?_,rfl⟩)
   have hfs:t.place.size=es.size:=by
    have:=rf
    unfold PJ at this
    simp at this
    exact this.1
   have hbel:dG t.place (sl vs.length)=vs.length:=by
    refine GK b5 ?_
    cases e:vs.length with
    | zero=>exact .inl ⟨rfl,o0⟩
    | succ k =>
     have hk:t.place[k]?=some (t.place[k]'(by omega)):=bZ _
     exact .inr ⟨k,rfl,_,hk,b6 k _ hk⟩
   rw [hbel,jR (by omega)]
 refine ae (gf nxt (λz s' hz=>?_) λ_ _ x=>x.elim)
 obtain ⟨rfl,rfl⟩:=hz
 dsimp only
 refine ae (j4 g gd (by simp) ?_)
 show aK _ _ (PB (.type "StopIteration") [] >>= _) _ _ _
 refine ae ?_
 simp only [PB,newTuple]
 refine ae (cI ?_ (by size_fits))
 refine ae (m:=pI _ _) (HW (a:=c9) (by first|rfl|(simp only [pI];rfl)) ?_)
 refine cI ?_ (by size_fits)
 simp only [raiseNew]
 refine ae (Oc ?_)
 rw [show A.in1.handled=none from hh]
 refine ae (ao (RN ?_))
 refine ae (qm (T:="StopIteration") (b:=true) ⟨_,aM _ rfl,rfl⟩ zx ?_)
 exact ao (q _ (((cD ..).extBut.push _).push _))
theorem Lb (hh:A.handled=none) (I a:af) (hne:a≠I) {vs:List ai}{sl:Nat->Nat}(o:Ord w a es ep t vs sl) :
  Walks prog w A I [I,a] [I] vs.length (λi v=>vs[i]?=some v) (λi h=>IsSI h I (cw (sl i)) i a es.size ep/\RS h a es ep t) where
 sub:=λb hb=>by simp at hb;simp [hb]
 frame:=λ_ _ _ st hk=>⟨st.1.keep λo e=>hk I (by simp) o e,st.2.keep λo e=>hk a (by simp) o e⟩
 item:=λi s Q E hi st hQ=>by
  have hv:vs[i]?=some vs[i]:=ar hi
  exact La st.1 st.2 o hv λh' x' hs'=>hQ _ h' s.toks hv ⟨x',st.2.keep λo e=>hs'.extBut a o hne e⟩ λb o hb e=>hs'.extBut b o (λh=>hb (by simp [h])) e
 done:=λs Q E st hQ=>M5 hh st.1 st.2 o λh' he=>hQ h' s.toks λb o hb e=>he b o (λh=>hb (by simp [h])) e
 self:=λ_ _ _ _ st hQ=>Ke st.1 hQ
end
end Sw
namespace Sw
open PySem PySem.Spec PyProof.Rows
section
variable {prog:bp}{w:b8}{A:cp}{E:ai->au->Prop}{s:au}{it a:af}{es:Array (Int×ai)}{ep n:Nat}{t:gJ}
theorem Lc {M:Model}{src:Source}{k:Nat}{Q:Nat->au->Prop}(hk:k≠0) (h:∀ i d,i<k->Q i { s with drawn:=d }):aK M A (choose src k) Q E s :=
 λΓ p hΓ=>⟨hk,h _ _ (Nat.mod_lt _ (Nat.pos_of_ne_zero hk))⟩
theorem Kf {α:Type}:∀ (k:Nat) (xs:List α) {s:au}{Q:List α->au->Prop},xs.length=k->(∀ ys d,ys.Perm xs->Q ys { s with drawn:=d })->aK (aU prog w) A (drawOrder k xs) Q E s
 | 0,xs,s,Q,hl,h=>by
  have:xs=[]:=jS hl
  subst this
  exact ao (h [] s.drawn (nc _))
 | k+1,[],s,Q,hl,h=>by simp at hl
 | k+1,x::xs,s,Q,hl,h=>by
  unfold drawOrder
  refine ae (Lc (by simp) λi d hi=>?_)
  rw [ar hi]
  dsimp only
  refine ae (Kf k _ (by rw [Me,if_pos hi];omega) λys d' hp=>ao (h _ d' ?_))
  exact (hp.cons _).trans (Ar hi)
structure Dr (h:cm) (T:af) (es:Array (Int×ai)) (ord:List Nat) (vs:List ai):Prop where
 tup:∃ o,h.get? T=some o/\o.data=.seq (ord.map λ(i:Nat)=>cw (i:Int)).toArray 0
 len:vs.length=ord.length
 at_:∀ (i:Nat) p,ord[i]?=some p->∃ e,es[p]?=some e/\vs[i]?=some e.2
theorem O6 {T:af}{ord:List Nat}{i:Nat}{v:ai}{vs:List ai}{Q:Option ai->au->Prop}(x:IsSI s.heap it (.ref T) i a es.size ep) (r:RS s.heap a es ep t) (o:Dr s.heap T es ord vs) (hv:vs[i]?=some v)
  (q:∀ h',IsSI h' it (.ref T) (i+1) a es.size ep->ig it s.heap h'->Q (some v) { s with heap:=h' }):aK (aU prog w) A (jy (.ref it)) Q E s:=by
 have hT:s.TypeIs (.ref it) "set_iterator":=let ⟨o,e,c,_⟩:=x;⟨o,e,c⟩
 obtain ⟨ob,g,gc,gd⟩:=x
 obtain ⟨oa,ra,rx,rd,rf⟩:=r
 obtain ⟨⟨ot,gt,gtd⟩,ol,oat⟩:=o
 have hi:i<ord.length:=by rw [← ol];exact (aB.mp hv).1
 obtain ⟨e,he,hve⟩:=oat i _ (ar hi)
 rw [hv] at hve
 cases hve
 unfold jy
 refine ae (jB (cZ (name:=gI "__next__") hT fw (cH fw hT nT ?_ (oY _))))
 unfold jW.«set_iterator.__next__»
 refine ae (m:=LQ "__next__" 0 _) (ao ?_)
 refine ae (pH g gd ?_)
 show aK _ _ (LR a >>= _) _ _ s
 refine ae (jY ra rd rf ?_)
 rw [if_neg (by simp)]
 show aK _ _ (zO (.ref T) >>= _) _ _ s
 have sq:aK (aU prog w) A.in1 (zO (.ref T)) (λz s'=>z=some (ord.map λ(i:Nat)=>cw (i:Int)).toArray/\s'=s) (λ_ _=>False) s:=by
  unfold zO
  refine ae (LF gt ?_)
  rw [gtd]
  exact ao ⟨rfl,rfl⟩
 refine ae (gf sq (λz s' hz=>?_) λ_ _ x=>x.elim)
 obtain ⟨rfl,rfl⟩:=hz
 dsimp only
 have hpi:(ord.map λ(i:Nat)=>cw (i:Int)).toArray[((i:Nat):Int).toNat]?=some (cw (ord[i]:Int)):=by
  rw [hV,LS,ay,ar hi];rfl
 show aK _ _ (match (ord.map λ(i:Nat)=>cw (i:Int)).toArray[((i:Nat):Int).toNat]? with|some (.int place _)=>_|some _=>_|none=>_) _ _ _
 rw [hpi]
 show aK _ _ (setNextDrawn a ((ord[i]:Nat):Int).toNat ((ep:Nat):Int).toNat >>= _) _ _ _
 simp only [hV]
 refine ae ?_
 unfold setNextDrawn
 refine ae (ju ra rd rf ?_)
 dsimp only
 rw [if_neg (by simp),he]
 refine ao (ae (j4 g gd (by simp) ?_))
 have g1:=bP (pP (·.setIfInBounds 1 (cw ((i:Int)+1)))) g (kR (dg gd _))
 refine ao ⟨_,rfl,ao (q _ ⟨_,g1,(sF ..).trans gc,?_⟩ (cD ..))⟩
 rw [dg gd]
 simp [cw]
theorem Rp {T:af}{ord:List Nat}{vs:List ai}{Q:Option ai->au->Prop}(hh:A.handled=none) (x:IsSI s.heap it (.ref T) vs.length a es.size ep) (r:RS s.heap a es ep t) (o:Dr s.heap T es ord vs)
  (q:∀ h',Md it s.heap h'->Q none { s with heap:=h' }):aK (aU prog w) A (jy (.ref it)) Q E s:=by
 have hT:s.TypeIs (.ref it) "set_iterator":=let ⟨o,e,c,_⟩:=x;⟨o,e,c⟩
 obtain ⟨ob,g,gc,gd⟩:=x
 obtain ⟨oa,ra,rx,rd,rf⟩:=r
 obtain ⟨⟨ot,gt,gtd⟩,ol,oat⟩:=o
 unfold jy
 refine ae (jB (cZ (name:=gI "__next__") hT fw (cH fw hT nT ?_ (oY _))))
 unfold jW.«set_iterator.__next__»
 refine ae (m:=LQ "__next__" 0 _) (ao ?_)
 refine ae (pH g gd ?_)
 show aK _ _ (LR a >>= _) _ _ s
 refine ae (jY ra rd rf ?_)
 rw [if_neg (by simp)]
 show aK _ _ (zO (.ref T) >>= _) _ _ s
 have sq:aK (aU prog w) A.in1 (zO (.ref T)) (λz s'=>z=some (ord.map λ(i:Nat)=>cw (i:Int)).toArray/\s'=s) (λ_ _=>False) s:=by
  unfold zO
  refine ae (LF gt ?_)
  rw [gtd]
  exact ao ⟨rfl,rfl⟩
 refine ae (gf sq (λz s' hz=>?_) λ_ _ x=>x.elim)
 obtain ⟨rfl,rfl⟩:=hz
 dsimp only
 have hpi:(ord.map λ(i:Nat)=>cw (i:Int)).toArray[((vs.length:Nat):Int).toNat]?=none:=by
  rw [hV,LS,ay,cV (by omega)];rfl
 show aK _ _ (match (ord.map λ(i:Nat)=>cw (i:Int)).toArray[((vs.length:Nat):Int).toNat]? with|some (.int place _)=>_|some _=>_|none=>_) _ _ _
 rw [hpi]
 dsimp only
 have g1:=bP (pP (·.setIfInBounds 0 (cw 0))) g (kR (dg gd _))
 refine ae (j4 g gd (by simp) (ae (j4 g1 (dg gd _) (by simp) ?_)))
 show aK _ _ (PB (.type "StopIteration") [] >>= _) _ _ _
 refine ae ?_
 simp only [PB,newTuple]
 refine ae (cI ?_ (by size_fits))
 refine ae (m:=pI _ _) (HW (a:=c9) (by first|rfl|(simp only [pI];rfl)) ?_)
 refine cI ?_ (by size_fits)
 simp only [raiseNew]
 refine ae (Oc ?_)
 rw [show A.in1.handled=none from hh]
 refine ae (ao (RN ?_))
 refine ae (qm (T:="StopIteration") (b:=true) ⟨_,aM _ rfl,rfl⟩ zx ?_)
 exact ao (q _ ((((cD ..).trans (cD ..)).extBut.push _).push _))
theorem M6 (hh:A.handled=none) (I a T:af) (hne:a≠I) (hnT:T≠I) {ord:List Nat}{vs:List ai} :
  Walks prog w A I [I,a,T] [I] vs.length (λi v=>vs[i]?=some v) (λi h=>IsSI h I (.ref T) i a es.size ep/\RS h a es ep t/\Dr h T es ord vs) where
 sub:=λb hb=>by simp at hb;simp [hb]
 frame:=λ_ _ _ st hk=>⟨st.1.keep λo e=>hk I (by simp) o e,st.2.1.keep λo e=>hk a (by simp) o e,let ⟨o,e,d⟩:=st.2.2.tup;⟨⟨o,hk T (by simp) o e,d⟩,st.2.2.len,st.2.2.at_⟩⟩
 item:=λi s Q E hi st hQ=>by
  have hv:vs[i]?=some vs[i]:=ar hi
  exact O6 st.1 st.2.1 st.2.2 hv λh' x' hs'=>hQ _ h' s.toks hv ⟨x',st.2.1.keep λo e=>hs'.extBut a o hne e,let ⟨o,e,d⟩:=st.2.2.tup;⟨⟨o,hs'.extBut T o hnT e,d⟩,st.2.2.len,st.2.2.at_⟩⟩ λb o hb e=>hs'.extBut b o (λh=>hb (by simp [h])) e
 done:=λs Q E st hQ=>Rp hh st.1 st.2.1 st.2.2 λh' he=>hQ h' s.toks λb o hb e=>he b o (λh=>hb (by simp [h])) e
 self:=λ_ _ _ _ st hQ=>Ke st.1 hQ
theorem M7 {ks:List Int}{Q:ai->au->Prop}(hh:A.handled=none) (hS:SO prog w (bt w) s.heap a ks)
  (q:∀ I h1 d (vs:List ai) (ns:List Int) fp St,Walks prog w A I fp [I] vs.length (λi v=>vs[i]?=some v) St->St 0 h1->(∀ b o,s.heap.get? b=some o->h1.get? b=some o)->I∈fp->(∀ b∈fp,b=a\/s.heap.objs.size<=b)->s.heap.objs.size<=I->fS vs ns->ns.Perm ks->Q (.ref I) { s with heap:=h1,drawn:=d }) :
  aK (aU prog w) A (LD (.ref a)) Q E s:=by
 have hlt:=hS.lt
 obtain ⟨o,es,ep,t,ho,hex,hd,hel,hin,hb,hf,ti,hled,rfl,hnd⟩:=hS
 have hT:s.TypeIs (.ref a) "set":=⟨o,ho,hex.1⟩
 have hints:∀ {l:List (Int×ai)},(∀ e∈l,∃ u,e.2=.int (key e) u)->fS (l.map (·.2)) (l.map key):=by
  intro l
  induction l with
  | nil=>intro _;exact .nil
  | cons e l ih =>
   intro h
   obtain ⟨u,eu⟩:=h e aq
   rw [bV,bV,eu]
   exact .cons _ _ (ih λe' he'=>h e' (ag _ he'))
 refine FQ hT F.slot_set_iter (cH F.slot_set_iter hT Aq ?_ (F.args_set_iter_1 _))
 unfold jW.«frozenset.__iter__» pK LQ
 simp only [List.isEmpty_nil,Bool.not_true,cf,↓reduceIte,bind_assoc,qg,bne_self_eq_false]
 unfold RQ xa
 refine ae (ao ?_)
 try dsimp only
 refine ae (ao ?_)
 refine ae (ae (jY ho hd hf (ao ?_)))
 refine ae ?_
 unfold setDrawn
 refine ae (ju ho hd hf ?_)
 dsimp only
 refine ae ?_
 unfold Dc
 refine ae (iT (ao (ao ?_)))
 have hz:es.size<=a0:=uq hb
 have hrs:RS s.heap a es ep t:=⟨o,ho,hex,hd,hf⟩
 refine k9 (λhdr=>?_) (λhdr=>?_)
 ·refine ae (Kf es.size (gh es.size) (zQ) λord d hp=>?_)
  have hol:ord.length=es.size:=by rw [hp.length_eq,zQ]
  refine ae (zu ?_ (by rw [aj,hol];exact hz))
  have k1:∀ b ob,s.heap.get? b=some ob->(s.heap.push (bD "tuple" (ord.map λ(i:Nat)=>cw (i:Int)).toArray 0)).get? b=some ob:=λb ob e=>ax _ e
  have gT:(s.heap.push (bD "tuple" (ord.map λ(i:Nat)=>cw (i:Int)).toArray 0)).get? s.heap.objs.size=some (bD "tuple" (ord.map λ(i:Nat)=>cw (i:Int)).toArray 0):=aM _ rfl
  have hsz:(s.heap.push (bD "tuple" (ord.map λ(i:Nat)=>cw (i:Int)).toArray 0)).objs.size=s.heap.objs.size+1:=jv ..
  generalize s.heap.push (bD "tuple" (ord.map λ(i:Nat)=>cw (i:Int)).toArray 0)=h0 at k1 gT hsz
  refine ae (wpAny_setEpoch_of (s:={ s with heap:=h0,drawn:=d }) (k1 _ _ ho) hd hf ?_)
  unfold newFields
  refine ae (cI (ao ⟨_,rfl,"set_iterator",_,⟨_,aM _ rfl,rfl⟩,fw.lookup,?_⟩))
  have hmem:∀ p∈ord,p<es.size:=λp hpm=>by simpa using hp.mem_iff.mp hpm
  have hget:∀ p,p<es.size->es[p]?=some (es.getD p (0,.none)):=λp hp'=>by rw [bZ hp'];simp [qO,hp']
  have hperm:(ord.map λp=>es.getD p (0,.none)).Perm es.toList:=by
   refine (hp.map _).trans ?_
   have:(gh es.size).map (λp=>es.getD p (0,.none))=es.toList:=by
    apply n9
    intro i
    rw [ay]
    by_cases hi:i<es.size
    ·rw [Oa hi,dj,hget i hi];rfl
    ·rw [cV (by rw [zQ];omega),cV (by rw [aT];omega)];rfl
   rw [this]
  have hsub:∀ e∈ord.map (λp=>es.getD p (0,.none)),∃ u,e.2=.int (key e) u:=λe he=>hin e (hperm.mem_iff.mp he)
  have hst:IsSI (h0.push { cls:=.type "set_iterator",data:=.fields [aI s.heap.objs.size,cw 0,.ref a,cw es.size,cw ep].toArray }) h0.objs.size (.ref s.heap.objs.size) 0 a es.size ep:=⟨_,aM _ rfl,rfl,rfl⟩
  have haI:a≠h0.objs.size:=by rw [hsz];exact aW (sE hlt)
  have hTI:s.heap.objs.size≠h0.objs.size:=by rw [hsz];exact aW (lQ _)
  refine q h0.objs.size _ d ((ord.map λp=>es.getD p (0,.none)).map (·.2)) ((ord.map λp=>es.getD p (0,.none)).map key) [h0.objs.size,a,s.heap.objs.size] _ (M6 (es:=es) (ep:=ep) (t:=t) (ord:=ord) hh h0.objs.size a s.heap.objs.size haI hTI) ⟨hst,hrs.keep λob e=>ax _ (k1 _ _ e),⟨_,ax _ gT,rfl⟩,by rw [aj,aj],λi p hip=>?_⟩
   (λb ob e=>ax _ (k1 _ _ e)) (by simp) (λb hb'=>?_) (by rw [hsz];exact eV _) (hints hsub) (hperm.map key)
  ·have hpl:=hmem p (aG hip)
   exact ⟨_,hget p hpl,by rw [ay,ay,hip];rfl⟩
  ·simp only [ak,dP,or_false] at hb'
   rcases hb' with rfl|rfl|rfl
   ·exact .inr (by rw [hsz];exact eV _)
   ·exact .inl rfl
   ·exact .inr (aw _)
 ·refine ae (ao (ae (wpAny_setEpoch_of ho hd hf ?_)))
  unfold newFields
  refine ae (cI (ao ⟨_,rfl,"set_iterator",_,⟨_,aM _ rfl,rfl⟩,fw.lookup,?_⟩))
  have hst:IsSI (s.heap.push { cls:=.type "set_iterator",data:=.fields [cw 0,cw 0,.ref a,cw es.size,cw ep].toArray }) s.heap.objs.size (cw 0) 0 a es.size ep:=⟨_,aM _ rfl,rfl,rfl⟩
  obtain ⟨vs,sl,ns,hord,hiv,hpn⟩:∃ vs sl ns,Ord w a es ep t vs sl/\fS vs ns/\ns.Perm (es.toList.map key):=by
   by_cases hbt:bt w=true
   ·have hpp:=Dy (w.params.setOrder a ep) es.size 0 es.toList #[] (aT).symm
    rw [show (#[]:Array (Int×ai)).toList++es.toList=es.toList by simp] at hpp
    have hpp:(zN (w.params.setOrder a ep) es).toList.Perm es.toList:=hpp
    exact ⟨(zN (w.params.setOrder a ep) es).toList.map (·.2),λ_=>0,(zN (w.params.setOrder a ep) es).toList.map key,⟨rfl,by rw [aj,hpp.length_eq,aT],.inl ⟨hbt,rfl,λ_=>rfl⟩⟩,hints λe he=>hin e (hpp.mem_iff.mp he),hpp.map key⟩
   ·have hbf:bt w=false:=by cases h:bt w<;>simp_all
    refine ⟨es.toList.map (·.2),λi=>match i with|0=>0|k+1=>t.place.getD k 0+1,es.toList.map key,⟨rfl,by rw [aj,aT],.inr ⟨hbf,rfl,?_,by rw [hled,hbf];rfl,ti.rise,λi p hp=>?_⟩⟩,hints hin,nc _⟩
    ·cases hx:(!t.plain && decide (es.size>1)) with
     | false=>rfl
     | true =>
      refine absurd ?_ hdr
      show (!(w.params.followText "set-order") && (!t.plain && decide (es.size>1)))=true
      rw [hx,show w.params.followText "set-order"=false from hbf];rfl
    ·have:=(iq.mp hp)
     obtain ⟨hlt',e⟩:=this
     show t.place.getD i 0+1=p+1
     simp [qO,hlt',e]
  have h0:=hord.1
  refine q s.heap.objs.size _ s.drawn vs ns [s.heap.objs.size,a] _ (Lb hh s.heap.objs.size a (aW hlt) hord) ⟨by rw [h0];exact hst,hrs.keep λob e=>ax _ e⟩ (λb ob e=>ax _ e) (by simp) (λb hb'=>?_) (aw _) hiv hpn
  simp only [ak,dP,or_false] at hb'
  rcases hb' with rfl|rfl
  ·exact .inr (aw _)
  ·exact .inl rfl
end
end Sw
namespace Sw
open PySem PySem.Spec PyProof.Rows PySem.W
section
variable {prog:bp}{w:b8}{A:cp}{E:ai->au->Prop}{s:au}{a:af}
theorem M8 {Q:Bool->au->Prop}(hT:s.TypeIs (.ref a) "set") (h:Q false s):aK (aU prog w) A (jC (.ref a)) Q E s:=by
 unfold jC
 refine ae (JO hT PySem.F.slot_set_len.lookup ?_)
 generalize hid:("set.__len__":String)=id0
 wp_delta
 rw [show splitId id0=some ("set","__len__") from by subst hid;decide +kernel]
 subst hid
 refine ae (qm (T:="set") (b:=true) hT (by rw [LP];kernel_rfl) ?_)
 refine k9 (λhab=>absurd hab (by decide)) (λ_=>?_)
 refine k9 (λ_=>?_) (λhab=>absurd (by decide +kernel) hab)
 refine ae (FJ hT ?_)
 exact ao h
theorem M9 {S:af}{ks:List Int}{R:LG->au->Prop}(hh:A.handled=none) (hS:SO prog w (bt w) s.heap a ks) (hSa:S≠a) (hn:ks.length<=a0) (g:s.heap.get? S=some { cls:=.type "list",data:=.seq #[] 0 })
  (q:∀ h' tk d acc' c' (ns:List Int),(∀ b o,b≠S->s.heap.get? b=some o->h'.get? b=some o)->h'.get? S=some { cls:=.type "list",dict:=none,data:=.seq acc' c',slots:=#[] }->fS acc'.toList ns->ns.Perm ks->R (.ok (.ret (.ref S))) { s with heap:=h',toks:=tk,drawn:=d }) :
  m8 (aU prog w) A (.builtin "list.__iadd__" ⟨[.ref S,.ref a],[]⟩) R s:=by
 have hT:s.TypeIs (.ref a) "set":=let ⟨o,_,_,_,e,c,_⟩:=hS;⟨o,e,c.1⟩
 refine ji F.entry_list_iadd ?_
 rw [gE F.plain_list_iadd _]
 show aK _ A.in1 (gK (.ref S) (.ref a) (.ref S)) _ _ s
 unfold gK
 refine ae (FJ (T:="set") hT ?_)
 have h1:kW (.ref S) (.ref a)=false:=by simp [kW,hSa]
 have h2:(fg "set" == fg "list")=false:=by decide
 have h3:(fg "set" == fg "tuple")=false:=by decide
 simp only [h1,h2,h3,Bool.or_false,cf,if_false]
 refine ae (M7 (A:=A.in1) hh hS λI h1 d vs ns fp St W st kp hI hfp hIl hiv hpn=>?_)
 have hSf:S∉fp:=λhm=>by
  rcases hfp S hm with e|e
  ·exact hSa e
  ·exact absurd (aL g) (Nat.not_lt.mpr e)
 have hln:vs.length=ks.length:=by rw [hiv.length,hpn.length_eq]
 have hn':vs.length<=a0:=by omega
 have hT1:({ s with heap:=h1,drawn:=d }:au).TypeIs (.ref a) "set":=let ⟨o,e,c⟩:=hT;⟨o,kp _ _ e,c⟩
 have key:∀ (h:cm) (c₁:Nat),St 0 h->(∀ b o,b≠S->s.heap.get? b=some o->h.get? b=some o)->h.get? S=some { cls:=.type "list",data:=.seq #[] c₁ } ->
   m8 (aU prog w) A (.builtin "list.extend.loop" ⟨[.ref S,.ref I,.ref S],[]⟩) R { s with heap:=h,drawn:=d }:=by
  intro h c₁ hst hk hS₁
  refine codeAny_extend_loopS W.toS hn' S hSf (.ref S) vs.length 0 _ #[] c₁ rfl (a9 _) hst hS₁ (ItemsOf.nil _) λs' acc' c' hm hS' hacc=>?_
  have es:s'={ s with heap:=s'.heap,toks:=s'.toks,drawn:=d }:=by have e:=Moved.eq_with hm;exact e
  rw [es]
  have ea:acc'.toList=vs:=L2.MZ hacc
  refine q s'.heap s'.toks d acc' c' ns (λb o hb e=>hm.heap b o (λhmem=>?_) (hk b o hb e)) hS' (by rw [ea];exact hiv) hpn
  rcases ak.mp hmem with e'|hmem
  ·exact hb e'
  ·rw [aC.mp hmem] at e
   exact absurd (aL e) (Nat.not_lt.mpr hIl)
 refine ae (cB (M8 hT1 ?_))
 refine k9 (λ_=>?_) (λ_=>ao ⟨lg eI _,key _ 0 st (λb o _ e=>kp b o e) (kp _ _ g)⟩)
 refine ae (sO (ae ?_))
 show aK _ _ (HL S (·.push .none) >>= λ_=>HL S (·.pop)) _ _ _
 refine ae (rX (kp _ _ g) rfl ?_)
 have g2:=bP (bH (·.push c9)) (kp _ _ g) rfl
 refine rX (hz:=by seq_fits) g2 rfl ?_
 have g3:=bP (bH (·.pop)) g2 rfl
 refine ao ⟨lg eI _,key _ _ ?_ (λb o hb e=>?_) g3⟩
 ·refine W.frame 0 _ _ st λb hb o e=>?_
  have hbS:b≠S:=λh=>hSf (h▸hb)
  exact (cu _ _ (Ne.symm hbS)).trans ((cu _ _ (Ne.symm hbS)).trans e)
 ·exact (cu _ _ (Ne.symm hb)).trans ((cu _ _ (Ne.symm hb)).trans (kp b o e))
theorem GP {ks:List Int}{Q:List ai->au->Prop}(hh:A.handled=none) (hS:SO prog w (bt w) s.heap a ks) (hn:ks.length<=a0)
  (q:∀ h' tk d vs (ns:List Int),(∀ b o,s.heap.get? b=some o->h'.get? b=some o)->fS vs ns->ns.Perm ks->Q vs { s with heap:=h',toks:=tk,drawn:=d }):aK (aU prog w) A (collect (.ref a)) Q E s:=by
 have hlt:=hS.lt
 unfold collect
 refine ae (wpAny_runValue (ji F.entry_proto_collect ?_))
 rw [gE F.plain_proto_collect _]
 show aK _ A.in1 (newList [] >>= λl=>again (.builtin "list.__iadd__" ⟨[l,.ref a],[]⟩)) _ _ s
 have g:(s.heap.push { cls:=.type "list",data:=.seq ([]:List ai).toArray }).get? s.heap.objs.size=some { cls:=.type "list",data:=.seq #[] 0 }:=aM _ rfl
 refine ae (cI (ao ⟨lg F.plain_list_iadd _,M9 (s:={ s with heap:=s.heap.push { cls:=.type "list",data:=.seq ([]:List ai).toArray } }) hh (hS.keep λo e=>ax _ e) (eO hlt) hn g λh' tk d acc' c' ns hk hS' hi hp=>?_⟩))
 show aK _ A (load s.heap.objs.size >>= _) _ _ { s with heap:=h',toks:=tk,drawn:=d }
 refine ae (LF hS' (ao (q h' tk d acc'.toList ns (λb o e=>hk b o (aW (aL e)) (ax _ e)) hi hp)))
theorem IB {ks:List Int}{h₀:cm} {L:af}{m:bA->Option ai}{news:List (af×fR)}{Q:ai->au->Prop}(hh:A.handled=none) (hS:SO prog w (bt w) s.heap a ks) (h64:ks.length<64) (F:Fr h₀ L s.heap m) (N:wR h₀ L s.heap news)
  (q:∀ D c h' tk d (out:List ai) (ns:List Int),Fr h₀ L h' m->wR h₀ L h' ((D,bD "list" out.toArray c)::news)->(∀ p∈news,p.1<D)->fS out ns->ns.Perm ks->ns.Pairwise (·<=·)->Q (.ref D) { s with heap:=h',toks:=tk,drawn:=d }) :
  aK (aU prog w) A (call (.builtin "sorted") [.ref a]) Q E s:=by
 refine rV RK Pw Px (args_sorted1 _) (ae (m:=checkCount "sorted" 1 1 _) (ao (ae (GP hh hS (L2.b0 (m:=64) (by omega)) λh1 tk d vs ns keep hi hp=>?_))))
 have hvl:vs.length<64:=by rw [hi.length,hp.length_eq];exact h64
 have hz:vs.length<=a0:=L2.b0 (m:=64) (by omega)
 refine ae (uJ ?_ hz)
 have F1:=F.kept keep
 have N1:=N.grown keep
 have hL:L<h1.objs.size:=F1.ns.lt
 have g:(h1.push (bD "list" vs.toArray 0)).get? h1.objs.size=some (bD "list" vs.toArray 0):=aM _ rfl
 show aK (aU prog w) A.in1 (do let _ ← n5 [aI h1.objs.size] (call (.builtin "list.sort") [aI h1.objs.size]);ret (aI h1.objs.size)) _ _ { s with heap:=h1.push (bD "list" vs.toArray 0),toks:=tk,drawn:=d }
 refine ae (cB (cH LN ⟨_,g,rfl⟩ JN (list_sort_tree (s:={ s with heap:=h1.push (bD "list" vs.toArray 0),toks:=tk,drawn:=d }) g hi hvl λout ns' a1 a2 a3=>⟨_,rfl,ao ⟨_,rfl,?_⟩⟩) (args_list_sort _)))
 have hb:∀ b o,s.heap.get? b=some o->b≠h1.objs.size:=λb o e=>aW (aL (keep b o e))
 have k7:∀ b o,s.heap.get? b=some o->(sortedHeap (h1.push (bD "list" vs.toArray 0)) h1.objs.size vs out).get? b=some o:=λb o e=>by
  unfold sortedHeap
  exact (cu _ _ (Ne.symm (hb b o e))).trans (ax _ (ax _ ((cu _ _ (Ne.symm (hb b o e))).trans (ax _ (keep b o e)))))
 obtain ⟨c1,g2⟩:∃ c1,((h1.push (bD "list" vs.toArray 0)).update h1.objs.size (bH λ_=>#[])).get? h1.objs.size=some (bD "list" #[] c1):=⟨_,rW g λ_=>#[]⟩
 obtain ⟨c7,g7⟩:∃ c7,(sortedHeap (h1.push (bD "list" vs.toArray 0)) h1.objs.size vs out).get? h1.objs.size=some (bD "list" out c7):=⟨_,rW (ax _ (ax _ g2)) λ_=>out⟩
 refine q h1.objs.size c7 _ tk d out.toList ns' (F.kept k7) (λp hp'=>?_) (λp hp'=>aL (N1 p hp').1) a1 (a2.trans hp) a3
 rcases ak.mp hp' with rfl|hp'
 ·exact ⟨by simpa using g7,eO hL,vA (bg F1.above (oM hL))⟩
 ·exact (N.grown k7) p hp'
end
end Sw
namespace L2
open PySem PySem.Spec PyProof.Rows PySem.W
theorem Inv.drawn {X:Cx}{pins:List (af×fR)}{σ:St}{H:Hp}{s:au}(I:Inv X pins σ H s) (d:Drawn):Inv X pins σ H { s with drawn:=d }:=⟨I.ok,I.os,I.bare,I.base,I.loc,I.cell,I.free,I.freeC,I.pin,I.hok,I.len⟩
def vV (K:aa) (t:TA):TE:=λσ H Q=>t σ H λvs H1=>∃ (a:af) (ns:List Int),vs=[.ref a]/\SqL K H1 a (ns.map V.int)/\ns.length<=4000/\(∃ ds:List Int,ds.length<64/\∀ x∈ns,x∈ds) /\
 ∀ p (ks:List Int),H1 p=none->ks.Pairwise (· < ·)->(∀ x,x∈ks↔x∈ns)->Q (.ref p) (upd H1 p (.lst (ks.map V.int)))
theorem Dz {K:aa}{t:TA}{σ:St}{H:Hp}{Q:VK}(h:t σ H λvs H1=>∃ (a:af) (ns:List Int),vs=[.ref a]/\SqL K H1 a (ns.map V.int)/\ns.length<=4000/\(∃ ds:List Int,ds.length<64/\∀ x∈ns,x∈ds) /\
 ∀ p (ks:List Int),H1 p=none->ks.Pairwise (· < ·)->(∀ x,x∈ks↔x∈ns)->Q (.ref p) (upd H1 p (.lst (ks.map V.int)))):vV K t σ H Q:=h
theorem Na {ks ds:List Int}(hn:ks.Nodup) (h:∀ x∈ks,x∈ds):ks.length<=ds.length:=by
 induction ks generalizing ds with
 | nil=>simp
 | cons a ks ih =>
  obtain ⟨h1,h2⟩:=bf.mp hn
  obtain ⟨l1,l2,rfl⟩:=ni (h a aq)
  have:=ih (ds:=l1++l2) h2 λx hx=>by
   have hx':=h x (ag _ hx)
   rcases aP.mp hx' with q|q
   ·exact bT _ q
   ·rcases ak.mp q with q|q
    ·exact absurd (q▸hx) h1
    ·exact aZ _ q
  simp at this ⊢;omega
section
variable {X:Cx}{x:Expr}{t:TA}{p1 p2 q1 q2:qQ}
theorem As (hc:X.calm=true) (hgl:Gl X "sorted") (hml:X.mg "sorted"=none) (hgz:Gl X "set") (hmz:X.mg "set"=none) (ha:PA X [x] t)
  (he:bG [.Call (.Name "set" p1) [x] [] p2] X.env=[(false,fV (.Call (.Name "set" p1) [x] [] p2) X.env)]:=by rfl) (he2:bG [x] X.env=(false,fV x X.env)::bG [] X.env:=by rfl) (hpl:(iV p2 (bG [] X.env)).any (·.1)=false:=by rfl) :
  PE X (.Call (.Name "sorted" q1) [.Call (.Name "set" p1) [x] [] p2] [] q2) (vV X.K t):=by
 intro pins s σ H Q I h
 refine dN (oO I hgl hml BootT.Ah (nh ?_ he rfl))
 rw [he]
 show aK _ _ (Pr ((false,fV (.Call (.Name "set" p1) [x] [] p2) X.env)::iV q2 (bG [] X.env))) _ _ s
 refine jQ (dN (oO I hgz hmz BootT.set (dI (ij (ha p2 pins s σ H _ I h) λus s1 ⟨vs,H1,I1,r1,q⟩=>?_) he2 hpl)))
 obtain ⟨a,ns,rfl,hA,hl4,⟨ds,hds,hsub⟩,k⟩:=q
 obtain ⟨u,rfl,ru⟩:=vals1 r1
 cases ru
 obtain ⟨its,rv,pl,hz⟩:=I1.list hA
 have hi:fS its ns:=intsAre_of rv
 have hlen:=hi.length
 refine Sw.GN (ns:=ns) (I1.ok.hd hc) pl.isList (by simpa using hi) (by rw [aR,hlen];unfold sG;omega) λh2 tk ks hS hmem hle hk=>nR ?_
 have hnd:ks.Nodup:=by obtain ⟨_,_,_,_,_,_,_,_,_,_,_,_,_,_,hn⟩:=hS;exact hn
 have h64:ks.length<64:=bo (Na hnd λx hx=>hsub x ((hmem x).mp hx)) hds
 have I2:Inv X pins σ H1 { s1 with heap:=h2,toks:=tk }:=I1.kept (t':=tk) hk
 obtain ⟨m,F,N⟩:=I2.frs
 refine Sw.IB (s:={ s1 with heap:=h2,toks:=tk }) (I1.ok.hd hc) hS h64 F N λD c h' tk' d out ms F' N' hD a1 a2 a3=>?_
 obtain ⟨hn,I3⟩:=I2.newsLaid (t':=tk') (o:=.lst (ms.map V.int)) F.ns F' N' hD ⟨by rw [aj,a2.length_eq];exact b0 (m:=64) (by omega),out,c,xv a1,(N' _ aq).1⟩
 refine ⟨.ref D,_,I3.drawn d,rfl,k D ms hn ?_ (λx=>by rw [a2.mem_iff,hmem])⟩
 have hnd':ms.Nodup:=a2.nodup_iff.mpr hnd
 exact (List.Pairwise.and a3 hnd').imp λ{x y} h=>by
  have h1:=h.1;have h2:x≠y:=h.2
  omega
end
end L2
namespace L2
open PySem PySem.Spec PyProof.Rows PySem.W
section
variable {X:Cx}
end
end L2
namespace L2
open PySem PySem.Spec PyProof.Rows
end L2
namespace L2
open PySem PySem.Spec PyProof.Rows
section
variable {P:bp}{w:b8}{st:List HG}{H H2:Hp}{s:au}{a:af}{B h h':cm}
end
section
variable {P:bp}{w:b8}{K:aa}{mg:bA->Option ai}{base:cm}{N:List bA}{qual:bA}{scope:lH}{f:af}{cd:ai}{A:cp}{outer:List HG}{s:au}{H:Hp}{E E':XK}
end
end L2
namespace L2
open PySem PySem.Spec PyProof.Rows
end L2
namespace L2
open PySem PySem.Spec PyProof.Rows
section
variable {X:Cx}{pins:List (af×fR)}{σ:St}{H:Hp}{s:au}
end
end L2
namespace L2
open PySem PySem.Spec PyProof.Rows
section
variable {X:Cx}{k:Nat}{f CT:af}{fd:fP}{ps:List bA}{sp:Sp}{x xT n:bA}{p np cpos epos hpos pos:qQ}{e:Expr}{es:List Expr}{t:TA}{th:TS}{i:Nat}{b₀:dE} {suite:List dE}
end
end L2
namespace L2
open PySem PySem.Spec PyProof.Rows
end L2
namespace L2
open PySem PySem.Spec PyProof.Rows
section
variable {X:Cx}{k:Nat}{f:af}{fd:fP}{ps:List bA}{sp:Sp}{x:bA}{p pos:qQ}{e:Expr}{es:List Expr}{t:TA}
end
end L2
namespace L2
open PySem PySem.Spec PyProof.Rows
section
variable {K:aa}{σ:St}{H:Hp}{Q:VK}
end
end L2
namespace L2
open PySem PySem.Spec PyProof.Rows
structure j3 (P:bp) (w:b8) (K:aa) (mg:bA->Option ai) (base:cm) (CX:Ii) (k:Nat) (x:bA) (ps:List bA) (sp:Sp) where
 f:af
 d:fP
 G:FnOk P w K mg base CX k f d ps sp
 m:mg x=some (.ref f)
 kp:fH K (.ref f)=true
 b:Binds K d ps []
structure fO (P:bp) (w:b8) (K:aa) (mg:bA->Option ai) (base:cm) (CX:Ii) (k:Nat) (C:af) (x:bA) (ps:List bA) (sp:Sp) where
 f:af
 d:fP
 G:FnOk P w K mg base CX k f d ps sp
 m:OJ K C x f
 b:Binds K d ps []
structure Ld (P:bp) (w:b8) (K:aa) (mg:bA->Option ai) (base:cm) (CX:Ii) (k:Nat) (C:af) (ps:List bA) (sp:Sp) where
 f:af
 d:fP
 G:FnOk P w K mg base CX k f d ps sp
 m:Mk K C f
 b:Binds K d ps []
structure Dfn (K:aa) (mg:bA->Option ai) (x:bA) (st:dE) (ps:List bA) where
 f:af
 d:fP
 F:Fun K x x st f d
 m:mg x=some (.ref f)
 bt:∀ (s:au) (us:List ai),us.length=ps.length->FH s d ⟨us,[]⟩ (ps.zip us)
 b:Binds K d ps []
structure nH (K:aa) (C:af) (x q:bA) (st:dE) (ps:List bA) where
 f:af
 d:fP
 F:Fun K x q st f d
 a:bC K (.ref C) x=some (some (.ref f))
 i:sN K (.ref f)=true
 b:Binds K d ps []
def vz {K:aa}{h:cm}{mg:bA->Option ai}{x:bA}{st:dE}{ps:List bA}(X:K.In h) (G:h.Ns bQ mg) {f:af}{od an:Option af}{sl:Array (Option ai)}{oc kV dc pm cd ct:ai}(a:di K bQ x=some (some (.ref f)))
  (l:K.lookup f=some ⟨oc,od,.func (iS x x (qp st) (bq st) (aE st) .none kV dc pm an cd ct),sl⟩) (c:qk K cd x=true) (k:fH K (.ref f)=true)
  (hb:∀ (kV doc pm:ai) (an:Option af) (cdv ct:ai) (us:List ai),us.length=ps.length->FI (iS x x (qp st) (bq st) (aE st) .none kV doc pm an cdv ct) ⟨us,[]⟩=pure (ps.zip us)):Dfn K mg x st ps :=
 ⟨f,_,D8 l c k,rY X G a,λs us hl=>.of_eq (hb kV dc pm an cd ct us hl),(D8 l c k).binds hb⟩
def yw {K:aa}{C:af}{x q:bA}{st:dE}{ps:List bA}{f:af}{od an:Option af}{sl:Array (Option ai)}{oc kV dc pm cd ct:ai}(a:bC K (.ref C) x=some (some (.ref f))) (i:sN K (.ref f)=true)
  (l:K.lookup f=some ⟨oc,od,.func (iS x q (qp st) (bq st) (aE st) .none kV dc pm an cd ct),sl⟩) (c:qk K cd q=true) (k:fH K (.ref f)=true)
  (hb:∀ (kV doc pm:ai) (an:Option af) (cdv ct:ai) (us:List ai),us.length=ps.length->FI (iS x q (qp st) (bq st) (aE st) .none kV doc pm an cdv ct) ⟨us,[]⟩=pure (ps.zip us)):nH K C x q st ps :=
 ⟨f,_,D8 l c k,a,i,(D8 l c k).binds hb⟩
theorem Dfn.law {K:aa}{mg:bA->Option ai}{x y:bA}{st:dE}{fa:af}(D:Dfn K mg x st [y]) (h:mg x=some (.ref fa)):D.f=fa:=by
 have:=D.m.symm.trans h
 cases this;rfl
section
variable {X:Cx}{CX:Ii}{E:XK}{k:Nat}{C:af}{ps:List bA}{sp:Sp}{x:bA}{p pos apos:qQ}{e o:Expr}{es:List Expr}{t:TA}{ta:TE}
theorem oN (c:j3 X.prog X.w X.K X.mg X.base CX k x ps sp) (hr:Room k X.A) (hg:Gl X x) (hx:qD CX X E) (ha:PA X (e::es) t) (hdb:(x == ("__debug__":bA))=false:=by decide) (he:bG (e::es) X.env=(false,fV e X.env)::bG es X.env:=by rfl) (hpl:(iV pos (bG es X.env)).any (·.1)=false:=by rfl) :
  PE X (.Call (.Name x p) (e::es) [] pos) (de sp [] E t):=OL c.G hr hg c.m c.kp c.b .nil hx ha hdb he hpl
theorem sI {pl:Qg Bool}(c:fO X.prog X.w X.K X.mg X.base CX k C x ps sp) (cl:Cls X.K C) (hr:Room k X.A) (he:PE X o ta) (hx:qD CX X E) (ha:PA X (e::es) t)
  (hst:bG (e::es) X.env=(false,fV e X.env)::bG es X.env:=by rfl) (hpl:(iV pos (bG es X.env)).any (·.1)=false:=by rfl)
  (ht:fV (.Call (.Attribute o x apos) (e::es) [] pos) X.env=(do
   let ov ← fV o X.env
   zL apos.atName
   let (f,first) ← n5 [ov] (zM ov x pl)
   RG pos f first (iV pos (bG (e::es) X.env)) (LI pos (zr [] X.env))):=by rfl) :
  PE X (.Call (.Attribute o x apos) (e::es) [] pos) (eP C x sp [] E ta t):=OM he cl c.m c.G hr c.b .nil hx ha hst hpl ht
theorem Uu {pl:Qg Bool}(c:fO X.prog X.w X.K X.mg X.base CX k C x ps sp) (cl:Cls X.K C) (hr:Room k X.A) (he:PE X o ta) (hx:qD CX X E)
  (ht:fV (.Call (.Attribute o x apos) [] [] pos) X.env=(do
   let ov ← fV o X.env
   zL apos.atName
   let (f,first) ← n5 [ov] (zM ov x pl)
   RG pos f first (iV pos (bG [] X.env)) (LI pos (zr [] X.env))):=by rfl) :
  PE X (.Call (.Attribute o x apos) [] [] pos) (eP C x sp [] E ta bj):=Mt he cl c.m c.G hr c.b .nil hx ht
end
end L2
namespace L2
open PySem PySem.Spec PyProof.Rows PySem.W
def iZ:List Int->List Int->Bool
 | [],[]=>false
 | [],_::_=>true
 | _::_,[]=>false
 | x::xs,y::ys=>if x=y then iZ xs ys else decide (x<y)
theorem ua:∀ x:List Int,iZ x x=false
 | []=>rfl
 | x::xs=>by unfold iZ;rw [if_pos rfl];exact ua xs
theorem Au:∀ {x y:List Int},iZ x y=false->iZ y x=true\/x=y
 | [],[],_=>.inr rfl
 | [],_::_,h=>by unfold iZ at h;cases h
 | _::_,[],_=>.inl (by unfold iZ;rfl)
 | x::xs,y::ys,h=>by
  unfold iZ at h ⊢
  by_cases e:x=y
  ·subst e
   rw [if_pos rfl] at h ⊢
   rcases Au h with q|q
   ·exact .inl q
   ·exact .inr (by rw [q])
  ·rw [if_neg e] at h
   rw [if_neg (Ne.symm e)]
   exact .inl (by have:=of_decide_eq_false h;exact decide_eq_true (by omega))
theorem u9:∀ {x y z:List Int},iZ x y=true->iZ y z=true->iZ x z=true
 | [],[],_,h,_=>by unfold iZ at h;cases h
 | [],_::_,[],_,h=>by unfold iZ at h;cases h
 | [],_::_,_::_,_,_=>by unfold iZ;rfl
 | _::_,[],_,h,_=>by unfold iZ at h;cases h
 | _::_,_::_,[],_,h=>by unfold iZ at h;cases h
 | x::xs,y::ys,z::zs,h,h'=>by
  unfold iZ at h h' ⊢
  by_cases e:x=y
  ·subst e
   rw [if_pos rfl] at h
   by_cases e':x=z
   ·rw [if_pos e'] at h' ⊢;exact u9 h h'
   ·rw [if_neg e'] at h' ⊢;exact h'
  ·rw [if_neg e] at h
   have h1:=of_decide_eq_true h
   by_cases e':y=z
   ·subst e';rw [if_neg e];exact h
   ·rw [if_neg e'] at h'
    have h2:=of_decide_eq_true h'
    rw [if_neg (by omega)]
    exact decide_eq_true (by omega)
def DA (ts:List (List Int)) (t:List Int):Int:=(ts.countP λu=>iZ u t:Nat)
theorem Av {ts:List (List Int)}{t u:List Int}(ht:t∈ts):decide (DA ts t<DA ts u)=iZ t u:=by
 unfold DA
 cases q:iZ t u with
 | true =>
  have:=GF (l:=ts) (p:=λv=>iZ v t) (q:=λv=>iZ v u) (x:=t) (λy _ h=>u9 h q) ht (ua t) q
  exact decide_eq_true (by omega)
 | false =>
  have:ts.countP (λv=>iZ v u)<=ts.countP λv=>iZ v t:=LM λv _ h=>by
   rcases Au q with e|e
   ·exact u9 h e
   ·rw [e];exact h
  exact decide_eq_false (by omega)
inductive Flat:List Bool->List V->List Int->Prop
 | nil:Flat [] [] []
 | int (i:Int) {m:List Bool}{xs:List V}{ks:List Int}:Flat m xs ks->Flat (false::m) (.int i::xs) (i::ks)
 | bl (b:Bool) {m:List Bool}{xs:List V}{ks:List Int}:Flat m xs ks->Flat (true::m) (.bl b::xs) (b2i b::ks)
theorem Flat.length {m:List Bool}{xs:List V}{ks:List Int}(h:Flat m xs ks):xs.length=m.length:=by
 induction h with
 | nil=>rfl
 | int _ _ ih=>simp [ih]
 | bl _ _ ih=>simp [ih]
section
variable {prog:bp}{w:b8}{A:cp}{s:au}{b:Bool}{Q:Bool->au->Prop}
theorem Nb {m:List Bool}{xs:List V}{ks:List Int}(fx:Flat m xs ks):∀ {ys:List V}{ls:List Int}{us ws:List ai}{i:Nat},Flat m ys ls->Vals xs us->Vals ys ws->(b && i == 0)=false->Q (iZ ks ls) s ->
  KatLex prog w A b false Q (us.zip ws) i s:=by
 induction fx with
 | nil =>
  intro ys ls us ws i fy rx ry hi q
  cases fy;cases rx;cases ry
  unfold iZ at q
  exact kat_nil q
 | int a _ ih =>
  intro ys ls us ws i fy rx ry hi q
  cases fy with
  | int c fy =>
   cases rx with
   | cons r1 rx =>
    cases ry with
    | cons r2 ry =>
     obtain ⟨t,rfl⟩:=r1
     obtain ⟨u,rfl⟩:=r2
     rw [jX]
     refine FS (jh a t c u _ _ _ _ ?_)
     unfold iZ at q
     by_cases e:a=c
     ·rw [if_pos e] at q
      rw [show (a == c)=true by simpa using e]
      exact FT (ih fy rx ry (by simp) q)
     ·rw [if_neg e] at q
      rw [show (a == c)=false by simpa using e]
      refine kat_no ?_
      rw [hi]
      exact kat_one _ _ (Oj q)
 | bl a _ ih =>
  intro ys ls us ws i fy rx ry hi q
  cases fy with
  | bl c fy =>
   cases rx with
   | cons r1 rx =>
    cases ry with
    | cons r2 ry =>
     cases r1;cases r2
     rw [jX]
     refine FS (SeqAt.EqAt.bool_bool a c _ _ _ _ ?_)
     unfold iZ at q
     by_cases e:a=c
     ·rw [if_pos (by rw [e])] at q
      rw [show (a == c)=true by simpa using e]
      exact FT (ih fy rx ry (by simp) q)
     ·rw [if_neg (by cases a<;>cases c<;>first|exact absurd rfl e|decide)] at q
      rw [show (a == c)=false by simpa using e]
      refine kat_no ?_
      rw [hi]
      exact kat_one _ _ (lt_bool q)
theorem O7 {x y:af}{m:List Bool}{xs ys:List V}{ks ls:List Int}{us ws:List ai}{E:ai->au->Prop}(fx:Flat (false::m) xs ks) (fy:Flat (false::m) ys ls) (rx:Vals xs us) (ry:Vals ys ws)
  (hx:rZ s.heap x us.toArray) (hy:rZ s.heap y ws.toArray) (h:Q (iZ ks ls) s):aK (aU prog w) A (keyLt' (tuples' true) (.ref x) (.ref y)) Q E s:=by
 obtain ⟨ox,ex,cx,nx,dx⟩:=hx
 obtain ⟨oy,ey,cy,ny,dy⟩:=hy
 have l1:us.length=ws.length:=by rw [← rx.length,← ry.length,fx.length,fy.length]
 refine kat_lt ex dx ey dy ?_
 rw [show decide (us.toArray.size<ws.toArray.size)=false by simp [l1]]
 cases fx with
 | int a fx =>
  cases fy with
  | int c fy =>
   cases rx with
   | cons r1 rx =>
    cases ry with
    | cons r2 ry =>
     obtain ⟨t,rfl⟩:=r1
     obtain ⟨u,rfl⟩:=r2
     show KatLex _ _ _ _ _ _ (List.zip (_::_) (_::_)) 0 s
     rw [jX]
     refine FS (jh a t c u _ _ _ _ ?_)
     unfold iZ at h
     by_cases e:a=c
     ·rw [if_pos e] at h
      rw [show (a == c)=true by simpa using e]
      exact FT (Nb fx fy rx ry (by simp) h)
     ·rw [if_neg e] at h
      rw [show (a == c)=false by simpa using e]
      exact kat_no (oneLt_int h)
end
abbrev Zn:=List Int×af
def tq (z:Zn):V:=.ref z.2
def Rq (m:List Bool) (H:Hp) (z:Zn):Prop:=∃ xs,H z.2=some (.tup xs)/\Flat (false::m) xs z.1
def tu (K:aa):List V->Hp->VK->Prop:=λxs H Q=>∃ (p:af) (zs:List Zn) (m:List Bool),xs=[.ref p]/\SqL K H p (zs.map tq)/\(∀ z∈zs,Rq m H z)/\zs.length<64 /\
 ∀ (l:af) (zs':List Zn),H l=none->zs'.Perm zs->zs'.Pairwise (λz w=>iZ w.1 z.1=false)->Q (.ref l) (upd H l (.lst (zs'.map tq)))
theorem Aw:∀ {zs:List Zn}{us:List ai},Vals (zs.map tq) us->us=zs.map λz=>aI z.2
 | [],_,h=>by cases h;rfl
 | z::zs,_,h=>by
  cases h with
  | cons h1 h2=>cases h1;rw [Aw h2];rfl
theorem sg:∀ zs:List Zn,Vals (zs.map tq) (zs.map λz=>aI z.2)
 | []=>.nil
 | _::zs=>.cons rfl (sg zs)
theorem Kg {h:cm}:∀ {zs:List Zn},(∀ z∈zs,∃ i t us,rZ h z.2 (gN i t::us).toArray)->∃ fs,KatTups h (zs.map λz=>aI z.2) fs/\fs.length=zs.length/\∀ v∈fs,∃ i t,v=gN i t
 | [],_=>⟨[],.nil,rfl,λ_ h=>nomatch h⟩
 | z::zs,hz=>by
  obtain ⟨fs,k1,k2,k3⟩:=Kg (zs:=zs) λz' h'=>hz z' (ag _ h')
  obtain ⟨i,t,us,o,e,c,n,d⟩:=hz z aq
  refine ⟨.int i t::fs,RR e c d (by simp) k1,by simp [k2],λv hv=>?_⟩
  rcases ak.mp hv with rfl|hv
  ·exact ⟨i,t,rfl⟩
  ·exact k3 v hv
theorem vW {zs:List Zn}{d:Zn}{k:Nat->Int}{pr:Array Nat}(hk:∀ i,k i=DA (zs.map (·.1)) (zs.getD i d).1) (hp1:Sx.Pm zs.length pr) (hp2:Sx.Up k pr zs.length) :
  (pr.toList.map λi=>zs.getD i d).Perm zs/\(pr.toList.map λi=>zs.getD i d).Pairwise λz w=>iZ w.1 z.1=false:=by
 have plt:∀ i∈pr.toList,i<zs.length:=λi hi=>by simpa using hp1.mem_iff.mp hi
 have mz:∀ i,i<zs.length->zs.getD i d∈zs:=λi hi=>by
  have:zs.getD i d=zs[i]:=by simp [hi]
  rw [this];exact dO hi
 refine ⟨?_,?_⟩
 ·have:=hp1.map λi=>zs.getD i d
  rwa [Iz] at this
 ·rw [r0]
  intro i j hi hj hij
  rw [aj] at hi hj
  simp only [List.getElem_map]
  have hsz:pr.size=zs.length:=hp1.size
  have hj':j<zs.length:=by rw [← hsz];simpa using hj
  have hle:=hp2.le (oM hij) hj'
  unfold Sx.Ky at hle
  have gi:∀ i (h:i<pr.toList.length),pr.getD i 0=pr.toList[i]:=λi h=>by
   have h':i<pr.size:=by simpa using h
   simp [qO,h']
  rw [gi i hi,gi j hj,hk,hk] at hle
  cases w:iZ (zs.getD pr.toList[j] d).1 (zs.getD pr.toList[i] d).1 with
  | false=>rfl
  | true =>
   rw [← Av (ts:=zs.map (·.1)) (bu (mz _ (plt _ (dO hj)))),decide_eq_true_iff] at w
   omega
section
variable {X:Cx}
theorem sh:CallR X (.builtin "sorted") (tu X.K):=by
 intro pins s σ H xs us Q I r h
 obtain ⟨p,zs,mk,rfl,hq,hz,h64,q⟩:=h
 obtain ⟨u,rfl,ru⟩:=vals1 r
 cases ru
 obtain ⟨its,rv,pl,hsz⟩:=I.list hq
 have ei:=Aw rv
 subst ei
 have tup0:∀ z∈zs,∃ xs us,Flat (false::mk) xs z.1/\Vals xs us/\rZ s.heap z.2 us.toArray:=λz hz'=>by
  obtain ⟨xs,h1,h2⟩:=hz z hz'
  obtain ⟨ts,r,it,_⟩:=I.tuple (.of h1)
  exact ⟨xs,ts,h2,r,it⟩
 by_cases h2:2<=zs.length
 ·obtain ⟨m,F,N⟩:=I.frs
  refine kat_sorted F N pl.isList (by rw [aj];exact h2) (by rw [aj];exact h64) λD e1 h' F' N' hD=>?_
  have kept:∀ b o,b≠X.env.locals->s.heap.get? b=some o->h'.get? b=some o:=λb o h1 e=>by
   cases w:X.base.get? b with
   | some u =>
    have z:=I.bk b u w
    rw [e] at z
    cases z
    exact F'.keep b _ w
   | none=>exact (N' (b,o) (ag _ (oi h1 w e))).1
  have tup:∀ z∈zs,∃ xs us,Flat (false::mk) xs z.1/\Vals xs us/\rZ h' z.2 us.toArray:=λz hz'=>by
   obtain ⟨xs,us,f,r,o,e,rest⟩:=tup0 z hz'
   refine ⟨xs,us,f,r,o,kept _ o (λw=>?_) e,rest⟩
   obtain ⟨_,e2,_⟩:=hz z hz'
   rw [w,I.free] at e2
   cases e2
  obtain ⟨fs,k1,k2,k3⟩:=Kg (zs:=zs) (h:=h') λz hz'=>by
   obtain ⟨xs,us,f,r,it⟩:=tup z hz'
   generalize z.1=kz at f
   cases f with
   | int i f =>
    cases r with
    | cons r1 r=>obtain ⟨t,rfl⟩:=r1;exact ⟨i,t,_,it⟩
  refine kat_kind (T:=.type "int") k1 (by omega) (λv hv=>?_) rfl ?_
  ·obtain ⟨i,t,rfl⟩:=k3 v hv
   exact Looks.now
  have et:(fg "int" != fg "tuple")=true:=by decide
  rw [et,aj]
  have gz:∀ i,i<zs.length->(zs.map λz=>aI z.2).getD i c9=aI (zs.getD i ([],0)).2:=λi hi=>by simp [hi]
  have mz:∀ i,i<zs.length->zs.getD i ([],0)∈zs:=λi hi=>by
   have:zs.getD i ([],0)=zs[i]:=by simp [hi]
   rw [this];exact dO hi
  refine Sx.Sat.ask (n:=zs.length) (k:=λi=>DA (zs.map (·.1)) (zs.getD i ([],0)).1) (λi j C hi hj hC=>?_) (λpr hp=>?_) (Sx.GE (by omega))
  ·unfold kas_ask
   rw [gz i hi,gz j hj]
   obtain ⟨xs,us,f1,r1,i1⟩:=tup _ (mz i hi)
   obtain ⟨ys,ws,f2,r2,i2⟩:=tup _ (mz j hj)
   refine O7 (s:={ s with heap:=h' }) f1 f2 r1 r2 i1 i2 ?_
   rw [Av (bu (mz i hi))] at hC
   exact hC
  ·obtain ⟨hperm,hsort⟩:=vW (d:=([],0)) (λi=>rfl) hp.1 hp.2
   have plt:∀ i∈pr.toList,i<zs.length:=λi hi=>by simpa using hp.1.mem_iff.mp hi
   have eo:(pr.toList.map λi=>(zs.map λz=>aI z.2).getD i c9)=(pr.toList.map λi=>zs.getD i ([],0)).map λz=>aI z.2:=by
    rw [cW]
    exact lX λi hi=>gz i (plt i hi)
   rw [eo]
   generalize (pr.toList.map λi=>zs.getD i ([],0))=zs' at hperm hsort
   have hlen:zs'.length<=a0:=b0 (m:=64) (by rw [hperm.length_eq];omega)
   refine HX F' N' (xb λq hq=>aW (hD q hq)) λh'' c F'' N''=>?_
   obtain ⟨hn,I2⟩:=I.newsLaid (t':=s.toks) (o:=.lst (zs'.map tq)) F.ns F'' N'' hD ⟨by rw [aj];exact hlen,_,c,sg zs',(N'' _ aq).1⟩
   exact ⟨.ref D,_,I2,rfl,q D zs' hn hperm hsort⟩
 ·have hs:(zs.map λz=>aI z.2).length<2:=by rw [aj];omega
  refine Ei pl.isList hs ?_
  obtain ⟨e,he⟩:=sortedAll_at s.heap (zs.map λz=>aI z.2) (zs.map λz=>aI z.2).toArray
  refine ⟨.ref (s.heap.objs.size+1),_,I.laid (t':=s.toks) (o:=.lst (zs.map tq)) (λb o e=>sortedAll_old e) (eV _) ⟨by rw [aj];exact b0 (m:=64) (by omega),_,e,sg zs,by simpa [bD] using he⟩,rfl,q _ zs (I.hok.fresh (eV _)) (nc _) ?_⟩
  match zs,h2 with
  | [],_=>exact .nil
  | [z],_=>exact sR _ _
  | z::w::r,h2=>simp at h2
end
end L2
namespace L2
open PySem PySem.Spec PySem.Calls PyProof.Rows
open PySem.W (kla_fn kla_obj tabObj CodeHd)
theorem Le {prog:bp}{w:b8}{A:cp}{E:ai->au->Prop}{Q:ai->au->Prop}{s:au}{f c':af}{qual x:bA}{params:sC}{body:Expr}{scope:lH}{clos:List (bA×af)}{pm ctv v:ai}
  (hroom:A.depth<zq) (ho:s.heap.get? f=some (wY "<lambda>" qual params body scope clos pm c' ctv)) (hrec:s.heap.CodeRec (.ref c') qual) (hlim:s.heap.NoLimit)
  (hb:FI (kla_fn "<lambda>" qual params body scope clos pm (.ref c') ctv) ⟨[v],[]⟩=pure [(x,v)])
  (hx:scope.names.lookup x=some .local) (hk:scope.kind=.function) (hco:scope.isCoroutine=false) (hgen:scope.isGenerator=false) (hcell:∀ z∈scope.names,z.2≠.cell)
  (h:∀ (env:HG) (h₁:cm) (tk:Nat) (E':ai->au->Prop),env.scope=scope->env.cells=clos->s.heap.objs.size<=env.locals->h₁.Ns env.locals (λz=>eU z [(x,v)])->(∀ b o,s.heap.get? b=some o->h₁.get? b=some o) ->
   aK (aU prog w) (A.deeper env) (fV body env) Q E' { s with heap:=h₁,toks:=tk }) :
  aK (aU prog w) A (call (.ref f) [v]) Q E s:=by
 refine LH (PySem.W.kla_callFunE hroom ho rfl hco hgen rfl hrec ?_)
 rw [hb]
 refine ao (RI hcell (λz hz=>by rw [aC.mp hz];exact hx) (λh₁ hns hsb=>⟨hlim.fresh _ hsb,?_⟩) hk)
 have hk₁:∀ b o,s.heap.get? b=some o->h₁.get? b=some o:=λb o e=>hsb.extBut b o (aW (aL e)) (ax _ e)
 exact PySem.W.kla_codeExpr (h _ h₁ _ _ rfl rfl (aw _) hns hk₁)
section
variable {prog:bp}{w:b8}{A:cp}{env:HG}{s:au}{h:cm}{a b:Expr}{i j:Int}{pos:qQ}
end
section
variable {X:Cx}{c Pt:af}{e body:Expr}{tx:TA}{x y:bA}{j:Nat}{params:sC}{scope:lH}{p0 lpos kpos pos:qQ}{C:Int->Int->Int->Prop}{g:Int->Int->Int->Int}
end
end L2
namespace L2
open PySem PySem.Spec PySem.Calls PyProof.Rows PySem.W
theorem Kh:∀ x y:List Int,iZ x y=HT.lexLt x y
 | [],[]=>rfl
 | [],_::_=>rfl
 | _::_,[]=>rfl
 | x::xs,y::ys=>by unfold iZ;rw [HT.z8,Kh xs ys]
def vX (z:Zn) (t:RE):fR:=bD "tuple" #[.int (z.1.headD 0) t,.ref z.2] 0
section
variable {prog:bp}{w:b8}{A:cp}{s:au}{Q:Bool->au->Prop}
theorem O8 {k1 k2 b1 b2:af}{w1 w2 x1 y1 x2 y2:Int}{t1 t2 ta tb tc td:RE}{E:ai->au->Prop}(hx:rZ s.heap k1 #[.int w1 t1,.ref b1]) (hy:rZ s.heap k2 #[.int w2 t2,.ref b2])
  (hb1:rZ s.heap b1 #[.int x1 ta,.int y1 tb]) (hb2:rZ s.heap b2 #[.int x2 tc,.int y2 td]) (hu:A.units<iH) (h:Q (iZ [w1,x1,y1] [w2,x2,y2]) s):aK (aU prog w) A (keyLt' (tuples' true) (.ref k1) (.ref k2)) Q E s:=by
 obtain ⟨ox,ex,cx,nx,dx⟩:=hx
 obtain ⟨oy,ey,cy,ny,dy⟩:=hy
 refine kat_lt ex dx ey dy ?_
 have ez:(#[gN w1 t1,aI b1].toList.zip #[gN w2 t2,aI b2].toList)=[(.int w1 t1,.int w2 t2),(.ref b1,.ref b2)]:=rfl
 rw [ez]
 refine FS (jh w1 t1 w2 t2 _ _ _ _ ?_)
 unfold iZ at h
 by_cases e:w1=w2
 ·rw [if_pos e] at h
  rw [show (w1 == w2)=true by simpa using e]
  by_cases eb:b1=b2
  ·subst eb
   refine FT (FS (SeqAt.EqAt.same _ _ _ _ _ (FT (kat_nil ?_))))
   have:x1=x2/\y1=y2:=by
    obtain ⟨o,e1,_,n,d1⟩:=hb1
    obtain ⟨o',e2,_,n',d2⟩:=hb2
    rw [e1] at e2;cases e2
    rw [d1] at d2
    simp at d2
    exact ⟨d2.1.1.1,d2.1.2.1⟩
   rw [this.1,this.2,ua] at h
   exact h
  ·have rc:SeqAt.RcAt A s (.ref b1) (.ref b2) ((gh (min 2 2)).all (λj=>if j=0 then x1 == x2 else y1 == y2) && (2 == 2)):=SeqAt.RcAt.tuples (items:=#[.int x1 ta,.int y1 tb]) (items2:=#[.int x2 tc,.int y2 td]) hb1 hb2 hu λj h1 h2=>by
    match j,h1,h2 with
    | 0,_,_=>exact jh x1 ta x2 tc
    | 1,_,_=>exact jh y1 tb y2 td
    | j+2,h1,_=>exact absurd h1 (by simp)
   have er:((gh (min 2 2)).all (λj=>if j=0 then x1 == x2 else y1 == y2) && (2 == 2))=(x1 == x2 && y1 == y2):=by
    show ([0,1].all _ && true)=_
    simp
   rw [er] at rc
   refine FT (FS (SeqAt.EqAt.of_refs eb rc _ _ _ _ ?_))
   by_cases c1:x1=x2/\y1=y2
   ·rw [show (x1 == x2 && y1 == y2)=true by simp [c1]]
    refine FT (kat_nil ?_)
    rw [c1.1,c1.2,ua] at h
    exact h
   ·rw [show (x1 == x2 && y1 == y2)=false by
     cases q:(x1 == x2 && y1 == y2) with
     | false=>rfl
     | true=>simp at q;exact absurd q c1]
    refine kat_no (kat_one _ _ (HT.Ik hb1 hb2 (.cons _ _ (.cons _ _ .nil)) (.cons _ _ (.cons _ _ .nil)) hu ?_))
    rw [Kh] at h
    exact h
 ·rw [if_neg e] at h
  rw [show (w1 == w2)=false by simpa using e]
  exact kat_no (oneLt_int h)
end
section
variable {P:bp}{w:b8}{A:cp}{env:HG}{s:au}{h:cm}{H:Hp}
theorem Nc {x y:bA}{b d cl:af}{wt:Int}{tk:Nat}{p1 p2 p3 p4 p5:qQ}{x1} {Q:ai->au->Prop}{E:ai->au->Prop}(hok:HOk P w H h) (hk:env.scope.kind=.function) (hx:env.scope.names.lookup x=some .local) (hy:env.scope.names.lookup y=some .free) (hn:h.Ns env.locals (λz=>eU z [(x,aI b)]))
  (hcl:env.cells.lookup y=some cl) (hcv:h.IsCell cl (some (.ref d))) {wvs:List (List ja×V)}{k:List ja}(hd:H d=some (.dT wvs)) (hb:H b=some (.tup (k.map kV))) (hv:mr wvs k=some (.int wt)) (hu:A.units+64<iH)
  (q:∀ t tk',Q (.ref h.objs.size) { s with heap:=h.push (bD "tuple" #[.int wt t,.ref b] 0),toks:=tk' })
  (hdx:(x == ("__debug__":bA))=false:=by decide) (hdy:(y == ("__debug__":bA))=false:=by decide) (hdc:(y == ("__classdict__":bA))=false:=by decide) :
  aK (aU P w) A (fV (.Tuple [.Subscript (.Name y p1) (.Name x p2) p3,.Name x p4] x1 p5) env) Q E { s with heap:=h,toks:=tk }:=by
 have lx:eU x [(x,aI b)]=some (aI b):=by rw [cS,beq_self_eq_true]
 refine R5 (jQ (Subscript_ (wV (R3 hk hy hcl (v:=.ref d) hcv ?_ hdc) hdy)))
 refine wV (qL hk hx hn (v:=.ref b) lx ?_) hdx
 obtain ⟨z,hm,xs,rel,dd⟩:=Dq hok (.inl hd)
 obtain ⟨w',hw,rw'⟩:=RelO.some_of (v:=V.int wt) (o:=(FL xs k).map (·.2)) (by rw [← hv];exact rel.val k)
 obtain ⟨t,rfl⟩:=rw'
 obtain ⟨p,hp,hp2⟩:=bc.mp hw
 have ty:({ s with heap:=h,toks:=tk }:au).TypeIs (.ref d) "dict":=by
  obtain ⟨o,es,ep,e1,e2,_⟩:=dd
  exact ⟨o,e1,e2.1⟩
 refine tail_any ty DN.lookup (wpAny_getItem_heap (kQ (by omega)) (tj hok hb) dd hp ?_) rfl
 rw [hp2]
 refine jQ (wV (qL hk hx hn (v:=.ref b) lx (nR ⟨?_,q t _⟩)) hdx)
 exact b0 (m:=2) (aw 2)
end
end L2
namespace L2
open PySem PySem.Spec PySem.Calls PyProof.Rows PySem.W
def Ki (own:List (af×fR)) (zs:List Zn) (ks:List af):Prop:=Paired (λ(z:Zn) (k:af)=>∃ t,(k,vX z t)∈own) zs ks
theorem yx {α β:Type} {R:α->β->Prop}{a:α}{b:β}(r:R a b):∀ {xs:List α}{ys:List β},Paired R xs ys->Paired R (xs++[a]) (ys++[b])
 | _,_,.nil=>.cons r .nil
 | _,_,.cons h t=>.cons h (yx r t)
theorem Ax {α β:Type} {R:α->β->Prop}:∀ {xs:List α}{ys:List β},Paired R xs ys->ys.length=xs.length
 | _,_,.nil=>rfl
 | _,_,.cons _ t=>by simp [Ax t]
theorem Ay {α β:Type} {R:α->β->Prop}:∀ {xs:List α}{ys:List β},Paired R xs ys->∀ (i:Nat) (a:α),xs[i]?=some a->∃ b,ys[i]?=some b/\R a b
 | _,_,.nil,_,_,h=>by simp at h
 | _,_,.cons r t,0,a,h=>by simp at h;subst h;exact ⟨_,rfl,r⟩
 | _,_,.cons r t,i+1,a,h=>by simpa using Ay t i a (by simpa using h)
section
variable {prog:bp}{w:b8}{A:cp}{s:au}{h₀:cm} {L a kS:af}{m:bA->Option ai}{news:List (af×fR)}{f:ai}{e1:Nat}{zs:List Zn}{Fin:List ai->Nat->au->Prop}
theorem Qa (turn:∀ z∈zs,∀ (h:cm) (tk:Nat) (own:List (af×fR)),Fr h₀ L h m->wR h₀ L h (news++own)->∀ Q:ai->au->Prop,
   (∀ h' tk' t k,(∀ b o,h.get? b=some o->h'.get? b=some o)->h.get? k=none->h'.get? k=some (vX z t)->Q (.ref k) { s with heap:=h',toks:=tk' })->aK (aU prog w) A (call f [.ref z.2]) Q (λ_ _=>False) { s with heap:=h,toks:=tk })
  (hak:a≠kS):∀ (r done:List Zn) (ks:List af) (own:List (af×fR)) (e:Nat) (h:cm) (tk:Nat),Fr h₀ L h m->wR h₀ L h ((kS,bD "list" (ks.map aI).toArray e)::(a,bD "list" #[] e1)::(own++news))->(∀ q∈own++news,q.1≠kS)->Ki own done ks->(∀ z∈r,z∈zs) ->
   (∀ own' ks' e' h' tk',Fr h₀ L h' m->wR h₀ L h' ((kS,bD "list" (ks'.map aI).toArray e')::(a,bD "list" #[] e1)::(own'++news))->(∀ q∈own'++news,q.1≠kS)->Ki own' (done++r) ks'->Fin (ks'.map aI) e' { s with heap:=h',toks:=tk' }) ->
   KatKeys prog w A h₀ L m kS f Fin (r.map λz=>aI z.2) (ks.map aI) e { s with heap:=h,toks:=tk }
 | [],done,ks,own,e,h,tk,F,N,hk,rel,hr,fin=>KatKeys.nil (fin own ks e h tk F N hk (by rw [DL];exact rel))
 | z::r,done,ks,own,e,h,tk,F,N,hk,rel,hr,fin=>by
  have nk:=N _ aq
  refine KatKeys.cons (turn z (hr z aq) h tk ((kS,bD "list" (ks.map aI).toArray e)::(a,bD "list" #[] e1)::own) F (λp hp=>N p ?_) _ λh' tk' t k keep kn hkk=>?_)
  ·rcases aP.mp hp with hp|hp
   ·exact ag _ (ag _ (aZ _ hp))
   ·rcases ak.mp hp with hp|hp
    ·exact hp▸aq
    ·rcases ak.mp hp with hp|hp
     ·exact hp▸ag _ aq
     ·exact ag _ (ag _ (bT _ hp))
  have F':Fr h₀ L h' m:=F.kept keep
  have N':=N.grown keep
  have kL:k≠L:=λq=>by
   obtain ⟨o,_,_,e,_⟩:=F.ns
   rw [q,e] at kn;cases kn
  have k0:h₀.get? k=none:=by
   cases q:h₀.get? k with
   | none=>rfl
   | some o=>rw [F.keep k o q] at kn;cases kn
  have kk:k≠kS:=λq=>by rw [q,nk.1] at kn;cases kn
  have hk':∀ q∈(k,vX z t)::own++news,q.1≠kS:=λq hq=>by
   rcases ak.mp hq with rfl|hq
   ·exact kk
   ·exact hk q hq
  have N2:wR h₀ L h' ((kS,bD "list" (ks.map aI).toArray e)::(a,bD "list" #[] e1)::((k,vX z t)::own++news)):=λp hp=>by
   rcases ak.mp hp with rfl|hp
   ·exact N' _ aq
   ·rcases ak.mp hp with rfl|hp
    ·exact N' _ (ag _ aq)
    ·rcases ak.mp hp with rfl|hp
     ·exact ⟨hkk,kL,k0⟩
     ·exact N' p (ag _ (ag _ hp))
  refine KatBack.intro F' N2 (xb λq hq=>?_) λh2 c F2 N3=>?_
  ·rcases ak.mp hq with rfl|hq
   ·exact hak
   ·exact hk' q hq
  have em:ks.map aI++[aI k]=(ks++[k]).map aI:=by simp
  rw [em] at N3 ⊢
  exact Qa turn hak r (done++[z]) (ks++[k]) ((k,vX z t)::own) c h2 tk' F2 N3 hk' (yx ⟨t,aq⟩ (Paired.mapP rel λz' k' ⟨t',ht⟩=>⟨t',ag _ ht⟩))
   (λz' hz'=>hr z' (ag _ hz')) λown' ks' e' h3 tk3 F3 N4 hk3 rel3=>fin own' ks' e' h3 tk3 F3 N4 hk3 (by rw [dS] at rel3;exact rel3)
end
section
variable {prog:bp}{w:b8}{A:cp}{s:au}{h₀:cm} {L a kS:af}{m:bA->Option ai}{news own:List (af×fR)}{e e1:Nat}{zs:List Zn}{ks:List af}{Post:au->Prop}
theorem IC (F:Fr h₀ L s.heap m) (N:wR h₀ L s.heap ((kS,bD "list" (ks.map aI).toArray e)::(a,bD "list" #[] e1)::(own++news))) (hk:∀ q∈own++news,q.1≠kS) (hak:a≠kS) (hna:∀ q∈news,q.1≠a)
  (rel:Ki own zs ks) (h2:2<=zs.length) (hu:A.units<iH) (tie:∀ z∈zs,∃ v x y t u,z.1=[v,x,y]/\rZ s.heap z.2 #[.int x t,.int y u])
  (fin:∀ h' c (zs':List Zn),zs'.Perm zs->zs'.Pairwise (λz w=>iZ w.1 z.1=false)->Fr h₀ L h' m->wR h₀ L h' ((a,bD "list" (zs'.map λz=>aI z.2).toArray c)::news)->Post { s with heap:=h' }) :
  aK (aU prog w) A (keyKind' (ks.map aI).toArray) (λκ s''=>(kas_sort (zs.map λz=>aI z.2).length).kasWp (kas_ask prog w A κ (LU false (ks.map aI))) (λp s3=>KatFin h₀ L m kS a (ks.map aI) e e1 (LU false (p.toList.map λi=>(LU false (zs.map λz=>aI z.2)).getD i c9)) (λs4=>Post s4) s3) s'') (λ_ _=>False) s:=by
 have kl:=Ax rel
 have at_:∀ (z:Zn) (k:af) (t:RE),(k,vX z t)∈own->rZ s.heap k #[.int (z.1.headD 0) t,.ref z.2]:=λz k t hm=>by
  have:=(N _ (ag _ (ag _ (bT _ hm)))).1
  exact ⟨_,this,rfl,0,rfl⟩
 have kt:∀ {zs:List Zn}{ks:List af},Ki own zs ks->∃ fs,KatTups s.heap (ks.map aI) fs/\fs.length=zs.length/\∀ v∈fs,∃ i t,v=gN i t:=by
  intro zs ks rel
  induction rel with
  | nil=>exact ⟨[],.nil,rfl,λ_ h=>nomatch h⟩
  | cons r _ ih =>
   obtain ⟨fs,f1,f2,f3⟩:=ih
   obtain ⟨t,ht⟩:=r
   obtain ⟨o,e,c,n,d⟩:=at_ _ _ t ht
   refine ⟨.int _ t::fs,RR e c d (by rfl) f1,by simp [f2],λv hv=>?_⟩
   rcases ak.mp hv with rfl|hv
   ·exact ⟨_,t,rfl⟩
   ·exact f3 v hv
 obtain ⟨fs,f1,f2,f3⟩:=kt rel
 refine kat_kind (T:=.type "int") f1 (by omega) (λv hv=>?_) rfl ?_
 ·obtain ⟨i,t,rfl⟩:=f3 v hv
  exact Looks.now
 have et:(fg "int" != fg "tuple")=true:=by decide
 rw [et,aj]
 have rv:∀ {α:Type} (l:List α),LU false l=l:=λl=>by unfold LU;rw [if_neg (by simp)]
 simp only [rv]
 have gz:∀ i,i<zs.length->(zs.map λz=>aI z.2).getD i c9=aI (zs.getD i ([],0)).2:=λi hi=>by simp [hi]
 have mz:∀ i,i<zs.length->zs.getD i ([],0)∈zs:=λi hi=>by
  have:zs.getD i ([],0)=zs[i]:=by simp [hi]
  rw [this];exact dO hi
 have gk:∀ i,i<zs.length->∃ k t,(ks.map aI).getD i c9=aI k/\rZ s.heap k #[.int ((zs.getD i ([],0)).1.headD 0) t,.ref (zs.getD i ([],0)).2]:=λi hi=>by
  obtain ⟨k,hk1,t,ht⟩:=Ay rel i _ (by rw [ar hi])
  have:zs.getD i ([],0)=zs[i]:=by simp [hi]
  rw [this]
  exact ⟨k,t,by simp [hk1],at_ _ _ _ ht⟩
 refine Sx.Sat.ask (n:=zs.length) (k:=λi=>DA (zs.map (·.1)) (zs.getD i ([],0)).1) (λi j C hi hj hC=>?_) (λpr hp=>?_) (Sx.GE (by omega))
 ·unfold kas_ask
  obtain ⟨k1,t1,q1,i1⟩:=gk i hi
  obtain ⟨k2,t2,q2,i2⟩:=gk j hj
  rw [q1,q2]
  have hC':C (iZ (zs.getD i ([],0)).1 (zs.getD j ([],0)).1) s:=by
   rw [Av (bu (mz i hi))] at hC
   exact hC
  obtain ⟨v1,x1,y1,ta,tb,z1,b1⟩:=tie _ (mz i hi)
  obtain ⟨v2,x2,y2,tc,td,z2,b2⟩:=tie _ (mz j hj)
  rw [z1,z2] at hC'
  rw [z1] at i1
  rw [z2] at i2
  exact O8 i1 i2 b1 b2 hu hC'
 ·obtain ⟨hperm,hsort⟩:=vW (d:=([],0)) (λi=>rfl) hp.1 hp.2
  have plt:∀ i∈pr.toList,i<zs.length:=λi hi=>by simpa using hp.1.mem_iff.mp hi
  have eo:(pr.toList.map λi=>(zs.map λz=>aI z.2).getD i c9)=(pr.toList.map λi=>zs.getD i ([],0)).map λz=>aI z.2:=by
   rw [cW]
   exact lX λi hi=>gz i (plt i hi)
  rw [eo]
  generalize (pr.toList.map λi=>zs.getD i ([],0))=zs' at hperm hsort
  refine R9 F N (xb λq hq=>?_) λh' c F' N'=>?_
  ·rcases ak.mp hq with rfl|hq
   ·exact hak
   ·exact hk q hq
  have N2:wR h₀ L h' ((a,bD "list" #[] e1)::news):=λp hp=>by
   rcases ak.mp hp with rfl|hp
   ·exact N' _ (ag _ aq)
   ·exact N' p (ag _ (ag _ (aZ _ hp)))
  exact HX (s:={ s with heap:=h' }) F' N2 (xb λq hq=>hna q hq) λh'' c' F'' N''=>fin h'' c' zs' hperm hsort F'' N''
end
end L2
namespace L2
open PySem PySem.Spec PySem.Calls PyProof.Rows PySem.W
section
variable {prog:bp}{w:b8}{A:cp}{E:ai->au->Prop}{s:au}{h₀:cm} {L a:af}{m:bA->Option ai}{news:List (af×fR)}{f:ai}{n:Nat}{vs:List ai}{P:PySem.Fin->au->Prop}
theorem Lg (F:Fr h₀ L s.heap m) (N:wR h₀ L s.heap news) (ho:s.heap.get? a=some (bD "list" vs.toArray n)) (haL:a≠L) (ha0:h₀.get? a=none) (hna:∀ p∈news,p.1≠a) (h1:vs.length<2)
  (turn:∀ v∈vs,∀ (h:cm) (tk:Nat) (own:List (af×fR)),Fr h₀ L h m->wR h₀ L h (news++own)->∀ Q:ai->au->Prop,
   (∀ h' tk' k,(∀ b o,h.get? b=some o->h'.get? b=some o)->Q k { s with heap:=h',toks:=tk' })->aK (aU prog w) A (call f [v]) Q (λ_ _=>False) { s with heap:=h,toks:=tk })
  (q:∀ h' tk c,Fr h₀ L h' m->wR h₀ L h' ((a,bD "list" vs.toArray c)::news)->P (.done (.ret .none)) { s with heap:=h',toks:=tk }):aK (aU prog w) A (ksk_tree a f false) P E s:=by
 have hz:vs.length<=a0:=b0 (m:=2) (by omega)
 have s1:=cD s.heap a (bH λ_=>(#[]:Array ai))
 obtain ⟨e1,g1⟩:∃ c,(s.heap.update a (bH λ_=>(#[]:Array ai))).get? a=some (bD "list" #[] c):=⟨_,rW ho λ_=>#[]⟩
 have F1:Fr h₀ L (s.heap.update a (bH λ_=>(#[]:Array ai))) m:=ksk_fr F s1 haL ha0
 have N1:=ksk_news N s1 hna
 unfold ksk_tree
 refine ae (wZ ho rfl (ae (uK ho rfl (ae (RL g1 rfl (ae (zu (ae (uJ (cB ?_) (a9 _))) hz)))) (by rw [aR];exact hz) (a9 _))))
 have k2:∀ b o,(s.heap.update a (bH λ_=>(#[]:Array ai))).get? b=some o->(((s.heap.update a (bH λ_=>(#[]:Array ai))).push (bD "tuple" vs.toArray 0)).push (bD "list" #[] 0)).get? b=some o:=λb o e=>ax _ (ax _ e)
 have gk:(((s.heap.update a (bH λ_=>(#[]:Array ai))).push (bD "tuple" vs.toArray 0)).push (bD "list" #[] 0)).get? ((s.heap.update a (bH λ_=>(#[]:Array ai))).push (bD "tuple" vs.toArray 0)).objs.size=some (bD "list" #[] 0):=aM _ rfl
 have kfr:∀ b o,(s.heap.update a (bH λ_=>(#[]:Array ai))).get? b=some o->b≠((s.heap.update a (bH λ_=>(#[]:Array ai))).push (bD "tuple" vs.toArray 0)).objs.size:=λb o e=>aW (aL (ax (bD "tuple" vs.toArray 0) e))
 show aK (aU prog w) A (ksk_rest a f false vs.toArray _ (.ref ((s.heap.update a (bH λ_=>(#[]:Array ai))).push (bD "tuple" vs.toArray 0)).objs.size)) _ _ { s with heap:=((s.heap.update a (bH λ_=>(#[]:Array ai))).push (bD "tuple" vs.toArray 0)).push (bD "list" #[] 0) }
 generalize ((s.heap.update a (bH λ_=>(#[]:Array ai))).push (bD "tuple" vs.toArray 0)).objs.size=kS at gk kfr
 generalize ((s.heap.update a (bH λ_=>(#[]:Array ai))).push (bD "tuple" vs.toArray 0)).push (bD "list" #[] 0)=h2 at k2 gk
 have hak:a≠kS:=kfr a _ g1
 have hnk:∀ p∈news,p.1≠kS:=λp hp=>kfr _ _ (N1 p hp).1
 have kL:kS≠L:=λz=>by
  obtain ⟨o,_,_,e,_⟩:=F1.ns
  exact kfr _ _ e z.symm
 have k0:h₀.get? kS=none:=by
  cases z:h₀.get? kS with
  | none=>rfl
  | some o=>exact absurd rfl (kfr _ _ (F1.keep kS o z))
 have F2:=F1.kept k2
 have N2:wR h₀ L h2 ((kS,bD "list" #[] 0)::(a,bD "list" #[] e1)::news):=λp hp=>by
  rcases ak.mp hp with rfl|hp
  ·exact ⟨gk,kL,k0⟩
  ·rcases ak.mp hp with rfl|hp
   ·exact ⟨k2 _ _ g1,haL,ha0⟩
   ·exact (N1.grown k2) p hp
 have end_:∀ (ks:List ai) (e:Nat) (h:cm) (tk:Nat),ks.length=vs.length->Fr h₀ L h m->wR h₀ L h ((kS,bD "list" ks.toArray e)::(a,bD "list" #[] e1)::news)->aK (aU prog w) A (ksk_end a false vs.toArray e1 (.ref kS) ks.toArray) P E { s with heap:=h,toks:=tk }:=by
  intro ks e h tk hl F3 N3
  have hn2:vs.toArray.size<2:=by rw [aR];exact h1
  unfold ksk_end
  simp only [cf,if_false]
  rw [if_pos hn2,if_pos hn2]
  refine ae (ao ?_)
  rw [Py]
  refine ae (ao ?_)
  dsimp only
  refine kat_tail (h₀:=h₀) (L:=L) (m:=m) (e:=e) (ks:=ks) (out:=vs) ?_ (by omega) (by omega) rfl ?_
  ·show (ks.toArray.zip vs.toArray).map (·.2)=vs.toArray
   apply Pz.mp
   simp
   exact Qm (by omega)
  ·have rv:LU false vs=vs:=by unfold LU;rw [if_neg (by simp)]
   rw [rv]
   refine R9 F3 N3 (xb λq hq=>?_) λh' c F' N'=>?_
   ·rcases ak.mp hq with rfl|hq
    ·exact hak
    ·exact hnk q hq
   ·exact HX (s:={ s with heap:=h',toks:=tk }) F' (λp hp=>N' p (ag _ hp)) (xb λq hq=>hna q hq) λh'' c' F'' N''=>q h'' tk c' F'' N''
 unfold ksk_rest
 refine ae (sO ?_)
 match vs,h1,turn,end_ with
 | [],_,_,end_ =>
  refine ae ?_
  simp only [Ot,vD]
  refine ao (ae (wZ gk rfl (end_ [] 0 h2 _ rfl F2 N2)))
 | [v],_,turn,end_ =>
  refine ae ?_
  simp only [Ot,uH,vD]
  refine ae (ae (jB (gf (turn v aq h2 _ ((kS,bD "list" #[] 0)::(a,bD "list" #[] e1)::[]) F2 (λp hp=>N2 p ?_) _ λh3 tk3 k keep=>?_) (λ_ _ z=>z) λ_ _ z=>z.elim)))
  ·rcases aP.mp hp with hp|hp
   ·exact ag _ (ag _ hp)
   ·rcases ak.mp hp with rfl|hp
    ·exact aq
    ·rw [aC.mp hp];exact ag _ aq
  have g3:=keep _ _ gk
  have s3:=cD h3 kS (bH (·.push k))
  obtain ⟨c3,g4⟩:∃ c,(h3.update kS (bH (·.push k))).get? kS=some (bD "list" (List.toArray [k]) c):=⟨_,rW g3 (·.push k)⟩
  dsimp only
  refine ae (uK g3 rfl (ao ?_) (a9 _) (pL (a9 _)))
  dsimp only
  refine ao (ae (wZ g4 rfl (end_ [k] c3 _ tk3 rfl (ksk_fr (F2.kept keep) s3 kL k0) λp hp=>?_)))
  rcases ak.mp hp with rfl|hp
  ·exact ⟨g4,kL,k0⟩
  ·have:=(N2.grown keep) p (ag _ hp)
   exact ⟨(s3.2 p.1 (by
    rcases ak.mp hp with rfl|hp
    ·exact hak
    ·exact hnk p hp)).trans this.1,this.2⟩
 | _::_::_,h,_,_=>exact absurd h (by simp)
end
section
variable {X:Cx}{c Pt:af}{e:Expr}{tx:TA}{x y:bA}{j:Nat}{params:sC}{scope:lH}{p0 p1 p2 p3 p4 p5 lpos kpos pos:qQ}{x1:Nat}
end
end L2
namespace L2
open PySem PySem.Spec PySem.Calls PyProof.Rows
theorem Room.units128 {k:Nat}{A:cp}(r:Room k A):A.units+128<iH:=by have:=r.un;omega
section
variable {X:Cx}{CX:Ii}{k:Nat}{B:af}{x:bA}{ps:List bA}{sp:Sp}{o e:Expr}{es:List Expr}{t:TA}{E:XK}{apos pos:qQ}
end
section
variable {X:Cx}{x:Expr}{t:TA}{p1 p2 q1 q2:qQ}
end
end L2
namespace L2
open PySem PySem.Spec PySem.Calls PyProof.Rows
open PySem.W (tabObj CodeHd noTabs tabIn)
theorem Lh {P:bp}{w:b8}{K:aa}{mg mb:bA->Option ai}{k:Nat}{fa a:af}{Ps:List (af×af)}{fd:fP}{x:bA}{sp:Sp}{s₁:au} {vs:List ai}{ns:List Int}
  (KX:K.In s₁.heap) (hns:s₁.heap.Ns bQ mg) (hb:s₁.heap.Ns builtinsNs mb) (hbb:∀ x:bA,x≠"__name__"->mb x=dz x) (hlim:s₁.heap.NoLimit) (hg:s₁.gens=#[])
  (C:∀ p∈Ps,pF s₁.heap p.1 p.2) (hPt0:∀ p∈Ps,s₁.heap.get? p.2=some (HK #[])) (Bm:∀ p∈Ps,s₁.heap.BuiltinsAt mg p.2) (hnt:noTabs K=true)
  (ha:s₁.heap.get? a=some { cls:=.type "list",data:=.seq vs.toArray }) (hi:fS vs ns) (hl:ns.length<=a0) (hr:Room k FM)
  (F:∀ base:cm,K.In base->base.Ns bQ mg->(∀ p∈Ps,pF base p.1 p.2/\base.BuiltinsAt mg p.2)->FnOk P w K mg base bW k fa fd [x] sp) (hbind:∀ (s:au) (u:ai),FH s fd ⟨[u],[]⟩ [(x,u)])
  (hsp:∀ H:Hp,(∀ p∈Ps,H p.2=some (.tbl #[]))->SqL K H a (ns.map V.int)->sp [.ref a] H (λv _=>v=.bl true) λ_ _ _=>False)
  (hCX:∀ H e s',bW [] H s₁ (λ_ _ _=>False) e s'->False) :
  m8 (aU P w) FM (.call (.ref fa) ⟨[.ref a],[]⟩) (λr s'=>r=.ok (.ret (.bool true))/\OldK s₁.heap s'.heap/\s'.os=s₁.os/\wU s'.gens) s₁:=by
 have rv:=xv hi
 have lenV:=hi.length
 have hPt:∀ b,b∈Ps.map (·.2)->s₁.heap.get? b=some (HK #[]):=λb hb=>by
  obtain ⟨p,hp,rfl⟩:=br.mp hb
  exact hPt0 p hp
 have naP:a∉Ps.map (·.2):=λz=>by rw [hPt a z] at ha;cases ha
 have KPt:∀ b,b∈Ps.map (·.2)->K.lookup b=none:=λb hb=>by
  cases q:K.lookup b with
  | none=>rfl
  | some o =>
   have e:=KX b o q
   rw [hPt b hb] at e;cases e
   have h2:=Qk.mp hnt (b,HK #[]) (PySem.W.mem_of_lookupK q)
   exact absurd (show false=true from h2) bF
 have core:∀ H:Hp,(∀ b,b∈Ps.map (·.2)->H b=some (.tbl #[]))->(∀ b,b∉Ps.map (·.2)->H b=none\/∃ o xs,H b=some (.frz o (.lst xs)))->SqL K H a (ns.map V.int)->HOk P w H s₁.heap->(∀ b,b∉Ps.map (·.2)->H b≠none->b=a)->(H a≠none->K.lookup a=none) ->
   m8 (aU P w) FM (.call (.ref fa) ⟨[.ref a],[]⟩) (λr s'=>r=.ok (.ret (.bool true))/\OldK s₁.heap s'.heap/\s'.os=s₁.os/\wU s'.gens) s₁:=by
  intro H hT hO hS hok hA hK
  have base_of:∀ {b:af}{o:fR},s₁.heap.get? b=some o->H b=none->(zT s₁.heap H).get? b=some o:=λe n=>Mg e n
  have noA:∀ {b:af}{o:fR},s₁.heap.get? b=some o->o.cls≠.type "list"->b∉Ps.map (·.2)->H b=none:=λ{b o} e d hbP=>by
   cases q:H b with
   | none=>rfl
   | some u =>
    have e':b=a:=hA b hbP (by rw [q];simp)
    subst e'
    rw [ha] at e;cases e
    exact absurd rfl d
  have noD:∀ {b:af}{o:fR}{es:Array DictEntry}{ep:Nat},s₁.heap.get? b=some o->o.data=.dict es ep->H b=none:=λ{b o es ep} e d=>by
   have hbP:b∉Ps.map (·.2):=λz=>by rw [hPt b z] at e;cases e;cases d
   cases q:H b with
   | none=>rfl
   | some u =>
    have e':b=a:=hA b hbP (by rw [q];simp)
    subst e'
    rw [ha] at e;cases e
    have d':Data.seq vs.toArray _=Data.dict es ep:=d
    cases d'
  have nsK:∀ {b:af}{m:bA->Option ai},s₁.heap.Ns b m->(zT s₁.heap H).Ns b m:=λ{b m} ⟨o,es,ep,e,d,r⟩=>⟨o,es,ep,base_of e (noD e d),d,r⟩
  have hKb:K.In (zT s₁.heap H):=λb o e=>base_of (KX b o e) (by
   have hbP:b∉Ps.map (·.2):=λz=>by rw [KPt b z] at e;cases e
   cases q:H b with
   | none=>rfl
   | some u =>
    have e':b=a:=hA b hbP (by rw [q];simp)
    subst e'
    rw [hK (by rw [q];simp)] at e;cases e)
  have hM:Mod K mg (zT s₁.heap H):=⟨hKb,nsK hns,⟨mb,nsK hb,hbb⟩,let ⟨mc,h1,h2⟩:=hlim;⟨mc,nsK h1,h2⟩⟩
  have notab:∀ {b:af}{o:fR},s₁.heap.get? b=some o->o.cls≠.none->b∉Ps.map (·.2):=λ{b o} e d z=>by rw [hPt b z] at e;cases e;exact d rfl
  have hCB:∀ p∈Ps,pF (zT s₁.heap H) p.1 p.2/\(zT s₁.heap H).BuiltinsAt mg p.2:=λp hp=>by
   refine ⟨?_,?_⟩
   ·obtain ⟨o,vs',file,tf,flags,tg,inF,text,tt,e1,r1,r2,r3,r4,r5,r6,r7,r8,hne⟩:=C p hp
    exact ⟨o,vs',file,tf,flags,tg,inF,text,tt,base_of e1 (noA e1 (by rw [r1];decide) (notab e1 (by rw [r1];decide))),r1,r2,r3,r4,r5,r6,r7,r8,hne⟩
   ·obtain ⟨bm,o,b1,b2,b3,b4,b5,b6,b7⟩:=Bm p hp
    exact ⟨bm,o,b1,b2,b3,b4,base_of b5 (noA b5 (by rw [b6];decide) (notab b5 (by rw [b6];decide))),b6,b7⟩
  have e0:Env0 P w K mg (zT s₁.heap H) FM [] s₁ H:=⟨rfl,hM,λb o e=>Ou e,BB (KE _ _),trivial,λb hb=>absurd (show b∈([]:List af) from hb) (by simp),hok,.of_eq hg⟩
  refine pC ((F _ hKb (nsK hns) hCB).run FM [] s₁ H ⟨[.ref a],[]⟩ [.ref a] [.ref a] _ _ hr e0 (hbind s₁ (.ref a)) (.cons rfl .nil) (hsp H (λp hp=>hT p.2 (bu hp)) hS)) λr s' h=>?_
  cases r with
  | error e=>exact (hCX H e s' h).elim
  | ok fl =>
   cases fl with
   | next=>exact ip h
   | brk=>exact ip h
   | cont=>exact ip h
   | ret u =>
    obtain ⟨v,H',os,bare,un,hok',r',q⟩:=h
    have q':v=.bl true:=q
    subst q'
    obtain rfl:u=qK true:=r'
    have keep:∀ b o,b∉Ps.map (·.2)->s₁.heap.get? b=some o->s'.heap.get? b=some o:=λb o hbP e=>by
     cases q:H b with
     | none=>exact un.keep b o e q (by intro z;exact absurd (show b∈([]:List af) from z) (by simp)) (by simp)
     | some u =>
      rcases hO b hbP with z|⟨ob,xs,z⟩
      ·rw [q] at z;cases z
      ·have z2:=un.frzs b ob _ z
       obtain ⟨e1,_⟩:=hok b _ z
       obtain ⟨e2,_⟩:=hok' b _ z2
       rw [e] at e1;cases e1
       exact e2
    have hmore:∀ b,b∈Ps.map (·.2)->∃ more,s'.heap.get? b=some (HK (#[]++more)):=λb hb=>by
     obtain ⟨more,hm⟩:=un.tbls b _ (hT b hb)
     exact ⟨more,hok' b _ hm⟩
    refine ⟨rfl,⟨λb o e=>?_,λb o e=>?_⟩,os,bare⟩
    ·by_cases hbP:b∈Ps.map (·.2)
     ·obtain ⟨more,hP'⟩:=hmore b hbP
      obtain ⟨p,hp,rfl⟩:=br.mp hbP
      rw [hPt0 p hp] at e;cases e
      exact .inr (.inl ⟨((C p hp).tab (hPt0 p hp)).isCodeTable,rfl,#[],more,rfl,hP'⟩)
     ·exact .inl (keep b o hbP e)
    ·by_cases hbP:b∈Ps.map (·.2)
     ·obtain ⟨more,hP'⟩:=hmore b hbP
      exact ⟨_,hP'⟩
     ·exact ⟨o,keep b o hbP e⟩
 cases hk:K.lookup a with
 | some o =>
  have e:=KX a o hk
  rw [ha] at e
  cases e
  refine core (λb=>if b∈Ps.map (·.2) then some (.tbl #[]) else none) (λb hb=>if_pos hb) (λb hb=>.inl (if_neg hb)) (.inr ⟨_,vs.toArray,_,hk,rfl,rfl,rfl,by rw [aR,lenV];exact hl,by simpa using rv⟩) (λb u z=>?_) (λb hb z=>absurd (if_neg hb) z) λz=>absurd (if_neg naP) z
  by_cases hb:b∈Ps.map (·.2)
  ·have z':=(if_pos hb).symm.trans z
   cases z'
   exact hPt b hb
  ·have z':=(if_neg hb).symm.trans z
   cases z'
 | none =>
  refine core (λb=>if b∈Ps.map (·.2) then some (.tbl #[]) else if b=a then some (.frz { cls:=.type "list",data:=.seq vs.toArray } (.lst (ns.map V.int))) else none) (λb hb=>if_pos hb) (λb hb=>?_) (.inl (.inr ⟨{ cls:=.type "list",data:=.seq vs.toArray },(if_neg naP).trans (if_pos rfl)⟩)) (λb u z=>?_) (λb hb z=>?_) λ_=>hk
  ·by_cases hba:b=a
   ·exact .inr ⟨_,_,(if_neg hb).trans (if_pos hba)⟩
   ·exact .inl ((if_neg hb).trans (if_neg hba))
  ·by_cases hb:b∈Ps.map (·.2)
   ·have z':=(if_pos hb).symm.trans z
    cases z'
    exact hPt b hb
   ·have z0:=(if_neg hb).symm.trans z
    by_cases hba:b=a
    ·have z':=(if_pos hba).symm.trans z0
     cases z'
     subst hba
     exact ⟨ha,by rw [aj];exact hl,vs,_,rv,ha⟩
    ·have z':=(if_neg hba).symm.trans z0
     cases z'
  ·by_cases hba:b=a
   ·exact hba
   ·exact absurd ((if_neg hb).trans (if_neg hba)) z
theorem Nd {l:sD}{n k:Nat}{q:bp}{loose:List bA}{XP:(bA->Option ai)->cm->Prop}{YP:b8->cm->Prop}{d:DefRec}{K:Params->aa}{sp:b8->Sp}{x:bA}{Ps:List (af×af)}
  (hn:l.most=some n) (hn2:n<=a0) (hdf:d.params.defaults=[]) (hr:Room k FM)
  (hY:∀ (w:b8) (h:cm),YP w h->(K w.params).In h)
  (htab:∀ p∈Ps,∃ (y:bA) (dy:DefRec),(recsOf q).find? (λe=>e.name == y)=some dy/\∀ w:b8,tabIn (K w.params) y=some p) (hnt:∀ w:b8,noTabs (K w.params)=true)
  (F:∀ (w:b8) (mg:bA->Option ai) (fa:af) (h:cm),(K w.params).In h->h.Ns bQ mg->mg d.name=some (.ref fa) ->
   ∃ fd:fP,(∀ (s:au) (u:ai),FH s fd ⟨[u],[]⟩ [(x,u)]) /\
    ∀ base:cm,(K w.params).In base->base.Ns bQ mg->(∀ p∈Ps,pF base p.1 p.2/\base.BuiltinsAt mg p.2)->FnOk l.prog w (K w.params) mg base bW k fa fd [x] (sp w))
  (hsp:∀ (w:b8) (H:Hp) (a:af) (ns:List Int),ns.length<=n->(∀ p∈Ps,H p.2=some (.tbl #[]))->SqL (K w.params) H a (ns.map V.int)->sp w [.ref a] H (λv _=>v=.bl true) λ_ _ _=>False)
  (hCX:∀ (H:Hp) (s:au) (e:ai) (s':au),bW [] H s (λ_ _ _=>False) e s'->False) :
  N8 q loose XP YP l.row.toRowW d [] (λf vs=>N9 f vs):=by
 refine Att.Gs hn hdf λw s₀ s₁ mg mb fa o pm cd doc a vs ns G Y ho hd hcd hmg hobj hints hlen hg=>?_
 have KX:=hY w _ Y
 obtain ⟨fd,hb,hF⟩:=F w mg fa _ KX G.T.g hmg
 have hC:∀ p∈Ps,pF s₁.heap p.1 p.2/\s₁.heap.get? p.2=some (HK #[]):=λp hp=>by
  obtain ⟨y,dy,h1,h2⟩:=htab p hp
  exact PySem.W.tab_of G.T KX h1 (h2 w)
 have hgs:=G.T.g
 obtain ⟨bm,ob,b1,b2,b3,b4,b5,b6⟩:=G.T.bmain
 have hbG:bm≠bQ:=λq=>by
  obtain ⟨o,es,ep,e,hd,_⟩:=hgs
  rw [q,e] at b3;cases b3;rw [hd] at b6;cases b6
 refine Lh KX G.T.g G.T.b G.T.builtins G.T.nolimit hg (λp hp=>(hC p hp).1) (λp hp=>(hC p hp).2) (λp hp=>⟨bm,ob,b1,b2,hbG,λq=>?_,b3,b4,b5,b6⟩) (hnt w) hobj hints (bg hlen hn2) hr hF hb (λH hT hS=>hsp w H a ns hlen hT hS) λH e s'=>hCX H s₁ e s'
 have:=(hC p hp).2
 rw [← q,b3] at this
 cases this
 cases b4
end L2
namespace L2
open PySem PySem.Spec PyProof.Rows
def Nf (K:aa):List V->Hp->VK->Prop:=λxs H Q=>∃ (p:af) (ns:List Int),xs=[.ref p]/\SqL K H p (ns.map V.int)/\Q (.int ns.sum) H
theorem DB {X:Cx}(hc:X.calm=true):CallR X (.builtin "sum") (Nf X.K):=by
 intro pins s σ H xs us Q I r h
 obtain ⟨p,ns,rfl,hq,q⟩:=h
 obtain ⟨u,rfl,ru⟩:=vals1 r
 cases ru
 obtain ⟨its,rv,pl,hz⟩:=I.list hq
 have hi:fS its ns:=intsAre_of rv
 obtain ⟨ys,e⟩:=hi.allInts.items
 have hn:=hi.numsOf
 have e':its=(intItems ys).toList:=by rw [← e]
 rw [e',nums_intItems] at hn
 have hl:s.heap.IsList p (intItems ys):=by rw [← e];exact pl.isList
 subst hn
 refine sum_intListG (I.ok.hd hc) hl λh' tk t' hk=>⟨.int _,H,I.kept hk,⟨t',?_⟩,q⟩
 rw [preSum_eq,bY (by simp)]
end L2
namespace L2
open PySem PySem.Spec PyProof.Rows PySem.W
section
variable {X:Cx}{a:Expr}{ta:TE}
def Rr (b:Bool) (t:TE):TE:=λσ H Q=>t σ H λx H1=>∃ c,x=.bl c/\Q (.bl (c == b)) H1
theorem Rt {b:Bool}{j pos'} (ha:PE X a ta):PC X .Is a (.Constant (.bool b) j pos') (Rr b ta):=by
 intro pins s σ H Q I h
 refine ij (ha pins s σ H _ I h) λv s1 ⟨x,H1,I1,r1,q1⟩=>?_
 obtain ⟨c,rfl,q⟩:=q1
 cases r1
 refine md pins s1 σ H1 (λy H2=>y=.bl b/\H2=H1) I1 ⟨rfl,rfl⟩ |> λz=>ij z λu s2 ⟨y,H2,I2,r2,e1,e2⟩=>?_
 subst e1 e2
 cases r2
 refine wpAny_is_plain rfl ⟨.bl (c == b),H2,I2,?_,q⟩
 cases b<;>cases c<;>rfl
end
end L2
namespace L2
open PySem PySem.Spec PySem.Calls PyProof.Rows PySem.W
def ID (Pt:af) (pos:qQ) (qual:bA) (j:Nat) (tx:TA):TE:=λσ H Q=>tx σ H λv H1 =>
 ∃ (p d:af) (zs:List Zn) (wvs:List (List ja×V)),v=[.ref p]/\H1 p=some (.lst (zs.map tq))/\σ[j]?=some (some (.ref d))/\H1 d=some (.dT wvs)/\(∀ z∈zs,∃ w x y:Int,z.1=[w,x,y]/\H1 z.2=some (.tup [.int x,.int y])/\mr wvs [dY x,dY y]=some (.int w))/\zs.length<64/\LamT Pt pos qual H1 /\
  ∀ (l:af) (zs':List Zn) (H2:Hp),H2 l=none->GC Pt H1 H2->LamT Pt pos qual H2->zs'.Perm zs->zs'.Pairwise (λz w=>iZ w.1 z.1=false)->Q (.ref l) (upd H2 l (.lst (zs'.map tq)))
theorem GQ {prog:bp}{w:b8}{A:cp}{E:ai->au->Prop}{s:au}{l:af}{vs:List ai}{Q:List ai->au->Prop}(hl:s.heap.IsList l vs.toArray) (hn:vs.length<=a0)
  (q:∀ h' tk,(∀ b o,s.heap.get? b=some o->h'.get? b=some o)->Q vs { s with heap:=h',toks:=tk }):aK (aU prog w) A (collect (.ref l)) Q E s:=by
 refine collect_list hl (q _ _ λb o e=>?_) (by simpa using hn)
 have hlt:b<s.heap.objs.size:=aL e
 rw [Heap.get?_update_ne _ _ _ _ (aW hlt),Heap.get?_push_ne _ _ _ (aW hlt)]
 exact e
section
variable {X:Cx}{c Pt:af}{e:Expr}{tx:TA}{x y:bA}{j:Nat}{params:sC}{scope:lH}{p0 p1 p2 p3 p4 p5 lpos kpos pos:qQ}{x1:Nat}
theorem Ng (hcalm:X.calm=true) (hcode:X.env.code=.ref c) (C0:pF X.base c Pt) (B:X.base.BuiltinsAt X.mg Pt) (hroom:X.A.depth<zq) (hun:X.A.units+128<iH)
  (hgl:Gl X "sorted") (hm:X.mg "sorted"=none) (hx:PA X [e] tx) (hN:X.N[j]?=some y) (hky:X.env.kindOf y=some .cell)
  (hs:iV pos (bG [e] X.env)=(false,fV e X.env)::iV pos (bG [] X.env):=by rfl) (hpl:(iV pos (bG [e] X.env)).any (·.1)=false:=by rfl)
  (hdef:defaultsOf params X.env=([],[]):=by rfl)
  (hbind:∀ clos pm cdv ctv v,FI (kla_fn "<lambda>" (X.env.qual++"<lambda>") params (.Tuple [.Subscript (.Name y p1) (.Name x p2) p3,.Name x p4] x1 p5) scope clos pm cdv ctv) ⟨[v],[]⟩=pure [(x,v)]:=by intros;rfl)
  (hsx:scope.names.lookup x=some .local:=by rfl) (hsy:scope.names.lookup y=some .free:=by rfl) (hk:scope.kind=.function:=by rfl) (hco:scope.isCoroutine=false:=by rfl) (hgen:scope.isGenerator=false:=by rfl) (hcell:∀ z∈scope.names,z.2≠.cell:=by decide +kernel)
  (hfr:(scope.names.all λy=>y.2 != .free || X.env.kindOf y.1 == some .cell || X.env.kindOf y.1 == some .free)=true:=by rfl)
  (hdx:(x == ("__debug__":bA))=false:=by decide) (hdy:(y == ("__debug__":bA))=false:=by decide) (hdc:(y == ("__classdict__":bA))=false:=by decide) :
  PE X (.Call (.Name "sorted" p0) [e] [⟨some "key",.Lambda params (.Tuple [.Subscript (.Name y p1) (.Name x p2) p3,.Name x p4] x1 p5) scope lpos,kpos⟩] pos) (ID Pt lpos (X.env.qual++"<lambda>") j tx):=by
 intro pins s σ H Q I h
 refine dN (oO I hgl hm (u:=.builtin "sorted") BootT.Ah ?_)
 refine callWith_kw ?_ hs hpl
 refine ij (hx pos pins s σ H _ I h) λus s1 ⟨vs,H1,I1,rv,q⟩=>?_
 obtain ⟨p,d,zs,wvs,rfl,hp,hj,hd,hkv,h64,hT,k⟩:=q
 obtain ⟨u,rfl,ru⟩:=vals1 rv
 cases ru
 show aK _ X.A (evalAll [do let v ← fV _ X.env;zL pos;pure v]) _ _ s1
 refine wpAny_evalAll_cons (ae (MM I1 hcode C0 B hdef (vO I1 hfr) hT λf c' ctv h' tk H2 I2 hf hrec S2 T2 hk2=>ae (BD (ao (wpAny_evalAll_nil ?_)))))
 obtain ⟨ps,hPt⟩:=hT.tbl
 have hp2:=S2 p _ (λz=>by rw [z,hPt] at hp;cases hp) hp
 have hd2:=S2 d _ (λz=>by rw [z,hPt] at hd;cases hd) hd
 have k2:∀ z∈zs,∃ w x y:Int,z.1=[w,x,y]/\H2 z.2=some (.tup [.int x,.int y])/\mr wvs [dY x,dY y]=some (.int w):=λz hz=>by
  obtain ⟨w,x,y,e1,e2,e3⟩:=hkv z hz
  exact ⟨w,x,y,e1,S2 _ _ (λz=>by rw [z,hPt] at e2;cases e2) e2,e3⟩
 obtain ⟨its,n1,rp,op,zp⟩:=I2.lst hp2
 have hits:=Aw rp
 subst hits
 have hh:X.A.handled=none:=I2.ok.hd hcalm
 obtain ⟨m,F2,N2⟩:=I2.frs
 obtain ⟨my,hny,hlk⟩:=I2.loc
 obtain ⟨uy,ruy,lky⟩:=hlk j y (.ref d) hN hj (.inr (.inl hky))
 cases ruy
 obtain ⟨cl,hcl,hcv⟩:∃ cl,X.env.cells.lookup y=some cl/\h'.IsCell cl (some (.ref d)):=by
  rcases lky with ⟨z,_⟩|⟨_,cl,h1,h2⟩
  ·rw [hky] at z;cases z
  ·exact ⟨cl,h1,h2⟩
 have hclo:(qj X.env.cells scope.names []).lookup y=some cl:=by
  obtain ⟨d,hd⟩:=vM (cells:=X.env.cells) (x:=y) scope.names [] (.inl (mem_of_lookup hsy))
  have hd':=(lT _ _ (vO I1 hfr) hd).resolve_right (by simp)
  rw [hcl] at hd'
  rw [hd,← hd']
 have kept:∀ (h:cm) (own:List (af×fR)),Fr X.base X.env.locals h m->wR X.base X.env.locals h (ma X.base h' X.env.locals++own)->∀ b o,b≠X.env.locals->h'.get? b=some o->h.get? b=some o:=λh own F N b o h1 e=>by
  cases q:X.base.get? b with
  | some u =>
   have:=I2.bk b u q
   rw [e] at this;cases this
   exact F.keep b _ q
  | none=>exact (N (b,o) (bT _ (oi h1 q e))).1
 have fL:f≠X.env.locals:=λz=>by
  obtain ⟨o,es,ep,e,d,_⟩:=F2.ns
  rw [← z] at e
  rw [e] at hf;cases hf;cases d
 have cL:c'≠X.env.locals:=λz=>by
  obtain ⟨c2,o2,vs2,t2,e2,h2,d2,_⟩:=hrec
  cases e2
  obtain ⟨o,es,ep,e,d,_⟩:=F2.ns
  rw [← z] at e
  rw [e] at h2;cases h2;rw [d] at d2;cases d2
 have clL:cl≠X.env.locals:=I2.cne y cl hcl
 have un2:X.A.in1.in1.units+3+64<iH:=by show X.A.units+1+1+3+64<_;omega
 -- one key
 have turn:∀ z∈zs,∀ (h:cm) (tk':Nat) (own:List (af×fR)),Fr X.base X.env.locals h m->wR X.base X.env.locals h (ma X.base h' X.env.locals++own)->∀ R:ai->au->Prop,
   (∀ h3 tk3 t k,(∀ b o,h.get? b=some o->h3.get? b=some o)->h.get? k=none->h3.get? k=some (vX z t)->R (.ref k) { s1 with heap:=h3,toks:=tk3 })->aK (aU X.prog X.w) X.A.in1.in1 (call (.ref f) [.ref z.2]) R (λ_ _=>False) { s1 with heap:=h,toks:=tk' }:=by
  intro z hz h tk' own F N R hR
  obtain ⟨ww,xx,yy,ez,hzt,hzw⟩:=k2 z hz
  have kk:=kept h own F N
  have J:Inv X pins σ H2 { s1 with heap:=h,toks:=tk' }:=I2.news (s:={ s1 with heap:=h',toks:=tk }) F2.ns F λp hp=>N p (bT _ hp)
  refine Le (s:={ s1 with heap:=h,toks:=tk' }) (by exact hroom) (kk f _ fL hf) ?_ (I2.mod.nolimit.keeps F.keep) (hbind _ _ _ _ _) hsx hk hco hgen hcell λenv h3 tk3 E' q1 q2 q3 hns hk3=>?_
  ·obtain ⟨c2,o2,vs2,t2',e2,h2,d2⟩:=hrec
   cases e2
   exact ⟨c',o2,vs2,t2',rfl,kk _ _ cL h2,d2⟩
  ·refine Nc (s:={ s1 with heap:=h,toks:=tk' }) (H:=H2) (d:=d) (cl:=cl) (k:=[dY xx,dY yy]) (J.hok.kept hk3) (by rw [q1];exact hk) (by rw [q1];exact hsx) (by rw [q1];exact hsy) hns (by rw [q2];exact hclo) ?_ hd2 hzt hzw un2 (λt tk4=>?_) hdx hdy hdc
   ·obtain ⟨o,e,d⟩:=hcv
    exact ⟨o,hk3 _ _ (kk _ _ clL e),d⟩
   ·refine hR _ tk4 t _ (λb o e=>ax _ (hk3 b o e)) ?_ ?_
    ·cases q:h.get? h3.objs.size with
     | none=>rfl
     | some o=>exact absurd (aL (hk3 _ _ q)) (gH _)
    ·have:vX z t=bD "tuple" #[.int ww t,.ref z.2] 0:=by unfold vX;rw [ez];rfl
     rw [this]
     exact aM _ rfl
 have hzl:(zs.map λz=>aI z.2).length<=a0:=b0 (m:=64) (by rw [aj];omega)
 -- the call
 refine call_function_entry_kw RK Pw Px (ksk_s1 _ _) ?_
 unfold jW.«sorted»
 refine ae (m:=checkCount "sorted" 1 1 _) (ao (ae (GQ (s:={ s1 with heap:=h',toks:=tk }) ⟨_,op,rfl,n1,rfl⟩ hzl λh3 tk3 keep3=>?_)))
 refine ae (uJ ?_ hzl)
 have F3:=F2.kept keep3
 have N3:=N2.grown keep3
 have hL:X.env.locals<h3.objs.size:=F3.ns.lt
 have g4:(h3.push (bD "list" (zs.map λz=>aI z.2).toArray 0)).get? h3.objs.size=some (bD "list" (zs.map λz=>aI z.2).toArray 0):=aM _ rfl
 have k4:∀ b o,h3.get? b=some o->(h3.push (bD "list" (zs.map λz=>aI z.2).toArray 0)).get? b=some o:=λb o e=>ax _ e
 have F4:=F3.kept k4
 have N4:=N3.grown k4
 have hD:∀ q∈ma X.base h' X.env.locals,q.1<h3.objs.size:=λq hq=>aL (N3 q hq).1
 have hD0:X.base.get? h3.objs.size=none:=vA (bg F3.above (oM hL))
 show aK (aU X.prog X.w) X.A.in1 (do let _ ← n5 [aI h3.objs.size] (call (.builtin "list.sort") [aI h3.objs.size] _);ret (aI h3.objs.size)) _ _ { s1 with heap:=h3.push (bD "list" (zs.map λz=>aI z.2).toArray 0),toks:=tk3 }
 refine ae (cB (wpAny_call_entry_kw LN ⟨_,g4,rfl⟩ JN ?_ (ksk_l1 _ _)))
 have tie:∀ (h:cm),(∀ b o,b≠X.env.locals->h'.get? b=some o->h.get? b=some o)->∀ z∈zs,∃ v x y t u,z.1=[v,x,y]/\rZ h z.2 #[.int x t,.int y u]:=λh hkp z hz=>by
  obtain ⟨ww,xx,yy,ez,hzt,hzw⟩:=k2 z hz
  obtain ⟨ts,r,it,_⟩:=I2.tuple (.of hzt)
  cases r with
  | cons h1 r =>
   cases r with
   | cons h2 r =>
    cases r
    obtain ⟨t,rfl⟩:=h1
    obtain ⟨u,rfl⟩:=h2
    obtain ⟨o,e,rest⟩:=it
    refine ⟨ww,xx,yy,t,u,ez,o,hkp _ o (λw=>?_) e,rest⟩
    rw [w,I2.free] at hzt;cases hzt
 have done:∀ (h'':cm) (tk'' c'':Nat) (zs':List Zn),zs'.Perm zs->zs'.Pairwise (λz w=>iZ w.1 z.1=false)->Fr X.base X.env.locals h'' m->wR X.base X.env.locals h'' ((h3.objs.size,bD "list" (zs'.map λz=>aI z.2).toArray c'')::ma X.base h' X.env.locals) ->
   EP X pins σ Q (.ref h3.objs.size) { s1 with heap:=h'',toks:=tk'' }:=λh'' tk'' c'' zs' hperm hsort F N=>by
  obtain ⟨hn,I3⟩:=I2.newsLaid (t':=tk'') (o:=.lst (zs'.map tq)) F2.ns F N hD ⟨by rw [aj];exact b0 (m:=64) (by rw [hperm.length_eq];omega),_,c'',sg zs',(N _ aq).1⟩
  exact ⟨.ref h3.objs.size,_,I3,rfl,k h3.objs.size zs' H2 hn S2 T2 hperm hsort⟩
 show aK (aU X.prog X.w) X.A.in1.in1 (jW.«list.sort» ⟨[.ref h3.objs.size],[(gI "key",.ref f)]⟩) _ _ _
 rw [ksk_t1]
 by_cases h2:2<=zs.length
 ·refine kat_keyed (s:={ s1 with heap:=h3.push (bD "list" (zs.map λz=>aI z.2).toArray 0),toks:=tk3 }) F4 N4 g4 (eO hL) hD0 (λp hp=>aW (hD p hp)) (by rw [aj];exact h2) (by rw [aj];omega) λkS e1 h5 F5 N5 l0 l1=>?_
  refine Qa (s:={ s1 with heap:=h3.push (bD "list" (zs.map λz=>aI z.2).toArray 0),toks:=tk3 }) (zs:=zs) (λz hz h tk' own F N R hR=>turn z hz h tk' own F N R hR) (aW l0) zs [] [] [] 0 h5 tk3 F5 N5 (λq hq=>aW (l1 q hq)) .nil (λz hz=>hz) λown' ks' e' h6 tk6 F6 N6 hk6 rel6=>?_
  refine IC (s:={ s1 with heap:=h6,toks:=tk6 }) F6 N6 hk6 (aW l0) (λq hq=>aW (hD q hq)) rel6 h2 (by omega) (tie h6 λb o hb e=>?_) λh7 c7 zs' hperm hsort F7 N7=>?_
  ·refine kept h6 [] F6 (λp hp=>N6 p ?_) b o hb e
   rw [DL] at hp
   exact ag _ (ag _ (aZ _ hp))
  ·exact ⟨_,rfl,ao ⟨_,rfl,done h7 tk6 c7 zs' hperm hsort F7 N7⟩⟩
 ·refine Lg (s:={ s1 with heap:=h3.push (bD "list" (zs.map λz=>aI z.2).toArray 0),toks:=tk3 }) F4 N4 g4 (eO hL) hD0 (λp hp=>aW (hD p hp)) (by rw [aj];omega) (λv hv h tk' own F N R hR=>?_) λh7 tk7 c7 F7 N7=>?_
  ·obtain ⟨z,hz,rfl⟩:=br.mp hv
   exact turn z hz h tk' own F N R λh3 tk3 t k keep _ _=>hR h3 tk3 (.ref k) keep
  ·refine ⟨_,rfl,ao ⟨_,rfl,done h7 tk7 c7 zs (nc _) ?_ F7 N7⟩⟩
   match zs,h2 with
   | [],_=>exact .nil
   | [z],_=>exact sR _ _
   | z::w::r,h2=>simp at h2
end
end L2
namespace Sw
open PySem PySem.Spec PyProof.Rows
section
variable {prog:bp}{w:b8}{A:cp}{E:ai->au->Prop}{s:au}
theorem O9 {a:af}{o:fR}{es:Array (Int×ai)}{ep:Nat}{t:gJ}(ho:s.heap.get? a=some o) (hex:o.ExactSet) (hd:o.data=.set es ep t) (hf:t.fits es.size=true) (hz:es.size<=a0) {Q:ai->au->Prop}
  (h:∀ tk tk':Nat,Q (.int es.size tk) { s with toks:=tk' }):aK (aU prog w) A (call (.builtin "len") [.ref a]) Q E s:=by
 have hT:s.TypeIs (.ref a) "set":=⟨o,ho,hex.1⟩
 have hfit:(es.size:Int)<2^63:=by rw [qM] at hz;omega
 refine rV kind_len plain_len entry_len (args_len1 _) ?_
 unfold jW.«len»
 refine ae (m:=oneArg "len" _) (ao ?_)
 refine ae (m:=callSpecial? (.ref a) (gI "__len__")) (cZ (name:=gI "__len__") hT F.slot_set_len (cH F.slot_set_len hT entry_set_len ?_ (F.args_set_len_1 _)))
 show aK _ _ (pK "__len__" _ >>= _) _ _ s
 refine ae (m:=pK "__len__" _) (ao ?_)
 unfold xa
 refine ae (ae (jY ho hd hf (ao (wpAny_ret_mkInt ?_))))
 show aK _ _ _ _ _ { s with toks:=s.toks+1 }
 refine ae (cB (ao (ae (RM ?_))))
 show aK _ _ (if ((es.size:Nat):Int)<0 then _ else _) _ _ _
 rw [if_neg (by omega)]
 show aK _ _ (if ((es.size:Nat):Int)>=2^63 then _ else _) _ _ _
 rw [if_neg (by omega)]
 exact ae (wpAny_mkInt (ao ⟨_,rfl,h _ _⟩))
end
end Sw
namespace L2
open PySem PySem.Spec PyProof.Rows PySem.W
def Em (K:aa) (t:TA):TE:=λσ H Q=>t σ H λvs H1=>∃ a:af,vs=[.ref a] /\
 ∃ ns:List Int,SqL K H1 a (ns.map V.int)/\ns.length<=4000/\∀ ks:List Int,ks.Nodup->(∀ x,x∈ks↔x∈ns)->Q (.int ks.length) H1
theorem Nh {K:aa}{t:TA}{σ:St}{H:Hp}{Q:VK}(h:t σ H λvs H1=>∃ a:af,vs=[.ref a] /\
 ∃ ns:List Int,SqL K H1 a (ns.map V.int)/\ns.length<=4000/\∀ ks:List Int,ks.Nodup->(∀ x,x∈ks↔x∈ns)->Q (.int ks.length) H1):Em K t σ H Q:=h
section
variable {X:Cx}{x:Expr}{t:TA}{p1 p2 q1 q2:qQ}
theorem Li (hc:X.calm=true) (hgl:Gl X "len") (hml:X.mg "len"=none) (hgz:Gl X "set") (hmz:X.mg "set"=none) (hu:X.A.units+64<iH) (ha:PA X [x] t)
  (he:bG [.Call (.Name "set" p1) [x] [] p2] X.env=[(false,fV (.Call (.Name "set" p1) [x] [] p2) X.env)]:=by rfl) (he2:bG [x] X.env=(false,fV x X.env)::bG [] X.env:=by rfl) (hpl:(iV p2 (bG [] X.env)).any (·.1)=false:=by rfl) :
  PE X (.Call (.Name "len" q1) [.Call (.Name "set" p1) [x] [] p2] [] q2) (Em X.K t):=by
 intro pins s σ H Q I h
 refine dN (oO I hgl hml BootT.len (nh ?_ he rfl))
 rw [he]
 show aK _ _ (Pr ((false,fV (.Call (.Name "set" p1) [x] [] p2) X.env)::iV q2 (bG [] X.env))) _ _ s
 refine jQ (dN (oO I hgz hmz BootT.set (dI (ij (ha p2 pins s σ H _ I h) λus s1 ⟨vs,H1,I1,r1,q⟩=>?_) he2 hpl)))
 obtain ⟨a,rfl,q⟩:=q
 obtain ⟨u,rfl,ru⟩:=vals1 r1
 cases ru
 obtain ⟨ns,hA,hl4,k⟩:=q
 ·obtain ⟨its,rv,pl,_⟩:=I1.list hA
  have hi:fS its ns:=intsAre_of rv
  have hlen:=hi.length
  refine Sw.GN (ns:=ns) (I1.ok.hd hc) pl.isList (by simpa using hi) (by rw [aR,hlen];unfold sG;omega) λh2 tk ks hS hmem hle hk=>nR ?_
  have I2:Inv X pins σ H1 { s1 with heap:=h2,toks:=tk }:=I1.kept (t':=tk) hk
  obtain ⟨o,es,ep,t,ho,hex,hd,hel,hin,hb,hf,ti,hled,e1,hnd⟩:=hS
  refine Sw.O9 (s:={ s1 with heap:=h2,toks:=tk }) ho hex hd hf (uq hb) λt1 t2=>⟨.int es.size,H1,I2.tok t2,⟨_,rfl⟩,?_⟩
  have:ks.length=es.size:=by rw [e1];simp
  rw [← this];exact k ks hnd hmem
end
end L2
namespace Rm
inductive Gr (f:Nat->Int):Nat->List Int->Prop
 | one:Gr f 0 [f 0]
 | put {m:Nat}{r:List Int}{j:Nat}:Gr f m r->j<r.length->Gr f (m+1) (r.take (j+1)++([f (m+1)]++r.drop j))
variable {f:Nat->Int}{m:Nat}{r:List Int}
theorem Gr.len (h:Gr f m r):r.length=2*m+1:=by
 induction h with
 | one=>rfl
 | put h hj ih=>simp [aX,bw,bz];omega
theorem Gr.mem (h:Gr f m r):∀ i,i<=m->f i∈r:=by
 induction h with
 | one =>
  intro i hi;have:i=0:=by omega
  subst this;simp
 | @put m r j h hj ih =>
  intro i hi
  by_cases e:i=m+1
  ·subst e;simp
  ·have:=ih i (by omega)
   rw [← iF j r] at this
   rcases aP.mp this with z|z
   ·exact bT _ (by rw [gP];exact bT _ z)
   ·exact aZ _ (aZ _ z)
theorem Gr.first (h:Gr f m r):r[0]?=some (f 0):=by
 induction h with
 | one=>rfl
 | @put m r j h hj ih =>
  cases r with
  | nil=>simp at hj
  | cons a r=>simpa using ih
theorem Gr.last (h:Gr f m r):r[r.length-1]?=some (f 0):=by
 induction h with
 | one=>rfl
 | @put m r j h hj ih =>
  have e1:(r.take (j+1)).length=j+1:=by rw [bw];omega
  have e2:(r.take (j+1)++([f (m+1)]++r.drop j)).length-1=r.length+1:=by simp [aX,bw,bz];omega
  rw [e2,bx (by omega),bx (by rw [e1];simp;omega),cn,e1]
  rw [← ih]
  congr 1
  simp;omega
def tn {α:Type} (r:List α) (k:Nat):List α:=r.drop k++(r.drop 1).take k
theorem Ni {k:Nat}(hk:k<r.length):(tn r k).length=r.length:=by
 unfold tn
 rw [aX,bz,bw,bz]
 omega
theorem Pa:tn r 0=r:=by simp [tn]
theorem xE {a:Int}(h:a∈r):r.idxOf a<r.length:=gC.mpr h
theorem Kj {a:Int}(h:a∈r):r[r.idxOf a]?=some a:=by
 rw [ar (xE h),qS]
end Rm
namespace Rm
def Ad (par:Nat->Nat) (x y:Nat):Prop:=(1<=x/\y=par x)\/(1<=y/\x=par y)
structure Tr (m:Nat) (rn:List Nat) (par:Nat->Nat):Prop where
 le:∀ x∈rn,x<=m
 pl:∀ i,1<=i->i<=m->par i<i
 adj:∀ (i x y:Nat),rn[i]?=some x->rn[i+1]?=some y->Ad par x y
theorem Ad.upd {m z x y:Nat}{par:Nat->Nat}(hx:x<=m) (hy:y<=m) (h:Ad par x y):Ad (λi=>if i=m+1 then z else par i) x y:=by
 rcases h with ⟨h1,h2⟩|⟨h1,h2⟩
 ·exact .inl ⟨h1,by simp only;rw [if_neg (by omega)];exact h2⟩
 ·exact .inr ⟨h1,by simp only;rw [if_neg (by omega)];exact h2⟩
theorem Gr.tree {f:Nat->Int}{m:Nat}{r:List Int}(h:Gr f m r):∃ rn par,r=rn.map f/\Tr m rn par:=by
 induction h with
 | one=>exact ⟨[0],λ_=>0,rfl,by simp,λi h1 h2=>absurd h1 (by omega),λi x y e1 e2=>by simp at e2⟩
 | @put m r j h hj ih =>
  obtain ⟨rn,par,rfl,T⟩:=ih
  rw [aj] at hj
  have hz:=T.le rn[j] (dO hj)
  refine ⟨rn.take (j+1)++([m+1]++rn.drop j),λi=>if i=m+1 then rn[j] else par i,by simp [aV,l7,yl],λx hx=>?_,λi h1 h2=>?_,λi x y e1 e2=>?_⟩
  ·rcases aP.mp hx with z|z
   ·have:=T.le x (vG z);omega
   ·rcases aP.mp z with z|z
    ·have:x=m+1:=by simpa using z
     omega
    ·have:=T.le x (pQ z);omega
  ·by_cases e:i=m+1
   ·simp only [if_pos e];omega
   ·simp only [if_neg e];exact T.pl i h1 (by omega)
  ·have lt:(rn.take (j+1)).length=j+1:=by rw [bw];omega
   have at1:∀ i,i<=j->(rn.take (j+1)++([m+1]++rn.drop j))[i]?=rn[i]?:=λi hi=>by
    rw [ck (by omega),eE,if_pos (by omega)]
   have at2:(rn.take (j+1)++([m+1]++rn.drop j))[j+1]?=some (m+1):=by
    rw [bx (by omega),lt,uI];rfl
   have at3:∀ i,j+2<=i->(rn.take (j+1)++([m+1]++rn.drop j))[i]?=rn[i-2]?:=λi hi=>by
    rw [bx (by omega),lt,bx (by simp;omega),cn]
    congr 1;simp;omega
   have mem:∀ {k v:Nat},rn[k]?=some v->v<=m:=λ{k v} e=>T.le v (aG e)
   rcases (show i+1<=j\/i=j\/i=j+1\/j+2<=i by omega) with c|c|c|c
   ·rw [at1 i (by omega)] at e1
    rw [at1 (i+1) c] at e2
    exact (T.adj i x y e1 e2).upd (mem e1) (mem e2)
   ·subst c
    rw [at1 i (aw _),ar hj] at e1
    rw [at2] at e2
    cases e1;cases e2
    exact .inr ⟨by omega,by simp⟩
   ·subst c
    rw [at2] at e1
    rw [at3 (j+1+1) (by omega)] at e2
    have e3:j+1+1-2=j:=by omega
    rw [e3,ar hj] at e2
    cases e1;cases e2
    exact .inl ⟨by omega,by simp⟩
   ·rw [at3 i c] at e1
    rw [at3 (i+1) (by omega)] at e2
    have e3:i+1-2=i-2+1:=by omega
    rw [e3] at e2
    exact (T.adj (i-2) x y e1 e2).upd (mem e1) (mem e2)
section
variable {n:Nat}{v par:Nat->Nat}
theorem Kk (hA:∀ i,i+1<n->Ad par (v i) (v (i+1))) (hN:∀ i,i+2<n->v i≠v (i+2)) (hp:∀ i,i<n->1<=v i->par (v i)<v i) {s:Nat}(h:1<=v (s+1)/\v s=par (v (s+1))) :
  ∀ d,s+d+1<n->(1<=v (s+d+1)/\v (s+d)=par (v (s+d+1)))/\v s<v (s+d+1)
 | 0,hd=>⟨h,by have:=hp (s+1) hd h.1;rw [Nat.add_zero];omega⟩
 | d+1,hd=>by
  obtain ⟨h1,h2⟩:=Kk hA hN hp h d (by omega)
  have e:s+(d+1)=s+d+1:=by omega
  rw [e]
  rcases hA (s+d+1) (by omega) with z|z
  ·exact absurd (h1.2.trans z.2.symm) (hN (s+d) (by omega))
  ·have:=hp (s+d+1+1) (by omega) z.1
   exact ⟨z,by omega⟩
theorem Qb (hA:∀ i,i+1<n->Ad par (v i) (v (i+1))) (hN:∀ i,i+2<n->v i≠v (i+2)) (hp:∀ i,i<n->1<=v i->par (v i)<v i) {t:Nat}(ht:t+1<n) (h:1<=v t/\v (t+1)=par (v t)) :
  ∀ d s,s+d=t->(1<=v s/\v (s+1)=par (v s))/\v (t+1)<v s
 | 0,s,e=>by
  have:s=t:=by omega
  subst this
  exact ⟨h,by have:=hp s (by omega) h.1;omega⟩
 | d+1,s,e=>by
  obtain ⟨h1,h2⟩:=Qb hA hN hp ht h d (s+1) (by omega)
  rcases hA s (by omega) with z|z
  ·have:=hp s (by omega) z.1
   exact ⟨z,by omega⟩
  ·exact absurd (z.2.trans h1.2.symm) (hN s (by omega))
theorem SU (hA:∀ i,i+1<n->Ad par (v i) (v (i+1))) (hN:∀ i,i+2<n->v i≠v (i+2)) (hp:∀ i,i<n->1<=v i->par (v i)<v i) (d:Nat):∀ s,0<d->s+d<n->v s≠v (s+d):=by
 induction d using Nat.strongRecOn with
 | _ d ih =>
  intro s h0 hn e
  by_cases d1:d=1
  ·subst d1
   rcases hA s hn with ⟨z1,z2⟩|⟨z1,z2⟩
   ·have:=hp s (by omega) z1;omega
   ·have:=hp (s+1) hn z1;omega
  by_cases d2:d=2
  ·subst d2;exact hN s hn e
  rcases hA s (by omega) with z|z
  ·have t1:s+d-1+1=s+d:=by omega
   have w:=hA (s+d-1) (by omega)
   rw [t1] at w
   rcases w with w|w
   ·have:=(Qb hA hN hp (t:=s+d-1) (by omega) (by rw [t1];exact w) (d-1) s (by omega)).2
    rw [t1] at this;omega
   ·have:=ih (d-2) (by omega) (s+1) (by omega) (by omega)
    refine this ?_
    rw [show s+1+(d-2)=s+d-1 by omega,z.2,w.2,e]
  ·have:=(Kk hA hN hp z (d-1) (by omega)).2
   rw [show s+(d-1)+1=s+d by omega] at this
   omega
end
structure WI (an:List Nat) (t:Nat) (wn:List Nat):Prop where
 ne:0<wn.length
 first:wn[0]?=an[0]?
 last:wn[wn.length-1]?=an[t]?
 ps:∀ (i x y:Nat),wn[i]?=some x->wn[i+1]?=some y->∃ k:Nat,an[k]?=some x/\an[k+1]?=some y
 nb:∀ (i x y:Nat),wn[i]?=some x->wn[i+2]?=some y->x≠y
 len:wn.length<=t+1
 sub:∀ x∈wn,x∈an
theorem WI.start {an:List Nat}{a:Nat}(h:an[0]?=some a):WI an 0 [a] :=
 ⟨by simp,by simpa using h.symm,by simpa using h.symm,λi x y e1 e2=>by simp at e2,λi x y e1 e2=>by simp at e2,by simp,λx hx=>by rw [aC.mp hx];exact aG h⟩
theorem WI.pop {an wn:List Nat}{t p:Nat}(h:WI an t wn) (hp:an[t+1]?=some p) (hl:1<wn.length) (he:wn[wn.length-2]?=some p):WI an (t+1) wn.dropLast:=by
 have g:∀ i,i<wn.length-1->wn.dropLast[i]?=wn[i]?:=λi hi=>by rw [List.getElem?_dropLast,if_pos hi]
 have g2:∀ (i v:Nat),wn.dropLast[i]?=some v->i<wn.length-1:=λi v e=>by
  have:=(aB.mp e).1
  rwa [lb] at this
 refine ⟨by rw [lb];omega,by rw [g 0 (by omega)];exact h.first,?_,λi x y e1 e2=>?_,λi x y e1 e2=>?_,by have:=h.len;rw [lb];omega,λx hx=>h.sub x (List.dropLast_subset _ hx)⟩
 ·rw [lb,g _ (by omega),hp,← he];congr 1
 ·have:=g2 _ _ e2
  rw [g _ (by omega)] at e1 e2
  exact h.ps i x y e1 e2
 ·have:=g2 _ _ e2
  rw [g _ (by omega)] at e1 e2
  exact h.nb i x y e1 e2
theorem WI.push {an wn:List Nat}{t p:Nat}(h:WI an t wn) (hp:an[t+1]?=some p) (he:¬ (1<wn.length/\wn[wn.length-2]?=some p)):WI an (t+1) (wn++[p]):=by
 have hne:=h.ne
 have g:∀ i,i<wn.length->(wn++[p])[i]?=wn[i]?:=λi hi=>ck hi
 have gl:(wn++[p])[wn.length]?=some p:=by rw [bx (aw _),uI];rfl
 have g2:∀ (i v:Nat),(wn++[p])[i]?=some v->i<=wn.length:=λi v e=>by
  have:=(aB.mp e).1
  rw [aX,kx] at this
  omega
 refine ⟨by simp,by rw [g 0 hne];exact h.first,?_,λi x y e1 e2=>?_,λi x y e1 e2=>?_,by have:=h.len;rw [aX,kx];omega,λx hx=>?_⟩
 ·rw [aX,kx,Nat.add_sub_cancel,gl,hp]
 ·have:=g2 _ _ e2
  by_cases c:i+1=wn.length
  ·rw [c,gl] at e2
   cases e2
   rw [g i (by omega)] at e1
   have hl:=h.last
   rw [show wn.length-1=i by omega,e1] at hl
   exact ⟨t,hl.symm,hp⟩
  ·rw [g _ (by omega)] at e1 e2
   exact h.ps i x y e1 e2
 ·have:=g2 _ _ e2
  by_cases c:i+2=wn.length
  ·rw [c,gl] at e2
   cases e2
   rw [g i (by omega)] at e1
   intro z
   subst z
   exact he ⟨by omega,by rw [← c];exact e1⟩
  ·rw [g _ (by omega)] at e1 e2
   exact h.nb i x y e1 e2
 ·rcases aP.mp hx with z|z
  ·exact h.sub x z
  ·rw [aC.mp z];exact aG hp
theorem Ru {α β:Type} (g:α->β) (r:List α) (k:Nat):(tn r k).map g=tn (r.map g) k:=by simp [tn,l7,yl]
theorem Nj {α:Type} {r:List α}{k:Nat}{x:α}(h:x∈tn r k):x∈r:=by
 rcases aP.mp h with z|z
 ·exact pQ z
 ·exact pQ (vG z)
theorem Pb {α:Type} {r:List α}{k:Nat}{x a:α}(hk:k<r.length) (h0:r[0]?=some a) (h1:r[r.length-1]?=some a) (h:x∈r):x∈tn r k:=by
 obtain ⟨i,hi,e⟩:=List.getElem_of_mem h
 unfold tn
 by_cases c:k<=i
 ·exact bT _ (aG (i:=i-k) (by rw [cn,show k+(i-k)=i by omega,ar hi,e]))
 ·by_cases c0:i=0
  ·subst c0
   have ex:x=a:=by rw [ar hi,e] at h0;exact aS h0
   subst ex
   exact bT _ (aG (i:=r.length-1-k) (by rw [cn,show k+(r.length-1-k)=r.length-1 by omega];exact h1))
  ·exact aZ _ (aG (i:=i-1) (by rw [eE,if_pos (by omega),cn,show 1+(i-1)=i by omega,ar hi,e]))
theorem Nk {α:Type} {r:List α}{k:Nat}{a:α}(hk:k<r.length) (h0:r[0]?=some a) (h1:r[r.length-1]?=some a) {i:Nat}{x y:α}(e1:(tn r k)[i]?=some x) (e2:(tn r k)[i+1]?=some y):∃ j:Nat,r[j]?=some x/\r[j+1]?=some y:=by
 unfold tn at e1 e2
 by_cases c:i+1<r.length-k
 ·rw [ck (by rw [bz];omega),cn] at e1 e2
  exact ⟨k+i,e1,e2⟩
 ·by_cases c2:i+1=r.length-k
  ·rw [ck (by rw [bz];omega),cn,show k+i=r.length-1 by omega,h1] at e1
   rw [bx (by rw [bz];omega),bz,c2,uI,eE] at e2
   cases e1
   split at e2
   ·rw [cn] at e2;exact ⟨0,h0,by simpa using e2⟩
   ·cases e2
  ·rw [bx (by rw [bz];omega),bz,eE] at e1 e2
   split at e2
   ·rw [if_pos (by omega),cn] at e1
    rw [cn] at e2
    exact ⟨1+(i-(r.length-k)),e1,by rw [← e2];congr 1;omega⟩
   ·cases e2
structure RY (r:List Int) (a b:Int) (w:List Int):Prop where
 first:w[0]?=some a
 last:w[w.length-1]?=some b
 ne:0<w.length
 nd:∀ (i j:Nat) (x:Int),i<j->w[i]?=some x->w[j]?=some x->False
 ps:∀ (i:Nat) (x y:Int),w[i]?=some x->w[i+1]?=some y->∃ j:Nat,r[j]?=some x/\r[j+1]?=some y
 len:w.length<=300
end Rm
namespace Rm
def al:List Int->List (Int×Int)
 | []=>[]
 | [_]=>[]
 | a::b::r=>(a,b)::al (b::r)
theorem IE:∀ r:List Int,al r=r.zip (r.drop 1)
 | []=>rfl
 | [_]=>rfl
 | a::b::r=>by
  have:=IE (b::r)
  simp only [List.drop_succ_cons,R7] at this ⊢
  rw [jX,← this];rfl
theorem mx:∀ (xs:List Int) (x:Int) (ys:List Int),al (xs++x::ys)=al (xs++[x])++al (x::ys)
 | [],x,ys=>rfl
 | [a],x,ys=>rfl
 | a::b::xs,x,ys=>by
  have:=mx (b::xs) x ys
  show (a,b)::al ((b::xs)++x::ys)=(a,b)::al ((b::xs)++[x])++al (x::ys)
  rw [this];rfl
theorem gF:∀ {r:List Int}{x y:Int},(x,y)∈al r->x∈r/\y∈r
 | a::b::r,x,y,h=>by
  rcases ak.mp h with e|h
  ·cases e;simp
  ·have:=gF h
   exact ⟨ag _ this.1,ag _ this.2⟩
theorem IF:∀ r:List Int,(al r).length=r.length-1
 | []=>rfl
 | [_]=>rfl
 | a::b::r=>by
  have:=IF (b::r)
  simp only [al,cg] at this ⊢
  omega
structure IsR (r:List Int):Prop where
 ne:r≠[]
 cnt:∃ ds:List Int,ds.Nodup/\(∀ x,x∈ds↔x∈r)/\r.length+1=2*ds.length
 ends:r.head?=r.getLast?
 nd:(al r).Nodup
 sym:∀ x y,(x,y)∈al r->(y,x)∈al r
theorem IsR.one (a:Int):IsR [a]:=⟨by simp,⟨[a],by simp,by simp,rfl⟩,rfl,by simp [al],λx y h=>by simp [al] at h⟩
theorem IsR.leafAt {A B:List Int}{z:Int}(h:IsR (A++z::B)) (hA:z∉A) (hB:z∉B) (hn:A++B≠[]):∃ A' w B',A=A'++[w]/\B=w::B':=by
 have he:=h.ends
 have hAne:A≠[]:=λe=>by
  subst e
  simp only [List.nil_append,RT] at he hn
  rcases dQ B with e|⟨us,u,e⟩
  ·exact hn e
  ·rw [dR] at e
   subst e
   rw [show z::(us++[u])=(z::us)++[u] by simp,cP] at he
   simp at he
   subst he
   exact hB (by simp)
 have hBne:B≠[]:=λe=>by
  subst e
  rw [cP] at he
  simp at he
  cases A with
  | nil=>exact hAne rfl
  | cons a A =>
   simp at he
   subst he
   exact hA (by simp)
 obtain ⟨A',w,e⟩:∃ A' w,A=A'++[w]:=by
  rcases dQ A with e|⟨us,u,e⟩
  ·exact absurd e hAne
  ·exact ⟨us,u,by rw [e,dR]⟩
 subst e
 cases B with
 | nil=>exact absurd rfl hBne
 | cons v B' =>
  refine ⟨A',w,B',rfl,?_⟩
  have e1:al (A'++[w]++z::v::B')=al (A'++[w])++((w,z)::(z,v)::al (v::B')):=by
   rw [dS,LW,mx];rfl
  have m:=h.sym w z (by rw [e1];simp)
  rw [e1] at m
  rcases aP.mp m with m|m
  ·exact absurd (gF m).1 hA
  ·rcases ak.mp m with m|m
   ·cases m;exact absurd (by simp) hA
   ·rcases ak.mp m with m|m
    ·cases m;rfl
    ·exact absurd (gF m).1 hB
theorem Nl (xs ys:List Int) (w z:Int):(al (xs++w::z::w::ys)).Perm ((w,z)::(z,w)::al (xs++w::ys)):=by
 rw [mx,mx xs w ys]
 show (al (xs++[w])++([(w,z),(z,w)]++al (w::ys))).Perm ([(w,z),(z,w)]++(al (xs++[w])++al (w::ys)))
 rw [← dS,← dS]
 exact List.Perm.append_right _ oQ
theorem Az (xs ys:List Int) (w z:Int):(xs++w::z::w::ys).head?=(xs++w::ys).head?/\(xs++w::z::w::ys).getLast?=(xs++w::ys).getLast?:=by
 constructor
 ·cases xs<;>simp
 ·cases ys with
  | nil=>simp [cP]
  | cons y ys=>simp [cP,nj]
theorem IsR.peel {xs ys:List Int}{w z:Int}(h:IsR (xs++w::z::w::ys)) (hz:z∉xs++w::ys):IsR (xs++w::ys):=by
 have hp:=Nl xs ys w z
 have nd:=hp.nodup_iff.mp h.nd
 have nd2:=(bf.mp nd).2
 refine ⟨by simp,?_,?_,(bf.mp nd2).2,λx y hxy=>?_⟩
 ·obtain ⟨ds,h1,h2,h3⟩:=h.cnt
  have hzd:z∈ds:=(h2 z).mpr (by simp)
  refine ⟨ds.erase z,h1.erase z,λx=>?_,?_⟩
  ·rw [h1.mem_erase_iff,h2]
   constructor
   ·rintro ⟨h4,h5⟩
    simp at h5 ⊢
    rcases h5 with h5|h5|h5|h5|h5
    ·exact .inl h5
    ·exact .inr (.inl h5)
    ·exact absurd h5 h4
    ·exact .inr (.inl h5)
    ·exact .inr (.inr h5)
   ·intro h5
    refine ⟨λe=>hz (e▸h5),?_⟩
    simp at h5 ⊢
    rcases h5 with h5|h5|h5
    ·exact .inl h5
    ·exact .inr (.inl h5)
    ·exact .inr (.inr (.inr (.inr h5)))
  ·rw [HY hzd]
   have:0<ds.length:=Kx hzd
   simp at h3 ⊢
   omega
 ·have:=Az xs ys w z
  rw [← this.1,← this.2];exact h.ends
 ·have hm:=hp.mem_iff.mp (h.sym x y (hp.mem_iff.mpr (ag _ (ag _ hxy))))
  rcases ak.mp hm with e|hm
  ·cases e;exact absurd (gF hxy).1 hz
  ·rcases ak.mp hm with e|hm
   ·cases e;exact absurd (gF hxy).2 hz
   ·exact hm
theorem IsR.put {xs ys:List Int}{w z:Int}(h:IsR (xs++w::ys)) (hz:z∉xs++w::ys):IsR (xs++w::z::w::ys):=by
 have hp:=Nl xs ys w z
 have hwz:w≠z:=λe=>hz (by simp [e])
 refine ⟨by simp,?_,?_,hp.nodup_iff.mpr ?_,λx y hxy=>?_⟩
 ·obtain ⟨ds,h1,h2,h3⟩:=h.cnt
  refine ⟨z::ds,bf.mpr ⟨λhm=>hz ((h2 z).mp hm),h1⟩,λx=>?_,?_⟩
  ·rw [ak,h2]
   simp
   constructor
   ·rintro (h|h|h|h)
    ·exact .inr (.inr (.inl h))
    ·exact .inl h
    ·exact .inr (.inl h)
    ·exact .inr (.inr (.inr (.inr h)))
   ·rintro (h|h|h|h|h)
    ·exact .inr (.inl h)
    ·exact .inr (.inr (.inl h))
    ·exact .inl h
    ·exact .inr (.inr (.inl h))
    ·exact .inr (.inr (.inr h))
  ·simp at h3 ⊢
   omega
 ·have:=Az xs ys w z
  rw [this.1,this.2];exact h.ends
 ·refine bf.mpr ⟨λhm=>?_,bf.mpr ⟨λhm=>hz (gF hm).1,h.nd⟩⟩
  rcases ak.mp hm with e|hm
  ·exact hwz (by cases e;rfl)
  ·exact hz (gF hm).2
 ·refine hp.mem_iff.mpr ?_
  rcases ak.mp (hp.mem_iff.mp hxy) with e|hm
  ·cases e;simp
  ·rcases ak.mp hm with e|hm
   ·cases e;simp
   ·exact ag _ (ag _ (h.sym x y hm))
theorem si:∀ {ds r:List Int},ds.Nodup->(∀ x∈r,x∈ds)->(ds.map λd=>r.count d).sum=r.length
 | ds,[],h1,h2=>by
  have:(ds.map λd=>([]:List Int).count d)=ds.map λ_=>0:=by simp
  rw [this]
  clear this h1 h2
  induction ds with
  | nil=>rfl
  | cons d ds ih=>simpa using ih
 | ds,x::r,h1,h2=>by
  have ih:=si (ds:=ds) (r:=r) h1 λy hy=>h2 y (ag _ hy)
  have hx:=h2 x aq
  have key:∀ (ds:List Int),ds.Nodup->(ds.map λd=>(x::r).count d).sum=(ds.map λd=>r.count d).sum+if x∈ds then 1 else 0:=by
   intro ds
   induction ds with
   | nil=>intro _;simp
   | cons d ds ih2 =>
    intro hnd
    have:=ih2 (bf.mp hnd).2
    have hd:=(bf.mp hnd).1
    simp only [bV,ym,uO] at this ⊢
    rw [this]
    by_cases e:x=d
    ·subst e
     simp [hd]
     omega
    ·have e':¬ d=x:=λz=>e z.symm
     simp [e]
     omega
  rw [key ds h1,ih,if_pos hx,cg]
theorem IsR.leaf {r:List Int}(h:IsR r) (h1:1<r.length):∃ xs w z ys,r=xs++w::z::w::ys/\z∉xs++w::ys:=by
 obtain ⟨ds,d1,d2,d3⟩:=h.cnt
 have hs:=si d1 λx hx=>(d2 x).mpr hx
 obtain ⟨z,hz,hc⟩:∃ z∈ds,r.count z<2:=by
  refine Classical.byContradiction λq=>?_
  have hall:∀ z∈ds,2<=r.count z:=λz hz=>by
   by_cases c:r.count z<2
   ·exact absurd ⟨z,hz,c⟩ q
   ·omega
  have:∀ (ds:List Int),(∀ z∈ds,2<=r.count z)->2*ds.length<=(ds.map λd=>r.count d).sum:=by
   intro ds
   induction ds with
   | nil=>intro _;simp
   | cons d ds ih =>
    intro h
    have a:=ih λz hz=>h z (ag _ hz)
    have b:=h d aq
    simp only [bV,ym,cg]
    omega
  have:=this ds hall
  omega
 have hzr:=(d2 z).mp hz
 obtain ⟨A,B,e⟩:=ni hzr
 subst e
 have hc2:A.count z=0/\B.count z=0:=by
  rw [gQ,lj] at hc
  omega
 have hA:z∉A:=fi.mp hc2.1
 have hB:z∉B:=fi.mp hc2.2
 obtain ⟨A',w,B',e1,e2⟩:=h.leafAt hA hB (λq=>by
  rw [ur] at q
  rw [q.1,q.2] at h1
  simp at h1)
 subst e1 e2
 exact ⟨A',w,z,B',by simp,λhm=>by
  simp at hm hA hB
  rcases hm with hm|hm|hm
  ·exact hA.1 hm
  ·exact hA.2 hm
  ·exact hB.2 hm⟩
end Rm
namespace Rm
theorem IsR.of_perm {r r':List Int}(h:IsR r) (hn:r'≠[]) (hm:∀ x,x∈r'↔x∈r) (hl:r'.length=r.length) (he:r'.head?=r'.getLast?) (hp:(al r').Perm (al r)):IsR r' :=
 ⟨hn,let ⟨ds,a,b,c⟩:=h.cnt;⟨ds,a,λx=>by rw [b,hm],by rw [hl];exact c⟩,he,hp.nodup_iff.mpr h.nd,λx y z=>hp.mem_iff.mpr (h.sym x y (hp.mem_iff.mp z))⟩
theorem DC {r:List Int}{a:Int}(h:a∈r):∃ xs ys,r=xs++a::ys/\xs.length=r.idxOf a/\a∉xs:=by
 induction r with
 | nil=>cases h
 | cons b r ih =>
  by_cases e:b=a
  ·subst e;exact ⟨[],r,rfl,by simp,by simp⟩
  ·have ha:a∈r:=(ak.mp h).resolve_left λq=>e q.symm
   obtain ⟨xs,ys,e1,e2,e3⟩:=ih ha
   have eb:(b == a)=false:=by simpa using e
   refine ⟨b::xs,ys,by rw [e1];rfl,by rw [RU,eb];simp [e2],λhm=>?_⟩
   rcases ak.mp hm with q|q
   ·exact e q.symm
   ·exact e3 q
theorem IsR.turn {r:List Int}{a:Int}(h:IsR r) (ha:a∈r):IsR (tn r (r.idxOf a))/\(al (tn r (r.idxOf a))).Perm (al r)/\(tn r (r.idxOf a)).head?=some a/\(∀ x,x∈tn r (r.idxOf a)↔x∈r)/\(tn r (r.idxOf a)).length=r.length:=by
 have hlen:(tn r (r.idxOf a)).length=r.length:=Ni (xE ha)
 obtain ⟨xs,ys,e,el,hx⟩:=DC ha
 cases xs with
 | nil =>
  have e0:r.idxOf a=0:=by rw [← el];rfl
  rw [e0,Pa]
  exact ⟨h,nc _,by rw [e];rfl,λx=>Iff.rfl,rfl⟩
 | cons b xs =>
  have hba:b≠a:=λq=>hx (by simp [q])
  have he:=h.ends
  obtain ⟨ys',ey⟩:∃ ys',ys=ys'++[b]:=by
   rw [e] at he
   simp only [Qt,RT] at he
   rw [show b::(xs++a::ys)=(b::xs++[a])++ys by simp,cP] at he
   rcases dQ ys with q|⟨us,u,q⟩
   ·subst q
    rw [show b::xs++[a]=(b::xs)++[a] by rfl,cP] at he
    simp at he
    exact absurd he hba
   ·rw [dR] at q
    subst q
    rw [cP] at he
    simp at he
    subst he
    exact ⟨us,rfl⟩
  subst ey
  have et:tn r (r.idxOf a)=(a::ys')++b::(xs++[a]):=by
   unfold tn
   rw [← el,e]
   simp only [cg]
   have d1:((b::xs)++a::(ys'++[b])).drop (xs.length+1)=a::(ys'++[b]):=by simp
   have d2:(((b::xs)++a::(ys'++[b])).drop 1).take (xs.length+1)=xs++[a]:=by
    show (xs++a::(ys'++[b])).take (xs.length+1)=xs++[a]
    rw [BG,bY (by omega)]
    simp
   rw [d1,d2];simp
  have hp:(al (tn r (r.idxOf a))).Perm (al r):=by
   rw [et,e,mx (a::ys') b (xs++[a]),mx (b::xs) a (ys'++[b])]
   exact oQ
  have hm:∀ x,x∈tn r (r.idxOf a)↔x∈r:=λx=>by
   rw [et,e]
   simp
   constructor
   ·rintro (q|q|q|q|q)
    ·exact .inr (.inr (.inl q))
    ·exact .inr (.inr (.inr (.inl q)))
    ·exact .inl q
    ·exact .inr (.inl q)
    ·exact .inr (.inr (.inl q))
   ·rintro (q|q|q|q|q)
    ·exact .inr (.inr (.inl q))
    ·exact .inr (.inr (.inr (.inl q)))
    ·exact .inl q
    ·exact .inr (.inl q)
    ·exact .inr (.inr (.inl q))
  refine ⟨h.of_perm (by rw [et];simp) hm hlen (by rw [et];simp [cP,nj]) hp,hp,by rw [et];rfl,hm,hlen⟩
theorem En {xs ys T:List Int}{a b:Int}(h1:T.head?=some b) (h2:T.getLast?=some b):(al (xs++a::(T++a::ys))).Perm ((a,b)::(b,a)::(al (xs++a::ys)++al T)):=by
 obtain ⟨T1,e1⟩:∃ T1,T=b::T1:=by
  cases T with
  | nil=>simp at h1
  | cons c T=>simp at h1;exact ⟨T,by rw [h1]⟩
 obtain ⟨T2,e2⟩:∃ T2,T=T2++[b]:=by
  rcases dQ T with q|⟨us,u,q⟩
  ·subst q;simp at h2
  ·rw [dR] at q
   subst q
   simp at h2
   exact ⟨us,by rw [h2]⟩
 have e3:al (a::(T++a::ys))=(a,b)::(al T++(b,a)::al (a::ys)):=by
  have e4:al (T++a::ys)=al T++(b,a)::al (a::ys):=by
   conv=>lhs;rw [e2,dS,LW,mx]
   rw [← e2];rfl
  have e5:al (a::(T++a::ys))=(a,b)::al (T++a::ys):=by rw [e1];rfl
  rw [e5,e4]
 rw [mx xs a (T++a::ys),mx xs a ys,e3]
 generalize al (xs++[a])=P
 generalize al (a::ys)=R
 generalize al T=U
 -- P++(ab::(U++ba::R)) ~ ab::ba::((P++R)++U)
 refine BF.trans (ng _ ?_)
 rw [← dS]
 refine BF.trans (ng _ ?_)
 rw [dS,dS]
 exact sP _ oQ
theorem Nm (xs ys T:List Int) (a:Int):(xs++a::(T++a::ys)).head?=(xs++a::ys).head?/\(xs++a::(T++a::ys)).getLast?=(xs++a::ys).getLast?:=by
 constructor
 ·cases xs<;>simp
 ·cases ys with
  | nil=>simp [cP,nj]
  | cons y ys=>simp [cP,nj]
theorem IsR.splice {xs ys T:List Int}{a b:Int}(h:IsR (xs++a::ys)) (hT:IsR T) (h1:T.head?=some b) (hd:∀ x∈T,x∉xs++a::ys):IsR (xs++a::(T++a::ys)):=by
 have h2:T.getLast?=some b:=by rw [← hT.ends];exact h1
 have hp:=En (xs:=xs) (ys:=ys) (a:=a) h1 h2
 have hb:b∈T:=kA (by rw [h1];rfl)
 have ha:a∈xs++a::ys:=by simp
 have hab:a≠b:=λe=>hd b hb (e▸ha)
 have hb':=hd b hb
 have ha':a∉T:=λq=>hd a q ha
 refine ⟨by simp,?_,?_,hp.nodup_iff.mpr ?_,λx y hxy=>?_⟩
 ·obtain ⟨ds,d1,d2,d3⟩:=h.cnt
  obtain ⟨es,e1,e2,e3⟩:=hT.cnt
  refine ⟨ds++es,kT.mpr ⟨d1,e1,λx hx y hy q=>hd y ((e2 y).mp hy) (q▸(d2 x).mp hx)⟩,λx=>?_,?_⟩
  ·rw [aP,d2,e2]
   simp
   constructor
   ·rintro ((q|q|q)|q)
    ·exact .inl q
    ·exact .inr (.inl q)
    ·exact .inr (.inr (.inr (.inr q)))
    ·exact .inr (.inr (.inl q))
   ·rintro (q|q|q|q|q)
    ·exact .inl (.inl q)
    ·exact .inl (.inr (.inl q))
    ·exact .inr q
    ·exact .inl (.inr (.inl q))
    ·exact .inl (.inr (.inr q))
  ·simp at d3 ⊢
   omega
 ·have:=Nm xs ys T a
  rw [this.1,this.2];exact h.ends
 ·refine bf.mpr ⟨λhm=>?_,bf.mpr ⟨λhm=>?_,kT.mpr ⟨h.nd,hT.nd,?_⟩⟩⟩
  ·rcases ak.mp hm with q|hm
   ·exact hab (by cases q;rfl)
   ·rcases aP.mp hm with q|q
    ·exact hb' (gF q).2
    ·exact ha' (gF q).1
  ·rcases aP.mp hm with q|q
   ·exact hb' (gF q).1
   ·exact ha' (gF q).2
  ·rintro ⟨x,y⟩ hx t ht q
   subst q
   exact hd x (gF ht).1 (gF hx).1
 ·refine hp.mem_iff.mpr ?_
  rcases ak.mp (hp.mem_iff.mp hxy) with q|hm
  ·cases q;simp
  ·rcases ak.mp hm with q|hm
   ·cases q;simp
   ·refine ag _ (ag _ ?_)
    rcases aP.mp hm with q|q
    ·exact bT _ (h.sym x y q)
    ·exact aZ _ (hT.sym x y q)
theorem IsR.part:∀ (n:Nat) {p q inn:List Int}{x y:Int},(p++x::(inn++x::q)).length<=n->IsR (p++x::(inn++x::q))->inn.head?=some y->inn.getLast?=some y ->
  IsR inn/\IsR (p++x::q)/\∀ c∈inn,c∉p++x::q
 | 0,p,q,inn,x,y,hn,h,h1,h2=>by simp at hn
 | n+1,p,q,inn,x,y,hn,h,h1,h2=>by
  have hl:1<(p++x::(inn++x::q)).length:=by simp;omega
  obtain ⟨X,w,z,Y,e,hz⟩:=h.leaf hl
  have hc:(p++x::(inn++x::q)).count z=1:=by
   rw [e]
   simp at hz
   have a1:X.count z=0:=fi.mpr hz.1
   have a2:Y.count z=0:=fi.mpr hz.2.2
   have a3:¬ w=z:=λq=>hz.2.1 q.symm
   simp [gQ,uO,a1,a2,a3]
  have hzx:x≠z:=λq=>by
   subst q
   simp [gQ,uO] at hc
   omega
  have hc2:p.count z+inn.count z+q.count z=1:=by
   simp [gQ,uO,hzx] at hc
   omega
  -- a place that stands once,with what is around it
  have at_:∀ A B,p++x::(inn++x::q)=A++z::B->∃ A' w B',A=A'++[w]/\B=w::B':=λA B eA=>by
   rw [eA] at h hc hl
   have c0:A.count z=0/\B.count z=0:=by rw [gQ,lj] at hc;omega
   refine h.leafAt (fi.mp c0.1) (fi.mp c0.2) λq=>?_
   rw [ur] at q
   rw [q.1,q.2] at hl
   simp at hl
  have nin:∀ {l:List Int},l.count z=0->z∉l:=λq=>fi.mp q
  by_cases z1:z∈inn
  ·have k1:0<inn.count z:=nq.mpr z1
   have hp0:z∉p:=nin (by omega)
   have hq0:z∉q:=nin (by omega)
   obtain ⟨i1,i2,ei⟩:=ni z1
   have c12:i1.count z=0/\i2.count z=0:=by
    rw [ei,gQ,lj] at hc2;omega
   have n1:=nin c12.1
   have n2:=nin c12.2
   by_cases hs:i1++i2=[]
   ·rw [ur] at hs
    rw [hs.1,hs.2] at ei
    subst ei
    have zo:z∉p++x::q:=λhm=>by
     rcases aP.mp hm with m|m
     ·exact hp0 m
     ·rcases ak.mp m with m|m
      ·exact hzx m.symm
      ·exact hq0 m
    refine ⟨IsR.one z,IsR.peel (w:=x) (z:=z) (by simpa using h) zo,λc hc=>?_⟩
    have:c=z:=by simpa using hc
    subst this;exact zo
   ·obtain ⟨A',w',B',eA,eB⟩:=at_ (p++x::i1) (i2++x::q) (by rw [ei];simp)
    have i1n:i1≠[]:=λq0=>by
     subst q0
     rw [ei] at h1 h2
     simp at h1
     subst h1
     rcases dQ i2 with q1|⟨us,u,q1⟩
     ·exact hs (by simp [q1])
     ·rw [dR] at q1
      subst q1
      simp [cP,nj] at h2
      exact n2 (by simp [h2])
    have i2n:i2≠[]:=λq0=>by
     subst q0
     rw [ei] at h1 h2
     rw [cP] at h2
     simp at h2
     subst h2
     cases i1 with
     | nil=>exact i1n rfl
     | cons a i1=>simp at h1;exact n1 (by simp [h1])
    obtain ⟨i1',u,ei1⟩:∃ i1' u,i1=i1'++[u]:=by
     rcases dQ i1 with q0|⟨us,u,q0⟩
     ·exact absurd q0 i1n
     ·exact ⟨us,u,by rw [q0,dR]⟩
    cases i2 with
    | nil=>exact absurd rfl i2n
    | cons v i2' =>
     have ev:v=w':=by simp at eB;exact eB.1
     have eu:u=w':=by
      rw [ei1,← Qt,← dS] at eA
      have:=uu eA rfl
      simpa using this
     subst ei1 ev eu
     have ei':inn=i1'++u::z::u::i2':=by rw [ei];simp
     subst ei'
     have zi:z∉i1'++u::i2':=λhm=>by
      simp at hm n1 n2
      rcases hm with m|m|m
      ·exact n1.1 m
      ·exact n1.2 m
      ·exact n2.2 m
     have eR:p++x::(i1'++u::z::u::i2'++x::q)=(p++x::i1')++u::z::u::(i2'++x::q):=by simp
     have eR':p++x::(i1'++u::i2'++x::q)=(p++x::i1')++u::(i2'++x::q):=by simp
     have zR:z∉(p++x::i1')++u::(i2'++x::q):=λhm=>by
      simp at hm zi
      rcases hm with m|m|m|m|m|m|m
      ·exact hp0 m
      ·exact hzx m.symm
      ·exact zi.1 m
      ·exact zi.2.1 m
      ·exact zi.2.2 m
      ·exact hzx m.symm
      ·exact hq0 m
     rw [eR] at h
     have hR':=h.peel zR
     rw [← eR'] at hR'
     have en:=Az i1' i2' u z
     obtain ⟨r1,r2,r3⟩:=IsR.part n (by simp at hn ⊢;omega) hR' (by rw [← en.1];exact h1) (by rw [← en.2];exact h2)
     refine ⟨r1.put zi,r2,λc hc=>?_⟩
     simp at hc
     have hcz:c=z->c∉p++x::q:=λq0 hm=>by
      subst q0
      simp at hm
      rcases hm with m|m|m
      ·exact hp0 m
      ·exact hzx m.symm
      ·exact hq0 m
     rcases hc with m|m|m|m|m
     ·exact r3 c (by simp [m])
     ·exact r3 c (by simp [m])
     ·exact hcz m
     ·exact r3 c (by simp [m])
     ·exact r3 c (by simp [m])
  ·by_cases z2:z∈p
   ·have k1:0<p.count z:=nq.mpr z2
    have hq0:z∉q:=nin (by omega)
    obtain ⟨p1,p2,ep⟩:=ni z2
    obtain ⟨A',w',B',eA,eB⟩:=at_ p1 (p2++x::(inn++x::q)) (by rw [ep];simp)
    have c12:p1.count z=0/\p2.count z=0:=by
     rw [ep,gQ,lj] at hc2;omega
    have n1:=nin c12.1
    have n2:=nin c12.2
    subst eA
    cases p2 with
    | nil =>
     have ew:w'=x:=by simp at eB;exact eB.1.symm
     subst ew
     have ep':p=A'++[w',z]:=by rw [ep];simp
     subst ep'
     have zR:z∉A'++w'::(inn++w'::q):=λhm=>by
      simp at hm n1
      rcases hm with m|m|m|m|m
      ·exact n1.1 m
      ·exact n1.2 m
      ·exact z1 m
      ·exact n1.2 m
      ·exact hq0 m
     have hR':=IsR.peel (xs:=A') (w:=w') (z:=z) (ys:=inn++w'::q) (by simpa using h) zR
     obtain ⟨r1,r2,r3⟩:=IsR.part n (by simp at hn ⊢;omega) hR' h1 h2
     have zo:z∉A'++w'::q:=λhm=>by
      simp at hm n1
      rcases hm with m|m|m
      ·exact n1.1 m
      ·exact n1.2 m
      ·exact hq0 m
     refine ⟨r1,by simpa using r2.put zo,λc hc hm=>?_⟩
     simp at hm
     rcases hm with m|m|m|m
     ·exact r3 c hc (by simp [m])
     ·exact r3 c hc (by simp [m])
     ·exact z1 (m▸hc)
     ·exact r3 c hc (by
       rcases m with m|m
       ·simp [m]
       ·simp [m])
    | cons v p2 =>
     have ew:v=w':=by simp at eB;exact eB.1
     subst ew
     have ep':p=A'++v::z::v::p2:=by rw [ep];simp
     subst ep'
     have zR:z∉A'++v::(p2++x::(inn++x::q)):=λhm=>by
      simp at hm n1 n2
      rcases hm with m|m|m|m|m|m|m
      ·exact n1.1 m
      ·exact n1.2 m
      ·exact n2.2 m
      ·exact hzx m.symm
      ·exact z1 m
      ·exact hzx m.symm
      ·exact hq0 m
     have hR':=IsR.peel (xs:=A') (w:=v) (z:=z) (ys:=p2++x::(inn++x::q)) (by simpa using h) zR
     obtain ⟨r1,r2,r3⟩:=IsR.part n (p:=A'++v::p2) (q:=q) (inn:=inn) (x:=x) (by simp at hn ⊢;omega) (by simpa using hR') h1 h2
     have zo:z∉A'++v::(p2++x::q):=λhm=>by
      simp at hm n1 n2
      rcases hm with m|m|m|m|m
      ·exact n1.1 m
      ·exact n1.2 m
      ·exact n2.2 m
      ·exact hzx m.symm
      ·exact hq0 m
     refine ⟨r1,by simpa using IsR.put (xs:=A') (w:=v) (z:=z) (ys:=p2++x::q) (by simpa using r2) zo,λc hc hm=>?_⟩
     simp at hm
     rcases hm with m|m|m|m|m|m|m
     ·exact r3 c hc (by simp [m])
     ·exact r3 c hc (by simp [m])
     ·exact z1 (m▸hc)
     ·exact r3 c hc (by simp [m])
     ·exact r3 c hc (by simp [m])
     ·exact r3 c hc (by simp [m])
     ·exact r3 c hc (by simp [m])
   ·have hq1:z∈q:=by
     have k1:0<q.count z:=by
      have a1:=fi.mpr z1
      have a2:=fi.mpr z2
      omega
     exact nq.mp k1
    obtain ⟨q1,q2,eq⟩:=ni hq1
    obtain ⟨A',w',B',eA,eB⟩:=at_ (p++x::(inn++x::q1)) q2 (by rw [eq];simp)
    have c12:q1.count z=0/\q2.count z=0:=by
     rw [eq,gQ,lj] at hc2;omega
    have n1:=nin c12.1
    have n2:=nin c12.2
    subst eB
    rcases dQ q1 with e1|⟨q1',u,e1⟩
    ·subst e1
     have ew:x=w':=by
      rw [show p++x::(inn++[x])=(p++x::inn)++[x] by simp] at eA
      have:=uu eA rfl
      simpa using this
     subst ew
     have eq':q=z::x::B':=by rw [eq];rfl
     subst eq'
     have zR:z∉(p++x::inn)++x::B':=λhm=>by
      simp at hm n2
      rcases hm with m|m|m|m|m
      ·exact z2 m
      ·exact hzx m.symm
      ·exact z1 m
      ·exact hzx m.symm
      ·exact n2.2 m
     have hR':=IsR.peel (xs:=p++x::inn) (w:=x) (z:=z) (ys:=B') (by simpa using h) zR
     obtain ⟨r1,r2,r3⟩:=IsR.part n (p:=p) (q:=B') (inn:=inn) (x:=x) (by simp at hn ⊢;omega) (by simpa using hR') h1 h2
     have zo:z∉p++x::B':=λhm=>by
      simp at hm n2
      rcases hm with m|m|m
      ·exact z2 m
      ·exact hzx m.symm
      ·exact n2.2 m
     refine ⟨r1,r2.put zo,λc hc hm=>?_⟩
     simp at hm
     rcases hm with m|m|m|m|m
     ·exact r3 c hc (by simp [m])
     ·exact r3 c hc (by simp [m])
     ·exact z1 (m▸hc)
     ·exact r3 c hc (by simp [m])
     ·exact r3 c hc (by simp [m])
    ·rw [dR] at e1
     subst e1
     have ew:u=w':=by
      rw [show p++x::(inn++x::(q1'++[u]))=(p++x::(inn++x::q1'))++[u] by simp] at eA
      have:=uu eA rfl
      simpa using this
     subst ew
     have eq':q=q1'++u::z::u::B':=by rw [eq];simp
     subst eq'
     have zR:z∉(p++x::(inn++x::q1'))++u::B':=λhm=>by
      simp at hm n1 n2
      rcases hm with m|m|m|m|m|m|m
      ·exact z2 m
      ·exact hzx m.symm
      ·exact z1 m
      ·exact hzx m.symm
      ·exact n1.1 m
      ·exact n1.2 m
      ·exact n2.2 m
     have hR':=IsR.peel (xs:=p++x::(inn++x::q1')) (w:=u) (z:=z) (ys:=B') (by simpa using h) zR
     obtain ⟨r1,r2,r3⟩:=IsR.part n (p:=p) (q:=q1'++u::B') (inn:=inn) (x:=x) (by simp at hn ⊢;omega) (by simpa using hR') h1 h2
     have zo:z∉(p++x::q1')++u::B':=λhm=>by
      simp at hm n1 n2
      rcases hm with m|m|m|m|m
      ·exact z2 m
      ·exact hzx m.symm
      ·exact n1.1 m
      ·exact n1.2 m
      ·exact n2.2 m
     refine ⟨r1,by simpa using IsR.put (xs:=p++x::q1') (w:=u) (z:=z) (ys:=B') (by simpa using r2) zo,λc hc hm=>?_⟩
     simp at hm
     rcases hm with m|m|m|m|m|m|m
     ·exact r3 c hc (by simp [m])
     ·exact r3 c hc (by simp [m])
     ·exact r3 c hc (by simp [m])
     ·exact r3 c hc (by simp [m])
     ·exact z1 (m▸hc)
     ·exact r3 c hc (by simp [m])
     ·exact r3 c hc (by simp [m])
end Rm
namespace Rm
theorem DD {r:List Int}{i:Nat}{x y:Int}:(al r)[i]?=some (x,y)↔r[i]?=some x/\r[i+1]?=some y:=by
 rw [IE,HM,cn,LX 1 i]
def rh (r:List Int) (i j:Nat):List Int:=(r.drop (i+1)).take (j-i)
def xF (r:List Int) (i j:Nat):List Int:=r.take (i+1)++r.drop (j+2)
def xc (r:List Int) (a b:Int):List Int×List Int :=
 if (al r).idxOf (a,b)<(al r).idxOf (b,a) then (xF r ((al r).idxOf (a,b)) ((al r).idxOf (b,a)),rh r ((al r).idxOf (a,b)) ((al r).idxOf (b,a)))
 else (rh r ((al r).idxOf (b,a)) ((al r).idxOf (a,b)),xF r ((al r).idxOf (b,a)) ((al r).idxOf (a,b)))
theorem Nn {r:List Int}{i j:Nat}{x y:Int}(hij:i<j) (h1:r[i]?=some x) (h2:r[i+1]?=some y) (h3:r[j]?=some y) (h4:r[j+1]?=some x) :
  r=r.take i++x::(rh r i j++x::r.drop (j+2))/\xF r i j=r.take i++x::r.drop (j+2)/\(rh r i j).head?=some y/\(rh r i j).getLast?=some y/\(rh r i j).length+(xF r i j).length+1=r.length:=by
 have l4:=(aB.mp h4).1
 have g1:r.drop i=x::r.drop (i+1):=by
  have hl:=aB.mp h1
  rw [lS hl.1,hl.2]
 have g2:r.drop (j+1)=x::r.drop (j+2):=by
  have hl:=aB.mp h4
  rw [lS hl.1,hl.2]
 have g3:r.drop (i+1)=rh r i j++r.drop (j+1):=by
  unfold rh
  have:=iF (j-i) (r.drop (i+1))
  rw [List.drop_drop,show i+1+(j-i)=j+1 by omega] at this
  exact this.symm
 have li:(rh r i j).length=j-i:=by unfold rh;rw [bw,bz];omega
 refine ⟨?_,?_,?_,?_,?_⟩
 ·rw [← g2,← g3,← g1,iF]
 ·unfold xF
  rw [gP,h1];simp
 ·rw [Kz]
  unfold rh
  rw [eE,if_pos (by omega),cn];exact h2
 ·rw [HP,li]
  unfold rh
  rw [eE,if_pos (by omega),cn,show i+1+(j-i-1)=j by omega];exact h3
 ·rw [li]
  unfold xF
  rw [aX,bw,bz];omega
theorem Qc {r:List Int}{a b:Int}(h:(a,b)∈al r):r[(al r).idxOf (a,b)]?=some a/\r[(al r).idxOf (a,b)+1]?=some b:=by
 have hl:(al r).idxOf (a,b)<(al r).length:=gC.mpr h
 refine DD.mp ?_
 rw [ar hl,qS]
structure Parted (r X Y:List Int) (a b:Int):Prop where
 x:IsR X
 y:IsR Y
 ha:a∈X
 hb:b∈Y
 dis:∀ c∈Y,c∉X
 pm:(al r).Perm ((a,b)::(b,a)::(al X++al Y))
 len:X.length+Y.length+1=r.length
theorem IsR.parted {r:List Int}{a b:Int}(h:IsR r) (hm:(a,b)∈al r) (hab:a≠b):Parted r (xc r a b).1 (xc r a b).2 a b:=by
 obtain ⟨p1,p2⟩:=Qc hm
 obtain ⟨q1,q2⟩:=Qc (h.sym a b hm)
 unfold xc
 generalize (al r).idxOf (a,b)=i at p1 p2
 generalize (al r).idxOf (b,a)=j at q1 q2
 by_cases hij:i<j
 ·rw [if_pos hij]
  obtain ⟨e1,e2,e3,e4,e5⟩:=Nn hij p1 p2 q1 q2
  have hR:=h
  rw [e1] at hR
  obtain ⟨r1,r2,r3⟩:=IsR.part _ (aw _) hR e3 e4
  refine ⟨by rw [e2];exact r2,r1,by rw [e2];simp,kA (by rw [e3];rfl),λc hc=>by rw [e2];exact r3 c hc,?_,by simp only;omega⟩
  simp only
  rw [e2]
  have hp:=En (xs:=r.take i) (ys:=r.drop (j+2)) (a:=a) e3 e4
  rwa [← e1] at hp
 ·rw [if_neg hij]
  have hji:j<i:=by
   rcases Nat.lt_or_ge j i with q|q
   ·exact q
   ·have:i=j:=by omega
    subst this
    rw [p1] at q1
    exact absurd (aS q1) hab
  obtain ⟨e1,e2,e3,e4,e5⟩:=Nn hji q1 q2 p1 p2
  have hR:=h
  rw [e1] at hR
  obtain ⟨r1,r2,r3⟩:=IsR.part _ (aw _) hR e3 e4
  refine ⟨r1,by rw [e2];exact r2,kA (by rw [e3];rfl),by rw [e2];simp,λc hc hx=>by rw [e2] at hc;exact r3 c hx hc,?_,by simp only;omega⟩
  simp only
  rw [e2]
  have hp:=En (xs:=r.take j) (ys:=r.drop (i+2)) (a:=b) e3 e4
  rw [← e1] at hp
  refine hp.trans ((List.Perm.swap _ _ _).trans (ng _ (ng _ oQ)))
end Rm
namespace Rm
theorem WI.wayF {f:Nat->Int}{m:Nat}{rn wn:List Nat}{par:Nat->Nat}{k t:Nat}{a b:Int}(T:Tr m rn par) (inj:∀ i j,i<=m->j<=m->f i=f j->i=j) (h0:∃ x,rn[0]?=some x/\rn[rn.length-1]?=some x) (hk:k<rn.length) (hl:rn.length<=200) (W:WI (tn rn k) t wn) (ht:t<rn.length)
  (ea:(tn rn k)[0]?.map f=some a) (eb:(tn rn k)[t]?.map f=some b):RY (rn.map f) a b (wn.map f):=by
 obtain ⟨x0,z0,z1⟩:=h0
 have hle:∀ x∈wn,x<=m:=λx hx=>T.le x (Nj (W.sub x hx))
 have get:∀ {i:Nat}{y:Int},(wn.map f)[i]?=some y->∃ x,wn[i]?=some x/\y=f x/\x<=m:=λ{i y} e=>by
  rw [ay] at e
  obtain ⟨x,e1,e2⟩:=bc.mp e
  exact ⟨x,e1,e2.symm,hle x (aG e1)⟩
 have ps:∀ (i x y:Nat),wn[i]?=some x->wn[i+1]?=some y->∃ j:Nat,rn[j]?=some x/\rn[j+1]?=some y:=λi x y e1 e2=>by
  obtain ⟨j,q1,q2⟩:=W.ps i x y e1 e2
  exact Nk hk z0 z1 q1 q2
 have nd:∀ (i d:Nat) (x:Nat),0<d->wn[i]?=some x->wn[i+d]?=some x->False:=λi d x hd e1 e2=>by
  have hi:i+d<wn.length:=(aB.mp e2).1
  have gv:∀ i,i<wn.length->wn[i]?=some (wn.getD i 0):=λi hi=>by rw [lh,ar hi];rfl
  refine SU (n:=wn.length) (v:=λi=>wn.getD i 0) (par:=par) (λi hi=>?_) (λi hi=>?_) (λi hi h1=>?_) d i hd hi ?_
  ·obtain ⟨j,q1,q2⟩:=ps i _ _ (gv i (by omega)) (gv (i+1) hi)
   exact T.adj j _ _ q1 q2
  ·exact W.nb i _ _ (gv i (by omega)) (gv (i+2) hi)
  ·exact T.pl _ h1 (hle _ (aG (gv i hi)))
  ·rw [lh,lh,e1,e2]
 refine ⟨by rw [ay,W.first];exact ea,by rw [aj,ay,W.last];exact eb,by rw [aj];exact W.ne,λi j x hij e1 e2=>?_,λi x y e1 e2=>?_,?_⟩
 ·obtain ⟨u,q1,q2,q3⟩:=get e1
  obtain ⟨v,p1,p2,p3⟩:=get e2
  have:u=v:=inj u v q3 p3 (by rw [← q2,← p2])
  subst this
  exact nd i (j-i) u (by omega) q1 (by rw [show i+(j-i)=j by omega];exact p1)
 ·obtain ⟨u,q1,q2,q3⟩:=get e1
  obtain ⟨v,p1,p2,p3⟩:=get e2
  obtain ⟨j,r1,r2⟩:=ps i u v q1 p1
  exact ⟨j,by rw [ay,r1,q2];rfl,by rw [ay,r2,p2];rfl⟩
 ·have:=W.len
  rw [aj];omega
theorem IsR.gr:∀ (n:Nat) {r:List Int},r.length<=n->IsR r->∃ f m,Gr f m r/\∀ i j,i<=m->j<=m->f i=f j->i=j
 | 0,r,hl,h=>absurd (jS (by omega)) h.ne
 | n+1,r,hl,h=>by
  by_cases h1:1<r.length
  ·obtain ⟨xs,w,z,ys,rfl,hz⟩:=h.leaf h1
   obtain ⟨f,m,g,inj⟩:=IsR.gr n (r:=xs++w::ys) (by simp at hl ⊢;omega) (h.peel hz)
   have fz:∀ i,i<=m->f i≠z:=λi hi e=>hz (e▸g.mem i hi)
   have g2:∀ {m:Nat}{r:List Int}{f':Nat->Int},Gr f m r->(∀ i,i<=m->f' i=f i)->Gr f' m r:=by
    intro m r f' g
    induction g with
    | one=>intro e;rw [← e 0 (aw _)];exact .one
    | @put m r j g hj ih=>intro e;rw [← e (m+1) (aw _)];exact .put (ih λi hi=>e i (by omega)) hj
   refine ⟨λi=>if i=m+1 then z else f i,m+1,?_,λi j hi hj e=>?_⟩
   ·have:=Gr.put (j:=xs.length) (g2 (f':=λi=>if i=m+1 then z else f i) g λi hi=>if_neg (by omega)) (by simp)
    simp only [if_true] at this
    have e1:(xs++w::ys).take (xs.length+1)=xs++[w]:=by rw [BG,bY (by omega)];simp
    have e2:(xs++w::ys).drop xs.length=w::ys:=by simp
    rw [e1,e2] at this
    simpa using this
   ·simp only at e
    by_cases c1:i=m+1
    ·by_cases c2:j=m+1
     ·omega
     ·rw [if_pos c1,if_neg c2] at e
      exact absurd e.symm (fz j (by omega))
    ·by_cases c2:j=m+1
     ·rw [if_neg c1,if_pos c2] at e
      exact absurd e (fz i (by omega))
     ·rw [if_neg c1,if_neg c2] at e
      exact inj i j (by omega) (by omega) e
  ·have:r.length=1:=by have:=xk.mpr h.ne;omega
   obtain ⟨a,rfl⟩:=KA.mp this
   exact ⟨λ_=>a,0,.one,λi j hi hj _=>by omega⟩
theorem GR (x y:Int) (l:List Int):al (x::y::l)=(x,y)::al (y::l):=rfl
end Rm
namespace Rm
def AA (r1 r2:List Int) (a b:Int):List Int:=r1.take (r1.idxOf a+1)++(tn r2 (r2.idxOf b)++r1.drop (r1.idxOf a))
structure Two (r1 r2:List Int) (a b:Int):Prop where
 h1:IsR r1
 h2:IsR r2
 ha:a∈r1
 hb:b∈r2
 dis:∀ x∈r2,x∉r1
theorem Two.facts {r1 r2:List Int}{a b:Int}(T:Two r1 r2 a b):IsR (AA r1 r2 a b)/\(al (AA r1 r2 a b)).Perm ((a,b)::(b,a)::(al r1++al r2))/\(AA r1 r2 a b).length=r1.length+r2.length+1:=by
 obtain ⟨t1,t2,t3,t4,t5⟩:=T.h2.turn T.hb
 obtain ⟨xs,ys,e,el,hx⟩:=DC T.ha
 have es:AA r1 r2 a b=xs++a::(tn r2 (r2.idxOf b)++a::ys):=by
  unfold AA
  rw [← el]
  conv=>lhs;rw [e]
  have d1:(xs++a::ys).take (xs.length+1)=xs++[a]:=by
   rw [BG,bY (by omega)]
   simp
  have d2:(xs++a::ys).drop xs.length=a::ys:=by simp
  rw [d1,d2];simp
 have hR:IsR (xs++a::ys):=by rw [← e];exact T.h1
 have hd:∀ x∈tn r2 (r2.idxOf b),x∉xs++a::ys:=λx hx=>by rw [← e];exact T.dis x ((t4 x).mp hx)
 refine ⟨by rw [es];exact hR.splice t1 t3 hd,?_,?_⟩
 ·rw [es,e]
  have t3':(tn r2 (r2.idxOf b)).getLast?=some b:=by rw [← t1.ends];exact t3
  exact (En t3 t3').trans (ng _ (ng _ (sP _ t2)))
 ·have hlt:(tn r2 (r2.idxOf b)).length=r2.length:=t5
  unfold AA
  have:=xE T.ha
  rw [aX,aX,bw,bz,hlt]
  omega
theorem Two.mem {r1 r2:List Int}{a b:Int}(T:Two r1 r2 a b) (x:Int):x∈AA r1 r2 a b↔x∈r1\/x∈r2:=by
 obtain ⟨t1,t2,t3,t4,t5⟩:=T.h2.turn T.hb
 unfold AA
 rw [aP,aP,t4]
 constructor
 ·rintro (h|h|h)
  ·exact .inl (vG h)
  ·exact .inr h
  ·exact .inl (pQ h)
 ·rintro (h|h)
  ·rw [← iF (r1.idxOf a) r1] at h
   rcases aP.mp h with h|h
   ·exact .inl (List.take_subset_take_left _ (eV _) h)
   ·exact .inr (.inr h)
  ·exact .inr (.inl h)
theorem Parted.mem {r X Y:List Int}{a b:Int}(P:Parted r X Y a b) (hr:IsR r) (x:Int):x∈r↔x∈X\/x∈Y:=by
 have key:∀ {l:List Int},IsR l->∀ {x:Int},x∈l->(l=[x]\/∃ y,(x,y)∈al l):=λ{l} hl {x} hx=>by
  obtain ⟨i,hi⟩:=bE.mp hx
  have hlt:=(aB.mp hi).1
  by_cases h:i+1<l.length
  ·exact .inr ⟨_,bE.mpr ⟨i,DD.mpr ⟨hi,ar h⟩⟩⟩
  ·by_cases h1:l.length=1
   ·obtain ⟨c,rfl⟩:=KA.mp h1
    have:i=0:=by simp at hlt;omega
    subst this
    simp at hi
    exact .inl (by rw [hi])
   ·have e1:l[i-1]?=some l[i-1]:=ar (by omega)
    exact .inr ⟨_,hl.sym _ _ (bE.mpr ⟨i-1,DD.mpr ⟨e1,by rw [show i-1+1=i by omega];exact hi⟩⟩)⟩
 constructor
 ·intro hx
  rcases key hr hx with e|⟨y,hy⟩
  ·have:=P.len;rw [e] at this
   have h1:=xk.mpr P.x.ne
   have h2:=xk.mpr P.y.ne
   rw [kx] at this;omega
  ·rcases ak.mp (P.pm.mem_iff.mp hy) with e|hy
   ·cases e;exact .inl P.ha
   ·rcases ak.mp hy with e|hy
    ·cases e;exact .inr P.hb
    ·rcases aP.mp hy with hy|hy
     ·exact .inl (gF hy).1
     ·exact .inr (gF hy).1
 ·intro hx
  have in_:∀ {u v:Int},(u,v)∈(a,b)::(b,a)::(al X++al Y)->u∈r:=λh=>(gF (P.pm.mem_iff.mpr h)).1
  rcases hx with hx|hx
  ·rcases key P.x hx with e|⟨y,hy⟩
   ·have:=P.ha;rw [e] at this
    rw [← aC.mp this]
    exact in_ (v:=b) aq
   ·exact in_ (v:=y) (ag _ (ag _ (bT _ hy)))
  ·rcases key P.y hx with e|⟨y,hy⟩
   ·have:=P.hb;rw [e] at this
    rw [← aC.mp this]
    exact in_ (v:=a) (ag _ aq)
   ·exact in_ (v:=y) (ag _ (ag _ (aZ _ hy)))
structure Wd (n:Nat) (R:Nat->List Int):Prop where
 r:∀ i,i<n->IsR (R i)
 me:∀ i:Nat,i<n->(i:Int)∈R i
 in_:∀ i,i<n->∀ x∈R i,∃ j:Nat,j<n/\x=(j:Int)/\R j=R i
def Ed (n:Nat) (R:Nat->List Int) (x y:Int):Prop:=∃ i,i<n/\(x,y)∈al (R i)
theorem Wd.start (n:Nat):Wd n λi=>[(i:Int)] :=
 ⟨λi _=>IsR.one _,λi _=>by simp,λi hi x hx=>⟨i,hi,by simpa using hx,rfl⟩⟩
theorem Wd.same {n:Nat}{R:Nat->List Int}(W:Wd n R) {i j:Nat}(hi:i<n) (hj:j<n) {x:Int}(h1:x∈R i) (h2:x∈R j):R i=R j:=by
 obtain ⟨k,hk,e1,e2⟩:=W.in_ i hi x h1
 obtain ⟨k',hk',e3,e4⟩:=W.in_ j hj x h2
 have:k=k':=by omega
 subst this
 rw [← e2,e4]
theorem Wd.head {n:Nat}{R:Nat->List Int}(W:Wd n R) {i j:Nat}(hi:i<n) (hj:j<n):((R i).head?=(R j).head?↔(j:Int)∈R i):=by
 constructor
 ·intro e
  obtain ⟨x,hx⟩:∃ x,(R i).head?=some x:=by
   cases h:R i with
   | nil=>exact absurd h (W.r i hi).ne
   | cons a l=>exact ⟨a,rfl⟩
  rw [W.same hi hj (kA hx) (kA (e▸hx))]
  exact W.me j hj
 ·intro h
  rw [W.same hi hj h (W.me j hj)]
theorem Ed.at {n:Nat}{R:Nat->List Int}(W:Wd n R) {x y:Int}(h:Ed n R x y) {i:Nat}(hi:i<n) (hx:x∈R i):(x,y)∈al (R i):=by
 obtain ⟨j,hj,hm⟩:=h
 rw [W.same hi hj hx (gF hm).1];exact hm
theorem Ed.symm {n:Nat}{R:Nat->List Int}(W:Wd n R) {x y:Int}(h:Ed n R x y):Ed n R y x:=let ⟨i,hi,hm⟩:=h;⟨i,hi,(W.r i hi).sym _ _ hm⟩
theorem Wd.link {n:Nat}{R:Nat->List Int}(W:Wd n R) {a b:Nat}(ha:a<n) (hb:b<n) (hn:(b:Int)∉R a) :
  Two (R a) (R b) a b/\Wd n (λi=>if (i:Int)∈AA (R a) (R b) a b then AA (R a) (R b) a b else R i) /\
   ∀ x y,Ed n (λi=>if (i:Int)∈AA (R a) (R b) a b then AA (R a) (R b) a b else R i) x y↔(Ed n R x y\/(x,y)=((a:Int),(b:Int))\/(x,y)=((b:Int),(a:Int))):=by
 have T:Two (R a) (R b) a b:=⟨W.r a ha,W.r b hb,W.me a ha,W.me b hb,λx h2 h1=>hn (by rw [W.same ha hb h1 h2];exact W.me b hb)⟩
 obtain ⟨f1,f2,f3⟩:=T.facts
 have fm:=T.mem
 generalize AA (R a) (R b) a b=s at f1 f2 f3 fm
 have hs:∀ x∈s,∃ j:Nat,j<n/\x=(j:Int)/\(j:Int)∈s:=λx hx=>by
  rcases (fm x).mp hx with h|h
  ·obtain ⟨j,hj,e,_⟩:=W.in_ a ha x h;exact ⟨j,hj,e,e▸hx⟩
  ·obtain ⟨j,hj,e,_⟩:=W.in_ b hb x h;exact ⟨j,hj,e,e▸hx⟩
 have nos:∀ i,i<n->(i:Int)∉s->∀ x∈R i,x∉s:=λi hi h x hx hxs=>by
  rcases (fm x).mp hxs with q|q
  ·exact h ((fm i).mpr (.inl (W.same ha hi q hx▸W.me i hi)))
  ·exact h ((fm i).mpr (.inr (W.same hb hi q hx▸W.me i hi)))
 refine ⟨T,⟨λi hi=>?_,λi hi=>?_,λi hi x hx=>?_⟩,λx y=>⟨?_,?_⟩⟩
 ·by_cases c:(i:Int)∈s
  ·rw [if_pos c];exact f1
  ·rw [if_neg c];exact W.r i hi
 ·by_cases c:(i:Int)∈s
  ·rw [if_pos c];exact c
  ·rw [if_neg c];exact W.me i hi
 ·by_cases c:(i:Int)∈s
  ·simp only [if_pos c] at hx ⊢
   obtain ⟨j,hj,e,hjs⟩:=hs x hx
   exact ⟨j,hj,e,if_pos hjs⟩
  ·simp only [if_neg c] at hx ⊢
   obtain ⟨j,hj,e,er⟩:=W.in_ i hi x hx
   exact ⟨j,hj,e,by rw [if_neg (λh=>nos i hi c x hx (e▸h))];exact er⟩
 ·rintro ⟨i,hi,hm⟩
  by_cases c:(i:Int)∈s
  ·simp only [if_pos c] at hm
   rcases ak.mp (f2.mem_iff.mp hm) with e|hm
   ·exact .inr (.inl e)
   ·rcases ak.mp hm with e|hm
    ·exact .inr (.inr e)
    ·rcases aP.mp hm with h|h
     ·exact .inl ⟨a,ha,h⟩
     ·exact .inl ⟨b,hb,h⟩
  ·simp only [if_neg c] at hm
   exact .inl ⟨i,hi,hm⟩
 ·have inS:∀ {u v:Int},(u,v)∈al s->Ed n (λi=>if (i:Int)∈s then s else R i) u v:=λh=>⟨a,ha,by simp only [if_pos ((fm a).mpr (.inl (W.me a ha)))];exact h⟩
  rintro (⟨i,hi,hm⟩|e|e)
  ·by_cases c:(i:Int)∈s
   ·refine inS (f2.mem_iff.mpr (ag _ (ag _ ?_)))
    rcases (fm i).mp c with h|h
    ·rw [← W.same ha hi h (W.me i hi)] at hm;exact bT _ hm
    ·rw [← W.same hb hi h (W.me i hi)] at hm;exact aZ _ hm
   ·exact ⟨i,hi,by simp only [if_neg c];exact hm⟩
  ·obtain ⟨rfl,rfl⟩:=cE e;exact inS (f2.mem_iff.mpr aq)
  ·obtain ⟨rfl,rfl⟩:=cE e;exact inS (f2.mem_iff.mpr (ag _ aq))
theorem Wd.cut {n:Nat}{R:Nat->List Int}(W:Wd n R) {a b:Nat}(ha:a<n) (hb:b<n) (hab:a≠b) (hm:((a:Int),(b:Int))∈al (R a)) :
  Wd n (λi=>if (i:Int)∈(xc (R a) a b).2 then (xc (R a) a b).2 else if (i:Int)∈(xc (R a) a b).1 then (xc (R a) a b).1 else R i) /\
   ∀ x y,Ed n (λi=>if (i:Int)∈(xc (R a) a b).2 then (xc (R a) a b).2 else if (i:Int)∈(xc (R a) a b).1 then (xc (R a) a b).1 else R i) x y↔(Ed n R x y/\¬ (x,y)=((a:Int),(b:Int))/\¬ (x,y)=((b:Int),(a:Int))):=by
 have hR:=W.r a ha
 have P:=hR.parted hm (by omega:(a:Int)≠b)
 have PM:=P.mem hR
 generalize (xc (R a) a b).1=X at P PM
 generalize (xc (R a) a b).2=Y at P PM
 have nd:=P.pm.nodup_iff.mp hR.nd
 have nab:=(bf.mp nd).1
 have nba:=(bf.mp (bf.mp nd).2).1
 have inr:∀ x∈R a,∃ j:Nat,j<n/\x=(j:Int)/\R j=R a:=W.in_ a ha
 have nos:∀ i,i<n->(i:Int)∉R a->∀ x∈R i,x∉R a:=λi hi h x hx hxs=>h (W.same ha hi hxs hx▸W.me i hi)
 have sw:∀ i:Nat,(i:Int)∈Y->(i:Int)∉X:=λi h=>P.dis _ h
 refine ⟨⟨λi hi=>?_,λi hi=>?_,λi hi x hx=>?_⟩,λx y=>⟨?_,?_⟩⟩
 ·by_cases c2:(i:Int)∈Y
  ·rw [if_pos c2];exact P.y
  ·by_cases c1:(i:Int)∈X
   ·rw [if_neg c2,if_pos c1];exact P.x
   ·rw [if_neg c2,if_neg c1];exact W.r i hi
 ·by_cases c2:(i:Int)∈Y
  ·rw [if_pos c2];exact c2
  ·by_cases c1:(i:Int)∈X
   ·rw [if_neg c2,if_pos c1];exact c1
   ·rw [if_neg c2,if_neg c1];exact W.me i hi
 ·by_cases c2:(i:Int)∈Y
  ·simp only [if_pos c2] at hx ⊢
   obtain ⟨j,hj,e,_⟩:=inr x ((PM x).mpr (.inr hx))
   exact ⟨j,hj,e,if_pos (e▸hx)⟩
  ·by_cases c1:(i:Int)∈X
   ·simp only [if_neg c2,if_pos c1] at hx ⊢
    obtain ⟨j,hj,e,_⟩:=inr x ((PM x).mpr (.inl hx))
    have hjX:(j:Int)∈X:=e▸hx
    exact ⟨j,hj,e,by rw [if_neg (λh=>sw j h hjX),if_pos hjX]⟩
   ·simp only [if_neg c2,if_neg c1] at hx ⊢
    obtain ⟨j,hj,e,er⟩:=W.in_ i hi x hx
    have hni:(i:Int)∉R a:=λh=>((PM i).mp h).elim c1 c2
    have hnj:(j:Int)∉R a:=λh=>nos i hi hni x hx (e▸h)
    exact ⟨j,hj,e,by rw [if_neg (λh=>hnj ((PM j).mpr (.inr h))),if_neg (λh=>hnj ((PM j).mpr (.inl h)))];exact er⟩
 ·have old:∀ {u v:Int},(u,v)∈al X++al Y->Ed n R u v/\¬ (u,v)=((a:Int),(b:Int))/\¬ (u,v)=((b:Int),(a:Int)):=λ{u v} h =>
   ⟨⟨a,ha,P.pm.mem_iff.mpr (ag _ (ag _ h))⟩,λe=>nab (ag _ (e▸h)),λe=>nba (e▸h)⟩
  rintro ⟨i,hi,h⟩
  by_cases c2:(i:Int)∈Y
  ·simp only [if_pos c2] at h;exact old (aZ _ h)
  ·by_cases c1:(i:Int)∈X
   ·simp only [if_neg c2,if_pos c1] at h;exact old (bT _ h)
   ·simp only [if_neg c2,if_neg c1] at h
    have hni:(i:Int)∉R a:=λh=>((PM i).mp h).elim c1 c2
    have hxa:x∉R a:=nos i hi hni x (gF h).1
    refine ⟨⟨i,hi,h⟩,λe=>hxa ?_,λe=>hxa ?_⟩
    ·rw [(cE e).1];exact W.me a ha
    ·rw [(cE e).1];exact (PM _).mpr (.inr P.hb)
 ·rintro ⟨h,e1,e2⟩
  by_cases hx:x∈R a
  ·have hm:=Ed.at W h ha hx
   rcases ak.mp (P.pm.mem_iff.mp hm) with e|hm
   ·exact absurd e e1
   ·rcases ak.mp hm with e|hm
    ·exact absurd e e2
    ·rcases aP.mp hm with q|q
     ·refine ⟨a,ha,?_⟩
      simp only [if_neg (λh=>sw a h P.ha),if_pos P.ha];exact q
     ·refine ⟨b,hb,?_⟩
      simp only [if_pos P.hb];exact q
  ·obtain ⟨i,hi,hm⟩:=h
   have hni:(i:Int)∉R a:=λh=>hx (W.same ha hi h (W.me i hi)▸(gF hm).1)
   refine ⟨i,hi,?_⟩
   simp only [if_neg (λh=>hni ((PM i).mpr (.inr h))),if_neg (λh=>hni ((PM i).mpr (.inl h)))]
   exact hm
theorem Rv {M:Int->Prop}:∀ {l:List Int},(∀ x y,(x,y)∈al l->(M x↔M y))->(∃ a∈l,M a)->∀ x∈l,M x
 | [],_,_,x,hx=>nomatch hx
 | [c],_,⟨a,ha,hM⟩,x,hx=>by
  rw [aC.mp hx,← aC.mp ha];exact hM
 | c::d::t,h,⟨a,ha,hM⟩,x,hx=>by
  have hcd:=h c d (by rw [GR];exact aq)
  have ih:=Rv (l:=d::t) λx y hm=>h x y (by rw [GR];exact ag _ hm)
  have hd:M d:=by
   rcases ak.mp ha with e|ha
   ·exact hcd.mp (e▸hM)
   ·exact ih ⟨a,ha,hM⟩ d aq
  rcases ak.mp hx with e|hx
  ·rw [e];exact hcd.mpr hd
  ·exact ih ⟨d,aq,hd⟩ x hx
theorem few {l:List Int}{n:Nat}(hn:l.Nodup) (h:∀ x∈l,∃ j:Nat,j<n/\x=(j:Int)):l.length<=n:=by
 have e:=si (ds:=(gh n).map λi:Nat=>(i:Int)) (r:=l) (by
  rw [F0,List.pairwise_map]
  exact List.Pairwise.imp (λh e=>h (by omega)) (F0.mp List.nodup_range)) λx hx=>by
   obtain ⟨j,hj,e⟩:=h x hx
   exact br.mpr ⟨j,FW.mpr hj,e.symm⟩
 have le:∀ (ds:List Int),(ds.map λd=>l.count d).sum<=ds.length:=λds=>by
  induction ds with
  | nil=>simp
  | cons d ds ih =>
   have:l.count d<=1:=pR.mp hn d
   simp only [bV,ym,cg]
   omega
 have:=le ((gh n).map λi:Nat=>(i:Int))
 rw [e] at this
 simpa using this
theorem Wd.len {n:Nat}{R:Nat->List Int}(W:Wd n R) {i:Nat}(hi:i<n):(R i).length+1<=2*n:=by
 obtain ⟨ds,h1,h2,h3⟩:=(W.r i hi).cnt
 have:=few h1 λx hx=>let ⟨j,hj,e,_⟩:=W.in_ i hi x ((h2 x).mp hx);⟨j,hj,e⟩
 omega
end Rm
namespace Rm
end Rm
namespace Rm
theorem Pc {α:Type} [DecidableEq α] {l m:List α}(h1:l.Nodup) (h2:m.Nodup) (h:∀ x,x∈l↔x∈m):l.Perm m:=by
 rw [List.perm_iff_count]
 intro x
 by_cases hx:x∈l
 ·have a1:=pR.mp h1 x
  have a2:=pR.mp h2 x
  have b1:=nq.mpr hx
  have b2:=nq.mpr ((h x).mp hx)
  omega
 ·rw [De hx,De (λq=>hx ((h x).mpr q))]
theorem AB:∀ {L M:List Int},L.Pairwise (· < ·)->M.Pairwise (· < ·)->(∀ t,t∈L↔t∈M)->L=M
 | [],[],_,_,_=>rfl
 | [],m::M,_,_,h=>absurd ((h m).mpr aq) (by simp)
 | l::L,[],_,_,h=>absurd ((h l).mp aq) (by simp)
 | l::L,m::M,h1,h2,h=>by
  obtain ⟨a1,a2⟩:=yD.mp h1
  obtain ⟨b1,b2⟩:=yD.mp h2
  have e:l=m:=by
   rcases ak.mp ((h l).mp aq) with e|hl
   ·exact e
   ·rcases ak.mp ((h m).mpr aq) with e|hm
    ·exact e.symm
    ·have x1:=b1 l hl
     have x2:=a1 m hm
     omega
  subst e
  rw [AB a2 b2 λt=>?_]
  constructor
  ·intro ht
   rcases ak.mp ((h t).mp (ag _ ht)) with e|z
   ·subst e;exact absurd (a1 _ ht) (by omega)
   ·exact z
  ·intro ht
   rcases ak.mp ((h t).mpr (ag _ ht)) with e|z
   ·subst e;exact absurd (b1 _ ht) (by omega)
   ·exact z
end Rm
namespace Rm
def lk (R:Nat->List Int) (a b:Nat):Nat->List Int:=λi=>if (i:Int)∈AA (R a) (R b) a b then AA (R a) (R b) a b else R i
def ct (R:Nat->List Int) (a b:Nat):Nat->List Int:=λi=>if (i:Int)∈(xc (R a) a b).2 then (xc (R a) a b).2 else if (i:Int)∈(xc (R a) a b).1 then (xc (R a) a b).1 else R i
theorem Kl {r s:List Int}(hr:IsR r) (hs:IsR s) (h:∀ x∈r,x∈s):r.length<=s.length:=by
 obtain ⟨d,d1,d2,d3⟩:=hr.cnt
 obtain ⟨e,e1,e2,e3⟩:=hs.cnt
 have q:=si (ds:=e) (r:=d) e1 λx hx=>(e2 x).mpr (h x ((d2 x).mp hx))
 have le:∀ (ds:List Int),(ds.map λc=>d.count c).sum<=ds.length:=λds=>by
  induction ds with
  | nil=>simp
  | cons c ds ih =>
   have:d.count c<=1:=pR.mp d1 c
   simp only [bV,ym,cg]
   omega
 have:=le e
 omega
section
variable {n:Nat}{R R':Nat->List Int}{x y z a b:Nat}
theorem Wd.sub (W:Wd n R) (W':Wd n R') (h:∀ x y,Ed n R x y->Ed n R' x y) (hx:x<n):∀ c∈R x,c∈R' x :=
 Rv (M:=λc=>c∈R' x) (λu v hm =>
  have e:=h u v ⟨x,hx,hm⟩
  ⟨λhu=>(gF (Ed.at W' e hx hu)).2,λhv=>(gF (Ed.at W' (Ed.symm W' e) hx hv)).2⟩) ⟨x,W.me x hx,W'.me x hx⟩
theorem Wd.sy (W:Wd n R) (hx:x<n) (hy:y<n) (h:(y:Int)∈R x):(x:Int)∈R y:=W.same hx hy h (W.me y hy)▸W.me x hx
theorem Wd.eq (W:Wd n R) (hx:x<n) (hy:y<n) (h:(y:Int)∈R x):R x=R y:=W.same hx hy h (W.me y hy)
theorem Wd.lk (W:Wd n R) (ha:a<n) (hb:b<n) (hn:(b:Int)∉R a):Wd n (lk R a b):=(W.link ha hb hn).2.1
theorem Wd.lk_ed (W:Wd n R) (ha:a<n) (hb:b<n) (hn:(b:Int)∉R a) (x y:Int):Ed n (Rm.lk R a b) x y↔(Ed n R x y\/(x,y)=((a:Int),(b:Int))\/(x,y)=((b:Int),(a:Int))):=(W.link ha hb hn).2.2 x y
theorem Wd.lk_in (W:Wd n R) (ha:a<n) (hb:b<n) (hn:(b:Int)∉R a) (h:(x:Int)∈R a\/(x:Int)∈R b):(∀ c,c∈Rm.lk R a b x↔c∈R a\/c∈R b)/\(Rm.lk R a b x).length=(R a).length+(R b).length+1:=by
 have T:=(W.link ha hb hn).1
 have e:Rm.lk R a b x=AA (R a) (R b) a b:=if_pos ((T.mem x).mpr h)
 rw [e]
 exact ⟨T.mem,T.facts.2.2⟩
theorem Wd.lk_out (W:Wd n R) (ha:a<n) (hb:b<n) (hn:(b:Int)∉R a) (h1:(x:Int)∉R a) (h2:(x:Int)∉R b):Rm.lk R a b x=R x :=
 if_neg λh=>((((W.link ha hb hn).1).mem x).mp h).elim h1 h2
theorem Wd.lk_le (W:Wd n R) (ha:a<n) (hb:b<n) (hn:(b:Int)∉R a) (hx:x<n):∀ c∈R x,c∈Rm.lk R a b x :=
 W.sub (W.lk ha hb hn) (λu v h=>(W.lk_ed ha hb hn u v).mpr (.inl h)) hx
theorem Wd.ct (W:Wd n R) (ha:a<n) (hb:b<n) (hab:a≠b) (hm:Ed n R a b):Wd n (ct R a b):=(W.cut ha hb hab (Ed.at W hm ha (W.me a ha))).1
theorem Wd.ct_ed (W:Wd n R) (ha:a<n) (hb:b<n) (hab:a≠b) (hm:Ed n R a b) (x y:Int):Ed n (Rm.ct R a b) x y↔(Ed n R x y/\¬ (x,y)=((a:Int),(b:Int))/\¬ (x,y)=((b:Int),(a:Int))):=(W.cut ha hb hab (Ed.at W hm ha (W.me a ha))).2 x y
theorem Wd.ct_in (W:Wd n R) (ha:a<n) (hb:b<n) (hab:a≠b) (hm:Ed n R a b):(b:Int)∉Rm.ct R a b a/\(∀ c,c∈R a↔c∈Rm.ct R a b a\/c∈Rm.ct R a b b)/\(Rm.ct R a b a).length+(Rm.ct R a b b).length+1=(R a).length:=by
 have hR:=W.r a ha
 have P:=hR.parted (Ed.at W hm ha (W.me a ha)) (by omega:(a:Int)≠b)
 have PM:=P.mem hR
 have e1:Rm.ct R a b b=(xc (R a) a b).2:=if_pos P.hb
 have e2:Rm.ct R a b a=(xc (R a) a b).1:=by
  show (if _ then _ else if _ then _ else _)=_
  rw [if_neg λh=>P.dis _ h P.ha,if_pos P.ha]
 rw [e1,e2]
 exact ⟨P.dis _ P.hb,PM,P.len⟩
theorem Wd.ct_out (W:Wd n R) (ha:a<n) (hb:b<n) (hab:a≠b) (hm:Ed n R a b) (h:(x:Int)∉R a):Rm.ct R a b x=R x:=by
 have hR:=W.r a ha
 have PM:=(hR.parted (Ed.at W hm ha (W.me a ha)) (by omega:(a:Int)≠b)).mem hR
 show (if _ then _ else if _ then _ else _)=_
 rw [if_neg λq=>h ((PM _).mpr (.inr q)),if_neg λq=>h ((PM _).mpr (.inl q))]
end
structure Ti where
 x:Nat
 y:Nat
 lev:Nat
 wd:Bool
def Ti.key (t:Ti):Int×Int:=((t.x:Int),(t.y:Int))
def Ti.Is (t:Ti) (u v:Int):Prop:=(u,v)=((t.x:Int),(t.y:Int))\/(u,v)=((t.y:Int),(t.x:Int))
def Ti.up (t:Ti):Ti:={ t with lev:=t.lev+1 }
def Ti.inw (t:Ti):Ti:={ t with wd:=true }
theorem Ti.key_eq {t u:Ti}(h:t.key=u.key):t.x=u.x/\t.y=u.y:=by
 obtain ⟨h1,h2⟩:=cE h
 omega
theorem Ti.is_key {t u:Ti}(ht:t.x<t.y) (hu:u.x<u.y) (h:t.Is u.x u.y):t.key=u.key:=by
 rcases h with h|h<;>obtain ⟨h1,h2⟩:=cE h
 ·exact FX h1.symm h2.symm
 ·omega
theorem Ti.is_swap {t:Ti}{u v:Int}:t.Is u v->t.Is v u:=λh=>h.elim (λh=>.inr (by rw [FU] at h ⊢;exact ⟨h.2,h.1⟩)) (λh=>.inl (by rw [FU] at h ⊢;exact ⟨h.2,h.1⟩))
structure Lv (n T:Nat) (ts:List Ti) (R:Nat->Nat->List Int):Prop where
 wd:∀ i,i<=T->Wd n (R i)
 ed:∀ i,i<=T->∀ u v:Int,Ed n (R i) u v↔∃ t∈ts,t.wd=true/\i<=t.lev/\t.Is u v
 sz:∀ i,i<=T->∀ x,x<n->((R i x).length+1)*2^i<=2*n
 lt:∀ t∈ts,t.x<t.y/\t.y<n/\t.lev<=T
 nd:(ts.map Ti.key).Nodup
def Jn (ts:List Ti) (R:Nat->Nat->List Int):Prop:=∀ t∈ts,(t.y:Int)∈R t.lev t.x
theorem qE {ts:List Ti}(h:(ts.map Ti.key).Nodup) {t u:Ti}(ht:t∈ts) (hu:u∈ts) (e:t.key=u.key):t=u:=by
 induction ts with
 | nil=>nomatch ht
 | cons s ts ih =>
  rw [bV,bf] at h
  rcases ak.mp ht with rfl|ht'<;>rcases ak.mp hu with rfl|hu'
  ·rfl
  ·exact absurd (e▸bu hu') h.1
  ·exact absurd (e▸bu ht') h.1
  ·exact ih h.2 ht' hu'
def i0 (ts:List Ti) (k:Int×Int) (f:Ti->Ti):List Ti:=ts.map λt=>if t.key=k then f t else t
section
variable {n T:Nat}{ts:List Ti}{R:Nat->Nat->List Int}{t:Ti}{f:Ti->Ti}
theorem kD (hf:∀ t,(f t).key=t.key) (k:Int×Int):(i0 ts k f).map Ti.key=ts.map Ti.key:=by
 unfold i0
 rw [cW]
 exact lX λu _=>by
  show Ti.key (if _ then _ else _)=_
  split
  ·exact hf u
  ·rfl
theorem mB (hnd:(ts.map Ti.key).Nodup) (ht:t∈ts) (u:Ti):u∈i0 ts t.key f↔u=f t\/(u∈ts/\u.key≠t.key):=by
 unfold i0
 rw [br]
 constructor
 ·rintro ⟨v,hv,e⟩
  by_cases c:v.key=t.key
  ·rw [if_pos c] at e
   rw [qE hnd hv ht c] at e
   exact .inl e.symm
  ·rw [if_neg c] at e
   subst e
   exact .inr ⟨hv,c⟩
 ·rintro (e|⟨h,c⟩)
  ·exact ⟨t,ht,by rw [if_pos rfl,e]⟩
  ·exact ⟨u,h,if_neg c⟩
theorem Lv.mono (L:Lv n T ts R) {i j x:Nat}(hij:i<=j) (hj:j<=T) (hx:x<n):∀ c∈R j x,c∈R i x :=
 (L.wd j hj).sub (L.wd i (bg hij hj)) (λu v h=>by
  obtain ⟨t,h1,h2,h3,h4⟩:=(L.ed j hj u v).mp h
  exact (L.ed i (bg hij hj) u v).mpr ⟨t,h1,h2,bg hij h3,h4⟩) hx
theorem Lv.apart (L:Lv n T ts R) (ht:t∈ts) (hw:t.wd=true) {i:Nat}(hi:t.lev<i) (hT:i<=T):(t.y:Int)∉R i t.x:=by
 obtain ⟨h1,h2,h3⟩:=L.lt t ht
 have W:=L.wd t.lev h3
 have e:Ed n (R t.lev) t.x t.y:=(L.ed _ h3 _ _).mpr ⟨t,ht,hw,aw _,.inl rfl⟩
 have c:=W.ct_in (a:=t.x) (b:=t.y) (by omega) h2 (by omega) e
 intro hin
 refine c.1 ((L.wd i hT).sub (W.ct (a:=t.x) (b:=t.y) (by omega) h2 (by omega) e) (λu v h=>?_) (by omega) _ hin)
 obtain ⟨s,s1,s2,s3,s4⟩:=(L.ed i hT u v).mp h
 have ne:¬ t.Is u v:=λq=>by
  have:s.key=t.key:=by
   obtain ⟨l1,l2,l3⟩:=L.lt s s1
   rcases q with q|q<;>obtain ⟨rfl,rfl⟩:=cE q
   ·exact Ti.is_key l1 h1 s4
   ·exact Ti.is_key l1 h1 (Ti.is_swap s4)
  rw [qE L.nd s1 ht this] at s3
  omega
 exact (W.ct_ed (a:=t.x) (b:=t.y) (by omega) h2 (by omega) e u v).mpr ⟨(L.ed _ h3 u v).mpr ⟨s,s1,s2,by omega,s4⟩,λq=>ne (.inl q),λq=>ne (.inr q)⟩
def SV (R:Nat->Nat->List Int) (j x y:Nat):Nat->Nat->List Int:=λi=>if i=j then lk (R j) x y else R i
def HQ (R:Nat->Nat->List Int) (l x y:Nat):Nat->Nat->List Int:=λi=>if i<=l then lk (R i) x y else R i
def TN (R:Nat->Nat->List Int) (l x y:Nat):Nat->Nat->List Int:=λi=>if i<=l then ct (R i) x y else R i
theorem Lv.is_key (L:Lv n T ts R) {s:Ti}(hs:s∈ts) (ht:t∈ts) {u v:Int}(h1:s.Is u v) (h2:t.Is u v):s=t:=by
 refine qE L.nd hs ht ?_
 rcases h2 with q|q<;>obtain ⟨rfl,rfl⟩:=cE q
 ·exact Ti.is_key (L.lt s hs).1 (L.lt t ht).1 h1
 ·exact Ti.is_key (L.lt s hs).1 (L.lt t ht).1 (Ti.is_swap h1)
structure Dn (n T:Nat) (ts:List Ti) (R:Nat->Nat->List Int) (a b k:Nat):Prop where
 lv:Lv n T ts R
 ha:a<n
 hb:b<n
 hk:k<=T+1
 ap:(b:Int)∉R 0 a
 s2:∀ i,i<k->((R i a).length+(R i b).length+2)*2^i<=2*n
 jn:∀ t∈ts,(t.y:Int)∈R t.lev t.x\/(t.lev<k/\((t.x:Int)∈R t.lev a/\(t.y:Int)∈R t.lev b\/(t.x:Int)∈R t.lev b/\(t.y:Int)∈R t.lev a))
variable {a b k l:Nat}
theorem Dn.swap (D:Dn n T ts R a b k):Dn n T ts R b a k :=
 ⟨D.lv,D.hb,D.ha,D.hk,λh=>D.ap ((D.lv.wd 0 (a9 _)).sy D.hb D.ha h),λi hi=>by have:=D.s2 i hi;rwa [LX (R i b).length],λt ht=>(D.jn t ht).imp_right λh=>⟨h.1,h.2.symm⟩⟩
theorem Dn.done (D:Dn n T ts R a b 0):Jn ts R:=λt ht=>(D.jn t ht).resolve_right λh=>by omega
theorem Dn.apart (D:Dn n T ts R a b k) {i:Nat}(hi:i<=T):(b:Int)∉R i a:=λh=>D.ap (D.lv.mono (a9 _) hi D.ha _ h)
theorem Lv.drop (L:Lv n T ts R) (J:Jn ts R) (ht:t∈ts) (hw:t.wd=true):Dn n T (ts.filter λu=>decide (u.key≠t.key)) (TN R t.lev t.x t.y) t.x t.y (t.lev+1):=by
 obtain ⟨h1,h2,h3⟩:=L.lt t ht
 have hx:t.x<n:=by omega
 have hne:t.x≠t.y:=by omega
 have e:∀ i,i<=t.lev->Ed n (R i) t.x t.y:=λi hi=>(L.ed i (by omega) _ _).mpr ⟨t,ht,hw,hi,.inl rfl⟩
 have lo:∀ i,i<=t.lev->TN R t.lev t.x t.y i=ct (R i) t.x t.y:=λi hi=>if_pos hi
 have hi':∀ i,¬ i<=t.lev->TN R t.lev t.x t.y i=R i:=λi hi=>if_neg hi
 have mm:∀ u,u∈ts.filter (λu=>decide (u.key≠t.key))↔u∈ts/\u≠t:=λu=>by
  rw [fb,decide_eq_true_iff]
  exact and_congr_right λhu=>not_congr ⟨λq=>qE L.nd hu ht q,λq=>q▸rfl⟩
 have C:=λi (hi:i<=t.lev)=>(L.wd i (by omega)).ct_in hx h2 hne (e i hi)
 refine ⟨⟨λi hi=>?_,λi hi u v=>?_,λi hi x hx'=>?_,λu hu=>L.lt u ((mm u).mp hu).1,?_⟩,hx,h2,by omega,?_,λi hi=>?_,λu hu=>?_⟩
 ·by_cases c:i<=t.lev
  ·rw [lo i c];exact (L.wd i hi).ct hx h2 hne (e i c)
  ·rw [hi' i c];exact L.wd i hi
 ·by_cases c:i<=t.lev
  ·rw [lo i c,(L.wd i hi).ct_ed hx h2 hne (e i c),L.ed i hi]
   constructor
   ·rintro ⟨⟨s,s1,s2,s3,s4⟩,n1,n2⟩
    exact ⟨s,(mm s).mpr ⟨s1,λq=>(q▸s4).elim n1 n2⟩,s2,s3,s4⟩
   ·rintro ⟨s,s1,s2,s3,s4⟩
    have s5:=(mm s).mp s1
    exact ⟨⟨s,s5.1,s2,s3,s4⟩,λq=>s5.2 (L.is_key s5.1 ht s4 (.inl q)),λq=>s5.2 (L.is_key s5.1 ht s4 (.inr q))⟩
  ·rw [hi' i c,L.ed i hi]
   constructor
   ·rintro ⟨s,s1,s2,s3,s4⟩
    exact ⟨s,(mm s).mpr ⟨s1,λq=>c (q▸s3)⟩,s2,s3,s4⟩
   ·rintro ⟨s,s1,s2⟩
    exact ⟨s,((mm s).mp s1).1,s2⟩
 ·refine bg (qf _ (pL ?_)) (L.sz i hi x hx')
  by_cases c:i<=t.lev
  ·rw [lo i c]
   have W':=(L.wd i hi).ct hx h2 hne (e i c)
   exact Kl (W'.r x hx') ((L.wd i hi).r x hx') (W'.sub (L.wd i hi) (λu v q=>(((L.wd i hi).ct_ed hx h2 hne (e i c) u v).mp q).1) hx')
  ·rw [hi' i c];exact aw _
 ·exact (vF _ lY).nodup L.nd
 ·rw [lo 0 (a9 _)];exact (C 0 (a9 _)).1
 ·rw [lo i (by omega)]
  have:=(C i (by omega)).2.2
  have:=L.sz i (by omega) t.x hx
  have e:(ct (R i) t.x t.y t.x).length+(ct (R i) t.x t.y t.y).length+2=(R i t.x).length+1:=by omega
  rw [e];exact this
 ·obtain ⟨q1,q2⟩:=(mm u).mp hu
  have j:=J u q1
  obtain ⟨u1,u2,u3⟩:=L.lt u q1
  by_cases c:u.lev<=t.lev
  ·rw [lo _ c]
   have W:=L.wd _ u3
   have W':=W.ct hx h2 hne (e _ c)
   by_cases d:(u.x:Int)∈R u.lev t.x
   ·have d':(u.y:Int)∈R u.lev t.x:=by rw [W.eq hx (by omega) d];exact j
    rcases ((C _ c).2.1 _).mp d with p|p<;>rcases ((C _ c).2.1 _).mp d' with p'|p'
    ·exact .inl (by rw [← W'.eq hx (by omega) p];exact p')
    ·exact .inr ⟨by omega,.inl ⟨p,p'⟩⟩
    ·exact .inr ⟨by omega,.inr ⟨p,p'⟩⟩
    ·exact .inl (by rw [← W'.eq h2 (by omega) p];exact p')
   ·rw [W.ct_out hx h2 hne (e _ c) d];exact .inl j
  ·rw [hi' _ c];exact .inl j
theorem Dn.few (D:Dn n T ts R a b (l+1)) (hT:∀ j,2^(j+1)<=n->j<=T) (hs:((R l a).length+1)*2^(l+1)<=2*n) {x y:Nat}(hx:(x:Int)∈R l a) (hy:(y:Int)∈R l a) (hxy:x≠y):l+1<=T:=by
 have hl:l<=T:=by have:=D.hk;omega
 obtain ⟨d,d1,d2,d3⟩:=((D.lv.wd l hl).r a D.ha).cnt
 have:2<=d.length:=by
  have hx':=(d2 _).mpr hx
  have hy':=(d2 _).mpr hy
  match d,d1,hx',hy' with
  | [c],_,hx',hy' =>
   rw [aC] at hx' hy'
   omega
  | c::e::r,_,_,_=>simp
 refine hT _ ?_
 have h4:4*2^(l+1)<=((R l a).length+1)*2^(l+1):=qf _ (by omega)
 have:=LY 2 (l+1)
 omega
theorem Dn.liftW (D:Dn n T ts R a b (l+1)) (hT:∀ j,2^(j+1)<=n->j<=T) (hs:((R l a).length+1)*2^(l+1)<=2*n) (ht:t∈ts) (hw:t.wd=true) (hl:t.lev=l) (hx:(t.x:Int)∈R l a) (hy:(t.y:Int)∈R l a) :
  l+1<=T/\(t.y:Int)∉R (l+1) t.x/\Dn n T (i0 ts t.key Ti.up) (SV R (l+1) t.x t.y) a b (l+1):=by
 have L:=D.lv
 obtain ⟨h1,h2,h3⟩:=L.lt t ht
 have hl1:l+1<=T:=D.few hT hs hx hy (by omega)
 have hap:=L.apart ht hw (i:=l+1) (by omega) hl1
 have hxn:t.x<n:=by omega
 have W:=L.wd _ hl1
 have hi':∀ i,i≠l+1->SV R (l+1) t.x t.y i=R i:=λi hi=>if_neg hi
 have at':SV R (l+1) t.x t.y (l+1)=lk (R (l+1)) t.x t.y:=if_pos rfl
 have mm:=mB (f:=Ti.up) L.nd ht
 have kk:∀ u,u∈ts->u≠t->u.key≠t.key:=λu hu hne q=>hne (qE L.nd hu ht q)
 have lo:=L.wd l (by omega)
 refine ⟨hl1,hap,⟨λi hi=>?_,λi hi u v=>?_,λi hi x hx'=>?_,λu hu=>?_,?_⟩,D.ha,D.hb,D.hk,?_,λi hi=>?_,λu hu=>?_⟩
 ·by_cases c:i=l+1
  ·subst c;rw [at'];exact W.lk hxn h2 hap
  ·rw [hi' i c];exact L.wd i hi
 ·have:(∃ s∈i0 ts t.key Ti.up,s.wd=true/\i<=s.lev/\s.Is u v)↔(i<=l+1/\t.Is u v)\/∃ s∈ts,s≠t/\s.wd=true/\i<=s.lev/\s.Is u v:=by
   constructor
   ·rintro ⟨s,s1,s2⟩
    rcases (mm s).mp s1 with rfl|⟨q1,q2⟩
    ·exact .inl ⟨by have:i<=t.lev+1:=s2.2.1;omega,s2.2.2⟩
    ·exact .inr ⟨s,q1,λq=>q2 (q▸rfl),s2⟩
   ·rintro (⟨q1,q2⟩|⟨s,s1,s2,s3⟩)
    ·exact ⟨t.up,(mm _).mpr (.inl rfl),hw,by show i<=t.lev+1;omega,q2⟩
    ·exact ⟨s,(mm _).mpr (.inr ⟨s1,kk s s1 s2⟩),s3⟩
  rw [this]
  have old:Ed n (R i) u v↔(i<=l/\t.Is u v)\/∃ s∈ts,s≠t/\s.wd=true/\i<=s.lev/\s.Is u v:=by
   rw [L.ed i hi]
   constructor
   ·rintro ⟨s,s1,s2,s3,s4⟩
    by_cases q:s=t
    ·subst q;exact .inl ⟨by omega,s4⟩
    ·exact .inr ⟨s,s1,q,s2,s3,s4⟩
   ·rintro (⟨q1,q2⟩|⟨s,s1,s2,s3⟩)
    ·exact ⟨t,ht,hw,by omega,q2⟩
    ·exact ⟨s,s1,s3⟩
  by_cases c:i=l+1
  ·subst c
   rw [at',W.lk_ed hxn h2 hap,old]
   constructor
   ·rintro ((⟨q,_⟩|q)|q)
    ·omega
    ·exact .inr q
    ·exact .inl ⟨aw _,q⟩
   ·rintro (⟨_,q⟩|q)
    ·exact .inr q
    ·exact .inl (.inr q)
  ·rw [hi' i c,old]
   exact or_congr_left (and_congr_left λ_=>by omega)
 ·by_cases c:i=l+1
  ·subst c;rw [at']
   by_cases d:(x:Int)∈R (l+1) t.x\/(x:Int)∈R (l+1) t.y
   ·refine bg (qf _ (pL ?_)) hs
    refine Kl ((W.lk hxn h2 hap).r x hx') (lo.r a D.ha) λc hc=>?_
    rcases ((W.lk_in hxn h2 hap d).1 c).mp hc with q|q
    ·rw [lo.eq D.ha hxn hx];exact L.mono (eV l) hl1 hxn _ q
    ·rw [lo.eq D.ha h2 hy];exact L.mono (eV l) hl1 h2 _ q
   ·rw [W.lk_out hxn h2 hap (λq=>d (.inl q)) (λq=>d (.inr q))];exact L.sz _ hi x hx'
  ·rw [hi' i c];exact L.sz i hi x hx'
 ·rcases (mm u).mp hu with rfl|⟨q,_⟩
  ·exact ⟨h1,h2,by show t.lev+1<=T;omega⟩
  ·exact L.lt u q
 ·exact (kD (f:=Ti.up) (λ_=>rfl) t.key).symm▸L.nd
 ·rw [hi' 0 (by omega)];exact D.ap
 ·rw [hi' i (by omega)];exact D.s2 i hi
 ·rcases (mm u).mp hu with rfl|⟨q,_⟩
  ·have:t.up.lev=l+1:=by show t.lev+1=l+1;omega
   rw [this,at']
   exact .inl (((W.lk_in (x:=t.x) hxn h2 hap (.inl (W.me _ hxn))).1 _).mpr (.inr (W.me _ h2)))
  ·have j:=D.jn u q
   obtain ⟨u1,u2,u3⟩:=L.lt u q
   by_cases c:u.lev=l+1
   ·rw [c] at j ⊢
    rw [at']
    exact .inl (W.lk_le hxn h2 hap (by omega) _ (j.resolve_right λq=>by omega))
   ·rw [hi' _ c];exact j
theorem Dn.full (D:Dn n T ts R a b (l+1)) (hno:∀ t∈ts,t.wd=true->t.lev=l->(t.x:Int)∈R l a->(t.y:Int)∈R l a->False) (hl:l+1<=T) {x y:Nat}(hx:x<n) (hy:y<n) (h1:(x:Int)∈R l a) (h2:(y:Int)∈R l a):(y:Int)∈R (l+1) x:=by
 have L:=D.lv
 have W:=L.wd l (by omega)
 have V:=L.wd (l+1) hl
 have e:=W.eq D.ha hx h1
 refine Rv (M:=λc=>c∈R (l+1) x) (l:=R l a) (λu v hm=>?_) ⟨x,h1,V.me x hx⟩ y h2
 obtain ⟨t,t1,t2,t3,t4⟩:=(L.ed l (by omega) u v).mp ⟨a,D.ha,hm⟩
 have m:=gF hm
 have ne:t.lev≠l:=λq=>by
  rcases t4 with p|p<;>obtain ⟨rfl,rfl⟩:=cE p
  ·exact hno t t1 t2 q m.1 m.2
  ·exact hno t t1 t2 q m.2 m.1
 have E:Ed n (R (l+1)) u v:=(L.ed _ hl u v).mpr ⟨t,t1,t2,by omega,t4⟩
 exact ⟨λhu=>(gF (Ed.at V E hx hu)).2,λhv=>(gF (Ed.at V (Ed.symm V E) hx hv)).2⟩
theorem Dn.liftN (D:Dn n T ts R a b (l+1)) (ht:t∈ts) (hw:t.wd=false) (hl:t.lev=l) (hl1:l+1<=T) (hj:(t.y:Int)∈R (l+1) t.x):Dn n T (i0 ts t.key Ti.up) R a b (l+1):=by
 have L:=D.lv
 obtain ⟨h1,h2,h3⟩:=L.lt t ht
 have mm:=mB (f:=Ti.up) L.nd ht
 have kk:∀ u,u∈ts->u≠t->u.key≠t.key:=λu hu hne q=>hne (qE L.nd hu ht q)
 refine ⟨⟨L.wd,λi hi u v=>?_,L.sz,λu hu=>?_,?_⟩,D.ha,D.hb,D.hk,D.ap,D.s2,λu hu=>?_⟩
 ·rw [L.ed i hi]
  constructor
  ·rintro ⟨s,s1,s2,s3⟩
   exact ⟨s,(mm s).mpr (.inr ⟨s1,kk s s1 λq=>by rw [q,hw] at s2;exact absurd s2 (by decide)⟩),s2,s3⟩
  ·rintro ⟨s,s1,s2,s3⟩
   rcases (mm s).mp s1 with rfl|⟨q,_⟩
   ·exact absurd (hw.symm.trans s2) (by decide)
   ·exact ⟨s,q,s2,s3⟩
 ·rcases (mm u).mp hu with rfl|⟨q,_⟩
  ·exact ⟨h1,h2,by show t.lev+1<=T;omega⟩
  ·exact L.lt u q
 ·exact (kD (f:=Ti.up) (λ_=>rfl) t.key).symm▸L.nd
 ·rcases (mm u).mp hu with rfl|⟨q,_⟩
  ·have:t.up.lev=l+1:=by show t.lev+1=l+1;omega
   rw [this];exact .inl hj
  ·exact D.jn u q
theorem Dn.next (D:Dn n T ts R a b (l+1)) (hno:∀ t∈ts,t.wd=false->t.lev=l->¬ ((t.x:Int)∈R l a/\(t.y:Int)∉R l a)/\¬ ((t.x:Int)∉R l a/\(t.y:Int)∈R l a)):Dn n T ts R a b l:=by
 have L:=D.lv
 have hl:l<=T:=by have:=D.hk;omega
 refine ⟨L,D.ha,D.hb,by omega,D.ap,λi hi=>D.s2 i (by omega),λt ht=>?_⟩
 obtain ⟨h1,h2,h3⟩:=L.lt t ht
 rcases D.jn t ht with j|⟨j1,j2⟩
 ·exact .inl j
 ·by_cases c:t.lev=l
  ·cases hw:t.wd with
   | true =>
    have E:Ed n (R t.lev) t.x t.y:=(L.ed _ h3 _ _).mpr ⟨t,ht,hw,aw _,.inl rfl⟩
    exact .inl (gF (Ed.at (L.wd _ h3) E (by omega) ((L.wd _ h3).me _ (by omega)))).2
   | false =>
    have q:=hno t ht hw c
    have W:=L.wd l hl
    have ap:∀ z:Int,z∈R l a->z∉R l b:=λz q1 q2=>D.apart hl (by rw [W.same D.ha D.hb q1 q2];exact W.me b D.hb)
    rw [c] at j2
    rcases j2 with ⟨p1,p2⟩|⟨p1,p2⟩
    ·exact absurd ⟨p1,λp=>ap _ p p2⟩ q.1
    ·exact absurd ⟨λp=>ap _ p p1,p2⟩ q.2
  ·exact .inr ⟨by omega,j2⟩
theorem Lv.adopt (L:Lv n T ts R) (ht:t∈ts) (hw:t.wd=false) (hap:∀ i,i<=t.lev->(t.y:Int)∉R i t.x) (hs:∀ i,i<=t.lev->((R i t.x).length+(R i t.y).length+2)*2^i<=2*n):Lv n T (i0 ts t.key Ti.inw) (HQ R t.lev t.x t.y):=by
 obtain ⟨h1,h2,h3⟩:=L.lt t ht
 have hxn:t.x<n:=by omega
 have mm:=mB (f:=Ti.inw) L.nd ht
 have kk:∀ u,u∈ts->u≠t->u.key≠t.key:=λu hu hne q=>hne (qE L.nd hu ht q)
 have lo:∀ i,i<=t.lev->HQ R t.lev t.x t.y i=lk (R i) t.x t.y:=λi hi=>if_pos hi
 have hi':∀ i,¬ i<=t.lev->HQ R t.lev t.x t.y i=R i:=λi hi=>if_neg hi
 refine ⟨λi hi=>?_,λi hi u v=>?_,λi hi x hx'=>?_,λu hu=>?_,?_⟩
 ·by_cases c:i<=t.lev
  ·rw [lo i c];exact (L.wd i hi).lk hxn h2 (hap i c)
  ·rw [hi' i c];exact L.wd i hi
 ·have:(∃ s∈i0 ts t.key Ti.inw,s.wd=true/\i<=s.lev/\s.Is u v)↔(∃ s∈ts,s.wd=true/\i<=s.lev/\s.Is u v)\/(i<=t.lev/\t.Is u v):=by
   constructor
   ·rintro ⟨s,s1,s2⟩
    rcases (mm s).mp s1 with rfl|⟨q1,q2⟩
    ·exact .inr ⟨s2.2.1,s2.2.2⟩
    ·exact .inl ⟨s,q1,s2⟩
   ·rintro (⟨s,s1,s2,s3⟩|⟨q1,q2⟩)
    ·exact ⟨s,(mm _).mpr (.inr ⟨s1,kk s s1 λq=>by rw [q,hw] at s2;exact absurd s2 (by decide)⟩),s2,s3⟩
    ·exact ⟨t.inw,(mm _).mpr (.inl rfl),rfl,q1,q2⟩
  rw [this,← L.ed i hi]
  by_cases c:i<=t.lev
  ·rw [lo i c,(L.wd i hi).lk_ed hxn h2 (hap i c)]
   exact or_congr_right ⟨λq=>⟨c,q⟩,λq=>q.2⟩
  ·rw [hi' i c]
   exact ⟨.inl,λq=>q.elim id λq=>absurd q.1 c⟩
 ·by_cases c:i<=t.lev
  ·rw [lo i c]
   by_cases d:(x:Int)∈R i t.x\/(x:Int)∈R i t.y
   ·rw [((L.wd i hi).lk_in hxn h2 (hap i c) d).2];exact hs i c
   ·rw [(L.wd i hi).lk_out hxn h2 (hap i c) (λq=>d (.inl q)) (λq=>d (.inr q))];exact L.sz _ hi x hx'
  ·rw [hi' i c];exact L.sz i hi x hx'
 ·rcases (mm u).mp hu with rfl|⟨q,_⟩
  ·exact ⟨h1,h2,h3⟩
  ·exact L.lt u q
 ·exact (kD (f:=Ti.inw) (λ_=>rfl) t.key).symm▸L.nd
theorem Lv.adopt_le (L:Lv n T ts R) (ht:t∈ts) (hap:∀ i,i<=t.lev->(t.y:Int)∉R i t.x) {i x:Nat}(hi:i<=T) (hx:x<n):∀ c∈R i x,c∈HQ R t.lev t.x t.y i x:=by
 obtain ⟨h1,h2,h3⟩:=L.lt t ht
 by_cases c:i<=t.lev
 ·have e:HQ R t.lev t.x t.y i=lk (R i) t.x t.y:=if_pos c
  rw [e];exact (L.wd i hi).lk_le (by omega) h2 (hap i c) hx
 ·have e:HQ R t.lev t.x t.y i=R i:=if_neg c
  rw [e];exact λ_ h=>h
theorem Dn.adopt (D:Dn n T ts R a b (l+1)) (ht:t∈ts) (hw:t.wd=false) (hl:t.lev=l) (h:(t.x:Int)∈R l a/\(t.y:Int)∉R l a\/(t.x:Int)∉R l a/\(t.y:Int)∈R l a) :
  (∀ i,i<=t.lev->(t.y:Int)∉R i t.x)/\Lv n T (i0 ts t.key Ti.inw) (HQ R t.lev t.x t.y)/\Jn (i0 ts t.key Ti.inw) (HQ R t.lev t.x t.y):=by
 have L:=D.lv
 obtain ⟨h1,h2,h3⟩:=L.lt t ht
 have hxn:t.x<n:=by omega
 have W:=L.wd t.lev h3
 have j:(t.x:Int)∈R t.lev a/\(t.y:Int)∈R t.lev b\/(t.x:Int)∈R t.lev b/\(t.y:Int)∈R t.lev a:=by
  rcases D.jn t ht with j|j
  ·rw [← hl] at h
   rcases h with ⟨p1,p2⟩|⟨p1,p2⟩
   ·exact absurd (by rw [W.eq D.ha hxn p1];exact j) p2
   ·exact absurd (by rw [W.eq D.ha h2 p2];exact W.sy hxn h2 j) p1
  ·exact j.2
 -- at each lower level the one end is on the one side,the other on the other
 have j':∀ i,i<=t.lev->(R i t.x=R i a/\R i t.y=R i b)\/(R i t.x=R i b/\R i t.y=R i a):=λi hi=>by
  have V:=L.wd i (by omega)
  rcases j with ⟨p1,p2⟩|⟨p1,p2⟩
  ·exact .inl ⟨(V.eq D.ha hxn (L.mono hi h3 D.ha _ p1)).symm,(V.eq D.hb h2 (L.mono hi h3 D.hb _ p2)).symm⟩
  ·exact .inr ⟨(V.eq D.hb hxn (L.mono hi h3 D.hb _ p1)).symm,(V.eq D.ha h2 (L.mono hi h3 D.ha _ p2)).symm⟩
 have hap:∀ i,i<=t.lev->(t.y:Int)∉R i t.x:=λi hi q=>by
  have V:=L.wd i (by omega)
  have e:=V.eq hxn h2 q
  have n:=D.apart (i:=i) (by omega)
  rcases j' i hi with ⟨p1,p2⟩|⟨p1,p2⟩
  ·exact n (by rw [← p1,e,p2];exact V.me b D.hb)
  ·exact n (by rw [← p2,← e,p1];exact V.me b D.hb)
 have L':=L.adopt ht hw hap λi hi=>by
  have:=D.s2 i (by omega)
  rcases j' i hi with ⟨p1,p2⟩|⟨p1,p2⟩
  ·rw [p1,p2];exact this
  ·rw [p1,p2,LX (R i b).length];exact this
 refine ⟨hap,L',λu hu=>?_⟩
 have lo:∀ i,i<=t.lev->∀ z:Nat,(z:Int)∈R i t.x\/(z:Int)∈R i t.y->∀ c,c∈HQ R t.lev t.x t.y i z↔c∈R i t.x\/c∈R i t.y:=λi hi z hz=>by
  have:HQ R t.lev t.x t.y i=lk (R i) t.x t.y:=if_pos hi
  rw [this]
  exact ((L.wd i (by omega)).lk_in hxn h2 (hap i hi) hz).1
 rcases (mB (f:=Ti.inw) L.nd ht u).mp hu with rfl|⟨q,_⟩
 ·exact (lo t.lev (aw _) t.x (.inl (W.me _ hxn)) _).mpr (.inr (W.me _ h2))
 ·obtain ⟨u1,u2,u3⟩:=L.lt u q
  rcases D.jn u q with j|⟨k1,k2⟩
  ·exact L.adopt_le ht hap u3 (by omega) _ j
  ·have V:=L.wd _ u3
   have c:u.lev<=t.lev:=by omega
   rcases j' _ c with ⟨p1,p2⟩|⟨p1,p2⟩<;>rcases k2 with ⟨k3,k4⟩|⟨k3,k4⟩<;>rw [← p1] at *<;>rw [← p2] at *
   ·exact (lo _ c _ (.inl k3) _).mpr (.inr k4)
   ·exact (lo _ c _ (.inr k3) _).mpr (.inl k4)
   ·exact (lo _ c _ (.inr k3) _).mpr (.inl k4)
   ·exact (lo _ c _ (.inl k3) _).mpr (.inr k4)
theorem Lv.dropN (L:Lv n T ts R) (J:Jn ts R) (ht:t∈ts) (hw:t.wd=false):Lv n T (ts.filter λu=>decide (u.key≠t.key)) R/\Jn (ts.filter λu=>decide (u.key≠t.key)) R:=by
 have mm:∀ u,u∈ts.filter (λu=>decide (u.key≠t.key))↔u∈ts/\u≠t:=λu=>by
  rw [fb,decide_eq_true_iff]
  exact and_congr_right λhu=>not_congr ⟨λq=>qE L.nd hu ht q,λq=>q▸rfl⟩
 refine ⟨⟨L.wd,λi hi u v=>?_,L.sz,λu hu=>L.lt u ((mm u).mp hu).1,(vF _ lY).nodup L.nd⟩,λu hu=>J u ((mm u).mp hu).1⟩
 rw [L.ed i hi]
 constructor
 ·rintro ⟨s,s1,s2,s3⟩
  exact ⟨s,(mm s).mpr ⟨s1,λq=>by rw [q,hw] at s2;exact absurd s2 (by decide)⟩,s2,s3⟩
 ·rintro ⟨s,s1,s2⟩
  exact ⟨s,((mm s).mp s1).1,s2⟩
theorem Lv.put (L:Lv n T ts R) {x y:Nat}(hxy:x<y) (hy:y<n) (hk:((x:Int),(y:Int))∉ts.map Ti.key):Lv n T (ts++[⟨x,y,0,false⟩]) R:=by
 refine ⟨L.wd,λi hi u v=>?_,L.sz,λu hu=>?_,?_⟩
 ·rw [L.ed i hi]
  constructor
  ·rintro ⟨s,s1,s2⟩
   exact ⟨s,bT _ s1,s2⟩
  ·rintro ⟨s,s1,s2,s3⟩
   rcases aP.mp s1 with q|q
   ·exact ⟨s,q,s2,s3⟩
   ·rw [aC.mp q] at s2;exact absurd s2 bF
 ·rcases aP.mp hu with q|q
  ·exact L.lt u q
  ·rw [aC.mp q];exact ⟨hxy,hy,a9 _⟩
 ·rw [aV,kT]
  exact ⟨L.nd,by simp,λp hp q hq e=>hk (by rw [yE,aC] at hq;have e2:p=((x:Int),(y:Int)):=e.trans hq;rw [← e2];exact hp)⟩
theorem Lv.start (n T:Nat) (hn:2^(T+1)<=n\/T=0):Lv n T [] (λ_ i=>[(i:Int)]) :=
 ⟨λi _=>Wd.start n,λi _ u v=>⟨λ⟨j,_,hm⟩=>by simp [al] at hm,λ⟨t,h,_⟩=>nomatch h⟩,λi hi x hx=>by
  show 2*2^i<=2*n
  refine Nat.mul_le_mul_left 2 ?_
  rcases hn with h|h
  ·exact bg (Oe (by decide) (by omega)) h
  ·have:i=0:=by omega
   subst this
   simp;omega,(λt h=>nomatch h),vC⟩
theorem Eo {α:Type} [DecidableEq α]:∀ {l m:List α},l.Nodup->(∀ x∈l,x∈m)->l.length<=m.length
 | [],m,_,_=>a9 _
 | a::l,m,hn,h=>by
  obtain ⟨h1,h2⟩:=bf.mp hn
  have hm:=h a aq
  have:=Eo (l:=l) (m:=m.erase a) h2 λx hx=>(List.mem_erase_of_ne (λe:x=a=>h1 (e▸hx))).mpr (h x (ag _ hx))
  rw [HY hm] at this
  have:=Kx hm
  simp only [cg]
  omega
structure Lo1 (n T lv s o:Nat) (ts:List Ti) (R:Nat->Nat->List Int) (ps:List (Int×Int)) (i:Nat) (ts1:List Ti) (R1:Nat->Nat->List Int):Prop where
 dn:Dn n T ts1 R1 s o (lv+1)
 rl:R1 lv=R lv
 ks:ts1.map Ti.key=ts.map Ti.key
 pend:∀ t∈ts1,t.wd=true->t.lev=lv->(t.x:Int)∈R lv s->(t.y:Int)∈R lv s->t.key∈ps.drop i
 rem:∀ p∈ps.drop i,∃ t∈ts1,t.key=p/\t.wd=true/\t.lev=lv/\(t.x:Int)∈R lv s/\(t.y:Int)∈R lv s
 all:∀ p∈ps,∃ t∈ts1,t.key=p/\t.wd=true
variable {s o lv i:Nat}{ps:List (Int×Int)}{p:Int×Int}{ts1:List Ti}{R1:Nat->Nat->List Int}
theorem Lo1.step (L:Lo1 n T lv s o ts R ps i ts1 R1) (hT:∀ j,2^(j+1)<=n->j<=T) (hs:((R lv s).length+1)*2^(lv+1)<=2*n) (hn:ps.Nodup) (hi:ps[i]?=some p) :
  ∃ t∈ts1,t.key=p/\t.wd=true/\t.lev+1<=T/\(t.y:Int)∉R1 (t.lev+1) t.x/\Lo1 n T lv s o ts R ps (i+1) (i0 ts1 t.key Ti.up) (SV R1 (t.lev+1) t.x t.y):=by
 obtain ⟨hlt,he⟩:=aB.mp hi
 have ed:ps.drop i=p::ps.drop (i+1):=by rw [lS hlt,he]
 have hpn:p∉ps.drop (i+1):=by
  have:=(PK i ps).nodup hn
  rw [ed] at this
  exact (bf.mp this).1
 obtain ⟨t,t1,t2,t3,t4,t5,t6⟩:=L.rem p (by rw [ed];exact aq)
 have hnd:=L.dn.lv.nd
 have q:=L.dn.liftW hT (by rw [L.rl];exact hs) t1 t3 t4 (by rw [L.rl];exact t5) (by rw [L.rl];exact t6)
 have mm:=mB (f:=Ti.up) hnd t1
 rw [← t4] at q
 refine ⟨t,t1,t2,t3,q.1,q.2.1,by rw [t4] at q ⊢;exact q.2.2,?_,?_,λu hu h1 h2 h3 h4=>?_,λp' hp'=>?_,λp' hp'=>?_⟩
 ·show (if _ then _ else _)=_
  rw [if_neg (by omega)];exact L.rl
 ·rw [kD (f:=Ti.up) (λ_=>rfl)];exact L.ks
 ·rcases (mm u).mp hu with rfl|⟨h5,h6⟩
  ·exact absurd h2 (by show ¬ t.lev+1=lv;omega)
  ·have:=L.pend u h5 h1 h2 h3 h4
   rw [ed] at this
   exact (ak.mp this).resolve_left λe=>h6 (e.trans t2.symm)
 ·obtain ⟨u,u1,u2,u3⟩:=L.rem p' (by rw [ed];exact ag _ hp')
  exact ⟨u,(mm u).mpr (.inr ⟨u1,λe=>hpn (by rw [← t2,← e,u2];exact hp')⟩),u2,u3⟩
 ·obtain ⟨u,u1,u2,u3⟩:=L.all p' hp'
  by_cases c:u.key=t.key
  ·exact ⟨t.up,(mm _).mpr (.inl rfl),by rw [← u2,c];rfl,t3⟩
  ·exact ⟨u,(mm u).mpr (.inr ⟨u1,c⟩),u2,u3⟩
structure Lo2 (n T lv s o:Nat) (ts:List Ti) (R:Nat->Nat->List Int) (ps:List (Int×Int)) (i:Nat) (ts1:List Ti):Prop where
 dn:Dn n T ts1 R s o (lv+1)
 ks:ts1.map Ti.key=ts.map Ti.key
 full:lv+1<=T->∀ x y,x<n->y<n->(x:Int)∈R lv s->(y:Int)∈R lv s->(y:Int)∈R (lv+1) x
 rem:∀ p∈ps.drop i,∃ t∈ts1,t.key=p/\t.wd=false/\t.lev=lv
 done:∀ t∈ts1,t.wd=false->t.lev=lv->t.key∈ps.drop i\/((t.x:Int)∉R lv s/\(t.y:Int)∉R lv s)
theorem Lo2.at (L:Lo2 n T lv s o ts R ps i ts1) (hn:ps.Nodup) (hi:ps[i]?=some p):∃ t∈ts1,t.key=p/\t.wd=false/\t.lev=lv/\ps.drop i=p::ps.drop (i+1)/\p∉ps.drop (i+1):=by
 obtain ⟨hlt,he⟩:=aB.mp hi
 have ed:ps.drop i=p::ps.drop (i+1):=by rw [lS hlt,he]
 obtain ⟨t,t1,t2,t3,t4⟩:=L.rem p (by rw [ed];exact aq)
 refine ⟨t,t1,t2,t3,t4,ed,?_⟩
 have:=(PK i ps).nodup hn
 rw [ed] at this
 exact (bf.mp this).1
theorem Lo2.zero (L:Lo2 n T lv s o ts R ps i ts1) (hn:ps.Nodup) (hi:ps[i]?=some p) (h1:p.1∉R lv s) (h2:p.2∉R lv s):Lo2 n T lv s o ts R ps (i+1) ts1:=by
 obtain ⟨t,t1,t2,t3,t4,ed,hp⟩:=L.at hn hi
 refine ⟨L.dn,L.ks,L.full,λq hq=>L.rem q (by rw [ed];exact ag _ hq),λu u1 u2 u3=>?_⟩
 rcases L.done u u1 u2 u3 with h|h
 ·rw [ed] at h
  rcases ak.mp h with e|h
  ·have e1:(u.x:Int)=p.1:=by rw [← e];rfl
   have e2:(u.y:Int)=p.2:=by rw [← e];rfl
   exact .inr (by rw [e1,e2];exact ⟨h1,h2⟩)
  ·exact .inl h
 ·exact .inr h
theorem Lo2.two (L:Lo2 n T lv s o ts R ps i ts1) (hT:∀ j,2^(j+1)<=n->j<=T) (hs:((R lv s).length+1)*2^(lv+1)<=2*n) (hn:ps.Nodup) (hi:ps[i]?=some p) (h1:p.1∈R lv s) (h2:p.2∈R lv s):∃ t∈ts1,t.key=p/\t.wd=false/\Lo2 n T lv s o ts R ps (i+1) (i0 ts1 t.key Ti.up):=by
 obtain ⟨t,t1,t2,t3,t4,ed,hp⟩:=L.at hn hi
 subst t2
 have hl:=L.dn.lv.lt t t1
 have hT1:=L.dn.few hT hs (x:=t.x) (y:=t.y) h1 h2 (by omega)
 have mm:=mB (f:=Ti.up) L.dn.lv.nd t1
 refine ⟨t,t1,rfl,t3,L.dn.liftN t1 t3 t4 hT1 (L.full hT1 _ _ (by omega) hl.2.1 h1 h2),?_,L.full,λq hq=>?_,λu hu h3 h4=>?_⟩
 ·rw [kD (f:=Ti.up) (λ_=>rfl)];exact L.ks
 ·obtain ⟨u,u1,u2,u3⟩:=L.rem q (by rw [ed];exact ag _ hq)
  exact ⟨u,(mm u).mpr (.inr ⟨u1,λe=>hp (by rw [← e,u2];exact hq)⟩),u2,u3⟩
 ·rcases (mm u).mp hu with rfl|⟨h5,h6⟩
  ·exact absurd h4 (by show ¬ t.lev+1=lv;omega)
  ·rcases L.done u h5 h3 h4 with h|h
   ·rw [ed] at h
    exact .inl ((ak.mp h).resolve_left h6)
   ·exact .inr h
theorem Lo2.one (L:Lo2 n T lv s o ts R ps i ts1) (hn:ps.Nodup) (hi:ps[i]?=some p) (h:p.1∈R lv s/\p.2∉R lv s\/p.1∉R lv s/\p.2∈R lv s):∃ t∈ts1,t.key=p/\(∀ i,i<=t.lev->(t.y:Int)∉R i t.x)/\Lv n T (i0 ts1 t.key Ti.inw) (HQ R t.lev t.x t.y)/\Jn (i0 ts1 t.key Ti.inw) (HQ R t.lev t.x t.y):=by
 obtain ⟨t,t1,t2,t3,t4,ed,hp⟩:=L.at hn hi
 subst t2
 exact ⟨t,t1,rfl,L.dn.adopt t1 t3 t4 h⟩
theorem Lo2.fin (L:Lo2 n T lv s o ts R ps i ts1) (hi:ps.length<=i):Dn n T ts1 R s o lv:=L.dn.next λt ht h1 h2=>by
 rcases L.done t ht h1 h2 with h|⟨h3,h4⟩
 ·rw [Mf.mpr hi] at h;cases h
 ·exact ⟨λq=>h3 q.1,λq=>h4 q.2⟩
end
end Rm
namespace K39
open PySem PySem.Spec PyProof.Rows L2
def nB (i:Nat):dE:=PySem.Challenge.pw_tiewood_k39_whole_ways_and_sides.main.body.getD i (.Pass ⟨0,0,0,0⟩)
abbrev rj:dE:=nB 3
abbrev rk:dE:=nB 4
abbrev rm:dE:=nB 5
abbrev stop:dE:=nB 6
abbrev vY:dE:=nB 7
abbrev vZ:dE:=nB 9
abbrev AC:dE:=nB 10
abbrev AD:dE:=nB 11
abbrev mC:dE:=nB 21
abbrev v3:dE:=nB 22
abbrev tw:dE:=nB 23
abbrev v5:dE:=nB 24
abbrev v8:dE:=nB 25
abbrev i3:dE:=nB 27
abbrev iC:dE:=nB 28
abbrev jw:dE:=nB 29
abbrev rA:dE:=nB 32
abbrev mD:dE:=nB 33
abbrev tD:dE:=nB 36
abbrev ll:dE:=nB 37
abbrev lp:dE:=nB 42
abbrev ou:dE:=nB 43
abbrev mE:dE:=nB 44
abbrev rB:dE:=nB 45
abbrev pT:dE:=nB 46
abbrev ow:dE:=nB 47
abbrev mF:dE:=nB 48
abbrev jx:dE:=nB 49
abbrev oz:dE:=nB 50
abbrev Np:dE:=nB 51
abbrev kb:dE:=eJ (nB 30) 0
abbrev pU:dE:=eJ (nB 30) 1
abbrev pV:dE:=eJ (nB 30) 2
abbrev rC:dE:=eJ (nB 30) 3
abbrev mG:dE:=eJ (nB 30) 4
abbrev oA:dE:=eJ (nB 30) 5
abbrev pW:dE:=eJ (nB 30) 6
abbrev rD:dE:=eJ (nB 30) 7
abbrev i4:dE:=eJ (nB 34) 0
abbrev oB:dE:=eJ (nB 34) 1
abbrev lq:dE:=eJ (nB 34) 2
abbrev mH:dE:=eJ (nB 34) 3
abbrev mI:dE:=eJ (nB 34) 4
abbrev i5:dE:=eJ (nB 34) 5
abbrev mJ:dE:=eJ (nB 34) 6
abbrev gM:dE:=eJ (nB 34) 7
abbrev mK:dE:=eJ (nB 34) 8
abbrev mL:dE:=eJ (nB 34) 9
abbrev ke:dE:=eJ (nB 38) 0
abbrev lu:dE:=eJ (nB 38) 1
abbrev rE:dE:=eJ (nB 38) 2
abbrev mM:dE:=eJ (nB 38) 3
abbrev rF:dE:=eJ (nB 38) 4
abbrev pX:dE:=eJ (nB 38) 5
abbrev pY:dE:=eJ (nB 38) 6
abbrev oC:dE:=eJ (nB 40) 0
theorem IG:bL ["thing"] ["thing"] (aE rj):=⟨rfl,rfl,rfl,by decide +kernel,rfl,by decide +kernel,by decide +kernel⟩
theorem IH:bL ["thing"] ["thing"] (aE rk):=⟨rfl,rfl,rfl,by decide +kernel,rfl,by decide +kernel,by decide +kernel⟩
theorem II:bL ["n","thing"] ["n","thing"] (aE rm):=⟨rfl,rfl,rfl,by decide +kernel,rfl,by decide +kernel,by decide +kernel⟩
theorem GS:bL ["n","level","needed"] ["n"] (aE stop):=⟨rfl,rfl,rfl,by decide +kernel,rfl,by decide +kernel,by decide +kernel⟩
theorem Nq:bL ["a","b"] ["a","b"] (aE vY):=⟨rfl,rfl,rfl,by decide +kernel,rfl,by decide +kernel,by decide +kernel⟩
theorem Nr:bL ["n","ties"] ["n","ties"] (aE vZ):=⟨rfl,rfl,rfl,by decide +kernel,rfl,by decide +kernel,by decide +kernel⟩
theorem Pd:bL ["trail"] ["trail"] (aE AC):=⟨rfl,rfl,rfl,by decide +kernel,rfl,by decide +kernel,by decide +kernel⟩
theorem Km:bL ["trail","finds"] ["trail"] (aE AD):=⟨rfl,rfl,rfl,by decide +kernel,rfl,by decide +kernel,by decide +kernel⟩
theorem BP:bL ["row"] ["row"] (aE mC):=⟨rfl,rfl,rfl,by decide +kernel,rfl,by decide +kernel,by decide +kernel⟩
theorem GT:bL ["row","a","k"] ["row","a"] (aE v3):=⟨rfl,rfl,rfl,by decide +kernel,rfl,by decide +kernel,by decide +kernel⟩
theorem DE:bL ["row","other","a","b","k"] ["row","other","a","b"] (aE tw):=⟨rfl,rfl,rfl,by decide +kernel,rfl,by decide +kernel,by decide +kernel⟩
theorem oE:bL ["row","a","b","along","there","back","k","m","inner","outer"] ["row","a","b"] (aE v5):=⟨rfl,rfl,rfl,by decide +kernel,rfl,by decide +kernel,by decide +kernel⟩
theorem v9:bL ["row","a","b","ahead","way","place"] ["row","a","b"] (aE v8):=⟨rfl,rfl,rfl,by decide +kernel,rfl,by decide +kernel,by decide +kernel⟩
theorem wb:bL ["n","thing"] ["n","thing"] (aE i3):=⟨rfl,rfl,rfl,by decide +kernel,rfl,by decide +kernel,by decide +kernel⟩
theorem vc:bL ["n","a","b"] ["n","a","b"] (aE iC):=⟨rfl,rfl,rfl,by decide +kernel,rfl,by decide +kernel,by decide +kernel⟩
theorem xG:bL ["n","a","b"] ["n","a","b"] (aE jw):=⟨rfl,rfl,rfl,by decide +kernel,rfl,by decide +kernel,by decide +kernel⟩
theorem IJ:bL ["ties","weight_of"] ["ties","weight_of"] (aE rA):=⟨rfl,rfl,rfl,by decide +kernel,rfl,by decide +kernel,by decide +kernel⟩
theorem BQ:bL ["tie","side"] ["tie","side"] (aE mD):=⟨rfl,rfl,rfl,by decide +kernel,rfl,by decide +kernel,by decide +kernel⟩
theorem DF:bL ["n","standing","a","b","tie"] ["n","standing","a","b"] (aE tD):=⟨rfl,rfl,rfl,by decide +kernel,rfl,by decide +kernel,by decide +kernel⟩
theorem tE:bL ["n","standing","a","b","tie"] ["n","standing","a","b"] (aE ll):=⟨rfl,rfl,rfl,by decide +kernel,rfl,by decide +kernel,by decide +kernel⟩
theorem AE:bL ["_law_script","_law_k"] ["_law_script","_law_k"] (aE lp):=⟨rfl,rfl,rfl,by decide +kernel,rfl,by decide +kernel,by decide +kernel⟩
theorem Ep:bL ["_law_found"] ["_law_found"] (aE ou):=⟨rfl,rfl,rfl,by decide +kernel,rfl,by decide +kernel,by decide +kernel⟩
theorem BR:bL ["_law_found"] ["_law_found"] (aE mE):=⟨rfl,rfl,rfl,by decide +kernel,rfl,by decide +kernel,by decide +kernel⟩
theorem AF:bL ["_law_way_here","_law_wood","_law_a","_law_b","_law_k"] ["_law_way_here","_law_wood","_law_a","_law_b"] (aE rB):=⟨rfl,rfl,rfl,by decide +kernel,rfl,by decide +kernel,by decide +kernel⟩
theorem tF:bL ["_law_side_here","_law_ties","_law_a","_law_one","_law_other"] ["_law_side_here","_law_ties","_law_a"] (aE pT):=⟨rfl,rfl,rfl,by decide +kernel,rfl,by decide +kernel,by decide +kernel⟩
theorem iD:bL ["_law_keeper","_law_standing","_law_a","_law_b","_law_wood","_law_tie","_law_joined","_law_way_here","_law_side_here","_law_kept","_law_again"] ["_law_keeper","_law_standing","_law_a","_law_b"] (aE ow):=⟨rfl,rfl,rfl,by decide +kernel,rfl,by decide +kernel,by decide +kernel⟩
theorem nU:bL ["_law_cell","_law_base","_law_many","_law_row","_law_k"] ["_law_cell","_law_base","_law_many"] (aE mF):=⟨rfl,rfl,rfl,by decide +kernel,rfl,by decide +kernel,by decide +kernel⟩
theorem i6:bL ["_law_script","_law_n","_law_deeds","_law_questions","_law_rows","_law_k"] ["_law_script","_law_n"] (aE jx):=⟨rfl,rfl,rfl,by decide +kernel,rfl,by decide +kernel,by decide +kernel⟩
theorem eT:bL ["_law_script","_law_n","_law_rows","_law_k","_law_cell","_law_a","_law_b","_law_one","_law_two"] ["_law_script","_law_n"] (aE oz):=⟨rfl,rfl,rfl,by decide +kernel,rfl,by decide +kernel,by decide +kernel⟩
theorem rG:bL ["_law_script","_law_head","_law_n","_law_rows","_law_keeper","_law_other","_law_standing","_law_a","_law_b","_law_one","_law_two","_law_tie"] ["_law_script"] (aE Np):=⟨rfl,rfl,rfl,by decide +kernel,rfl,by decide +kernel,by decide +kernel⟩
theorem yI:bL ["self","n"] ["self","n"] (aE kb):=⟨rfl,rfl,rfl,by decide +kernel,rfl,by decide +kernel,by decide +kernel⟩
theorem yz:bL ["self","row","place"] ["self","row"] (aE pU):=⟨rfl,rfl,rfl,by decide +kernel,rfl,by decide +kernel,by decide +kernel⟩
theorem GU:bL ["self","a","b"] ["self","a","b"] (aE pV):=⟨rfl,rfl,rfl,by decide +kernel,rfl,by decide +kernel,by decide +kernel⟩
theorem AG:bL ["self","a","b","row"] ["self","a","b"] (aE rC):=⟨rfl,rfl,rfl,by decide +kernel,rfl,by decide +kernel,by decide +kernel⟩
theorem BS:bL ["self","a","b"] ["self","a","b"] (aE mG):=⟨rfl,rfl,rfl,by decide +kernel,rfl,by decide +kernel,by decide +kernel⟩
theorem Er:bL ["self","a"] ["self","a"] (aE oA):=⟨rfl,rfl,rfl,by decide +kernel,rfl,by decide +kernel,by decide +kernel⟩
theorem GV:bL ["self","a"] ["self","a"] (aE pW):=⟨rfl,rfl,rfl,by decide +kernel,rfl,by decide +kernel,by decide +kernel⟩
theorem IK:bL ["self","a","b"] ["self","a","b"] (aE rD):=⟨rfl,rfl,rfl,by decide +kernel,rfl,by decide +kernel,by decide +kernel⟩
theorem wc:bL ["self","n"] ["self","n"] (aE i4):=⟨rfl,rfl,rfl,by decide +kernel,rfl,by decide +kernel,by decide +kernel⟩
theorem Es:bL ["self","tie","weight"] ["self","tie","weight"] (aE oB):=⟨rfl,rfl,rfl,by decide +kernel,rfl,by decide +kernel,by decide +kernel⟩
theorem tG:bL ["self","tie","wood"] ["self","tie"] (aE lq):=⟨rfl,rfl,rfl,by decide +kernel,rfl,by decide +kernel,by decide +kernel⟩
theorem BU:bL ["self","tie"] ["self","tie"] (aE mH):=⟨rfl,rfl,rfl,by decide +kernel,rfl,by decide +kernel,by decide +kernel⟩
theorem qF:bL ["self","tie","level","wood"] ["self","tie"] (aE mI):=⟨rfl,rfl,rfl,by decide +kernel,rfl,by decide +kernel,by decide +kernel⟩
theorem qt:bL ["self","level","wooden","ties"] ["self","level","wooden"] (aE i5):=⟨rfl,rfl,rfl,by decide +kernel,rfl,by decide +kernel,by decide +kernel⟩
theorem BV:bL ["self","tie"] ["self","tie"] (aE mJ):=⟨rfl,rfl,rfl,by decide +kernel,rfl,by decide +kernel,by decide +kernel⟩
theorem oF:bL ["self","level","tie","wood"] ["self","level","tie"] (aE gM):=⟨rfl,rfl,rfl,by decide +kernel,rfl,by decide +kernel,by decide +kernel⟩
theorem jE:bL ["self","level","tie","side","risen","other","ends"] ["self","level","tie"] (aE mK):=⟨rfl,rfl,rfl,by decide +kernel,rfl,by decide +kernel,by decide +kernel⟩
theorem jF:bL ["self","tie","level","looking","trail"] ["self","tie"] (aE mL):=⟨rfl,rfl,rfl,by decide +kernel,rfl,by decide +kernel,by decide +kernel⟩
theorem yJ:bL ["self","n"] ["self","n"] (aE ke):=⟨rfl,rfl,rfl,by decide +kernel,rfl,by decide +kernel,by decide +kernel⟩
theorem AH:bL ["self","tie","weight"] ["self","tie","weight"] (aE lu):=⟨rfl,rfl,rfl,by decide +kernel,rfl,by decide +kernel,by decide +kernel⟩
theorem vd:bL ["self","a","b","tie","trail"] ["self","a","b"] (aE rE):=⟨rfl,rfl,rfl,by decide +kernel,rfl,by decide +kernel,by decide +kernel⟩
theorem BW:bL ["self","a","b"] ["self","a","b"] (aE mM):=⟨rfl,rfl,rfl,by decide +kernel,rfl,by decide +kernel,by decide +kernel⟩
theorem IL:bL ["self","a","b"] ["self","a","b"] (aE rF):=⟨rfl,rfl,rfl,by decide +kernel,rfl,by decide +kernel,by decide +kernel⟩
theorem GW:bL ["self","a"] ["self","a"] (aE pX):=⟨rfl,rfl,rfl,by decide +kernel,rfl,by decide +kernel,by decide +kernel⟩
theorem GX:bL ["self"] ["self"] (aE pY):=⟨rfl,rfl,rfl,by decide +kernel,rfl,by decide +kernel,by decide +kernel⟩
theorem Et:bL ["self","a","b"] ["self","a","b"] (aE oC):=⟨rfl,rfl,rfl,by decide +kernel,rfl,by decide +kernel,by decide +kernel⟩
structure CA where
  (Levels Keeper:af)
structure nr (K:aa) (mg:bA->Option ai) (C:af) (A:CA):Prop where
 cl_Wood:Cls K C
 mg_Wood:mg "Wood"=some (.ref C)
 n_Wood_n:NoAttr K C "n"
 n_Wood_rows:NoAttr K C "rows"
 cl_Levels:Cls K A.Levels
 mg_Levels:mg "Levels"=some (.ref A.Levels)
 n_Levels_level_of:NoAttr K A.Levels "level_of"
 n_Levels_weight_of:NoAttr K A.Levels "weight_of"
 n_Levels_wooden:NoAttr K A.Levels "wooden"
 n_Levels_woods:NoAttr K A.Levels "woods"
 cl_Keeper:Cls K A.Keeper
 mg_Keeper:mg "Keeper"=some (.ref A.Keeper)
 n_Keeper_came:NoAttr K A.Keeper "came"
 n_Keeper_levels:NoAttr K A.Keeper "levels"
 n_Keeper_looked:NoAttr K A.Keeper "looked"
 n_Keeper_lost:NoAttr K A.Keeper "lost"
 n_Keeper_n:NoAttr K A.Keeper "n"
 n_Keeper_risen:NoAttr K A.Keeper "risen"
 n_Keeper_wood:NoAttr K A.Keeper "wood"
 b_all:mg "all"=none
 b_bool:mg "bool"=none
 b_int:mg "int"=none
 b_isinstance:mg "isinstance"=none
 b_len:mg "len"=none
 b_list:mg "list"=none
 b_max:mg "max"=none
 b_min:mg "min"=none
 b_range:mg "range"=none
 b_set:mg "set"=none
 b_sorted:mg "sorted"=none
 b_sum:mg "sum"=none
 b_zip:mg "zip"=none
 c_MOST_PLACES:∃ t:RE,mg "MOST_PLACES"=some (.int 200 t)
variable {P:bp}{w:b8}{K:aa}{mg:bA->Option ai}{base:cm}{f:af}{fd:fP}{sp:Sp}{C:af}{A:CA}
def qu (K:aa) (C:af):TS :=
 fu (Dh (ux (Gx K) (aA (av 0) (aA (tC (.ty "int")) (bj)))) (JS (ux (Gx K) (aA (av 0) (aA (tC (.ty "bool")) (bj))))))
theorem GY (Fu:Fun K "is_whole" "is_whole" rj f fd) (T:nr K mg C A)
   (len:∀ vs H Q E,sp vs H Q E->vs.length=1) (run:∀ vs H Q E,sp vs H Q E->qu K C { nx:=λ_ H'=>Q .non H',rt:=Q } (start ["thing"] vs) H):FnOk P w K mg base bW 1 f fd ["thing"] sp :=
  Fu.ok IG len λcdv A0 outer s H vs Q E hr h=>⟨_,(show PSs (eW bW P w K mg base ["thing"] "is_whole" (aE rj) f cdv A0 outer s H E).nox (bq rj) (qu K C) from
 aO (cj (DU (cX (qY) rfl T.b_isinstance BootT.nF (ah (pv 0) (ah (tX rfl T.b_int BootT.int rfl) (aH)))) (DT (Mj (cX (qY) rfl T.b_isinstance BootT.nF (ah (pv 0) (ah (tX rfl T.b_bool BootT.bool rfl) (aH))))))))),run vs H Q E h⟩
def qv (K:aa) (C:af) (dv:Sp):TS :=
 fu (Dh (de dv [] E0 (aA (av 0) (bj))) (DY (xo λi j=>.bl (decide (i<=j))) (xo λi j=>.bl (decide (i<=j))) (tC (.int 1)) (av 0) (tC (.int 200))))
theorem GZ (Fu:Fun K "is_count" "is_count" rk f fd) (T:nr K mg C A) {dv:Sp}(kg:j3 P w K mg base bW 1 "is_whole" ["thing"] dv)
   (len:∀ vs H Q E,sp vs H Q E->vs.length=1) (run:∀ vs H Q E,sp vs H Q E->qv K C dv { nx:=λ_ H'=>Q .non H',rt:=Q } (start ["thing"] vs) H):FnOk P w K mg base bW 2 f fd ["thing"] sp :=
  Fu.ok IH len λcdv A0 outer s H vs Q E hr h=>⟨_,(show PSs (eW bW P w K mg base ["thing"] "is_count" (aE rk) f cdv A0 outer s H E).nox (bq rk) (qv K C dv) from
 aO (cj (DU (oN kg (hr.mono (by decide)) rfl bN (ah (pv 0) (aH))) (DT (Gj (Gi) (Gi) (a7) (pv 0) (Ov rfl T.c_MOST_PLACES.choose_spec ⟨_,rfl⟩)))))),run vs H Q E h⟩
def qw (K:aa) (C:af) (dv:Sp):TS :=
 fu (Dh (de dv [] E0 (aA (av 1) (bj))) (DY (xo λi j=>.bl (decide (i<=j))) (xo λi j=>.bl (decide (i<j))) (tC (.int 0)) (av 1) (av 0)))
theorem G0 (Fu:Fun K "is_place" "is_place" rm f fd) (T:nr K mg C A) {dv:Sp}(kg:j3 P w K mg base bW 1 "is_whole" ["thing"] dv)
   (len:∀ vs H Q E,sp vs H Q E->vs.length=2) (run:∀ vs H Q E,sp vs H Q E->qw K C dv { nx:=λ_ H'=>Q .non H',rt:=Q } (start ["n","thing"] vs) H):FnOk P w K mg base bW 2 f fd ["n","thing"] sp :=
  Fu.ok II len λcdv A0 outer s H vs Q E hr h=>⟨_,(show PSs (eW bW P w K mg base ["n","thing"] "is_place" (aE rm) f cdv A0 outer s H E).nox (bq rm) (qw K C dv) from
 aO (cj (DU (oN kg (hr.mono (by decide)) rfl bN (ah (pv 1) (aH))) (DT (Gj (Gi) (JX) (a7) (pv 1) (pv 0)))))),run vs H Q E h⟩
def G1 (K:aa) (C:af):TS :=
  DW (fI (dw (xo λi j=>.bl (decide (i<=j))) (av 2) (av 0)))
   (bX (Ml 1 (tC (.int 1)) (xo λi j=>.int (i+j)))
  (Ml 2 (tC (.int 2)) (rI CMul λi j=>.int (i*j))))
def Eu (K:aa) (C:af):TS :=
 bX (eF (tC (.int 0)) (bI 1))
 (bX (eF (tC (.int 4)) (bI 2))
 (bX (G1 K C)
 (fu (av 1))))
theorem Rx (Fu:Fun K "top" "top" stop f fd) (T:nr K mg C A)
      (len:∀ vs H Q E,sp vs H Q E->vs.length=1) (run:∀ vs H Q E,sp vs H Q E->Eu K C { nx:=λ_ H'=>Q .non H',rt:=Q } (start ["n","level","needed"] vs) H):FnOk P w K mg base bW 1 f fd ["n"] sp :=
    Fu.ok GS len λcdv A0 outer s H vs Q E hr h=>⟨_,(show PSs (eW bW P w K mg base ["n","level","needed"] "top" (aE stop) f cdv A0 outer s H E).nox (bq stop) (Eu K C) from
  aF (cC (i:=1) GS.nd rfl (Or.inl rfl) (a7))
  (aF (cC (i:=2) GS.nd rfl (Or.inl rfl) (a7))
  (aF (Gf cO (cU (Gi) (pv 2) (pv 0) (fe _))
   (aF (HZ (i:=1) GS.nd rfl (Or.inl rfl) (a7) OD)
  (aO (HZ (i:=2) GS.nd rfl (Or.inl rfl) (a7) OF))))
  (aO (cj (pv 1)))))),run vs H Q E h⟩
def ub (K:aa) (C:af):TS :=
 fu (QD (fI (dw (xo λi j=>.bl (decide (i<j))) (av 0) (av 1))) (uw (aA (av 0) (aA (av 1) (bj)))) (uw (aA (av 1) (aA (av 0) (bj)))))
theorem Lj (Fu:Fun K "tie_of" "tie_of" vY f fd) (T:nr K mg C A)
   (len:∀ vs H Q E,sp vs H Q E->vs.length=2) (run:∀ vs H Q E,sp vs H Q E->ub K C { nx:=λ_ H'=>Q .non H',rt:=Q } (start ["a","b"] vs) H):FnOk P w K mg base bW 1 f fd ["a","b"] sp :=
  Fu.ok Nq len λcdv A0 outer s H vs Q E hr h=>⟨_,(show PSs (eW bW P w K mg base ["a","b"] "tie_of" (aE vY) f cdv A0 outer s H E).nox (bq vY) (ub K C) from
 aO (cj (sV (cU (JX) (pv 0) (pv 1) (fe _)) (mj (ah (pv 0) (ah (pv 1) (aH)))) (mj (ah (pv 1) (ah (pv 0) (aH))))))),run vs H Q E h⟩
def uc (K:aa) (C:af) (kh:Sp):TS :=
 fu (ux (Nf K) (aA (oS 4 [0] (sf K (av 1)) (DV K 4 (kU (bI 0) (kU (bI 1) (kU (bI 2) (kU (bI 3) (Ge)))))) (Ae) (dw (xo λi j=>.int (i-j)) (de kh [] E0 (aA (av 4) (bj))) (av 2))) (bj)))
theorem Lk (Fu:Fun K "credit" "credit" vZ f fd) (T:nr K mg C A) {kh:Sp}(yA:j3 P w K mg base bW 1 "top" ["n"] kh)
   (len:∀ vs H Q E,sp vs H Q E->vs.length=2) (run:∀ vs H Q E,sp vs H Q E->uc K C kh { nx:=λ_ H'=>Q .non H',rt:=Q } (start ["n","ties"] vs) H):FnOk P w K mg base bW 2 f fd ["n","ties"] sp :=
  Fu.ok Nr len λcdv A0 outer s H vs Q E hr h=>⟨_,(show PSs (eW bW P w K mg base ["n","ties"] "credit" (aE vZ) f cdv A0 outer s H E).nox (bq vZ) (uc K C kh) from
 aO (cj (cX (DB rfl) rfl T.b_sum BootT.sum (ah (qq ["a","b","level","in_wood"] (ys:=["n"]) [0] rfl (ka (pv 1)) ⟨rfl,.inl rfl,rfl,trivial⟩ (λ_ _ _=>xm rfl (eY (cz (i:=0) (show (["a","b","level","in_wood","n"]:List bA).Nodup by decide +kernel) rfl (Or.inl rfl)) (eY (cz (i:=1) (show (["a","b","level","in_wood","n"]:List bA).Nodup by decide +kernel) rfl (Or.inl rfl)) (eY (cz (i:=2) (show (["a","b","level","in_wood","n"]:List bA).Nodup by decide +kernel) rfl (Or.inl rfl)) (eY (cz (i:=3) (show (["a","b","level","in_wood","n"]:List bA).Nodup by decide +kernel) rfl (Or.inl rfl)) (tY)))))) (λ_ _ _=>qV) (λ_ _ _=>c5 (Mo) (oN yA (hr.mono (by decide)) rfl bN (ah (pv 4) (aH))) (pv 2))) (aH))))),run vs H Q E h⟩
def we (K:aa) (C:af):TS :=
 fu (ux (Nf K) (aA (oS 4 [] (sf K (av 0)) (DV K 4 (kU (bI 0) (kU (bI 1) (kU (bI 2) (kU (bI 3) (Ge)))))) (Ae) (ux (xA K) (aA (av 2) (bj)))) (bj)))
theorem Nt (Fu:Fun K "rises" "rises" AC f fd) (T:nr K mg C A)
   (len:∀ vs H Q E,sp vs H Q E->vs.length=1) (run:∀ vs H Q E,sp vs H Q E->we K C { nx:=λ_ H'=>Q .non H',rt:=Q } (start ["trail"] vs) H):FnOk P w K mg base bW 1 f fd ["trail"] sp :=
  Fu.ok Pd len λcdv A0 outer s H vs Q E hr h=>⟨_,(show PSs (eW bW P w K mg base ["trail"] "rises" (aE AC) f cdv A0 outer s H E).nox (bq AC) (we K C) from
 aO (cj (cX (DB rfl) rfl T.b_sum BootT.sum (ah (qq ["level","side","risen","found"] (ys:=[]) [] rfl (ka (pv 0)) trivial (λ_ _ _=>xm rfl (eY (cz (i:=0) (show (["level","side","risen","found"]:List bA).Nodup by decide +kernel) rfl (Or.inl rfl)) (eY (cz (i:=1) (show (["level","side","risen","found"]:List bA).Nodup by decide +kernel) rfl (Or.inl rfl)) (eY (cz (i:=2) (show (["level","side","risen","found"]:List bA).Nodup by decide +kernel) rfl (Or.inl rfl)) (eY (cz (i:=3) (show (["level","side","risen","found"]:List bA).Nodup by decide +kernel) rfl (Or.inl rfl)) (tY)))))) (λ_ _ _=>qV) (λ_ _ _=>cX (jD) rfl T.b_len BootT.len (ah (pv 2) (aH)))) (aH))))),run vs H Q E h⟩
def wg (K:aa) (C:af) (fU:Sp):TS :=
 bX (eF (oS 4 [] (sf K (av 0)) (DV K 4 (kU (bI 0) (kU (bI 1) (kU (bI 2) (kU (bI 3) (Ge)))))) (tB (Dg (av 3))) (av 3)) (bI 1))
 (fu (QD (mv K (av 1)) (dw (ik) (de fU [] E0 (aA (av 0) (bj))) (tC (.int 1))) (de fU [] E0 (aA (av 0) (bj)))))
theorem Nu (Fu:Fun K "looks" "looks" AD f fd) (T:nr K mg C A) {fU:Sp}(oZ:j3 P w K mg base bW 1 "rises" ["trail"] fU)
   (len:∀ vs H Q E,sp vs H Q E->vs.length=1) (run:∀ vs H Q E,sp vs H Q E->wg K C fU { nx:=λ_ H'=>Q .non H',rt:=Q } (start ["trail","finds"] vs) H):FnOk P w K mg base bW 2 f fd ["trail"] sp :=
  Fu.ok Km len λcdv A0 outer s H vs Q E hr h=>⟨_,(show PSs (eW bW P w K mg base ["trail","finds"] "looks" (aE AD) f cdv A0 outer s H E).nox (bq AD) (wg K C fU) from
 aF (zD (i:=1) ["level","side","risen","found"] (ys:=[]) [] rfl Km.nd rfl rfl (ka (pv 0)) trivial (λ_ _ _=>xm rfl (eY (cz (i:=0) (show (["level","side","risen","found"]:List bA).Nodup by decide +kernel) rfl (Or.inl rfl)) (eY (cz (i:=1) (show (["level","side","risen","found"]:List bA).Nodup by decide +kernel) rfl (Or.inl rfl)) (eY (cz (i:=2) (show (["level","side","risen","found"]:List bA).Nodup by decide +kernel) rfl (Or.inl rfl)) (eY (cz (i:=3) (show (["level","side","risen","found"]:List bA).Nodup by decide +kernel) rfl (Or.inl rfl)) (tY)))))) (λ_ _ _=>qW (DS (DR (pv 3)))) (λ_ _ _=>pv 3))
 (aO (cj (sV (gO (pv 1) (λ_=>rfl)) (c5 (eK) (oN oZ (hr.mono (by decide)) rfl bN (ah (pv 0) (aH))) (a7)) (oN oZ (hr.mono (by decide)) rfl bN (ah (pv 0) (aH))))))),run vs H Q E h⟩
def mN (K:aa) (C:af):TS :=
 fu (MW K (aA (av 0) (aA (Io (uz K) (av 0) (om (tC (.int 1))) (kB)) (bj))))
theorem AI (Fu:Fun K "steps_along" "steps_along" mC f fd) (T:nr K mg C A)
   (len:∀ vs H Q E,sp vs H Q E->vs.length=1) (run:∀ vs H Q E,sp vs H Q E->mN K C { nx:=λ_ H'=>Q .non H',rt:=Q } (start ["row"] vs) H):FnOk P w K mg base bW 1 f fd ["row"] sp :=
  Fu.ok BP len λcdv A0 outer s H vs Q E hr h=>⟨_,(show PSs (eW bW P w K mg base ["row"] "steps_along" (aE mC) f cdv A0 outer s H E).nox (bq mC) (mN K C) from
 aO (cj (O3 rfl rfl T.b_list rfl T.b_zip (ah (pv 0) (ah (iY mn (pv 0) (jj (a7)) (ml)) (aH)))))),run vs H Q E h⟩
def ud (K:aa) (C:af):TS :=
 bX (eF (D6 K "list" (qr K) (av 0) (aA (av 1) (bj))) (bI 2))
 (fu (dw (ik) (Io (uz K) (av 0) (om (av 2)) (kB)) (Io (uz K) (av 0) (om (tC (.int 1))) (om (dw (ik) (av 2) (tC (.int 1)))))))
theorem Ll (Fu:Fun K "turned" "turned" v3 f fd) (T:nr K mg C A)
   (len:∀ vs H Q E,sp vs H Q E->vs.length=2) (run:∀ vs H Q E,sp vs H Q E->ud K C { nx:=λ_ H'=>Q .non H',rt:=Q } (start ["row","a","k"] vs) H):FnOk P w K mg base bW 1 f fd ["row","a"] sp :=
  Fu.ok GT len λcdv A0 outer s H vs Q E hr h=>⟨_,(show PSs (eW bW P w K mg base ["row","a","k"] "turned" (aE v3) f cdv A0 outer s H E).nox (bq v3) (ud K C) from
 aF (cC (i:=2) GT.nd rfl (Or.inl rfl) (oo bS fh je (qZ hr.units) (pv 0) (ah (pv 1) (aH))))
 (aO (cj (c5 (eK) (iY mn (pv 0) (jj (pv 2)) (ml)) (iY mn (pv 0) (jj (a7)) (jj (c5 (eK) (pv 2) (a7)))))))),run vs H Q E h⟩
def sj (K:aa) (C:af) (eh:Sp):TS :=
 bX (eF (D6 K "list" (qr K) (av 0) (aA (av 2) (bj))) (bI 4))
 (fu (dw (ik) (dw (ik) (Io (uz K) (av 0) (kB) (om (dw (ik) (av 4) (tC (.int 1))))) (de eh [] E0 (aA (av 1) (aA (av 3) (bj))))) (Io (uz K) (av 0) (om (av 4)) (kB))))
theorem IM (Fu:Fun K "spliced" "spliced" tw f fd) (T:nr K mg C A) {eh:Sp}(oG:j3 P w K mg base bW 1 "turned" ["row","a"] eh)
   (len:∀ vs H Q E,sp vs H Q E->vs.length=4) (run:∀ vs H Q E,sp vs H Q E->sj K C eh { nx:=λ_ H'=>Q .non H',rt:=Q } (start ["row","other","a","b","k"] vs) H):FnOk P w K mg base bW 2 f fd ["row","other","a","b"] sp :=
  Fu.ok DE len λcdv A0 outer s H vs Q E hr h=>⟨_,(show PSs (eW bW P w K mg base ["row","other","a","b","k"] "spliced" (aE tw) f cdv A0 outer s H E).nox (bq tw) (sj K C eh) from
 aF (cC (i:=4) DE.nd rfl (Or.inl rfl) (oo bS fh je (qZ hr.units) (pv 0) (ah (pv 2) (aH))))
 (aO (cj (c5 (eK) (c5 (eK) (iY mn (pv 0) (ml) (jj (c5 (eK) (pv 4) (a7)))) (oN oG (hr.mono (by decide)) rfl bN (ah (pv 1) (ah (pv 3) (aH))))) (iY mn (pv 0) (jj (pv 4)) (ml)))))),run vs H Q E h⟩
def ue (K:aa) (C:af) (b9:Sp):TS :=
 bX (eF (de b9 [] E0 (aA (av 0) (bj))) (bI 3))
 (bX (eF (D6 K "list" (qr K) (av 3) (aA (uw (aA (av 1) (aA (av 2) (bj)))) (bj))) (bI 4))
 (bX (eF (D6 K "list" (qr K) (av 3) (aA (uw (aA (av 2) (aA (av 1) (bj)))) (bj))) (bI 5))
 (bX (eF (ux (Gy) (aA (av 4) (aA (av 5) (bj)))) (bI 6))
 (bX (eF (ux (J5) (aA (av 4) (aA (av 5) (bj)))) (bI 7))
 (bX (eF (Io (uz K) (av 0) (om (dw (ik) (av 6) (tC (.int 1)))) (om (dw (ik) (av 7) (tC (.int 1))))) (bI 8))
 (bX (eF (dw (ik) (Io (uz K) (av 0) (kB) (om (dw (ik) (av 6) (tC (.int 1))))) (Io (uz K) (av 0) (om (dw (ik) (av 7) (tC (.int 2)))) (kB))) (bI 9))
 (fu (QD (fI (dw (xo λi j=>.bl (decide (i<j))) (av 4) (av 5))) (uw (aA (av 9) (aA (av 8) (bj)))) (uw (aA (av 8) (aA (av 9) (bj))))))))))))
theorem Lm (Fu:Fun K "parted" "parted" v5 f fd) (T:nr K mg C A) {b9:Sp}(gU:j3 P w K mg base bW 1 "steps_along" ["row"] b9)
   (len:∀ vs H Q E,sp vs H Q E->vs.length=3) (run:∀ vs H Q E,sp vs H Q E->ue K C b9 { nx:=λ_ H'=>Q .non H',rt:=Q } (start ["row","a","b","along","there","back","k","m","inner","outer"] vs) H):FnOk P w K mg base bW 2 f fd ["row","a","b"] sp :=
  Fu.ok oE len λcdv A0 outer s H vs Q E hr h=>⟨_,(show PSs (eW bW P w K mg base ["row","a","b","along","there","back","k","m","inner","outer"] "parted" (aE v5) f cdv A0 outer s H E).nox (bq v5) (ue K C b9) from
 aF (cC (i:=3) oE.nd rfl (Or.inl rfl) (oN gU (hr.mono (by decide)) rfl bN (ah (pv 0) (aH))))
 (aF (cC (i:=4) oE.nd rfl (Or.inl rfl) (oo bS fh je (qZ hr.units) (pv 3) (ah (mj (ah (pv 1) (ah (pv 2) (aH)))) (aH))))
 (aF (cC (i:=5) oE.nd rfl (Or.inl rfl) (oo bS fh je (qZ hr.units) (pv 3) (ah (mj (ah (pv 2) (ah (pv 1) (aH)))) (aH))))
 (aF (cC (i:=6) oE.nd rfl (Or.inl rfl) (cX (t7 rfl) rfl T.b_min BootT.min (ah (pv 4) (ah (pv 5) (aH)))))
 (aF (cC (i:=7) oE.nd rfl (Or.inl rfl) (cX (xp rfl) rfl T.b_max BootT.max (ah (pv 4) (ah (pv 5) (aH)))))
 (aF (cC (i:=8) oE.nd rfl (Or.inl rfl) (iY mn (pv 0) (jj (c5 (eK) (pv 6) (a7))) (jj (c5 (eK) (pv 7) (a7)))))
 (aF (cC (i:=9) oE.nd rfl (Or.inl rfl) (c5 (eK) (iY mn (pv 0) (ml) (jj (c5 (eK) (pv 6) (a7)))) (iY mn (pv 0) (jj (c5 (eK) (pv 7) (a7))) (ml))))
 (aO (cj (sV (cU (JX) (pv 4) (pv 5) (fe _)) (mj (ah (pv 9) (ah (pv 8) (aH)))) (mj (ah (pv 8) (ah (pv 9) (aH)))))))))))))),run vs H Q E h⟩
def yB (K:aa) (C:af) (eh:Sp):TS :=
  uv (sf K (Io (uz K) (av 3) (kB) (om (dw (ik) (D6 K "list" (qr K) (av 3) (aA (av 2) (bj))) (tC (.int 1)))))) (bI 5)
   (jZ (yF (fI (dw (xo λi j=>.bl (decide (j<i))) (ux (xA K) (aA (av 4) (bj))) (tC (.int 1)))) (fI (dw (se K) (dw (fk K) (av 4) (RX (rU λi=>.int (-i)) (tC (.int 2)))) (av 5))))
   (fY (QL K "list" QN (av 4)))
   (fY (D6 K "list" mq (av 4) (aA (av 5) (bj)))))
def uf (K:aa) (C:af) (eh:Sp):TS :=
 bX (eF (de eh [] E0 (aA (av 0) (aA (av 1) (bj)))) (bI 3))
 (bX (eF (BJ (bj)) (bI 4))
 (bX (yB K C eh)
 (fu (av 4))))
theorem Ln (Fu:Fun K "way_in" "way_in" v8 f fd) (T:nr K mg C A) {eh:Sp}(oG:j3 P w K mg base bW 1 "turned" ["row","a"] eh)
      (len:∀ vs H Q E,sp vs H Q E->vs.length=3) (run:∀ vs H Q E,sp vs H Q E->uf K C eh { nx:=λ_ H'=>Q .non H',rt:=Q } (start ["row","a","b","ahead","way","place"] vs) H):FnOk P w K mg base bW 2 f fd ["row","a","b"] sp :=
    Fu.ok v9 len λcdv A0 outer s H vs Q E hr h=>⟨_,(show PSs (eW bW P w K mg base ["row","a","b","ahead","way","place"] "way_in" (aE v8) f cdv A0 outer s H E).nox (bq v8) (uf K C eh) from
  aF (cC (i:=3) v9.nd rfl (Or.inl rfl) (oN oG (hr.mono (by decide)) rfl bN (ah (pv 0) (ah (pv 1) (aH)))))
  (aF (cC (i:=4) v9.nd rfl (Or.inl rfl) (sY (aH)))
  (aF (mh cO rfl (ka (iY mn (pv 3) (ml) (jj (c5 (eK) (oo bS fh je (qZ hr.units) (pv 3) (ah (pv 2) (aH))) (a7))))) (cz (i:=5) v9.nd rfl (Or.inl rfl))
   (aO (gS (PW.pt (sT (cU (Sg) (cX (jD) rfl T.b_len BootT.len (ah (pv 4) (aH))) (a7) (fe _)) (qo (cU (lJ hr.units) (df (fT hr.units) (pv 4) (JT DX (a7)) (λ_ _=>rfl)) (pv 5) (fe _)))))
   (aO (c8 (QM bS PySem.F.slot_list_pop PySem.F.type_list_pop QO (pv 4))))
   (aO (c8 (oo bS dJ dM kC (pv 4) (ah (pv 5) (aH))))))))
  (aO (cj (pv 4)))))),run vs H Q E h⟩
def jk (K:aa) (C:af) (gW:Sp):TS :=
  jZ (sH (mv K (de gW [] E0 (aA (av 0) (aA (av 1) (bj))))))
   (sW)
   (gL)
theorem ve (Fu:Fun K "refuse_no_place" "refuse_no_place" i3 f fd) (T:nr K mg C A) {gW:Sp}(pZ:j3 P w K mg base bW 2 "is_place" ["n","thing"] gW)
      (len:∀ vs H Q E,sp vs H Q E->vs.length=2) (run:∀ vs H Q E,sp vs H Q E->jk K C gW { nx:=λ_ H'=>Q .non H',rt:=Q } (start ["n","thing"] vs) H):FnOk P w K mg base bW 3 f fd ["n","thing"] sp :=
    Fu.ok wb len λcdv A0 outer s H vs Q E hr h=>⟨_,(show PSs (eW bW P w K mg base ["n","thing"] "refuse_no_place" (aE i3) f cdv A0 outer s H E).nox (bq i3) (jk K C gW) from
  aO (gS (mf (gO (oN pZ (hr.mono (by decide)) rfl bN (ah (pv 0) (ah (pv 1) (aH)))) (λ_=>rfl)))
   (aO (pS))
   (dF))),run vs H Q E h⟩
def iX (K:aa) (C:af) (aY:Sp):TS :=
 bX (fY (de aY [] E0 (aA (av 0) (aA (av 1) (bj)))))
 (fY (de aY [] E0 (aA (av 0) (aA (av 2) (bj)))))
theorem uB (Fu:Fun K "refuse_no_places" "refuse_no_places" iC f fd) (T:nr K mg C A) {aY:Sp}(cM:j3 P w K mg base bW 3 "refuse_no_place" ["n","thing"] aY)
   (len:∀ vs H Q E,sp vs H Q E->vs.length=3) (run:∀ vs H Q E,sp vs H Q E->iX K C aY { nx:=λ_ H'=>Q .non H',rt:=Q } (start ["n","a","b"] vs) H):FnOk P w K mg base bW 4 f fd ["n","a","b"] sp :=
  Fu.ok vc len λcdv A0 outer s H vs Q E hr h=>⟨_,(show PSs (eW bW P w K mg base ["n","a","b"] "refuse_no_places" (aE iC) f cdv A0 outer s H E).nox (bq iC) (iX K C aY) from
 aF (c8 (oN cM (hr.mono (by decide)) rfl bN (ah (pv 0) (ah (pv 1) (aH)))))
 (aO (c8 (oN cM (hr.mono (by decide)) rfl bN (ah (pv 0) (ah (pv 2) (aH))))))),run vs H Q E h⟩
def jT (K:aa) (C:af) (bK:Sp):TS :=
  bX (fY (de bK [] E0 (aA (av 0) (aA (av 1) (aA (av 2) (bj))))))
  (jZ (fI (dw (se K) (av 1) (av 2)))
   (sW)
   (gL))
theorem wj (Fu:Fun K "refuse_no_pair" "refuse_no_pair" jw f fd) (T:nr K mg C A) {bK:Sp}(dU:j3 P w K mg base bW 4 "refuse_no_places" ["n","a","b"] bK)
      (len:∀ vs H Q E,sp vs H Q E->vs.length=3) (run:∀ vs H Q E,sp vs H Q E->jT K C bK { nx:=λ_ H'=>Q .non H',rt:=Q } (start ["n","a","b"] vs) H):FnOk P w K mg base bW 5 f fd ["n","a","b"] sp :=
    Fu.ok xG len λcdv A0 outer s H vs Q E hr h=>⟨_,(show PSs (eW bW P w K mg base ["n","a","b"] "refuse_no_pair" (aE jw) f cdv A0 outer s H E).nox (bq jw) (jT K C bK) from
  aF (c8 (oN dU (hr.mono (by decide)) rfl bN (ah (pv 0) (ah (pv 1) (ah (pv 2) (aH))))))
  (aO (gS (cU (lJ hr.units) (pv 1) (pv 2) (fe _))
   (aO (pS))
   (dF)))),run vs H Q E h⟩
def qx (K:aa) (C:af) (Pt:af):TS :=
 fu (ID Pt ⟨128,28,128,61⟩ ((("in_order":bA)++".<locals>.")++"<lambda>") 1 (aA (av 0) (bj)))
theorem G2 (Fu:Fun K "in_order" "in_order" rA f fd) (T:nr K mg C A) {c Pt:af}(hcd:fd.code=.ref c) (CH:pF base c Pt) (B:base.BuiltinsAt mg Pt)
   (len:∀ vs H Q E,sp vs H Q E->vs.length=2) (run:∀ vs H Q E,sp vs H Q E->qx K C Pt { nx:=λ_ H'=>Q .non H',rt:=Q } (start ["ties","weight_of"] vs) H):FnOk P w K mg base bW 1 f fd ["ties","weight_of"] sp :=
  Fu.okC hcd IJ len λA0 outer s H vs Q E hr h=>⟨_,(show PSs (eW bW P w K mg base ["ties","weight_of"] "in_order" (aE rA) f (.ref c) A0 outer s H E).nox (bq rA) (qx K C Pt) from
 aO (cj (Ng rfl rfl CH B hr.depth hr.units128 rfl T.b_sorted (ah (pv 0) (aH)) rfl rfl))),run vs H Q E h⟩
def mO (K:aa) (C:af):TS :=
 fu (ux (xA K) (aA (oS 1 [1] (sf K (av 0)) (bI 0) (fI (dw (u6 K false) (av 0) (av 1))) (av 0)) (bj)))
theorem AJ (Fu:Fun K "ends_within" "ends_within" mD f fd) (T:nr K mg C A)
   (len:∀ vs H Q E,sp vs H Q E->vs.length=2) (run:∀ vs H Q E,sp vs H Q E->mO K C { nx:=λ_ H'=>Q .non H',rt:=Q } (start ["tie","side"] vs) H):FnOk P w K mg base bW 1 f fd ["tie","side"] sp :=
  Fu.ok BQ len λcdv A0 outer s H vs Q E hr h=>⟨_,(show PSs (eW bW P w K mg base ["tie","side"] "ends_within" (aE mD) f cdv A0 outer s H E).nox (bq mD) (mO K C) from
 aO (cj (cX (jD) rfl T.b_len BootT.len (ah (qq ["place"] (ys:=["side"]) [1] rfl (ka (pv 0)) ⟨rfl,.inl rfl,rfl,trivial⟩ (λ_ _ _=>cz (i:=0) (show (["place","side"]:List bA).Nodup by decide +kernel) rfl (Or.inl rfl)) (λ_ _ _=>qW (cU (xy hr.units) (pv 0) (pv 1) (by with_unfolding_all rfl))) (λ_ _ _=>pv 0)) (aH))))),run vs H Q E h⟩
def sk (K:aa) (C:af) (aQ eZ:Sp):TS :=
  bX (fY (de aQ [] E0 (aA (av 0) (aA (av 2) (aA (av 3) (bj))))))
  (bX (eF (de eZ [] E0 (aA (av 2) (aA (av 3) (bj)))) (bI 4))
  (bX (jZ (fI (dw (u6 K false) (av 4) (av 1)))
   (sW)
   (gL))
  (fu (av 4))))
theorem IP (Fu:Fun K "new_tie" "new_tie" tD f fd) (T:nr K mg C A) {aQ:Sp}(cA:j3 P w K mg base bW 5 "refuse_no_pair" ["n","a","b"] aQ) {eZ:Sp}(oH:j3 P w K mg base bW 1 "tie_of" ["a","b"] eZ)
      (len:∀ vs H Q E,sp vs H Q E->vs.length=4) (run:∀ vs H Q E,sp vs H Q E->sk K C aQ eZ { nx:=λ_ H'=>Q .non H',rt:=Q } (start ["n","standing","a","b","tie"] vs) H):FnOk P w K mg base bW 6 f fd ["n","standing","a","b"] sp :=
    Fu.ok DF len λcdv A0 outer s H vs Q E hr h=>⟨_,(show PSs (eW bW P w K mg base ["n","standing","a","b","tie"] "new_tie" (aE tD) f cdv A0 outer s H E).nox (bq tD) (sk K C aQ eZ) from
  aF (c8 (oN cA (hr.mono (by decide)) rfl bN (ah (pv 0) (ah (pv 2) (ah (pv 3) (aH))))))
  (aF (cC (i:=4) DF.nd rfl (Or.inl rfl) (oN oH (hr.mono (by decide)) rfl bN (ah (pv 2) (ah (pv 3) (aH)))))
  (aF (gS (cU (xy hr.units) (pv 4) (pv 1) (by with_unfolding_all rfl))
   (aO (pS))
   (dF))
  (aO (cj (pv 4)))))),run vs H Q E h⟩
def lD (K:aa) (C:af) (aQ eZ:Sp):TS :=
  bX (fY (de aQ [] E0 (aA (av 0) (aA (av 2) (aA (av 3) (bj))))))
  (bX (eF (de eZ [] E0 (aA (av 2) (aA (av 3) (bj)))) (bI 4))
  (bX (jZ (fI (dw (u6 K true) (av 4) (av 1)))
   (sW)
   (gL))
  (fu (av 4))))
theorem yK (Fu:Fun K "standing_tie" "standing_tie" ll f fd) (T:nr K mg C A) {aQ:Sp}(cA:j3 P w K mg base bW 5 "refuse_no_pair" ["n","a","b"] aQ) {eZ:Sp}(oH:j3 P w K mg base bW 1 "tie_of" ["a","b"] eZ)
      (len:∀ vs H Q E,sp vs H Q E->vs.length=4) (run:∀ vs H Q E,sp vs H Q E->lD K C aQ eZ { nx:=λ_ H'=>Q .non H',rt:=Q } (start ["n","standing","a","b","tie"] vs) H):FnOk P w K mg base bW 6 f fd ["n","standing","a","b"] sp :=
    Fu.ok tE len λcdv A0 outer s H vs Q E hr h=>⟨_,(show PSs (eW bW P w K mg base ["n","standing","a","b","tie"] "standing_tie" (aE ll) f cdv A0 outer s H E).nox (bq ll) (lD K C aQ eZ) from
  aF (c8 (oN cA (hr.mono (by decide)) rfl bN (ah (pv 0) (ah (pv 2) (ah (pv 3) (aH))))))
  (aF (cC (i:=4) tE.nd rfl (Or.inl rfl) (oN oH (hr.mono (by decide)) rfl bN (ah (pv 2) (ah (pv 3) (aH)))))
  (aF (gS (cU (qX hr.units) (pv 4) (pv 1) (by with_unfolding_all rfl))
   (aO (pS))
   (dF))
  (aO (cj (pv 4)))))),run vs H Q E h⟩
def lE (K:aa) (C:af):TS :=
  bX (jZ (fI (dw (xo λi j=>.bl (decide (i<j))) (av 1) (ux (xA K) (aA (av 0) (bj)))))
   (fu (dw (fk K) (av 0) (av 1)))
   (gL))
  (fu (tC (.int 0)))
theorem yL (Fu:Fun K "_law_cell_at" "_law_cell_at" lp f fd) (T:nr K mg C A)
      (len:∀ vs H Q E,sp vs H Q E->vs.length=2) (run:∀ vs H Q E,sp vs H Q E->lE K C { nx:=λ_ H'=>Q .non H',rt:=Q } (start ["_law_script","_law_k"] vs) H):FnOk P w K mg base bW 1 f fd ["_law_script","_law_k"] sp :=
    Fu.ok AE len λcdv A0 outer s H vs Q E hr h=>⟨_,(show PSs (eW bW P w K mg base ["_law_script","_law_k"] "_law_cell_at" (aE lp) f cdv A0 outer s H E).nox (bq lp) (lE K C) from
  aF (gS (cU (JX) (pv 1) (cX (jD) rfl T.b_len BootT.len (ah (pv 0) (aH))) (fe _))
   (aO (cj (df (fT hr.units) (pv 0) (pv 1) (λ_ _=>rfl))))
   (dF))
  (aO (cj (a7)))),run vs H Q E h⟩
def nV (K:aa) (C:af):TS :=
 fu (Dh (ux (Gx K) (aA (av 0) (aA (tC (.ty "int")) (bj)))) (JS (ux (Gx K) (aA (av 0) (aA (tC (.ty "bool")) (bj))))))
theorem BX (Fu:Fun K "_law_whole" "_law_whole" ou f fd) (T:nr K mg C A)
   (len:∀ vs H Q E,sp vs H Q E->vs.length=1) (run:∀ vs H Q E,sp vs H Q E->nV K C { nx:=λ_ H'=>Q .non H',rt:=Q } (start ["_law_found"] vs) H):FnOk P w K mg base bW 1 f fd ["_law_found"] sp :=
  Fu.ok Ep len λcdv A0 outer s H vs Q E hr h=>⟨_,(show PSs (eW bW P w K mg base ["_law_found"] "_law_whole" (aE ou) f cdv A0 outer s H E).nox (bq ou) (nV K C) from
 aO (cj (DU (cX (qY) rfl T.b_isinstance BootT.nF (ah (pv 0) (ah (tX rfl T.b_int BootT.int rfl) (aH)))) (DT (Mj (cX (qY) rfl T.b_isinstance BootT.nF (ah (pv 0) (ah (tX rfl T.b_bool BootT.bool rfl) (aH))))))))),run vs H Q E h⟩
def mP (K:aa) (C:af) (fo:Sp):TS :=
  bX (jZ (sH (mv K (ux (Gx K) (aA (av 0) (aA (tC (.ty "list")) (bj))))))
   (fu (tC (.bl false)))
   (gL))
  (fu (ux (QY K) (aA (oS 1 [] (sf K (av 0)) (bI 0) (Ae) (de fo [] E0 (aA (av 0) (bj)))) (bj))))
theorem AK (Fu:Fun K "_law_places" "_law_places" mE f fd) (T:nr K mg C A) {fo:Sp}(mQ:j3 P w K mg base bW 1 "_law_whole" ["_law_found"] fo)
      (len:∀ vs H Q E,sp vs H Q E->vs.length=1) (run:∀ vs H Q E,sp vs H Q E->mP K C fo { nx:=λ_ H'=>Q .non H',rt:=Q } (start ["_law_found"] vs) H):FnOk P w K mg base bW 2 f fd ["_law_found"] sp :=
    Fu.ok BR len λcdv A0 outer s H vs Q E hr h=>⟨_,(show PSs (eW bW P w K mg base ["_law_found"] "_law_places" (aE mE) f cdv A0 outer s H E).nox (bq mE) (mP K C fo) from
  aF (gS (mf (gO (cX (qY) rfl T.b_isinstance BootT.nF (ah (pv 0) (ah (tX rfl T.b_list BootT.list rfl) (aH)))) (λ_=>rfl)))
   (aO (cj (md)))
   (dF))
  (aO (cj (cX (ME rfl) rfl T.b_all BootT.all (ah (qq ["_law_x"] (ys:=[]) [] rfl (ka (pv 0)) trivial (λ_ _ _=>cz (i:=0) (show (["_law_x"]:List bA).Nodup by decide +kernel) rfl (Or.inl rfl)) (λ_ _ _=>qV) (λ_ _ _=>oN mQ (hr.mono (by decide)) rfl bN (ah (pv 0) (aH)))) (aH)))))),run vs H Q E h⟩
def uR (K:aa) (C:af) (bU:Sp):TS :=
  uv (zW (aA (dw (xo λi j=>.int (i-j)) (ux (xA K) (aA (av 0) (bj))) (tC (.int 1))) (bj))) (bI 4)
   (jZ (fI (dw (u6 K true) (uw (aA (ux (Gy) (aA (dw (fk K) (av 0) (av 4)) (aA (dw (fk K) (av 0) (dw (ik) (av 4) (tC (.int 1)))) (bj)))) (aA (ux (J5) (aA (dw (fk K) (av 0) (av 4)) (aA (dw (fk K) (av 0) (dw (ik) (av 4) (tC (.int 1)))) (bj)))) (bj)))) (av 1)))
   (fu (tC (.bl false)))
   (gL))
def qy (K:aa) (C:af) (bU:Sp):TS :=
  bX (jZ (JR (sH (mv K (de bU [] E0 (aA (av 0) (bj))))) (JR (fI (dw (se K) (ux (xA K) (aA (av 0) (bj))) (tC (.int 0)))) (JR (fI (dw (Af K) (dw (fk K) (av 0) (tC (.int 0))) (av 2))) (JR (fI (dw (Af K) (dw (fk K) (av 0) (RX (rU λi=>.int (-i)) (tC (.int 1)))) (av 3))) (fI (dw (Af K) (Em K (aA (av 0) (bj))) (ux (xA K) (aA (av 0) (bj)))))))))
   (fu (tC (.bl false)))
   (gL))
  (bX (uR K C bU)
  (fu (tC (.bl true))))
theorem G4 (Fu:Fun K "_law_way" "_law_way" rB f fd) (T:nr K mg C A) {bU:Sp}(gX:j3 P w K mg base bW 2 "_law_places" ["_law_found"] bU)
      (len:∀ vs H Q E,sp vs H Q E->vs.length=4) (run:∀ vs H Q E,sp vs H Q E->qy K C bU { nx:=λ_ H'=>Q .non H',rt:=Q } (start ["_law_way_here","_law_wood","_law_a","_law_b","_law_k"] vs) H):FnOk P w K mg base bW 3 f fd ["_law_way_here","_law_wood","_law_a","_law_b"] sp :=
    Fu.ok AF len λcdv A0 outer s H vs Q E hr h=>⟨_,(show PSs (eW bW P w K mg base ["_law_way_here","_law_wood","_law_a","_law_b","_law_k"] "_law_way" (aE rB) f cdv A0 outer s H E).nox (bq rB) (qy K C bU) from
  aF (gS (PW.pt (sU (mf (gO (oN gX (hr.mono (by decide)) rfl bN (ah (pv 0) (aH))) (λ_=>rfl))) (sU (cU (lJ hr.units) (cX (jD) rfl T.b_len BootT.len (ah (pv 0) (aH))) (a7) (fe _)) (sU (cU (tm hr.units) (df (fT hr.units) (pv 0) (a7) (λ_ _=>rfl)) (pv 2) (fe _)) (sU (cU (tm hr.units) (df (fT hr.units) (pv 0) (JT DX (a7)) (λ_ _=>rfl)) (pv 3) (fe _)) (xl (cU (tm hr.units) (Li rfl rfl T.b_len rfl T.b_set hr.units (ah (pv 0) (aH))) (cX (jD) rfl T.b_len BootT.len (ah (pv 0) (aH))) (fe _))))))))
   (aO (cj (md)))
   (dF))
  (aF (mh cO rfl (qT rfl T.b_range (ah (c5 (Mo) (cX (jD) rfl T.b_len BootT.len (ah (pv 0) (aH))) (a7)) (aH))) (cz (i:=4) AF.nd rfl (Or.inl rfl))
   (aO (gS (cU (qX hr.units) (mj (ah (cX (t7 rfl) rfl T.b_min BootT.min (ah (df (fT hr.units) (pv 0) (pv 4) (λ_ _=>rfl)) (ah (df (fT hr.units) (pv 0) (c5 (eK) (pv 4) (a7)) (λ_ _=>rfl)) (aH)))) (ah (cX (xp rfl) rfl T.b_max BootT.max (ah (df (fT hr.units) (pv 0) (pv 4) (λ_ _=>rfl)) (ah (df (fT hr.units) (pv 0) (c5 (eK) (pv 4) (a7)) (λ_ _=>rfl)) (aH)))) (aH)))) (pv 1) (by with_unfolding_all rfl))
   (aO (cj (md)))
   (dF))))
  (aO (cj (md))))),run vs H Q E h⟩
def tH (K:aa) (C:af) (bU:Sp):TS :=
  uv (SS (av 1)) (DV K 2 (kU (bI 3) (kU (bI 4) (Ge))))
   (jZ (fI (dw (Af K) (dw (u6 K false) (av 3) (av 0)) (dw (u6 K false) (av 4) (av 0))))
   (fu (tC (.bl false)))
   (gL))
def pb (K:aa) (C:af) (bU:Sp):TS :=
  bX (jZ (JR (sH (mv K (de bU [] E0 (aA (av 0) (bj))))) (JR (fI (dw (Af K) (av 0) (vV K (aA (av 0) (bj))))) (fI (dw (u6 K true) (av 2) (av 0)))))
   (fu (tC (.bl false)))
   (gL))
  (bX (tH K C bU)
  (fu (tC (.bl true))))
theorem Ew (Fu:Fun K "_law_side" "_law_side" pT f fd) (T:nr K mg C A) {bU:Sp}(gX:j3 P w K mg base bW 2 "_law_places" ["_law_found"] bU)
      (len:∀ vs H Q E,sp vs H Q E->vs.length=3) (run:∀ vs H Q E,sp vs H Q E->pb K C bU { nx:=λ_ H'=>Q .non H',rt:=Q } (start ["_law_side_here","_law_ties","_law_a","_law_one","_law_other"] vs) H):FnOk P w K mg base bW 3 f fd ["_law_side_here","_law_ties","_law_a"] sp :=
    Fu.ok tF len λcdv A0 outer s H vs Q E hr h=>⟨_,(show PSs (eW bW P w K mg base ["_law_side_here","_law_ties","_law_a","_law_one","_law_other"] "_law_side" (aE pT) f cdv A0 outer s H E).nox (bq pT) (pb K C bU) from
  aF (gS (PW.pt (sU (mf (gO (oN gX (hr.mono (by decide)) rfl bN (ah (pv 0) (aH))) (λ_=>rfl))) (sU (cU (tm hr.units) (pv 0) (As rfl rfl T.b_sorted rfl T.b_set (ah (pv 0) (aH))) (fe _)) (xl (cU (qX hr.units) (pv 2) (pv 0) (by with_unfolding_all rfl))))))
   (aO (cj (md)))
   (dF))
  (aF (mh cO rfl (M1 (pv 1)) (xm rfl (eY (cz (i:=3) tF.nd rfl (Or.inl rfl)) (eY (cz (i:=4) tF.nd rfl (Or.inl rfl)) (tY))))
   (aO (gS (cU (tm hr.units) (vH (xy hr.units) (pv 3) (pv 0) (by with_unfolding_all rfl)) (vH (xy hr.units) (pv 4) (pv 0) (by with_unfolding_all rfl)) (fe _))
   (aO (cj (md)))
   (dF))))
  (aO (cj (md))))),run vs H Q E h⟩
def sx (K:aa) (C:af) (A:CA) (bR eL eC fA fB eM:Sp):TS :=
  uv (sf K (av 4)) (bI 5)
   (jZ (fI (dw (u6 K true) (av 5) (av 1)))
   (fu (tC (.bl false)))
   (gL))
def nW (K:aa) (C:af) (A:CA) (bR eL eC fA fB eM:Sp):TS :=
  bX (eF (oS 1 [] (sf K (eP A.Keeper "ties" fA [] E0 (av 0) bj)) (bI 0) (mv K (dw (fk K) (av 0) (tC (.int 3)))) (Io (QJ K) (av 0) (kB) (om (tC (.int 2))))) (bI 4))
  (bX (sx K C A bR eL eC fA fB eM)
  (bX (eF (eP A.Keeper "joined" bR [] E0 (av 0) (aA (av 2) (aA (av 3) (bj)))) (bI 6))
  (bX (eF (eP A.Keeper "way" eL [] E0 (av 0) (aA (av 2) (aA (av 3) (bj)))) (bI 7))
  (bX (eF (eP A.Keeper "side" eC [] E0 (av 0) (aA (av 2) (bj))) (bI 8))
  (bX (jZ (JR (sH (mv K (ux (Gx K) (aA (av 6) (aA (tC (.ty "bool")) (bj)))))) (JR (sH (mv K (de fB [] E0 (aA (av 8) (aA (av 1) (aA (av 2) (bj))))))) (fI (dw (Af K) (dw (u6 K false) (av 3) (av 8)) (av 6)))))
   (fu (tC (.bl false)))
   (gL))
  (bX (jZ (JR (yF (mv K (av 6)) (sH (mv K (de eM [] E0 (aA (av 7) (aA (av 4) (aA (av 2) (aA (av 3) (bj))))))))) (yF (sH (mv K (av 6))) (tB (Dg (av 7)))))
   (fu (tC (.bl false)))
   (gL))
  (bX (eF (ux (PZ K) (aA (av 8) (bj))) (bI 9))
  (bX (fY (D6 K "list" mq (av 8) (aA (av 2) (bj))))
  (bX (eF (av 3) (BI (av 8) (tC (.int 0)) uQ))
  (bX (jZ (mv K (av 6))
   (bX (fY (D6 K "list" mq (av 7) (aA (av 2) (bj))))
  (eF (av 3) (BI (av 7) (tC (.int 0)) uQ)))
   (gL))
  (bX (eF (eP A.Keeper "way" eL [] E0 (av 0) (aA (av 2) (aA (av 3) (bj)))) (bI 10))
  (bX (jZ (JR (yF (mv K (av 6)) (sH (mv K (de eM [] E0 (aA (av 10) (aA (av 4) (aA (av 2) (aA (av 3) (bj))))))))) (yF (sH (mv K (av 6))) (tB (Dg (av 10)))))
   (fu (tC (.bl false)))
   (gL))
  (fu (dw (se K) (eP A.Keeper "side" eC [] E0 (av 0) (aA (av 2) (bj))) (av 9)))))))))))))))
theorem BY (Fu:Fun K "_law_asked" "_law_asked" ow f fd) (T:nr K mg C A) {bR:Sp}(gY:fO P w K mg base bW 6 A.Keeper "joined" ["self","a","b"] bR) {eL:Sp}(nI:fO P w K mg base bW 7 A.Keeper "way" ["self","a","b"] eL) {eC:Sp}(lU:fO P w K mg base bW 5 A.Keeper "side" ["self","a"] eC) {fA:Sp}(oI:fO P w K mg base bW 2 A.Keeper "ties" ["self"] fA) {fB:Sp}(oJ:j3 P w K mg base bW 3 "_law_side" ["_law_side_here","_law_ties","_law_a"] fB) {eM:Sp}(nJ:j3 P w K mg base bW 3 "_law_way" ["_law_way_here","_law_wood","_law_a","_law_b"] eM)
      (len:∀ vs H Q E,sp vs H Q E->vs.length=4) (run:∀ vs H Q E,sp vs H Q E->nW K C A bR eL eC fA fB eM { nx:=λ_ H'=>Q .non H',rt:=Q } (start ["_law_keeper","_law_standing","_law_a","_law_b","_law_wood","_law_tie","_law_joined","_law_way_here","_law_side_here","_law_kept","_law_again"] vs) H):FnOk P w K mg base bW 8 f fd ["_law_keeper","_law_standing","_law_a","_law_b"] sp :=
    Fu.ok iD len λcdv A0 outer s H vs Q E hr h=>⟨_,(show PSs (eW bW P w K mg base ["_law_keeper","_law_standing","_law_a","_law_b","_law_wood","_law_tie","_law_joined","_law_way_here","_law_side_here","_law_kept","_law_again"] "_law_asked" (aE ow) f cdv A0 outer s H E).nox (bq ow) (nW K C A bR eL eC fA fB eM) from
  aF (zD (i:=4) ["_law_row"] (ys:=[]) [] rfl iD.nd rfl rfl (ka (Uu oI T.cl_Keeper (hr.mono (by decide)) (pv 0) bN)) trivial (λ_ _ _=>cz (i:=0) (show (["_law_row"]:List bA).Nodup by decide +kernel) rfl (Or.inl rfl)) (λ_ _ _=>qW (gO (df (fT hr.units) (pv 0) (a7) (λ_ _=>rfl)) (λ_=>rfl))) (λ_ _ _=>iY My (pv 0) (ml) (jj (a7))))
  (aF (mh cO rfl (ka (pv 4)) (cz (i:=5) iD.nd rfl (Or.inl rfl))
   (aO (gS (cU (qX hr.units) (pv 5) (pv 1) (by with_unfolding_all rfl))
   (aO (cj (md)))
   (dF))))
  (aF (cC (i:=6) iD.nd rfl (Or.inl rfl) (sI gY T.cl_Keeper (hr.mono (by decide)) (pv 0) bN (ah (pv 2) (ah (pv 3) (aH)))))
  (aF (cC (i:=7) iD.nd rfl (Or.inl rfl) (sI nI T.cl_Keeper (hr.mono (by decide)) (pv 0) bN (ah (pv 2) (ah (pv 3) (aH)))))
  (aF (cC (i:=8) iD.nd rfl (Or.inl rfl) (sI lU T.cl_Keeper (hr.mono (by decide)) (pv 0) bN (ah (pv 2) (aH))))
  (aF (gS (PW.pt (sU (mf (gO (cX (qY) rfl T.b_isinstance BootT.nF (ah (pv 6) (ah (tX rfl T.b_bool BootT.bool rfl) (aH)))) (λ_=>rfl))) (sU (mf (gO (oN oJ (hr.mono (by decide)) rfl bN (ah (pv 8) (ah (pv 1) (ah (pv 2) (aH))))) (λ_=>rfl))) (xl (cU (tm hr.units) (vH (xy hr.units) (pv 3) (pv 8) (by with_unfolding_all rfl)) (pv 6) (fe _))))))
   (aO (cj (md)))
   (dF))
  (aF (gS (PW.pt (sU (PW.pt (sT (gO (pv 6) (λ_=>rfl)) (qo (mf (gO (oN nJ (hr.mono (by decide)) rfl bN (ah (pv 7) (ah (pv 4) (ah (pv 2) (ah (pv 3) (aH)))))) (λ_=>rfl)))))) (xl (PW.pt (sT (mf (gO (pv 6) (λ_=>rfl))) (qo (DS (DR (pv 7)))))))))
   (aO (cj (md)))
   (dF))
  (aF (cC (i:=9) iD.nd rfl (Or.inl rfl) (KQ (D5) rfl T.b_list BootT.list (ah (pv 8) (aH))))
  (aF (c8 (oo bS dJ dM kC (pv 8) (ah (pv 2) (aH))))
  (aF (r9 (pv 3) (sX (pv 8) (a7) (yr hr.units)))
  (aF (gS (gO (pv 6) (λ_=>rfl))
   (aF (c8 (oo bS dJ dM kC (pv 7) (ah (pv 2) (aH))))
  (aO (r9 (pv 3) (sX (pv 7) (a7) (yr hr.units)))))
   (dF))
  (aF (cC (i:=10) iD.nd rfl (Or.inl rfl) (sI nI T.cl_Keeper (hr.mono (by decide)) (pv 0) bN (ah (pv 2) (ah (pv 3) (aH)))))
  (aF (gS (PW.pt (sU (PW.pt (sT (gO (pv 6) (λ_=>rfl)) (qo (mf (gO (oN nJ (hr.mono (by decide)) rfl bN (ah (pv 10) (ah (pv 4) (ah (pv 2) (ah (pv 3) (aH)))))) (λ_=>rfl)))))) (xl (PW.pt (sT (mf (gO (pv 6) (λ_=>rfl))) (qo (DS (DR (pv 10)))))))))
   (aO (cj (md)))
   (dF))
  (aO (cj (vH (lJ hr.units) (sI lU T.cl_Keeper (hr.mono (by decide)) (pv 0) bN (ah (pv 2) (aH))) (pv 9) (fe _))))))))))))))))),run vs H Q E h⟩
def rH (K:aa) (C:af):TS :=
  uv (zW (aA (av 2) (bj))) (bI 4)
   (bX (fY (D6 K "list" mq (av 3) (aA (dw (rI (λ_ j=>0<j) λi j=>.int (i%j)) (av 0) (av 1)) (bj))))
  (eF (dw (rI yG λi j=>.int (i/j)) (av 0) (av 1)) (bI 0)))
def mR (K:aa) (C:af):TS :=
 bX (eF (BJ (bj)) (bI 3))
 (bX (rH K C)
 (fu (av 3)))
theorem AM (Fu:Fun K "_law_digits" "_law_digits" mF f fd) (T:nr K mg C A)
      (len:∀ vs H Q E,sp vs H Q E->vs.length=3) (run:∀ vs H Q E,sp vs H Q E->mR K C { nx:=λ_ H'=>Q .non H',rt:=Q } (start ["_law_cell","_law_base","_law_many","_law_row","_law_k"] vs) H):FnOk P w K mg base bW 1 f fd ["_law_cell","_law_base","_law_many"] sp :=
    Fu.ok nU len λcdv A0 outer s H vs Q E hr h=>⟨_,(show PSs (eW bW P w K mg base ["_law_cell","_law_base","_law_many","_law_row","_law_k"] "_law_digits" (aE mF) f cdv A0 outer s H E).nox (bq mF) (mR K C) from
  aF (cC (i:=3) nU.nd rfl (Or.inl rfl) (sY (aH)))
  (aF (mh cO rfl (qT rfl T.b_range (ah (pv 2) (aH))) (cz (i:=4) nU.nd rfl (Or.inl rfl))
   (aF (c8 (oo bS dJ dM kC (pv 3) (ah (c5 (kX) (pv 0) (pv 1)) (aH))))
  (aO (cC (i:=0) nU.nd rfl (Or.inl rfl) (c5 (mi) (pv 0) (pv 1))))))
  (aO (cj (pv 3))))),run vs H Q E h⟩
def oV (K:aa) (C:af) (dh bB:Sp):TS :=
  uv (zW (aA (ux (xA K) (aA (av 2) (bj))) (bj))) (bI 5)
   (fY (D6 K "list" mq (av 4) (aA (uw (aA (dw (rI yG λi j=>.int (i/j)) (dw (fk K) (av 2) (av 5)) (av 1)) (aA (dw (rI (λ_ j=>0<j) λi j=>.int (i%j)) (dw (fk K) (av 2) (av 5)) (av 1)) (aA (dw (rI yG λi j=>.int (i/j)) (dw (fk K) (av 3) (av 5)) (av 1)) (aA (dw (rI (λ_ j=>0<j) λi j=>.int (i%j)) (dw (fk K) (av 3) (av 5)) (av 1)) (bj)))))) (bj))))
def jU (K:aa) (C:af) (dh bB:Sp):TS :=
 bX (eF (de dh [] E0 (aA (de bB [] E0 (aA (av 0) (aA (tC (.int 1)) (bj)))) (aA (dw (rI CMul λi j=>.int (i*j)) (av 1) (av 1)) (aA (dw (rI (λ_ j=>0<j) λi j=>.int (i%j)) (de bB [] E0 (aA (av 0) (aA (tC (.int 2)) (bj)))) (tC (.int 41))) (bj))))) (bI 2))
 (bX (eF (de dh [] E0 (aA (de bB [] E0 (aA (av 0) (aA (tC (.int 3)) (bj)))) (aA (dw (rI CMul λi j=>.int (i*j)) (av 1) (av 1)) (aA (tC (.int 41)) (bj))))) (bI 3))
 (bX (eF (BJ (bj)) (bI 4))
 (bX (oV K C dh bB)
 (fu (av 4)))))
theorem wk (Fu:Fun K "_law_by_digits" "_law_by_digits" jx f fd) (T:nr K mg C A) {dh:Sp}(jG:j3 P w K mg base bW 1 "_law_digits" ["_law_cell","_law_base","_law_many"] dh) {bB:Sp}(dW:j3 P w K mg base bW 1 "_law_cell_at" ["_law_script","_law_k"] bB)
      (len:∀ vs H Q E,sp vs H Q E->vs.length=2) (run:∀ vs H Q E,sp vs H Q E->jU K C dh bB { nx:=λ_ H'=>Q .non H',rt:=Q } (start ["_law_script","_law_n","_law_deeds","_law_questions","_law_rows","_law_k"] vs) H):FnOk P w K mg base bW 2 f fd ["_law_script","_law_n"] sp :=
    Fu.ok i6 len λcdv A0 outer s H vs Q E hr h=>⟨_,(show PSs (eW bW P w K mg base ["_law_script","_law_n","_law_deeds","_law_questions","_law_rows","_law_k"] "_law_by_digits" (aE jx) f cdv A0 outer s H E).nox (bq jx) (jU K C dh bB) from
  aF (cC (i:=2) i6.nd rfl (Or.inl rfl) (oN jG (hr.mono (by decide)) rfl bN (ah (oN dW (hr.mono (by decide)) rfl bN (ah (pv 0) (ah (a7) (aH)))) (ah (c5 (Ic) (pv 1) (pv 1)) (ah (c5 (kX) (oN dW (hr.mono (by decide)) rfl bN (ah (pv 0) (ah (a7) (aH)))) (a7)) (aH))))))
  (aF (cC (i:=3) i6.nd rfl (Or.inl rfl) (oN jG (hr.mono (by decide)) rfl bN (ah (oN dW (hr.mono (by decide)) rfl bN (ah (pv 0) (ah (a7) (aH)))) (ah (c5 (Ic) (pv 1) (pv 1)) (ah (a7) (aH))))))
  (aF (cC (i:=4) i6.nd rfl (Or.inl rfl) (sY (aH)))
  (aF (mh cO rfl (qT rfl T.b_range (ah (cX (jD) rfl T.b_len BootT.len (ah (pv 2) (aH))) (aH))) (cz (i:=5) i6.nd rfl (Or.inl rfl))
   (aO (c8 (oo bS dJ dM kC (pv 4) (ah (mj (ah (c5 (mi) (df (fT hr.units) (pv 2) (pv 5) (λ_ _=>rfl)) (pv 1)) (ah (c5 (kX) (df (fT hr.units) (pv 2) (pv 5) (λ_ _=>rfl)) (pv 1)) (ah (c5 (mi) (df (fT hr.units) (pv 3) (pv 5) (λ_ _=>rfl)) (pv 1)) (ah (c5 (kX) (df (fT hr.units) (pv 3) (pv 5) (λ_ _=>rfl)) (pv 1)) (aH)))))) (aH))))))
  (aO (cj (pv 4))))))),run vs H Q E h⟩
def sA (K:aa) (C:af):TS :=
  uv (Mm (aA (tC (.int 1)) (aA (ux (Gy) (aA (tC (.int 41)) (aA (ux (xA K) (aA (av 0) (bj))) (bj)))) (bj)))) (bI 3)
   (bX (eF (dw (fk K) (av 0) (av 3)) (bI 4))
  (bX (eF (dw (rI (λ_ j=>0<j) λi j=>.int (i%j)) (dw (rI yG λi j=>.int (i/j)) (av 4) (tC (.int 4))) (av 1)) (bI 5))
  (bX (eF (dw (rI (λ_ j=>0<j) λi j=>.int (i%j)) (dw (ik) (dw (ik) (av 5) (tC (.int 1))) (dw (rI (λ_ j=>0<j) λi j=>.int (i%j)) (dw (ik) (dw (rI yG λi j=>.int (i/j)) (dw (rI yG λi j=>.int (i/j)) (av 4) (tC (.int 4))) (av 1)) (av 3)) (tC (.int 3)))) (av 1)) (bI 6))
  (bX (jZ (fI (dw (se K) (dw (rI (λ_ j=>0<j) λi j=>.int (i%j)) (av 4) (tC (.int 4))) (tC (.int 2))))
   (eF (dw (rI (λ_ j=>0<j) λi j=>.int (i%j)) (dw (rI yG λi j=>.int (i/j)) (av 4) (tC (.int 8))) (av 1)) (bI 6))
   (gL))
  (bX (jZ (yF (fI (dw (se K) (dw (rI (λ_ j=>0<j) λi j=>.int (i%j)) (av 4) (tC (.int 4))) (tC (.int 3)))) (fI (dw (Af K) (av 2) (BJ (bj)))))
   (eF (Io (QJ K) (dw (fk K) (av 2) (RX (rU λi=>.int (-i)) (tC (.int 1)))) (kB) (om (tC (.int 2)))) (DV K 2 (kU (bI 5) (kU (bI 6) (Ge)))))
   (gL))
  (bX (eF (dw (rI (λ_ j=>0<j) λi j=>.int (i%j)) (dw (ik) (dw (rI yG λi j=>.int (i/j)) (av 4) (tC (.int 5))) (av 3)) (av 1)) (bI 7))
  (bX (eF (dw (rI (λ_ j=>0<j) λi j=>.int (i%j)) (dw (ik) (dw (ik) (dw (rI yG λi j=>.int (i/j)) (av 4) (tC (.int 3))) (dw (rI CMul λi j=>.int (i*j)) (tC (.int 2)) (av 3))) (tC (.int 1))) (av 1)) (bI 8))
  (bX (jZ (fI (dw (se K) (dw (rI (λ_ j=>0<j) λi j=>.int (i%j)) (av 4) (tC (.int 5))) (tC (.int 1))))
   (eF (av 7) (bI 8))
   (gL))
  (fY (D6 K "list" mq (av 2) (aA (uw (aA (av 5) (aA (av 6) (aA (av 7) (aA (av 8) (bj)))))) (bj))))))))))))
def nX (K:aa) (C:af):TS :=
 bX (eF (BJ (bj)) (bI 2))
 (bX (sA K C)
 (fu (av 2)))
theorem BZ (Fu:Fun K "_law_drawn" "_law_drawn" oz f fd) (T:nr K mg C A)
      (len:∀ vs H Q E,sp vs H Q E->vs.length=2) (run:∀ vs H Q E,sp vs H Q E->nX K C { nx:=λ_ H'=>Q .non H',rt:=Q } (start ["_law_script","_law_n","_law_rows","_law_k","_law_cell","_law_a","_law_b","_law_one","_law_two"] vs) H):FnOk P w K mg base bW 1 f fd ["_law_script","_law_n"] sp :=
    Fu.ok eT len λcdv A0 outer s H vs Q E hr h=>⟨_,(show PSs (eW bW P w K mg base ["_law_script","_law_n","_law_rows","_law_k","_law_cell","_law_a","_law_b","_law_one","_law_two"] "_law_drawn" (aE oz) f cdv A0 outer s H E).nox (bq oz) (nX K C) from
  aF (cC (i:=2) eT.nd rfl (Or.inl rfl) (sY (aH)))
  (aF (mh cO rfl (KH rfl T.b_range (ah (a7) (ah (cX (t7 rfl) rfl T.b_min BootT.min (ah (a7) (ah (cX (jD) rfl T.b_len BootT.len (ah (pv 0) (aH))) (aH)))) (aH)))) (cz (i:=3) eT.nd rfl (Or.inl rfl))
   (aF (cC (i:=4) eT.nd rfl (Or.inl rfl) (df (fT hr.units) (pv 0) (pv 3) (λ_ _=>rfl)))
  (aF (cC (i:=5) eT.nd rfl (Or.inl rfl) (c5 (kX) (c5 (mi) (pv 4) (a7)) (pv 1)))
  (aF (cC (i:=6) eT.nd rfl (Or.inl rfl) (c5 (kX) (c5 (eK) (c5 (eK) (pv 5) (a7)) (c5 (kX) (c5 (eK) (c5 (mi) (c5 (mi) (pv 4) (a7)) (pv 1)) (pv 3)) (a7))) (pv 1)))
  (aF (gS (cU (lJ hr.units) (c5 (kX) (pv 4) (a7)) (a7) (fe _))
   (aO (cC (i:=6) eT.nd rfl (Or.inl rfl) (c5 (kX) (c5 (mi) (pv 4) (a7)) (pv 1))))
   (dF))
  (aF (gS (PW.pt (sT (cU (lJ hr.units) (c5 (kX) (pv 4) (a7)) (a7) (fe _)) (qo (cU (tm hr.units) (pv 2) (sY (aH)) (fe _)))))
   (aO (r9 (iY My (df (fT hr.units) (pv 2) (JT DX (a7)) (λ_ _=>rfl)) (ml) (jj (a7))) (xm rfl (eY (cz (i:=5) eT.nd rfl (Or.inl rfl)) (eY (cz (i:=6) eT.nd rfl (Or.inl rfl)) (tY))))))
   (dF))
  (aF (cC (i:=7) eT.nd rfl (Or.inl rfl) (c5 (kX) (c5 (eK) (c5 (mi) (pv 4) (a7)) (pv 3)) (pv 1)))
  (aF (cC (i:=8) eT.nd rfl (Or.inl rfl) (c5 (kX) (c5 (eK) (c5 (eK) (c5 (mi) (pv 4) (a7)) (c5 (Ic) (a7) (pv 3))) (a7)) (pv 1)))
  (aF (gS (cU (lJ hr.units) (c5 (kX) (pv 4) (a7)) (a7) (fe _))
   (aO (cC (i:=8) eT.nd rfl (Or.inl rfl) (pv 7)))
   (dF))
  (aO (c8 (oo bS dJ dM kC (pv 2) (ah (mj (ah (pv 5) (ah (pv 6) (ah (pv 7) (ah (pv 8) (aH)))))) (aH))))))))))))))
  (aO (cj (pv 2))))),run vs H Q E h⟩
def AN (K:aa) (C:af) (A:CA) (dZ cK bB cN e9 dm dr bR:Sp):TS :=
  uv (sf K (av 3)) (DV K 4 (kU (bI 7) (kU (bI 8) (kU (bI 9) (kU (bI 10) (Ge))))))
   (bX (eF (uw (aA (ux (Gy) (aA (av 7) (aA (av 8) (bj)))) (aA (ux (J5) (aA (av 7) (aA (av 8) (bj)))) (bj)))) (bI 11))
  (bX (jZ (fI (dw (u6 K false) (av 11) (av 6)))
   (bX (fY (D6 K "dict" GJ (av 6) (aA (av 11) (bj))))
  (fY (eP A.Keeper "out" e9 [] E0 (av 4) (aA (av 7) (aA (av 8) (bj))))))
   (jZ (fI (dw (Af K) (av 7) (av 8)))
   (bX (eF (tC (.bl true)) (BI (av 6) (av 11) uQ))
  (bX (fY (eP A.Keeper "put" dm [] E0 (av 4) (aA (av 7) (aA (av 8) (bj)))))
  (jZ (yF (fI (dw (se K) (dw (rI (λ_ j=>0<j) λi j=>.int (i%j)) (dw (ik) (av 7) (av 9)) (tC (.int 3))) (tC (.int 0)))) (tB (Rr false (eP A.Keeper "joined" bR [] E0 (av 5) (aA (av 7) (aA (av 8) (bj)))))))
   (fY (eP A.Keeper "put" dm [] E0 (av 5) (aA (av 8) (aA (av 7) (bj)))))
   (gL))))
   (gL)))
  (jZ (JR (sH (mv K (de dr [] E0 (aA (av 4) (aA (av 6) (aA (av 9) (aA (av 10) (bj)))))))) (sH (mv K (de dr [] E0 (aA (av 4) (aA (av 6) (aA (av 7) (aA (av 8) (bj)))))))))
   (fu (tC (.bl false)))
   (gL))))
def Ex (K:aa) (C:af) (A:CA) (dZ cK bB cN e9 dm dr bR:Sp):TS :=
  bX (eF (dw (rI yG λi j=>.int (i/j)) (de bB [] E0 (aA (av 0) (aA (tC (.int 0)) (bj)))) (tC (.int 2))) (bI 1))
  (bX (eF (dw (ik) (tC (.int 1)) (dw (rI (λ_ j=>0<j) λi j=>.int (i%j)) (av 1) (tC (.int 24)))) (bI 2))
  (bX (eF (de dZ [] E0 (aA (av 0) (aA (av 2) (bj)))) (bI 3))
  (bX (jZ (fI (dw (se K) (dw (rI (λ_ j=>0<j) λi j=>.int (i%j)) (de bB [] E0 (aA (av 0) (aA (tC (.int 0)) (bj)))) (tC (.int 2))) (tC (.int 0))))
   (eF (de cN [] E0 (aA (av 0) (aA (av 2) (bj)))) (bI 3))
   (gL))
  (bX (eF (Di A.Keeper cK [] E0 (aA (av 2) (bj))) (bI 4))
  (bX (eF (Di A.Keeper cK [] E0 (aA (av 2) (bj))) (bI 5))
  (bX (eF (xu) (bI 6))
  (bX (AN K C A dZ cK bB cN e9 dm dr bR)
  (fu (tC (.bl true))))))))))
theorem Ry (Fu:Fun K "law" "law" Np f fd) (T:nr K mg C A) {dZ:Sp}(mS:j3 P w K mg base bW 1 "_law_drawn" ["_law_script","_law_n"] dZ) {cK:Sp}(d0:Ld P w K mg base bW 5 A.Keeper ["self","n"] cK) {bB:Sp}(dW:j3 P w K mg base bW 1 "_law_cell_at" ["_law_script","_law_k"] bB) {cN:Sp}(i7:j3 P w K mg base bW 2 "_law_by_digits" ["_law_script","_law_n"] cN) {e9:Sp}(qa:fO P w K mg base bW 10 A.Keeper "out" ["self","a","b"] e9) {dm:Sp}(kE:fO P w K mg base bW 10 A.Keeper "put" ["self","a","b"] dm) {dr:Sp}(kF:j3 P w K mg base bW 8 "_law_asked" ["_law_keeper","_law_standing","_law_a","_law_b"] dr) {bR:Sp}(gY:fO P w K mg base bW 6 A.Keeper "joined" ["self","a","b"] bR)
      (len:∀ vs H Q E,sp vs H Q E->vs.length=1) (run:∀ vs H Q E,sp vs H Q E->Ex K C A dZ cK bB cN e9 dm dr bR { nx:=λ_ H'=>Q .non H',rt:=Q } (start ["_law_script","_law_head","_law_n","_law_rows","_law_keeper","_law_other","_law_standing","_law_a","_law_b","_law_one","_law_two","_law_tie"] vs) H):FnOk P w K mg base bW 11 f fd ["_law_script"] sp :=
    Fu.ok rG len λcdv A0 outer s H vs Q E hr h=>⟨_,(show PSs (eW bW P w K mg base ["_law_script","_law_head","_law_n","_law_rows","_law_keeper","_law_other","_law_standing","_law_a","_law_b","_law_one","_law_two","_law_tie"] "law" (aE Np) f cdv A0 outer s H E).nox (bq Np) (Ex K C A dZ cK bB cN e9 dm dr bR) from
  aF (cC (i:=1) rG.nd rfl (Or.inl rfl) (c5 (mi) (oN dW (hr.mono (by decide)) rfl bN (ah (pv 0) (ah (a7) (aH)))) (a7)))
  (aF (cC (i:=2) rG.nd rfl (Or.inl rfl) (c5 (eK) (a7) (c5 (kX) (pv 1) (a7))))
  (aF (cC (i:=3) rG.nd rfl (Or.inl rfl) (oN mS (hr.mono (by decide)) rfl bN (ah (pv 0) (ah (pv 2) (aH)))))
  (aF (gS (cU (lJ hr.units) (c5 (kX) (oN dW (hr.mono (by decide)) rfl bN (ah (pv 0) (ah (a7) (aH)))) (a7)) (a7) (fe _))
   (aO (cC (i:=3) rG.nd rfl (Or.inl rfl) (oN i7 (hr.mono (by decide)) rfl bN (ah (pv 0) (ah (pv 2) (aH))))))
   (dF))
  (aF (cC (i:=4) rG.nd rfl (Or.inl rfl) (zC d0.m d0.G (hr.mono (by decide)) rfl T.mg_Keeper d0.b .nil bN (ah (pv 2) (aH))))
  (aF (cC (i:=5) rG.nd rfl (Or.inl rfl) (zC d0.m d0.G (hr.mono (by decide)) rfl T.mg_Keeper d0.b .nil bN (ah (pv 2) (aH))))
  (aF (cC (i:=6) rG.nd rfl (Or.inl rfl) (vL))
  (aF (mh cO rfl (ka (pv 3)) (xm rfl (eY (cz (i:=7) rG.nd rfl (Or.inl rfl)) (eY (cz (i:=8) rG.nd rfl (Or.inl rfl)) (eY (cz (i:=9) rG.nd rfl (Or.inl rfl)) (eY (cz (i:=10) rG.nd rfl (Or.inl rfl)) (tY))))))
   (aF (cC (i:=11) rG.nd rfl (Or.inl rfl) (mj (ah (cX (t7 rfl) rfl T.b_min BootT.min (ah (pv 7) (ah (pv 8) (aH)))) (ah (cX (xp rfl) rfl T.b_max BootT.max (ah (pv 7) (ah (pv 8) (aH)))) (aH)))))
  (aF (gS (cU (xy hr.units) (pv 11) (pv 6) (by with_unfolding_all rfl))
   (aF (c8 (oo l9 oe og (zG hr.units) (pv 6) (ah (pv 11) (aH))))
  (aO (c8 (sI qa T.cl_Keeper (hr.mono (by decide)) (pv 4) bN (ah (pv 7) (ah (pv 8) (aH)))))))
   (aO (gS (cU (tm hr.units) (pv 7) (pv 8) (fe _))
   (aF (r9 (md) (sX (pv 6) (pv 11) (yr hr.units)))
  (aF (c8 (sI kE T.cl_Keeper (hr.mono (by decide)) (pv 4) bN (ah (pv 7) (ah (pv 8) (aH)))))
  (aO (gS (PW.pt (sT (cU (lJ hr.units) (c5 (kX) (c5 (eK) (pv 7) (pv 9)) (a7)) (a7) (fe _)) (qo (DS (Rt (sI gY T.cl_Keeper (hr.mono (by decide)) (pv 5) bN (ah (pv 7) (ah (pv 8) (aH)))))))))
   (aO (c8 (sI kE T.cl_Keeper (hr.mono (by decide)) (pv 5) bN (ah (pv 8) (ah (pv 7) (aH))))))
   (dF)))))
   (dF))))
  (aO (gS (PW.pt (sU (mf (gO (oN kF (hr.mono (by decide)) rfl bN (ah (pv 4) (ah (pv 6) (ah (pv 9) (ah (pv 10) (aH)))))) (λ_=>rfl))) (xl (mf (gO (oN kF (hr.mono (by decide)) rfl bN (ah (pv 4) (ah (pv 6) (ah (pv 7) (ah (pv 8) (aH)))))) (λ_=>rfl))))))
   (aO (cj (md)))
   (dF))))))
  (aO (cj (md))))))))))),run vs H Q E h⟩
def kH (K:aa) (C:af):TS :=
 bX (uY K (av 0) (av 1) "n")
 (uY K (av 0) (oS 1 [] (zW (aA (av 1) (bj))) (bI 0) (Ae) (BJ (aA (av 0) (bj)))) "rows")
theorem xH (Fu:Fun K "__init__" "Wood.__init__" kb f fd) (T:nr K mg C A)
   (len:∀ vs H Q E,sp vs H Q E->vs.length=2) (run:∀ vs H Q E,sp vs H Q E->kH K C { nx:=λ_ H'=>Q .non H',rt:=Q } (start ["self","n"] vs) H):FnOk P w K mg base bW 1 f fd ["self","n"] sp :=
  Fu.ok yI len λcdv A0 outer s H vs Q E hr h=>⟨_,(show PSs (eW bW P w K mg base ["self","n"] "Wood.__init__" (aE kb) f cdv A0 outer s H E).nox (bq kb) (kH K C) from
 aF (nE (pv 0) (pv 1) rfl)
 (aO (nE (pv 0) (qq ["place"] (ys:=[]) [] rfl (qT rfl T.b_range (ah (pv 1) (aH))) trivial (λ_ _ _=>cz (i:=0) (show (["place"]:List bA).Nodup by decide +kernel) rfl (Or.inl rfl)) (λ_ _ _=>qV) (λ_ _ _=>sY (ah (pv 0) (aH)))) rfl))),run vs H Q E h⟩
def tI (K:aa) (C:af):TS :=
  uv (sf K (av 1)) (bI 2)
   (eF (av 1) (BI (fj K (av 0) "rows") (av 2) uQ))
def pd (K:aa) (C:af):TS :=
 tI K C
theorem Ey (Fu:Fun K "keep" "Wood.keep" pU f fd) (T:nr K mg C A)
      (len:∀ vs H Q E,sp vs H Q E->vs.length=2) (run:∀ vs H Q E,sp vs H Q E->pd K C { nx:=λ_ H'=>Q .non H',rt:=Q } (start ["self","row","place"] vs) H):FnOk P w K mg base bW 1 f fd ["self","row"] sp :=
    Fu.ok yz len λcdv A0 outer s H vs Q E hr h=>⟨_,(show PSs (eW bW P w K mg base ["self","row","place"] "Wood.keep" (aE pU) f cdv A0 outer s H E).nox (bq pU) (pd K C) from
  aO (mh cO rfl (ka (pv 1)) (cz (i:=2) yz.nd rfl (Or.inl rfl))
   (aO (r9 (pv 1) (sX (cc (pv 0) rfl) (pv 2) (yr hr.units)))))),run vs H Q E h⟩
def pe (K:aa) (C:af) (aQ a8 cF iJ:Sp):TS :=
  bX (fY (de aQ [] E0 (aA (fj K (av 0) "n") (aA (av 1) (aA (av 2) (bj))))))
  (bX (jZ (mv K (eP C "joined" a8 [] E0 (av 0) (aA (av 1) (aA (av 2) (bj)))))
   (sW)
   (gL))
  (fY (eP C "keep" cF [] E0 (av 0) (aA (de iJ [] E0 (aA (dw (fk K) (fj K (av 0) "rows") (av 1)) (aA (dw (fk K) (fj K (av 0) "rows") (av 2)) (aA (av 1) (aA (av 2) (bj)))))) (bj)))))
theorem Ez (Fu:Fun K "link" "Wood.link" pV f fd) (T:nr K mg C A) {aQ:Sp}(cA:j3 P w K mg base bW 5 "refuse_no_pair" ["n","a","b"] aQ) {a8:Sp}(dt:fO P w K mg base bW 5 C "joined" ["self","a","b"] a8) {cF:Sp}(jf:fO P w K mg base bW 1 C "keep" ["self","row"] cF) {iJ:Sp}(rJ:j3 P w K mg base bW 2 "spliced" ["row","other","a","b"] iJ)
      (len:∀ vs H Q E,sp vs H Q E->vs.length=3) (run:∀ vs H Q E,sp vs H Q E->pe K C aQ a8 cF iJ { nx:=λ_ H'=>Q .non H',rt:=Q } (start ["self","a","b"] vs) H):FnOk P w K mg base bW 6 f fd ["self","a","b"] sp :=
    Fu.ok GU len λcdv A0 outer s H vs Q E hr h=>⟨_,(show PSs (eW bW P w K mg base ["self","a","b"] "Wood.link" (aE pV) f cdv A0 outer s H E).nox (bq pV) (pe K C aQ a8 cF iJ) from
  aF (c8 (oN cA (hr.mono (by decide)) rfl bN (ah (cc (pv 0) rfl) (ah (pv 1) (ah (pv 2) (aH))))))
  (aF (gS (gO (sI dt T.cl_Wood (hr.mono (by decide)) (pv 0) bN (ah (pv 1) (ah (pv 2) (aH)))) (λ_=>rfl))
   (aO (pS))
   (dF))
  (aO (c8 (sI jf T.cl_Wood (hr.mono (by decide)) (pv 0) bN (ah (oN rJ (hr.mono (by decide)) rfl bN (ah (df (fT hr.units) (cc (pv 0) rfl) (pv 1) (λ_ _=>rfl)) (ah (df (fT hr.units) (cc (pv 0) rfl) (pv 2) (λ_ _=>rfl)) (ah (pv 1) (ah (pv 2) (aH)))))) (aH))))))),run vs H Q E h⟩
def uS (K:aa) (C:af) (aQ ir b9 cF:Sp):TS :=
  uv (sf K (de ir [] E0 (aA (dw (fk K) (fj K (av 0) "rows") (av 1)) (aA (av 1) (aA (av 2) (bj)))))) (bI 3)
   (fY (eP C "keep" cF [] E0 (av 0) (aA (av 3) (bj))))
def qz (K:aa) (C:af) (aQ ir b9 cF:Sp):TS :=
  bX (fY (de aQ [] E0 (aA (fj K (av 0) "n") (aA (av 1) (aA (av 2) (bj))))))
  (bX (jZ (fI (dw (u6 K true) (uw (aA (av 1) (aA (av 2) (bj)))) (de b9 [] E0 (aA (dw (fk K) (fj K (av 0) "rows") (av 1)) (bj)))))
   (sW)
   (gL))
  (uS K C aQ ir b9 cF))
theorem G5 (Fu:Fun K "cut" "Wood.cut" rC f fd) (T:nr K mg C A) {aQ:Sp}(cA:j3 P w K mg base bW 5 "refuse_no_pair" ["n","a","b"] aQ) {ir:Sp}(tJ:j3 P w K mg base bW 2 "parted" ["row","a","b"] ir) {b9:Sp}(gU:j3 P w K mg base bW 1 "steps_along" ["row"] b9) {cF:Sp}(jf:fO P w K mg base bW 1 C "keep" ["self","row"] cF)
      (len:∀ vs H Q E,sp vs H Q E->vs.length=3) (run:∀ vs H Q E,sp vs H Q E->qz K C aQ ir b9 cF { nx:=λ_ H'=>Q .non H',rt:=Q } (start ["self","a","b","row"] vs) H):FnOk P w K mg base bW 6 f fd ["self","a","b"] sp :=
    Fu.ok AG len λcdv A0 outer s H vs Q E hr h=>⟨_,(show PSs (eW bW P w K mg base ["self","a","b","row"] "Wood.cut" (aE rC) f cdv A0 outer s H E).nox (bq rC) (qz K C aQ ir b9 cF) from
  aF (c8 (oN cA (hr.mono (by decide)) rfl bN (ah (cc (pv 0) rfl) (ah (pv 1) (ah (pv 2) (aH))))))
  (aF (gS (cU (qX hr.units) (mj (ah (pv 1) (ah (pv 2) (aH)))) (oN gU (hr.mono (by decide)) rfl bN (ah (df (fT hr.units) (cc (pv 0) rfl) (pv 1) (λ_ _=>rfl)) (aH))) (by with_unfolding_all rfl))
   (aO (pS))
   (dF))
  (aO (mh cO rfl (ka (oN tJ (hr.mono (by decide)) rfl bN (ah (df (fT hr.units) (cc (pv 0) rfl) (pv 1) (λ_ _=>rfl)) (ah (pv 1) (ah (pv 2) (aH)))))) (cz (i:=3) AG.nd rfl (Or.inl rfl))
   (aO (c8 (sI jf T.cl_Wood (hr.mono (by decide)) (pv 0) bN (ah (pv 3) (aH))))))))),run vs H Q E h⟩
def mT (K:aa) (C:af) (bK:Sp):TS :=
 bX (fY (de bK [] E0 (aA (fj K (av 0) "n") (aA (av 1) (aA (av 2) (bj))))))
 (fu (dw (se K) (dw (fk K) (dw (fk K) (fj K (av 0) "rows") (av 1)) (tC (.int 0))) (dw (fk K) (dw (fk K) (fj K (av 0) "rows") (av 2)) (tC (.int 0)))))
theorem AO (Fu:Fun K "joined" "Wood.joined" mG f fd) (T:nr K mg C A) {bK:Sp}(dU:j3 P w K mg base bW 4 "refuse_no_places" ["n","a","b"] bK)
   (len:∀ vs H Q E,sp vs H Q E->vs.length=3) (run:∀ vs H Q E,sp vs H Q E->mT K C bK { nx:=λ_ H'=>Q .non H',rt:=Q } (start ["self","a","b"] vs) H):FnOk P w K mg base bW 5 f fd ["self","a","b"] sp :=
  Fu.ok BS len λcdv A0 outer s H vs Q E hr h=>⟨_,(show PSs (eW bW P w K mg base ["self","a","b"] "Wood.joined" (aE mG) f cdv A0 outer s H E).nox (bq mG) (mT K C bK) from
 aF (c8 (oN dU (hr.mono (by decide)) rfl bN (ah (cc (pv 0) rfl) (ah (pv 1) (ah (pv 2) (aH))))))
 (aO (cj (vH (lJ hr.units) (df (fT hr.units) (df (fT hr.units) (cc (pv 0) rfl) (pv 1) (λ_ _=>rfl)) (a7) (λ_ _=>rfl)) (df (fT hr.units) (df (fT hr.units) (cc (pv 0) rfl) (pv 2) (λ_ _=>rfl)) (a7) (λ_ _=>rfl)) (fe _))))),run vs H Q E h⟩
def nY (K:aa) (C:af) (aY:Sp):TS :=
 bX (fY (de aY [] E0 (aA (fj K (av 0) "n") (aA (av 1) (bj)))))
 (fu (vV K (aA (dw (fk K) (fj K (av 0) "rows") (av 1)) (bj))))
theorem B7 (Fu:Fun K "group" "Wood.group" oA f fd) (T:nr K mg C A) {aY:Sp}(cM:j3 P w K mg base bW 3 "refuse_no_place" ["n","thing"] aY)
   (len:∀ vs H Q E,sp vs H Q E->vs.length=2) (run:∀ vs H Q E,sp vs H Q E->nY K C aY { nx:=λ_ H'=>Q .non H',rt:=Q } (start ["self","a"] vs) H):FnOk P w K mg base bW 4 f fd ["self","a"] sp :=
  Fu.ok Er len λcdv A0 outer s H vs Q E hr h=>⟨_,(show PSs (eW bW P w K mg base ["self","a"] "Wood.group" (aE oA) f cdv A0 outer s H E).nox (bq oA) (nY K C aY) from
 aF (c8 (oN cM (hr.mono (by decide)) rfl bN (ah (cc (pv 0) rfl) (ah (pv 1) (aH)))))
 (aO (cj (As rfl rfl T.b_sorted rfl T.b_set (ah (df (fT hr.units) (cc (pv 0) rfl) (pv 1) (λ_ _=>rfl)) (aH)))))),run vs H Q E h⟩
def pf (K:aa) (C:af) (aY:Sp):TS :=
 bX (fY (de aY [] E0 (aA (fj K (av 0) "n") (aA (av 1) (bj)))))
 (fu (dw (rI yG λi j=>.int (i/j)) (dw (ik) (ux (xA K) (aA (dw (fk K) (fj K (av 0) "rows") (av 1)) (bj))) (tC (.int 1))) (tC (.int 2))))
theorem EA (Fu:Fun K "size" "Wood.size" pW f fd) (T:nr K mg C A) {aY:Sp}(cM:j3 P w K mg base bW 3 "refuse_no_place" ["n","thing"] aY)
   (len:∀ vs H Q E,sp vs H Q E->vs.length=2) (run:∀ vs H Q E,sp vs H Q E->pf K C aY { nx:=λ_ H'=>Q .non H',rt:=Q } (start ["self","a"] vs) H):FnOk P w K mg base bW 4 f fd ["self","a"] sp :=
  Fu.ok GV len λcdv A0 outer s H vs Q E hr h=>⟨_,(show PSs (eW bW P w K mg base ["self","a"] "Wood.size" (aE pW) f cdv A0 outer s H E).nox (bq pW) (pf K C aY) from
 aF (c8 (oN cM (hr.mono (by decide)) rfl bN (ah (cc (pv 0) rfl) (ah (pv 1) (aH)))))
 (aO (cj (c5 (mi) (c5 (eK) (cX (jD) rfl T.b_len BootT.len (ah (df (fT hr.units) (cc (pv 0) rfl) (pv 1) (λ_ _=>rfl)) (aH))) (a7)) (a7))))),run vs H Q E h⟩
def qA (K:aa) (C:af) (a8 jH:Sp):TS :=
 fu (QD (mv K (eP C "joined" a8 [] E0 (av 0) (aA (av 1) (aA (av 2) (bj))))) (de jH [] E0 (aA (dw (fk K) (fj K (av 0) "rows") (av 1)) (aA (av 1) (aA (av 2) (bj))))) (tC .non))
theorem G6 (Fu:Fun K "way" "Wood.way" rD f fd) (T:nr K mg C A) {a8:Sp}(dt:fO P w K mg base bW 5 C "joined" ["self","a","b"] a8) {jH:Sp}(tK:j3 P w K mg base bW 2 "way_in" ["row","a","b"] jH)
   (len:∀ vs H Q E,sp vs H Q E->vs.length=3) (run:∀ vs H Q E,sp vs H Q E->qA K C a8 jH { nx:=λ_ H'=>Q .non H',rt:=Q } (start ["self","a","b"] vs) H):FnOk P w K mg base bW 6 f fd ["self","a","b"] sp :=
  Fu.ok IK len λcdv A0 outer s H vs Q E hr h=>⟨_,(show PSs (eW bW P w K mg base ["self","a","b"] "Wood.way" (aE rD) f cdv A0 outer s H E).nox (bq rD) (qA K C a8 jH) from
 aO (cj (sV (gO (sI dt T.cl_Wood (hr.mono (by decide)) (pv 0) bN (ah (pv 1) (ah (pv 2) (aH)))) (λ_=>rfl)) (oN tK (hr.mono (by decide)) rfl bN (ah (df (fT hr.units) (cc (pv 0) rfl) (pv 1) (λ_ _=>rfl)) (ah (pv 1) (ah (pv 2) (aH))))) (Mi)))),run vs H Q E h⟩
def jl (K:aa) (C:af) (A:CA) (dH kh:Sp):TS :=
 bX (uY K (av 0) (xu) "level_of")
 (bX (uY K (av 0) (xu) "wooden")
 (bX (uY K (av 0) (xu) "weight_of")
 (uY K (av 0) (oS 1 [1] (zW (aA (dw (ik) (de kh [] E0 (aA (av 1) (bj))) (tC (.int 1))) (bj))) (bI 0) (Ae) (Di C dH [] E0 (aA (av 1) (bj)))) "woods")))
theorem vf (Fu:Fun K "__init__" "Levels.__init__" i4 f fd) (T:nr K mg C A) {dH:Sp}(gG:Ld P w K mg base bW 1 C ["self","n"] dH) {kh:Sp}(yA:j3 P w K mg base bW 1 "top" ["n"] kh)
   (len:∀ vs H Q E,sp vs H Q E->vs.length=2) (run:∀ vs H Q E,sp vs H Q E->jl K C A dH kh { nx:=λ_ H'=>Q .non H',rt:=Q } (start ["self","n"] vs) H):FnOk P w K mg base bW 3 f fd ["self","n"] sp :=
  Fu.ok wc len λcdv A0 outer s H vs Q E hr h=>⟨_,(show PSs (eW bW P w K mg base ["self","n"] "Levels.__init__" (aE i4) f cdv A0 outer s H E).nox (bq i4) (jl K C A dH kh) from
 aF (nE (pv 0) (vL) rfl)
 (aF (nE (pv 0) (vL) rfl)
 (aF (nE (pv 0) (vL) rfl)
 (aO (nE (pv 0) (qq ["level"] (ys:=["n"]) [1] rfl (qT rfl T.b_range (ah (c5 (eK) (oN yA (hr.mono (by decide)) rfl bN (ah (pv 1) (aH))) (a7)) (aH))) ⟨rfl,.inl rfl,rfl,trivial⟩ (λ_ _ _=>cz (i:=0) (show (["level","n"]:List bA).Nodup by decide +kernel) rfl (Or.inl rfl)) (λ_ _ _=>qV) (λ_ _ _=>zC gG.m gG.G (hr.mono (by decide)) rfl T.mg_Wood gG.b .nil bN (ah (pv 1) (aH)))) rfl))))),run vs H Q E h⟩
def nZ (K:aa) (C:af) (A:CA) (a8 bM:Sp):TS :=
  bX (eF (tC (.int 0)) (BI (fj K (av 0) "level_of") (av 1) uQ))
  (bX (eF (tC (.bl false)) (BI (fj K (av 0) "wooden") (av 1) uQ))
  (bX (eF (av 2) (BI (fj K (av 0) "weight_of") (av 1) uQ))
  (bX (jZ (sH (mv K (eP C "joined" a8 [] E0 (dw (fk K) (fj K (av 0) "woods") (tC (.int 0))) (aA (dw (fk K) (av 1) (tC (.int 0))) (aA (dw (fk K) (av 1) (tC (.int 1))) (bj))))))
   (fY (eP A.Levels "adopt" bM [] E0 (av 0) (aA (av 1) (bj))))
   (gL))
  (fu (dw (fk K) (fj K (av 0) "wooden") (av 1))))))
theorem B8 (Fu:Fun K "add" "Levels.add" oB f fd) (T:nr K mg C A) {a8:Sp}(dt:fO P w K mg base bW 5 C "joined" ["self","a","b"] a8) {bM:Sp}(fZ:fO P w K mg base bW 7 A.Levels "adopt" ["self","tie"] bM)
      (len:∀ vs H Q E,sp vs H Q E->vs.length=3) (run:∀ vs H Q E,sp vs H Q E->nZ K C A a8 bM { nx:=λ_ H'=>Q .non H',rt:=Q } (start ["self","tie","weight"] vs) H):FnOk P w K mg base bW 8 f fd ["self","tie","weight"] sp :=
    Fu.ok Es len λcdv A0 outer s H vs Q E hr h=>⟨_,(show PSs (eW bW P w K mg base ["self","tie","weight"] "Levels.add" (aE oB) f cdv A0 outer s H E).nox (bq oB) (nZ K C A a8 bM) from
  aF (r9 (a7) (sX (cc (pv 0) rfl) (pv 1) (yr hr.units)))
  (aF (r9 (md) (sX (cc (pv 0) rfl) (pv 1) (yr hr.units)))
  (aF (r9 (pv 2) (sX (cc (pv 0) rfl) (pv 1) (yr hr.units)))
  (aF (gS (mf (gO (sI dt T.cl_Wood (hr.mono (by decide)) (df (fT hr.units) (cc (pv 0) rfl) (a7) (λ_ _=>rfl)) bN (ah (df (fT hr.units) (pv 1) (a7) (λ_ _=>rfl)) (ah (df (fT hr.units) (pv 1) (a7) (λ_ _=>rfl)) (aH)))) (λ_=>rfl)))
   (aO (c8 (sI fZ T.cl_Levels (hr.mono (by decide)) (pv 0) bN (ah (pv 1) (aH)))))
   (dF))
  (aO (cj (df (fT hr.units) (cc (pv 0) rfl) (pv 1) (λ_ _=>rfl)))))))),run vs H Q E h⟩
def mU (K:aa) (C:af) (A:CA) (cG:Sp):TS :=
  uv (sf K (Io (uz K) (fj K (av 0) "woods") (kB) (om (dw (ik) (dw (fk K) (fj K (av 0) "level_of") (av 1)) (tC (.int 1)))))) (bI 2)
   (fY (eP C "link" cG [] E0 (av 2) (aA (dw (fk K) (av 1) (tC (.int 0))) (aA (dw (fk K) (av 1) (tC (.int 1))) (bj)))))
def lF (K:aa) (C:af) (A:CA) (cG:Sp):TS :=
 bX (eF (tC (.bl true)) (BI (fj K (av 0) "wooden") (av 1) uQ))
 (mU K C A cG)
theorem yM (Fu:Fun K "adopt" "Levels.adopt" lq f fd) (T:nr K mg C A) {cG:Sp}(jg:fO P w K mg base bW 6 C "link" ["self","a","b"] cG)
      (len:∀ vs H Q E,sp vs H Q E->vs.length=2) (run:∀ vs H Q E,sp vs H Q E->lF K C A cG { nx:=λ_ H'=>Q .non H',rt:=Q } (start ["self","tie","wood"] vs) H):FnOk P w K mg base bW 7 f fd ["self","tie"] sp :=
    Fu.ok tG len λcdv A0 outer s H vs Q E hr h=>⟨_,(show PSs (eW bW P w K mg base ["self","tie","wood"] "Levels.adopt" (aE lq) f cdv A0 outer s H E).nox (bq lq) (lF K C A cG) from
  aF (r9 (md) (sX (cc (pv 0) rfl) (pv 1) (yr hr.units)))
  (aO (mh cO rfl (ka (iY mn (cc (pv 0) rfl) (ml) (jj (c5 (eK) (df (fT hr.units) (cc (pv 0) rfl) (pv 1) (λ_ _=>rfl)) (a7))))) (cz (i:=2) tG.nd rfl (Or.inl rfl))
   (aO (c8 (sI jg T.cl_Wood (hr.mono (by decide)) (pv 2) bN (ah (df (fT hr.units) (pv 1) (a7) (λ_ _=>rfl)) (ah (df (fT hr.units) (pv 1) (a7) (λ_ _=>rfl)) (aH))))))))),run vs H Q E h⟩
def mV (K:aa) (C:af) (A:CA) (cG:Sp):TS :=
  bX (PU (fj K (av 0) "level_of") (av 1) (tC (.int 1)) KM)
  (jZ (mv K (dw (fk K) (fj K (av 0) "wooden") (av 1)))
   (fY (eP C "link" cG [] E0 (dw (fk K) (fj K (av 0) "woods") (dw (fk K) (fj K (av 0) "level_of") (av 1))) (aA (dw (fk K) (av 1) (tC (.int 0))) (aA (dw (fk K) (av 1) (tC (.int 1))) (bj)))))
   (gL))
theorem AQ (Fu:Fun K "lift" "Levels.lift" mH f fd) (T:nr K mg C A) {cG:Sp}(jg:fO P w K mg base bW 6 C "link" ["self","a","b"] cG)
      (len:∀ vs H Q E,sp vs H Q E->vs.length=2) (run:∀ vs H Q E,sp vs H Q E->mV K C A cG { nx:=λ_ H'=>Q .non H',rt:=Q } (start ["self","tie"] vs) H):FnOk P w K mg base bW 7 f fd ["self","tie"] sp :=
    Fu.ok BU len λcdv A0 outer s H vs Q E hr h=>⟨_,(show PSs (eW bW P w K mg base ["self","tie"] "Levels.lift" (aE mH) f cdv A0 outer s H E).nox (bq mH) (mV K C A cG) from
  aF (OS (bo (yk (by decide) _) hr.units) (cc (pv 0) rfl) (pv 1) (a7) z7 (λ_ _ _=>rfl))
  (aO (gS (gO (df (fT hr.units) (cc (pv 0) rfl) (pv 1) (λ_ _=>rfl)) (λ_=>rfl))
   (aO (c8 (sI jg T.cl_Wood (hr.mono (by decide)) (df (fT hr.units) (cc (pv 0) rfl) (df (fT hr.units) (cc (pv 0) rfl) (pv 1) (λ_ _=>rfl)) (λ_ _=>rfl)) bN (ah (df (fT hr.units) (pv 1) (a7) (λ_ _=>rfl)) (ah (df (fT hr.units) (pv 1) (a7) (λ_ _=>rfl)) (aH))))))
   (dF)))),run vs H Q E h⟩
def rK (K:aa) (C:af) (A:CA) (fM:Sp):TS :=
  uv (sf K (Io (uz K) (fj K (av 0) "woods") (kB) (om (dw (ik) (av 2) (tC (.int 1)))))) (bI 3)
   (fY (eP C "cut" fM [] E0 (av 3) (aA (dw (fk K) (av 1) (tC (.int 0))) (aA (dw (fk K) (av 1) (tC (.int 1))) (bj)))))
def mW (K:aa) (C:af) (A:CA) (fM:Sp):TS :=
  bX (fY (D6 K "dict" GJ (fj K (av 0) "weight_of") (aA (av 1) (bj))))
  (bX (eF (D6 K "dict" GJ (fj K (av 0) "level_of") (aA (av 1) (bj))) (bI 2))
  (jZ (mv K (D6 K "dict" GJ (fj K (av 0) "wooden") (aA (av 1) (bj))))
   (rK K C A fM)
   (gL)))
theorem AR (Fu:Fun K "drop" "Levels.drop" mI f fd) (T:nr K mg C A) {fM:Sp}(qb:fO P w K mg base bW 6 C "cut" ["self","a","b"] fM)
      (len:∀ vs H Q E,sp vs H Q E->vs.length=2) (run:∀ vs H Q E,sp vs H Q E->mW K C A fM { nx:=λ_ H'=>Q .non H',rt:=Q } (start ["self","tie","level","wood"] vs) H):FnOk P w K mg base bW 7 f fd ["self","tie"] sp :=
    Fu.ok qF len λcdv A0 outer s H vs Q E hr h=>⟨_,(show PSs (eW bW P w K mg base ["self","tie","level","wood"] "Levels.drop" (aE mI) f cdv A0 outer s H E).nox (bq mI) (mW K C A fM) from
  aF (c8 (oo l9 oe og (zG hr.units) (cc (pv 0) rfl) (ah (pv 1) (aH))))
  (aF (cC (i:=2) qF.nd rfl (Or.inl rfl) (oo l9 oe og (zG hr.units) (cc (pv 0) rfl) (ah (pv 1) (aH))))
  (aO (gS (gO (oo l9 oe og (zG hr.units) (cc (pv 0) rfl) (ah (pv 1) (aH))) (λ_=>rfl))
   (aO (mh cO rfl (ka (iY mn (cc (pv 0) rfl) (ml) (jj (c5 (eK) (pv 2) (a7))))) (cz (i:=3) qF.nd rfl (Or.inl rfl))
   (aO (c8 (sI qb T.cl_Wood (hr.mono (by decide)) (pv 3) bN (ah (df (fT hr.units) (pv 1) (a7) (λ_ _=>rfl)) (ah (df (fT hr.units) (pv 1) (a7) (λ_ _=>rfl)) (aH))))))))
   (dF))))),run vs H Q E h⟩
def jm (K:aa) (C:af) (A:CA) (gZ:Sp):TS :=
 bX (eF (oS 1 [1,0] (SS (fj K (av 0) "level_of")) (bI 0) (fI (dw (se K) (dw (fk K) (fj K (av 2) "level_of") (av 0)) (av 1))) (av 0)) (bI 3))
 (fu (de gZ [] E0 (aA (oS 1 [2,0] (sf K (av 3)) (bI 0) (fI (dw (se K) (dw (fk K) (fj K (av 2) "wooden") (av 0)) (av 1))) (av 0)) (aA (fj K (av 0) "weight_of") (bj)))))
theorem vg (Fu:Fun K "at_level" "Levels.at_level" i5 f fd) (T:nr K mg C A) {gZ:Sp}(qc:j3 P w K mg base bW 1 "in_order" ["ties","weight_of"] gZ)
   (len:∀ vs H Q E,sp vs H Q E->vs.length=3) (run:∀ vs H Q E,sp vs H Q E->jm K C A gZ { nx:=λ_ H'=>Q .non H',rt:=Q } (start ["self","level","wooden","ties"] vs) H):FnOk P w K mg base bW 2 f fd ["self","level","wooden"] sp :=
  Fu.ok qt len λcdv A0 outer s H vs Q E hr h=>⟨_,(show PSs (eW bW P w K mg base ["self","level","wooden","ties"] "Levels.at_level" (aE i5) f cdv A0 outer s H E).nox (bq i5) (jm K C A gZ) from
 aF (zD (i:=3) ["tie"] (ys:=["level","self"]) [1,0] rfl qt.nd rfl rfl (M1 (cc (pv 0) rfl)) ⟨rfl,.inl rfl,rfl,⟨rfl,.inl rfl,rfl,trivial⟩⟩ (λ_ _ _=>cz (i:=0) (show (["tie","level","self"]:List bA).Nodup by decide +kernel) rfl (Or.inl rfl)) (λ_ _ _=>qW (cU (lJ hr.units) (df (fT hr.units) (cc (pv 2) rfl) (pv 0) (λ_ _=>rfl)) (pv 1) (fe _))) (λ_ _ _=>pv 0))
 (aO (cj (oN qc (hr.mono (by decide)) rfl bN (ah (qq ["tie"] (ys:=["wooden","self"]) [2,0] rfl (ka (pv 3)) ⟨rfl,.inl rfl,rfl,⟨rfl,.inl rfl,rfl,trivial⟩⟩ (λ_ _ _=>cz (i:=0) (show (["tie","wooden","self"]:List bA).Nodup by decide +kernel) rfl (Or.inl rfl)) (λ_ _ _=>qW (cU (lJ hr.units) (df (fT hr.units) (cc (pv 2) rfl) (pv 0) (λ_ _=>rfl)) (pv 1) (fe _))) (λ_ _ _=>pv 0)) (ah (cc (pv 0) rfl) (aH))))))),run vs H Q E h⟩
def mX (K:aa) (C:af) (A:CA):TS :=
 fu (uw (aA (dw (fk K) (av 1) (tC (.int 0))) (aA (dw (fk K) (av 1) (tC (.int 1))) (aA (dw (fk K) (fj K (av 0) "level_of") (av 1)) (aA (dw (fk K) (fj K (av 0) "wooden") (av 1)) (bj))))))
theorem AS (Fu:Fun K "told" "Levels.told" mJ f fd) (T:nr K mg C A)
   (len:∀ vs H Q E,sp vs H Q E->vs.length=2) (run:∀ vs H Q E,sp vs H Q E->mX K C A { nx:=λ_ H'=>Q .non H',rt:=Q } (start ["self","tie"] vs) H):FnOk P w K mg base bW 1 f fd ["self","tie"] sp :=
  Fu.ok BV len λcdv A0 outer s H vs Q E hr h=>⟨_,(show PSs (eW bW P w K mg base ["self","tie"] "Levels.told" (aE mJ) f cdv A0 outer s H E).nox (bq mJ) (mX K C A) from
 aO (cj (mj (ah (df (fT hr.units) (pv 1) (a7) (λ_ _=>rfl)) (ah (df (fT hr.units) (pv 1) (a7) (λ_ _=>rfl)) (ah (df (fT hr.units) (cc (pv 0) rfl) (pv 1) (λ_ _=>rfl)) (ah (df (fT hr.units) (cc (pv 0) rfl) (pv 1) (λ_ _=>rfl)) (aH)))))))),run vs H Q E h⟩
def ie (K:aa) (C:af) (A:CA) (cJ fD:Sp):TS :=
 bX (eF (dw (fk K) (fj K (av 0) "woods") (av 1)) (bI 3))
 (fu (eP C "group" cJ [] E0 (av 3) (aA (QD (fI (dw (xo λi j=>.bl (decide (i<=j))) (eP C "size" fD [] E0 (av 3) (aA (dw (fk K) (av 2) (tC (.int 0))) (bj))) (eP C "size" fD [] E0 (av 3) (aA (dw (fk K) (av 2) (tC (.int 1))) (bj))))) (dw (fk K) (av 2) (tC (.int 0))) (dw (fk K) (av 2) (tC (.int 1)))) (bj))))
theorem sJ (Fu:Fun K "lesser_side" "Levels.lesser_side" gM f fd) (T:nr K mg C A) {cJ:Sp}(iE:fO P w K mg base bW 4 C "group" ["self","a"] cJ) {fD:Sp}(lV:fO P w K mg base bW 4 C "size" ["self","a"] fD)
   (len:∀ vs H Q E,sp vs H Q E->vs.length=3) (run:∀ vs H Q E,sp vs H Q E->ie K C A cJ fD { nx:=λ_ H'=>Q .non H',rt:=Q } (start ["self","level","tie","wood"] vs) H):FnOk P w K mg base bW 5 f fd ["self","level","tie"] sp :=
  Fu.ok oF len λcdv A0 outer s H vs Q E hr h=>⟨_,(show PSs (eW bW P w K mg base ["self","level","tie","wood"] "Levels.lesser_side" (aE gM) f cdv A0 outer s H E).nox (bq gM) (ie K C A cJ fD) from
 aF (cC (i:=3) oF.nd rfl (Or.inl rfl) (df (fT hr.units) (cc (pv 0) rfl) (pv 1) (λ_ _=>rfl)))
 (aO (cj (sI iE T.cl_Wood (hr.mono (by decide)) (pv 3) bN (ah (sV (cU (Gi) (sI lV T.cl_Wood (hr.mono (by decide)) (pv 3) bN (ah (df (fT hr.units) (pv 2) (a7) (λ_ _=>rfl)) (aH))) (sI lV T.cl_Wood (hr.mono (by decide)) (pv 3) bN (ah (df (fT hr.units) (pv 2) (a7) (λ_ _=>rfl)) (aH))) (fe _)) (df (fT hr.units) (pv 2) (a7) (λ_ _=>rfl)) (df (fT hr.units) (pv 2) (a7) (λ_ _=>rfl))) (aH)))))),run vs H Q E h⟩
def rL (K:aa) (C:af) (A:CA) (bO cb cQ cR bM:Sp):TS :=
  uv (sf K (av 4)) (bI 5)
   (fY (eP A.Levels "lift" cQ [] E0 (av 0) (aA (av 5) (bj))))
def rM (K:aa) (C:af) (A:CA) (bO cb cQ cR bM:Sp):TS :=
  uv (sf K (eP A.Levels "at_level" cb [] E0 (av 0) (aA (av 1) (aA (tC (.bl false)) (bj))))) (bI 5)
   (bX (eF (de cR [] E0 (aA (av 5) (aA (av 3) (bj)))) (bI 6))
  (bX (jZ (fI (dw (se K) (av 6) (tC (.int 1))))
   (bX (fY (eP A.Levels "adopt" bM [] E0 (av 0) (aA (av 5) (bj))))
  (fu (uw (aA (av 1) (aA (av 3) (aA (ux (tu K) (aA (av 4) (bj))) (aA (av 5) (bj))))))))
   (gL))
  (jZ (fI (dw (se K) (av 6) (tC (.int 2))))
   (bX (fY (eP A.Levels "lift" cQ [] E0 (av 0) (aA (av 5) (bj))))
  (fY (D6 K "list" mq (av 4) (aA (av 5) (bj)))))
   (gL))))
def mY (K:aa) (C:af) (A:CA) (bO cb cQ cR bM:Sp):TS :=
 bX (eF (eP A.Levels "lesser_side" bO [] E0 (av 0) (aA (av 1) (aA (av 2) (bj)))) (bI 3))
 (bX (eF (oS 1 [3] (sf K (eP A.Levels "at_level" cb [] E0 (av 0) (aA (av 1) (aA (tC (.bl true)) (bj))))) (bI 0) (fI (dw (se K) (de cR [] E0 (aA (av 0) (aA (av 1) (bj)))) (tC (.int 2)))) (av 0)) (bI 4))
 (bX (rL K C A bO cb cQ cR bM)
 (bX (rM K C A bO cb cQ cR bM)
 (fu (uw (aA (av 1) (aA (av 3) (aA (ux (tu K) (aA (av 4) (bj))) (aA (tC .non) (bj))))))))))
theorem AU (Fu:Fun K "look" "Levels.look" mK f fd) (T:nr K mg C A) {bO:Sp}(f9:fO P w K mg base bW 5 A.Levels "lesser_side" ["self","level","tie"] bO) {cb:Sp}(gp:fO P w K mg base bW 2 A.Levels "at_level" ["self","level","wooden"] cb) {cQ:Sp}(jI:fO P w K mg base bW 7 A.Levels "lift" ["self","tie"] cQ) {cR:Sp}(jJ:j3 P w K mg base bW 1 "ends_within" ["tie","side"] cR) {bM:Sp}(fZ:fO P w K mg base bW 7 A.Levels "adopt" ["self","tie"] bM)
      (len:∀ vs H Q E,sp vs H Q E->vs.length=3) (run:∀ vs H Q E,sp vs H Q E->mY K C A bO cb cQ cR bM { nx:=λ_ H'=>Q .non H',rt:=Q } (start ["self","level","tie","side","risen","other","ends"] vs) H):FnOk P w K mg base bW 8 f fd ["self","level","tie"] sp :=
    Fu.ok jE len λcdv A0 outer s H vs Q E hr h=>⟨_,(show PSs (eW bW P w K mg base ["self","level","tie","side","risen","other","ends"] "Levels.look" (aE mK) f cdv A0 outer s H E).nox (bq mK) (mY K C A bO cb cQ cR bM) from
  aF (cC (i:=3) jE.nd rfl (Or.inr rfl) (sI f9 T.cl_Levels (hr.mono (by decide)) (pv 0) bN (ah (pv 1) (ah (pv 2) (aH)))))
  (aF (zD (i:=4) ["other"] (ys:=["side"]) [3] rfl jE.nd rfl rfl (ka (sI gp T.cl_Levels (hr.mono (by decide)) (pv 0) bN (ah (pv 1) (ah (md) (aH))))) ⟨rfl,.inl rfl,rfl,trivial⟩ (λ_ _ _=>cz (i:=0) (show (["other","side"]:List bA).Nodup by decide +kernel) rfl (Or.inl rfl)) (λ_ _ _=>qW (cU (lJ hr.units) (oN jJ (hr.mono (by decide)) rfl bN (ah (pv 0) (ah (pv 1) (aH)))) (a7) (fe _))) (λ_ _ _=>pv 0))
  (aF (mh cO rfl (ka (pv 4)) (cz (i:=5) jE.nd rfl (Or.inl rfl))
   (aO (c8 (sI jI T.cl_Levels (hr.mono (by decide)) (pv 0) bN (ah (pv 5) (aH))))))
  (aF (mh cO rfl (ka (sI gp T.cl_Levels (hr.mono (by decide)) (pv 0) bN (ah (pv 1) (ah (md) (aH))))) (cz (i:=5) jE.nd rfl (Or.inl rfl))
   (aF (cC (i:=6) jE.nd rfl (Or.inl rfl) (oN jJ (hr.mono (by decide)) rfl bN (ah (pv 5) (ah (pv 3) (aH)))))
  (aF (gS (cU (lJ hr.units) (pv 6) (a7) (fe _))
   (aF (c8 (sI fZ T.cl_Levels (hr.mono (by decide)) (pv 0) bN (ah (pv 5) (aH))))
  (aO (cj (mj (ah (pv 1) (ah (pv 3) (ah (cX (sh) rfl T.b_sorted BootT.Ah (ah (pv 4) (aH))) (ah (pv 5) (aH)))))))))
   (dF))
  (aO (gS (cU (lJ hr.units) (pv 6) (a7) (fe _))
   (aF (c8 (sI jI T.cl_Levels (hr.mono (by decide)) (pv 0) bN (ah (pv 5) (aH))))
  (aO (c8 (oo bS dJ dM kC (pv 4) (ah (pv 5) (aH))))))
   (dF))))))
  (aO (cj (mj (ah (pv 1) (ah (pv 3) (ah (cX (sh) rfl T.b_sorted BootT.Ah (ah (pv 4) (aH))) (ah (Mi) (aH)))))))))))),run vs H Q E h⟩
def rN (K:aa) (C:af) (A:CA) (dB dC:Sp):TS :=
  DW (yF (mv K (av 3)) (fI (dw (xo λi j=>.bl (decide (j<=i))) (av 2) (tC (.int 0)))))
   (bX (fY (D6 K "list" mq (av 4) (aA (eP A.Levels "look" dC [] E0 (av 0) (aA (av 2) (aA (av 1) (bj)))) (bj))))
  (bX (eF (Qz (dw (fk K) (dw (fk K) (av 4) (RX (rU λi=>.int (-i)) (tC (.int 1)))) (tC (.int 3)))) (bI 3))
  (Ml 2 (tC (.int 1)) (xo λi j=>.int (i-j)))))
def mZ (K:aa) (C:af) (A:CA) (dB dC:Sp):TS :=
 bX (eF (dw (fk K) (fj K (av 0) "level_of") (av 1)) (bI 2))
 (bX (eF (dw (fk K) (fj K (av 0) "wooden") (av 1)) (bI 3))
 (bX (fY (eP A.Levels "drop" dB [] E0 (av 0) (aA (av 1) (bj))))
 (bX (eF (BJ (bj)) (bI 4))
 (bX (rN K C A dB dC)
 (fu (av 4))))))
theorem AV (Fu:Fun K "take" "Levels.take" mL f fd) (T:nr K mg C A) {dB:Sp}(lz:fO P w K mg base bW 7 A.Levels "drop" ["self","tie"] dB) {dC:Sp}(lA:fO P w K mg base bW 8 A.Levels "look" ["self","level","tie"] dC)
      (len:∀ vs H Q E,sp vs H Q E->vs.length=2) (run:∀ vs H Q E,sp vs H Q E->mZ K C A dB dC { nx:=λ_ H'=>Q .non H',rt:=Q } (start ["self","tie","level","looking","trail"] vs) H):FnOk P w K mg base bW 9 f fd ["self","tie"] sp :=
    Fu.ok jF len λcdv A0 outer s H vs Q E hr h=>⟨_,(show PSs (eW bW P w K mg base ["self","tie","level","looking","trail"] "Levels.take" (aE mL) f cdv A0 outer s H E).nox (bq mL) (mZ K C A dB dC) from
  aF (cC (i:=2) jF.nd rfl (Or.inl rfl) (df (fT hr.units) (cc (pv 0) rfl) (pv 1) (λ_ _=>rfl)))
  (aF (cC (i:=3) jF.nd rfl (Or.inl rfl) (df (fT hr.units) (cc (pv 0) rfl) (pv 1) (λ_ _=>rfl)))
  (aF (c8 (sI lz T.cl_Levels (hr.mono (by decide)) (pv 0) bN (ah (pv 1) (aH))))
  (aF (cC (i:=4) jF.nd rfl (Or.inl rfl) (sY (aH)))
  (aF (Gf cO (PW.pt (sT (gO (pv 3) (λ_=>rfl)) (qo (cU (Sh) (pv 2) (a7) (fe _)))))
   (aF (c8 (oo bS dJ dM kC (pv 4) (ah (sI lA T.cl_Levels (hr.mono (by decide)) (pv 0) bN (ah (pv 2) (ah (pv 1) (aH)))) (aH))))
  (aF (cC (i:=3) jF.nd rfl (Or.inl rfl) (QC (QB (df (fT hr.units) (df (fT hr.units) (pv 4) (JT DX (a7)) (λ_ _=>rfl)) (a7) (λ_ _=>rfl)))))
  (aO (HZ (i:=2) jF.nd rfl (Or.inl rfl) (a7) OE)))))
  (aO (cj (pv 4)))))))),run vs H Q E h⟩
def kI (K:aa) (C:af) (A:CA) (c6 g9:Sp):TS :=
  bX (jZ (sH (mv K (de g9 [] E0 (aA (av 1) (bj)))))
   (sW)
   (gL))
  (bX (uY K (av 0) (av 1) "n")
  (bX (uY K (av 0) (Di A.Levels c6 [] E0 (aA (av 1) (bj))) "levels")
  (bX (uY K (av 0) (dw (fk K) (fj K (fj K (av 0) "levels") "woods") (tC (.int 0))) "wood")
  (bX (uY K (av 0) (tC (.int 0)) "came")
  (bX (uY K (av 0) (tC (.int 0)) "looked")
  (bX (uY K (av 0) (tC (.int 0)) "risen")
  (uY K (av 0) (tC (.int 0)) "lost")))))))
theorem xI (Fu:Fun K "__init__" "Kept.__init__" ke f fd) (T:nr K mg C A) {c6:Sp}(fE:Ld P w K mg base bW 3 A.Levels ["self","n"] c6) {g9:Sp}(qd:j3 P w K mg base bW 2 "is_count" ["thing"] g9)
      (len:∀ vs H Q E,sp vs H Q E->vs.length=2) (run:∀ vs H Q E,sp vs H Q E->kI K C A c6 g9 { nx:=λ_ H'=>Q .non H',rt:=Q } (start ["self","n"] vs) H):FnOk P w K mg base bW 5 f fd ["self","n"] sp :=
    Fu.ok yJ len λcdv A0 outer s H vs Q E hr h=>⟨_,(show PSs (eW bW P w K mg base ["self","n"] "Kept.__init__" (aE ke) f cdv A0 outer s H E).nox (bq ke) (kI K C A c6 g9) from
  aF (gS (mf (gO (oN qd (hr.mono (by decide)) rfl bN (ah (pv 1) (aH))) (λ_=>rfl)))
   (aO (pS))
   (dF))
  (aF (nE (pv 0) (pv 1) rfl)
  (aF (nE (pv 0) (zC fE.m fE.G (hr.mono (by decide)) rfl T.mg_Levels fE.b .nil bN (ah (pv 1) (aH))) rfl)
  (aF (nE (pv 0) (df (fT hr.units) (cc (cc (pv 0) rfl) rfl) (a7) (λ_ _=>rfl)) rfl)
  (aF (nE (pv 0) (a7) rfl)
  (aF (nE (pv 0) (a7) rfl)
  (aF (nE (pv 0) (a7) rfl)
  (aO (nE (pv 0) (a7) rfl))))))))),run vs H Q E h⟩
def lG (K:aa) (C:af) (A:CA) (fq:Sp):TS :=
 bX (t8 K (av 0) (tC (.int 1)) KM "came")
 (fu (eP A.Levels "add" fq [] E0 (fj K (av 0) "levels") (aA (av 1) (aA (av 2) (bj)))))
theorem yN (Fu:Fun K "receive" "Kept.receive" lu f fd) (T:nr K mg C A) {fq:Sp}(m5:fO P w K mg base bW 8 A.Levels "add" ["self","tie","weight"] fq)
   (len:∀ vs H Q E,sp vs H Q E->vs.length=3) (run:∀ vs H Q E,sp vs H Q E->lG K C A fq { nx:=λ_ H'=>Q .non H',rt:=Q } (start ["self","tie","weight"] vs) H):FnOk P w K mg base bW 9 f fd ["self","tie","weight"] sp :=
  Fu.ok AH len λcdv A0 outer s H vs Q E hr h=>⟨_,(show PSs (eW bW P w K mg base ["self","tie","weight"] "Kept.receive" (aE lu) f cdv A0 outer s H E).nox (bq lu) (lG K C A fq) from
 aF (t9 (pv 0) (a7) z7)
 (aO (cj (sI m5 T.cl_Levels (hr.mono (by decide)) (cc (pv 0) rfl) bN (ah (pv 1) (ah (pv 2) (aH))))))),run vs H Q E h⟩
def qB (K:aa) (C:af) (A:CA) (d7 jK eQ lB fU cq:Sp):TS :=
 bX (eF (de d7 [] E0 (aA (fj K (av 0) "n") (aA (fj K (fj K (av 0) "levels") "level_of") (aA (av 1) (aA (av 2) (bj)))))) (bI 3))
 (bX (t8 K (av 0) (de jK [] E0 (aA (fj K (av 0) "n") (aA (BJ (aA (eP A.Levels "told" cq [] E0 (fj K (av 0) "levels") (aA (av 3) (bj))) (bj))) (bj)))) KM "lost")
 (bX (eF (eP A.Levels "take" eQ [] E0 (fj K (av 0) "levels") (aA (av 3) (bj))) (bI 4))
 (bX (t8 K (av 0) (de lB [] E0 (aA (av 4) (bj))) KM "looked")
 (bX (t8 K (av 0) (de fU [] E0 (aA (av 4) (bj))) KM "risen")
 (fu (av 4))))))
theorem G7 (Fu:Fun K "out" "Kept.out" rE f fd) (T:nr K mg C A) {d7:Sp}(ki:j3 P w K mg base bW 6 "standing_tie" ["n","standing","a","b"] d7) {jK:Sp}(tL:j3 P w K mg base bW 2 "credit" ["n","ties"] jK) {eQ:Sp}(lC:fO P w K mg base bW 9 A.Levels "take" ["self","tie"] eQ) {lB:Sp}(wm:j3 P w K mg base bW 2 "looks" ["trail"] lB) {fU:Sp}(oZ:j3 P w K mg base bW 1 "rises" ["trail"] fU) {cq:Sp}(hJ:fO P w K mg base bW 1 A.Levels "told" ["self","tie"] cq)
   (len:∀ vs H Q E,sp vs H Q E->vs.length=3) (run:∀ vs H Q E,sp vs H Q E->qB K C A d7 jK eQ lB fU cq { nx:=λ_ H'=>Q .non H',rt:=Q } (start ["self","a","b","tie","trail"] vs) H):FnOk P w K mg base bW 10 f fd ["self","a","b"] sp :=
  Fu.ok vd len λcdv A0 outer s H vs Q E hr h=>⟨_,(show PSs (eW bW P w K mg base ["self","a","b","tie","trail"] "Kept.out" (aE rE) f cdv A0 outer s H E).nox (bq rE) (qB K C A d7 jK eQ lB fU cq) from
 aF (cC (i:=3) vd.nd rfl (Or.inl rfl) (oN ki (hr.mono (by decide)) rfl bN (ah (cc (pv 0) rfl) (ah (cc (cc (pv 0) rfl) rfl) (ah (pv 1) (ah (pv 2) (aH)))))))
 (aF (t9 (pv 0) (oN tL (hr.mono (by decide)) rfl bN (ah (cc (pv 0) rfl) (ah (sY (ah (sI hJ T.cl_Levels (hr.mono (by decide)) (cc (pv 0) rfl) bN (ah (pv 3) (aH))) (aH))) (aH)))) z7)
 (aF (cC (i:=4) vd.nd rfl (Or.inl rfl) (sI lC T.cl_Levels (hr.mono (by decide)) (cc (pv 0) rfl) bN (ah (pv 3) (aH))))
 (aF (t9 (pv 0) (oN wm (hr.mono (by decide)) rfl bN (ah (pv 4) (aH))) z7)
 (aF (t9 (pv 0) (oN oZ (hr.mono (by decide)) rfl bN (ah (pv 4) (aH))) z7)
 (aO (cj (pv 4)))))))),run vs H Q E h⟩
def m6 (K:aa) (C:af) (A:CA) (a8:Sp):TS :=
 fu (eP C "joined" a8 [] E0 (fj K (av 0) "wood") (aA (av 1) (aA (av 2) (bj))))
theorem AW (Fu:Fun K "joined" "Kept.joined" mM f fd) (T:nr K mg C A) {a8:Sp}(dt:fO P w K mg base bW 5 C "joined" ["self","a","b"] a8)
   (len:∀ vs H Q E,sp vs H Q E->vs.length=3) (run:∀ vs H Q E,sp vs H Q E->m6 K C A a8 { nx:=λ_ H'=>Q .non H',rt:=Q } (start ["self","a","b"] vs) H):FnOk P w K mg base bW 6 f fd ["self","a","b"] sp :=
  Fu.ok BW len λcdv A0 outer s H vs Q E hr h=>⟨_,(show PSs (eW bW P w K mg base ["self","a","b"] "Kept.joined" (aE mM) f cdv A0 outer s H E).nox (bq mM) (m6 K C A a8) from
 aO (cj (sI dt T.cl_Wood (hr.mono (by decide)) (cc (pv 0) rfl) bN (ah (pv 1) (ah (pv 2) (aH)))))),run vs H Q E h⟩
def qC (K:aa) (C:af) (A:CA) (hU:Sp):TS :=
 fu (eP C "way" hU [] E0 (fj K (av 0) "wood") (aA (av 1) (aA (av 2) (bj))))
theorem G8 (Fu:Fun K "way" "Kept.way" rF f fd) (T:nr K mg C A) {hU:Sp}(qe:fO P w K mg base bW 6 C "way" ["self","a","b"] hU)
   (len:∀ vs H Q E,sp vs H Q E->vs.length=3) (run:∀ vs H Q E,sp vs H Q E->qC K C A hU { nx:=λ_ H'=>Q .non H',rt:=Q } (start ["self","a","b"] vs) H):FnOk P w K mg base bW 7 f fd ["self","a","b"] sp :=
  Fu.ok IL len λcdv A0 outer s H vs Q E hr h=>⟨_,(show PSs (eW bW P w K mg base ["self","a","b"] "Kept.way" (aE rF) f cdv A0 outer s H E).nox (bq rF) (qC K C A hU) from
 aO (cj (sI qe T.cl_Wood (hr.mono (by decide)) (cc (pv 0) rfl) bN (ah (pv 1) (ah (pv 2) (aH)))))),run vs H Q E h⟩
def ph (K:aa) (C:af) (A:CA) (cJ:Sp):TS :=
 fu (eP C "group" cJ [] E0 (fj K (av 0) "wood") (aA (av 1) (bj)))
theorem EB (Fu:Fun K "side" "Kept.side" pX f fd) (T:nr K mg C A) {cJ:Sp}(iE:fO P w K mg base bW 4 C "group" ["self","a"] cJ)
   (len:∀ vs H Q E,sp vs H Q E->vs.length=2) (run:∀ vs H Q E,sp vs H Q E->ph K C A cJ { nx:=λ_ H'=>Q .non H',rt:=Q } (start ["self","a"] vs) H):FnOk P w K mg base bW 5 f fd ["self","a"] sp :=
  Fu.ok GW len λcdv A0 outer s H vs Q E hr h=>⟨_,(show PSs (eW bW P w K mg base ["self","a"] "Kept.side" (aE pX) f cdv A0 outer s H E).nox (bq pX) (ph K C A cJ) from
 aO (cj (sI iE T.cl_Wood (hr.mono (by decide)) (cc (pv 0) rfl) bN (ah (pv 1) (aH))))),run vs H Q E h⟩
def pj (K:aa) (C:af) (A:CA) (cq:Sp):TS :=
 fu (ux (tu K) (aA (oS 1 [0] (SS (fj K (fj K (av 0) "levels") "level_of")) (bI 0) (Ae) (eP A.Levels "told" cq [] E0 (fj K (av 1) "levels") (aA (av 0) (bj)))) (bj)))
theorem EC (Fu:Fun K "ties" "Kept.ties" pY f fd) (T:nr K mg C A) {cq:Sp}(hJ:fO P w K mg base bW 1 A.Levels "told" ["self","tie"] cq)
   (len:∀ vs H Q E,sp vs H Q E->vs.length=1) (run:∀ vs H Q E,sp vs H Q E->pj K C A cq { nx:=λ_ H'=>Q .non H',rt:=Q } (start ["self"] vs) H):FnOk P w K mg base bW 2 f fd ["self"] sp :=
  Fu.ok GX len λcdv A0 outer s H vs Q E hr h=>⟨_,(show PSs (eW bW P w K mg base ["self"] "Kept.ties" (aE pY) f cdv A0 outer s H E).nox (bq pY) (pj K C A cq) from
 aO (cj (cX (sh) rfl T.b_sorted BootT.Ah (ah (qq ["tie"] (ys:=["self"]) [0] rfl (M1 (cc (cc (pv 0) rfl) rfl)) ⟨rfl,.inl rfl,rfl,trivial⟩ (λ_ _ _=>cz (i:=0) (show (["tie","self"]:List bA).Nodup by decide +kernel) rfl (Or.inl rfl)) (λ_ _ _=>qV) (λ_ _ _=>sI hJ T.cl_Levels (hr.mono (by decide)) (cc (pv 1) rfl) bN (ah (pv 0) (aH)))) (aH))))),run vs H Q E h⟩
def n0 (K:aa) (C:af) (A:CA) (d8 iK:Sp):TS :=
 fu (eP A.Keeper "receive" d8 [] E0 (av 0) (aA (de iK [] E0 (aA (fj K (av 0) "n") (aA (fj K (fj K (av 0) "levels") "level_of") (aA (av 1) (aA (av 2) (bj)))))) (aA (tC (.int 0)) (bj))))
theorem Ca (Fu:Fun K "put" "Keeper.put" oC f fd) (T:nr K mg C A) {d8:Sp}(kj:fO P w K mg base bW 9 A.Keeper "receive" ["self","tie","weight"] d8) {iK:Sp}(rO:j3 P w K mg base bW 6 "new_tie" ["n","standing","a","b"] iK)
   (len:∀ vs H Q E,sp vs H Q E->vs.length=3) (run:∀ vs H Q E,sp vs H Q E->n0 K C A d8 iK { nx:=λ_ H'=>Q .non H',rt:=Q } (start ["self","a","b"] vs) H):FnOk P w K mg base bW 10 f fd ["self","a","b"] sp :=
  Fu.ok Et len λcdv A0 outer s H vs Q E hr h=>⟨_,(show PSs (eW bW P w K mg base ["self","a","b"] "Keeper.put" (aE oC) f cdv A0 outer s H E).nox (bq oC) (n0 K C A d8 iK) from
 aO (cj (sI kj T.cl_Keeper (hr.mono (by decide)) (pv 0) bN (ah (oN rO (hr.mono (by decide)) rfl bN (ah (cc (pv 0) rfl) (ah (cc (cc (pv 0) rfl) rfl) (ah (pv 1) (ah (pv 2) (aH)))))) (ah (a7) (aH)))))),run vs H Q E h⟩
end K39
section
open PySem PySem.Spec PyProof.Rows L2
local macro_rules | `(tactic| walk_at "c")=>`(tactic| first|(show (0:Int)<_;omega)|exact ⟨by omega,by omega⟩|exact Or.inl ⟨by omega,by omega⟩|exact Or.inr ⟨by omega,by omega⟩|exact ⟨by omega,by omega,by omega⟩)
local macro_rules | `(tactic| walk_at "x1")=>`(tactic| first|with_reducible refine MF ?_|with_reducible refine Sq ?_|with_reducible refine OW ?_|with_reducible refine QZ ?_|((with_reducible refine' vQ ?hv ?_);(case hv=>exact rfl))|with_reducible refine x_c ?_|with_reducible refine Ui ?_|with_reducible refine Sr ?_|with_reducible refine Q0 ?_|with_reducible refine Q1 ?_|with_reducible refine PX ?_|with_reducible refine Uk ?_|with_reducible refine Q2 ?_|with_reducible refine SE ?_|with_reducible refine SF ?_|with_reducible refine MJ ?_|with_reducible refine J2 ?_|with_reducible refine Ss ?_|with_reducible refine J3 ?_|with_reducible refine Q3 ?_|with_reducible refine x_orV ?_|with_reducible refine Q4 ?_|with_reducible refine Gz ?_|with_reducible refine Su ?_|with_reducible refine PY ?_|with_reducible refine Ag ?_|with_reducible refine Sv ?_|with_reducible refine Sy ?_|with_reducible refine MG ?_|with_reducible refine Ul ?_|with_reducible refine Um ?_|with_reducible refine Uo ?_|with_reducible refine MH ?_|with_reducible refine Q5 ?_|with_reducible refine Sz ?_|((with_reducible refine Uq ?hc ?_);(case hc=>walk_at "c"))|with_reducible refine Q6 ?_|with_reducible refine x_addHI ?_|with_reducible refine SB ?_|with_reducible refine SC ?_|with_reducible refine Q9 ?_|with_reducible refine SG ?_|with_reducible refine Ra ?_|with_reducible refine Q8 ?_|with_reducible refine SJ ?_|with_reducible refine SK ?_|with_reducible refine Uj ?_|with_reducible refine Us ?_|with_reducible refine OX ?_|with_reducible refine SD ?_|with_reducible refine x_rev ?_|with_reducible refine x_dnew ?_|with_reducible refine OY ?_|with_reducible refine Rb ?_|((with_reducible refine' SH ?hv ?_);(case hv=>exact rfl))|with_reducible refine ⟨_,rfl,?_⟩)
local macro_rules | `(tactic| walk_at "x")=>`(tactic| (walk_at "x1";repeat walk_at "x1"))
namespace K39
open Rm
def FV (t:Int×Int):iW:=.tuple [.int t.1,.int t.2]
theorem DG {K:aa}{H:Hp}:∀ {zs:List Zt},(∀ z∈zs,iI H z)->RepAll K H ((zs.map zP).map FV) (zs.map oP)
 | [],_=>.nil
 | z::zs,h=>.cons (.tup (.of (h z aq)) (.cons (.int _) (.cons (.int _) .nil))) (DG λy hy=>h y (ag _ hy))
theorem IQ {K:aa}{H:Hp}{l:af}{zs:List Zt}(hl:H l=some (.lst (zs.map oP))) (h:∀ z∈zs,iI H z):Rep K H (.list ((zs.map zP).map FV)) (.ref l):=.lst (SqL.of hl) (DG h)
theorem wo:∀ L:List (Int×Int),iB (L.map FV)=true
 | []=>rfl
 | t::ts=>by simp only [bV,iB,gm];exact ⟨by simp [FV,nG,iB],wo ts⟩
theorem so {H H':Hp}{zs:List Zt}(h:∀ z∈zs,iI H z) (S:Same H H'):∀ z∈zs,iI H' z:=λz hz=>S _ _ (h z hz)
theorem ED (t u:Int×Int):du (FV t) (FV u)=decide (t=u):=by
 obtain ⟨a,b⟩:=t
 obtain ⟨c,d⟩:=u
 rw [j5]
 simp [FV,du,F9,FU]
theorem EE (t:Int×Int):vP (FV t):=⟨xC _ (by simp [FV,nG,iB]),by simp [FV,nC,fW]⟩
theorem IR {K:aa}{H:Hp}{p:af}{a b:Int}(h:H p=some (.tup [.int a,.int b])):Rep K H (FV (a,b)) (.ref p):=.tup (.of h) (.cons (.int _) (.cons (.int _) .nil))
theorem Rz {L:List (Int×Int)}{t u:Int×Int}:∀ {m:Nat},m<L.idxOf t->L[m]?=some u->u≠t:=by
 induction L with
 | nil=>intro m h e;simp at e
 | cons v L ih =>
  intro m h e
  by_cases q:v=t
  ·subst q;simp at h
  ·have hv:(v == t)=false:=by simpa using q
   rw [RU,hv] at h
   cases m with
   | zero=>simp at e;subst e;exact q
   | succ m=>exact ih (m:=m) (by simpa using h) (by simpa using e)
theorem G9 {K:aa}{H:Hp}{Q:VK}{l p:af}{zs:List Zt}{a b:Int}(hl:H l=some (.lst (zs.map oP))) (hz:∀ z∈zs,iI H z) (hlen:zs.length<=100000) (hp:H p=some (.tup [.int a,.int b])) (hm:(a,b)∈zs.map zP)
  (k:Q (.int ((zs.map zP).idxOf (a,b):Nat)) H):qr K (.ref l) [.ref p] H Q:=by
 have hi:(zs.map zP).idxOf (a,b)<(zs.map zP).length:=gC.mpr hm
 refine .inr ⟨l,.ref p,(zs.map zP).map FV,FV (a,b),(zs.map zP).idxOf (a,b),FV (a,b),rfl,rfl,IQ hl hz,IR hp,EE _,eS _ (wo _),by rw [aj,aj];exact b0 hlen,?_,by rw [ED];simp,λm e hm' em=>?_,k⟩
 ·rw [ay,ar hi,qS];rfl
 ·rw [ay] at em
  obtain ⟨u,e1,e2⟩:=bc.mp em
  subst e2
  rw [ED,decide_eq_false (Rz hm' e1)]
def b9 (K:aa) (C:af):Sp:=λvs H Q _=>∃ (p:af) (r:List Int),vs=[.ref p]/\SqL K H p (r.map V.int)/\r.length<=1000/\∀ l H' (zs:List Zt),Same H H'->H l=none->H' l=some (.lst (zs.map oP))->(∀ z∈zs,iI H' z)->zs.map zP=al r->Q (.ref l) H'
theorem yO {K:aa}{C:af}:∀ vs H Q E,b9 K C vs H Q E->vs.length=1:=by
 rintro vs H Q E ⟨p,r,rfl,_⟩;rfl
theorem yP {K:aa}{C:af}:∀ vs H Q E,b9 K C vs H Q E->mN K C { nx:=λ_ H'=>Q .non H',rt:=Q } (start ["row"] vs) H:=by
 rintro vs H Q E ⟨p,r,rfl,hp,hl,k⟩
 unfold mN
 walk_at "x"
 refine Rk ?_
 walk_at "x"
 refine vR (j:=1) hp rfl λq hq=>?_
 have S1:=Same.upd_new (o:=.lst ((r.drop 1).map V.int)) hq
 have g1:(upd H q (.lst ((r.drop 1).map V.int))) q=some (.lst ((r.drop 1).map V.int)):=aD
 generalize upd H q (.lst ((r.drop 1).map V.int))=H1 at S1 g1
 walk_at "x"
 exact ⟨p,q,r,r.drop 1,rfl,S1.seq hp,SqL.of g1,by omega,λl zs H2 S2 hl2 gl hz e=>k l H2 zs (S1.trans S2) (S1.free hl2) gl hz (by rw [e,IE])⟩
def ir (K:aa) (C:af):Sp:=λvs H Q _=>∃ (p:af) (r:List Int) (a b:Int),vs=[.ref p,.int a,.int b]/\SqL K H p (r.map V.int)/\r.length<=1000/\(a,b)∈al r/\(b,a)∈al r /\
 ∀ (t x y:af) (H':Hp),Same H H'->H t=none->H x=none->H y=none->x≠y->H' t=some (.tup [.ref x,.ref y])->H' x=some (.lst ((xc r a b).1.map V.int))->H' y=some (.lst ((xc r a b).2.map V.int))->Q (.ref t) H'
theorem IS {K:aa}{C:af}:∀ vs H Q E,ir K C vs H Q E->vs.length=3:=by
 rintro vs H Q E ⟨p,r,a,b,rfl,_⟩;rfl
theorem IT {K:aa}{C:af}:∀ vs H Q E,ir K C vs H Q E->ue K C (b9 K C) { nx:=λ_ H'=>Q .non H',rt:=Q } (start ["row","a","b","along","there","back","k","m","inner","outer"] vs) H:=by
 rintro vs H Q E ⟨p,r,a,b,rfl,hp,hl,hab,hba,k⟩
 have hi:(al r).idxOf (a,b)<(al r).length:=gC.mpr hab
 have hj:(al r).idxOf (b,a)<(al r).length:=gC.mpr hba
 rw [IF] at hi hj
 unfold ue
 walk_at "x"
 refine ⟨p,r,rfl,hp,hl,λw H1 zs S1 hw gw hz ez=>?_⟩
 have hzl:zs.length<=1000:=by
  have:=congrArg ft ez
  rw [aj,IF] at this
  omega
 walk_at "x"
 refine ⟨.inl ⟨rfl,_,SqL.of gw⟩,?_⟩
 walk_at "x"
 refine ⟨b0 (m:=2) (aw 2),λt1 ht1=>?_⟩
 have S2:=Same.upd_new (o:=.tup [.int a,.int b]) ht1
 have g2:(upd H1 t1 (.tup [.int a,.int b])) t1=some (.tup [.int a,.int b]):=aD
 generalize upd H1 t1 (.tup [.int a,.int b])=H2 at S2 g2
 walk_at "x"
 refine G9 (S2 _ _ gw) (so hz S2) (by omega) g2 (by rw [ez];exact hab) ?_
 rw [ez]
 walk_at "x"
 refine ⟨.inl ⟨rfl,_,SqL.of (S2 _ _ gw)⟩,?_⟩
 walk_at "x"
 refine ⟨b0 (m:=2) (aw 2),λt2 ht2=>?_⟩
 have S3:=Same.upd_new (o:=.tup [.int b,.int a]) ht2
 have g3:(upd H2 t2 (.tup [.int b,.int a])) t2=some (.tup [.int b,.int a]):=aD
 generalize upd H2 t2 (.tup [.int b,.int a])=H3 at S3 g3
 have S13:=S2.trans S3
 walk_at "x"
 refine G9 (S13 _ _ gw) (so hz S13) (by omega) g3 (by rw [ez];exact hba) ?_
 rw [ez]
 have hpr:xc r a b=if (al r).idxOf (a,b)<(al r).idxOf (b,a) then (xF r ((al r).idxOf (a,b)) ((al r).idxOf (b,a)),rh r ((al r).idxOf (a,b)) ((al r).idxOf (b,a))) else (rh r ((al r).idxOf (b,a)) ((al r).idxOf (a,b)),xF r ((al r).idxOf (b,a)) ((al r).idxOf (a,b))):=rfl
 generalize (al r).idxOf (a,b)=i at hi hpr
 generalize (al r).idxOf (b,a)=j at hj hpr
 walk_at "x"
 obtain ⟨u,v,eu,ev,huv⟩:∃ u v:Nat,(if (j:Int)<(i:Int) then (j:Int) else (i:Int))=(u:Int)/\(if (j:Int)>(i:Int) then (j:Int) else (i:Int))=(v:Int)/\((i<j/\u=i/\v=j)\/(¬ i<j/\u=j/\v=i)):=by
  by_cases c:i<j
  ·exact ⟨i,j,by rw [if_neg (by omega)],by rw [if_pos (by omega)],.inl ⟨c,rfl,rfl⟩⟩
  ·by_cases c2:j<i
   ·exact ⟨j,i,by rw [if_pos (by omega)],by rw [if_neg (by omega)],.inr ⟨c,rfl,rfl⟩⟩
   ·have:i=j:=by omega
    subst this
    exact ⟨i,i,by rw [if_neg (by omega)],by rw [if_neg (by omega)],.inr ⟨c,rfl,rfl⟩⟩
 rw [eu,ev]
 have hS:=S1.trans S13
 refine J9 (j:=u+1) (j':=v+1) (hS.seq hp) (by omega) (by omega) λy hy=>?_
 have hin:(r.drop (u+1)).take (v+1-(u+1))=rh r u v:=by unfold rh;rw [show v+1-(u+1)=v-u by omega]
 rw [hin]
 have S4:=Same.upd_new (o:=.lst ((rh r u v).map V.int)) hy
 have g4:(upd H3 y (.lst ((rh r u v).map V.int))) y=some (.lst ((rh r u v).map V.int)):=aD
 generalize upd H3 y (.lst ((rh r u v).map V.int))=H4 at S4 g4
 walk_at "x"
 refine Iw (j:=u+1) ((hS.trans S4).seq hp) (by omega) λq1 hq1=>?_
 have S5:=Same.upd_new (o:=.lst ((r.take (u+1)).map V.int)) hq1
 have g5:(upd H4 q1 (.lst ((r.take (u+1)).map V.int))) q1=some (.lst ((r.take (u+1)).map V.int)):=aD
 generalize upd H4 q1 (.lst ((r.take (u+1)).map V.int))=H5 at S5 g5
 walk_at "x"
 refine vR (j:=v+2) ((hS.trans (S4.trans S5)).seq hp) (by omega) λq2 hq2=>?_
 have S6:=Same.upd_new (o:=.lst ((r.drop (v+2)).map V.int)) hq2
 have g6:(upd H5 q2 (.lst ((r.drop (v+2)).map V.int))) q2=some (.lst ((r.drop (v+2)).map V.int)):=aD
 generalize upd H5 q2 (.lst ((r.drop (v+2)).map V.int))=H6 at S6 g6
 refine Ef (S6 _ _ g5) g6 (by rw [bw,bz];omega) λx hx=>?_
 have S7:=Same.upd_new (o:=.lst ((xF r u v).map V.int)) hx
 have g7:(upd H6 x (.lst ((xF r u v).map V.int))) x=some (.lst ((xF r u v).map V.int)):=aD
 show bI 9 (.ref x) _ (upd H6 x (.lst ((xF r u v).map V.int))) _
 generalize upd H6 x (.lst ((xF r u v).map V.int))=H7 at S7 g7
 have S37:=S4.trans (S5.trans (S6.trans S7))
 have S47:=S5.trans (S6.trans S7)
 have nxy:x≠y:=Ne.symm (aN (S6 _ _ (S5 _ _ g4)) hx)
 have hHx:H x=none:=(hS.trans (S4.trans (S5.trans S6))).free hx
 have hHy:H y=none:=hS.free hy
 walk_at "x"
 rcases huv with ⟨c,rfl,rfl⟩|⟨c,rfl,rfl⟩
 ·rw [if_pos c] at hpr
  refine zE (λ_=>?_) λz=>absurd (by omega) z
  walk_at "x"
  refine ⟨b0 (m:=2) (aw 2),λt ht=>?_⟩
  have S8:=Same.upd_new (o:=.tup [.ref x,.ref y]) ht
  exact k t x y _ ((hS.trans S37).trans S8) ((hS.trans S37).free ht) hHx hHy nxy aD (by rw [hpr];exact S8 _ _ g7) (by rw [hpr];exact S8 _ _ (S47 _ _ g4))
 ·rw [if_neg c] at hpr
  refine zE (λz=>absurd (by omega) c) λ_=>?_
  walk_at "x"
  refine ⟨b0 (m:=2) (aw 2),λt ht=>?_⟩
  have S8:=Same.upd_new (o:=.tup [.ref y,.ref x]) ht
  exact k t y x _ ((hS.trans S37).trans S8) ((hS.trans S37).free ht) hHy hHx (Ne.symm nxy) aD (by rw [hpr];exact S8 _ _ (S47 _ _ g4)) (by rw [hpr];exact S8 _ _ g7)
def eh (K:aa) (C:af):Sp:=λvs H Q _=>∃ (p:af) (r:List Int) (a:Int),vs=[.ref p,.int a]/\SqL K H p (r.map V.int)/\a∈r/\r.length<=1000 /\
 ∀ l H',Same H H'->H l=none->H' l=some (.lst ((tn r (r.idxOf a)).map V.int))->Q (.ref l) H'
theorem IU {K:aa}{C:af}:∀ vs H Q E,eh K C vs H Q E->vs.length=2:=by
 rintro vs H Q E ⟨p,r,a,rfl,_⟩;rfl
theorem IV {K:aa}{C:af}:∀ vs H Q E,eh K C vs H Q E->ud K C { nx:=λ_ H'=>Q .non H',rt:=Q } (start ["row","a","k"] vs) H:=by
 rintro vs H Q E ⟨p,r,a,rfl,hp,ha,hl,q⟩
 unfold ud
 walk_at "x"
 refine ⟨.inl ⟨rfl,_,hp⟩,?_⟩
 walk_at "x"
 refine Ec hp ha ?_
 walk_at "x"
 refine vR hp rfl λp1 h1=>?_
 have S1:=Same.upd_new (o:=.lst ((r.drop (r.idxOf a)).map V.int)) h1
 walk_at "x"
 refine J9 (j:=1) (j':=r.idxOf a+1) (S1.seq hp) rfl (by omega) λp2 h2=>?_
 have S2:=Same.upd_new (o:=.lst (((r.drop 1).take (r.idxOf a+1-1)).map V.int)) h2
 refine Ef (S2 _ _ aD) aD ?_ λp3 h3=>?_
 ·rw [bz,bw,bz];omega
 ·have S3:=Same.upd_new (o:=.lst (((r.drop (r.idxOf a))++((r.drop 1).take (r.idxOf a+1-1))).map V.int)) h3
  have S:=(S1.trans S2).trans S3
  exact q p3 _ S ((S1.trans S2).free h3) aD
def iJ (K:aa) (C:af):Sp:=λvs H Q _=>∃ (p q:af) (r1 r2:List Int) (a b:Int),vs=[.ref p,.ref q,.int a,.int b]/\SqL K H p (r1.map V.int)/\SqL K H q (r2.map V.int)/\a∈r1/\b∈r2/\r1.length<=1000/\r2.length<=1000 /\
 ∀ l H',Same H H'->H l=none->H' l=some (.lst ((AA r1 r2 a b).map V.int))->Q (.ref l) H'
theorem Ha {K:aa}{C:af}:∀ vs H Q E,iJ K C vs H Q E->vs.length=4:=by
 rintro vs H Q E ⟨p,q,r1,r2,a,b,rfl,_⟩;rfl
theorem Hb {K:aa}{C:af}:∀ vs H Q E,iJ K C vs H Q E->sj K C (eh K C) { nx:=λ_ H'=>Q .non H',rt:=Q } (start ["row","other","a","b","k"] vs) H:=by
 rintro vs H Q E ⟨p,q,r1,r2,a,b,rfl,hp,hq,ha,hb,hl1,hl2,k⟩
 unfold sj
 walk_at "x"
 refine ⟨.inl ⟨rfl,_,hp⟩,?_⟩
 walk_at "x"
 refine Ec hp ha ?_
 walk_at "x"
 refine Iw (j:=r1.idxOf a+1) hp (by omega) λp1 h1=>?_
 have S1:=Same.upd_new (o:=.lst ((r1.take (r1.idxOf a+1)).map V.int)) h1
 have g1:(upd H p1 (.lst ((r1.take (r1.idxOf a+1)).map V.int))) p1=some (.lst ((r1.take (r1.idxOf a+1)).map V.int)):=aD
 generalize upd H p1 (.lst ((r1.take (r1.idxOf a+1)).map V.int))=H1 at S1 g1
 walk_at "x"
 refine ⟨q,r2,b,rfl,S1.seq hq,hb,hl2,λt H2 S2 ht gt=>?_⟩
 have hlt:(tn r2 (r2.idxOf b)).length=r2.length:=Ni (xE hb)
 refine Ef (S2 _ _ g1) gt (by rw [bw];omega) λp3 h3=>?_
 have S3:=Same.upd_new (o:=.lst ((r1.take (r1.idxOf a+1)++tn r2 (r2.idxOf b)).map V.int)) h3
 have g3:(upd H2 p3 (.lst ((r1.take (r1.idxOf a+1)++tn r2 (r2.idxOf b)).map V.int))) p3=some (.lst ((r1.take (r1.idxOf a+1)++tn r2 (r2.idxOf b)).map V.int)):=aD
 generalize upd H2 p3 (.lst ((r1.take (r1.idxOf a+1)++tn r2 (r2.idxOf b)).map V.int))=H3 at S3 g3
 walk_at "x"
 have S13:=S1.trans (S2.trans S3)
 refine vR (j:=r1.idxOf a) (S13.seq hp) rfl λp4 h4=>?_
 have S4:=Same.upd_new (o:=.lst ((r1.drop (r1.idxOf a)).map V.int)) h4
 have g4:(upd H3 p4 (.lst ((r1.drop (r1.idxOf a)).map V.int))) p4=some (.lst ((r1.drop (r1.idxOf a)).map V.int)):=aD
 generalize upd H3 p4 (.lst ((r1.drop (r1.idxOf a)).map V.int))=H4 at S4 g4
 refine Ef (S4 _ _ g3) g4 (by rw [aX,bw,bz];omega) λp5 h5=>?_
 have S5:=Same.upd_new (o:=.lst ((r1.take (r1.idxOf a+1)++tn r2 (r2.idxOf b)++r1.drop (r1.idxOf a)).map V.int)) h5
 refine k p5 _ ((S13.trans S4).trans S5) ((S13.trans S4).free h5) ?_
 unfold AA
 rw [← dS]
 exact aD
def jH (K:aa) (C:af):Sp:=λvs H Q _=>∃ (p:af) (r:List Int) (a b:Int),vs=[.ref p,.int a,.int b]/\H p=some (.lst (r.map V.int))/\IsR r/\r.length<=127/\a∈r/\b∈r /\
 ∀ l H' w,Same H H'->H l=none->H' l=some (.lst (w.map V.int))->RY r a b w->Q (.ref l) H'
theorem IW {K:aa}{C:af}:∀ vs H Q E,jH K C vs H Q E->vs.length=3:=by
 rintro vs H Q E ⟨p,r,a,b,rfl,_⟩;rfl
theorem IX {K:aa}{C:af}:∀ vs H Q E,jH K C vs H Q E->uf K C (eh K C) { nx:=λ_ H'=>Q .non H',rt:=Q } (start ["row","a","b","ahead","way","place"] vs) H:=by
 rintro vs H Q E ⟨p,r,a,b,rfl,hp,hR,hrl,ha,hb,q⟩
 obtain ⟨f,m,hG,inj⟩:=IsR.gr _ (aw _) hR
 have hm:m<=63:=by have:=hG.len;omega
 obtain ⟨rn,par,rfl,T⟩:=hG.tree
 have hlen:=hG.len
 have f0:=hG.first
 have f1:=hG.last
 rw [aj] at hlen f1
 have hx:=xE ha
 rw [aj] at hx
 generalize hk:(rn.map f).idxOf a=k at hx
 have hlr:(tn rn k).length=rn.length:=by unfold tn;rw [aX,bz,bw,bz];omega
 obtain ⟨x0,z0,z1⟩:∃ x,rn[0]?=some x/\rn[rn.length-1]?=some x:=by
  rw [ay] at f0 f1
  obtain ⟨x,e1,e2⟩:=bc.mp f0
  obtain ⟨y,e3,e4⟩:=bc.mp f1
  have hx:=T.le x (aG e1)
  have hy:=T.le y (aG e3)
  have:x=y:=inj _ _ (by omega) (by omega) (by rw [e2,e4])
  subst this
  exact ⟨x,e1,e3⟩
 unfold uf
 walk_at "x"
 refine ⟨p,_,a,rfl,SqL.of hp,ha,by rw [aj];omega,λt H1 S1 ht gt=>?_⟩
 rw [hk,← Ru] at gt
 walk_at "x"
 refine ⟨b0 (m:=0) (aw 0),λl hl=>?_⟩
 have S2:=Same.upd_new (o:=.lst []) hl
 have gl:(upd H1 l (.lst [])) l=some (.lst []):=aD
 generalize upd H1 l (.lst [])=H2 at S2 gl
 have gt2:=S2 _ _ gt
 walk_at "x"
 unfold yB
 walk_at "x"
 refine ⟨.inl ⟨rfl,_,SqL.of gt2⟩,?_⟩
 walk_at "x"
 have hbt:b∈(tn rn k).map f:=by
  obtain ⟨y,hy,e⟩:=br.mp hb
  exact br.mpr ⟨y,Pb hx z0 z1 hy,e⟩
 refine Ec (SqL.of gt2) hbt ?_
 have hib:=xE hbt
 have gb:=Kj hbt
 rw [aj,hlr] at hib
 generalize ((tn rn k).map f).idxOf b=ib at hib gb
 walk_at "x"
 refine Iw (j:=ib+1) (SqL.of gt2) (by omega) λs hs=>?_
 rw [← l7]
 have S3:=Same.upd_new (o:=.lst ((((tn rn k).take (ib+1)).map f).map V.int)) hs
 have gs:(upd H2 s (.lst ((((tn rn k).take (ib+1)).map f).map V.int))) s=some (.lst ((((tn rn k).take (ib+1)).map f).map V.int)):=aD
 generalize upd H2 s (.lst ((((tn rn k).take (ib+1)).map f).map V.int))=H3 at S3 gs
 have gl3:=S3 _ _ gl
 have nsl:s≠l:=Ne.symm (aN gl hs)
 have el:((tn rn k).take (ib+1)).length=ib+1:=by rw [bw];omega
 have hle:∀ x∈tn rn k,x<=m:=λx hx=>T.le x (Nj hx)
 refine ⟨s,rfl,?_⟩
 refine .inl ⟨⟨_,SqL.of gs⟩,oj (K:=K) (a:=s) (xs:=(((tn rn k).take (ib+1)).map f).map V.int)
  (λi σ H4=>SameBut1 l H3 H4/\∃ wn o5,σ=[some (.ref p),some (.int a),some (.int b),some (.ref t),some (.ref l),o5]/\H4 l=some (.lst ((wn.map f).map V.int))/\((i=0/\wn=[])\/∃ i',i=i'+1/\WI (tn rn k) i' wn))
  ⟨SameBut1.refl _ _,[],_,rfl,gl3,.inl ⟨rfl,rfl⟩⟩ ?_ ?_ ?_⟩
 ·rintro i σ H4 _ ⟨B,_⟩;exact SqL.of (B _ _ gs nsl)
 ·rintro i z σ H4 hi ⟨B,wn,o5,rfl,gw,hW⟩
  rw [cW,ay,eE] at hi
  obtain ⟨pn,hpn,ez⟩:=bc.mp hi
  have hib1:i<ib+1:=by
   by_cases c:i<ib+1
   ·exact c
   ·rw [if_neg c] at hpn;cases hpn
  rw [if_pos hib1] at hpn
  have ez:z=V.int (f pn):=ez.symm
  subst ez
  have hpm:=hle pn (aG hpn)
  have hwl:wn.length<=i:=by
   rcases hW with ⟨h1,h2⟩|⟨i',h1,h2⟩
   ·subst h2;simp
   ·have:=h2.len;omega
  have lw:(((wn.map f).map V.int)).length=wn.length:=by simp
  have push:¬ (1<wn.length/\wn[wn.length-2]?=some pn)->mq (V.ref l) [V.int (f pn)] H4 λx H1=>SameBut1 l H3 H1/\∃ wn o5',[some (V.ref p),some (V.int a),some (V.int b),some (V.ref t),some (V.ref l),some (V.int (f pn))]=[some (V.ref p),some (V.int a),some (V.int b),some (V.ref t),some (V.ref l),o5']/\H1 l=some (.lst ((wn.map f).map V.int))/\((i+1=0/\wn=[])\/∃ i',i+1=i'+1/\WI (tn rn k) i' wn):=by
   intro hno
   refine oq gw (eG (m:=1000) (by rw [lw];omega)) ?_
   refine ⟨B.trans SameBut1.upd,wn++[pn],_,rfl,by rw [aV,aV];exact aD,.inr ⟨i,rfl,?_⟩⟩
   rcases hW with ⟨h1,h2⟩|⟨i',h1,h2⟩
   ·subst h1 h2;exact WI.start hpn
   ·subst h1;exact h2.push hpn hno
  walk_at "x"
  refine Eb (SqL.of gw) ?_
  rw [lw]
  walk_at "x"
  refine zE (λh1=>?_) λh1=>?_
  ·have h1:1<wn.length:=by omega
   obtain ⟨un,hun⟩:∃ un,wn[wn.length-2]?=some un:=⟨_,ar (by omega)⟩
   have hum:un<=m:=by
    rcases hW with ⟨q1,q2⟩|⟨i',q1,q2⟩
    ·subst q2;simp at h1
    ·exact hle un (q2.sub un (aG hun))
   walk_at "x"
   refine nA (SqL.of gw) (O0 (j:=1) (v:=.int (f un)) (by rw [lw];exact h1) (Ka (by rw [lw,ay,show wn.length-(1+1)=wn.length-2 by omega,hun];rfl))) ?_
   walk_at "x"
   refine ifV (p:=un=pn) (by rw [decide_eq_true_iff,j9];exact ⟨λe=>inj _ _ (by omega) (by omega) e,λe=>by rw [e]⟩) (λe=>?_) λe=>?_
   ·subst e
    walk_at "x"
    refine SQ ?_
    walk_at "x"
    refine ⟨.inl ⟨rfl,_,SqL.of gw⟩,?_⟩
    obtain ⟨wl,ew⟩:∃ wl,wn=wn.dropLast++[wl]:=by
     rcases dQ wn with z|⟨us,u,z⟩
     ·subst z;simp at h1
     ·rw [dR] at z;exact ⟨u,by rw [z];simp⟩
    have gw':H4 l=some (.lst ((wn.dropLast.map f).map V.int++[V.int (f wl)])):=by rw [gw,show (wn.map f).map V.int=((wn.dropLast++[wl]).map f).map V.int by rw [← ew],aV,aV];rfl
    refine SR gw' ?_
    refine ⟨B.trans SameBut1.upd,wn.dropLast,_,rfl,aD,.inr ⟨i,rfl,?_⟩⟩
    rcases hW with ⟨q1,q2⟩|⟨i',q1,q2⟩
    ·subst q2;simp at h1
    ·subst q1;exact q2.pop hpn h1 hun
   ·walk_at "x"
    refine ⟨.inl ⟨rfl,_,SqL.of gw⟩,?_⟩
    walk_at "x"
    exact push λz=>e (by rw [hun] at z;exact aS z.2)
  ·refine j8 ?_
   walk_at "x"
   refine ⟨.inl ⟨rfl,_,SqL.of gw⟩,?_⟩
   walk_at "x"
   exact push λz=>h1 (by omega)
 ·rintro σ H4 ⟨B,wn,o5,rfl,gw,hW⟩
  have e0:((((tn rn k).take (ib+1)).map f).map V.int).length=ib+1:=by rw [aj,aj,el]
  rw [e0] at hW
  rcases hW with ⟨q1,q2⟩|⟨i',q1,q2⟩
  ·omega
  ·have ei:i'=ib:=by omega
   subst ei
   walk_at "x"
   have S:Same H H4:=λb o e=>B b o ((S1.trans (S2.trans S3)) b o e) (aN (S1 _ _ e) hl)
   refine q l H4 _ S (S1.free hl) gw (q2.wayF (f:=f) T inj ⟨x0,z0,z1⟩ hx (by omega) hib ?_ ?_)
   ·have e1:(tn rn k)[0]?=rn[k]?:=by
     unfold tn
     rw [ck (by rw [bz];omega),cn];rfl
    have:=Kj ha
    rw [hk,ay] at this
    rw [e1];exact this
   ·rw [ay] at gb;exact gb
def dv (K:aa) (C:af):Sp:=λvs H Q _=>∃ i:Int,vs=[.int i]/\Q (.bl true) H
theorem EF {K:aa}{C:af}:∀ vs H Q E,dv K C vs H Q E->vs.length=1:=by
 rintro vs H Q E ⟨i,rfl,_⟩;rfl
theorem EG {K:aa}{C:af}:∀ vs H Q E,dv K C vs H Q E->qu K C { nx:=λ_ H'=>Q .non H',rt:=Q } (start ["thing"] vs) H:=by
 rintro vs H Q E ⟨i,rfl,k⟩
 unfold qu
 walk_at "x"
 refine Dv (.int i) MK ?_
 walk_at "x"
 refine qi ?_
 walk_at "x"
 refine Dv (.int i) ML ?_
 walk_at "x"
 exact k
def gW (K:aa) (C:af):Sp:=λvs H Q _=>∃ (n i:Nat),vs=[.int n,.int i]/\i<n/\Q (.bl true) H
theorem EH {K:aa}{C:af}:∀ vs H Q E,gW K C vs H Q E->vs.length=2:=by
 rintro vs H Q E ⟨n,i,rfl,_⟩;rfl
theorem EI {K:aa}{C:af}:∀ vs H Q E,gW K C vs H Q E->qw K C (dv K C) { nx:=λ_ H'=>Q .non H',rt:=Q } (start ["n","thing"] vs) H:=by
 rintro vs H Q E ⟨n,i,rfl,hi,k⟩
 unfold qw
 walk_at "x"
 refine ⟨i,rfl,?_⟩
 refine ⟨true,rfl,?_⟩
 refine qi ?_
 walk_at "x"
 refine zE (λ_=>?_) λz=>absurd (show (0:Int)<=i by omega) z
 walk_at "x"
 rw [decide_eq_true (show (i:Int)<n by omega)]
 exact k
def aY (K:aa) (C:af):Sp:=λvs H Q _=>∃ (n i:Nat),vs=[.int n,.int i]/\i<n/\Q .non H
theorem uC {K:aa}{C:af}:∀ vs H Q E,aY K C vs H Q E->vs.length=2:=by
 rintro vs H Q E ⟨n,i,rfl,_⟩;rfl
theorem uD {K:aa}{C:af}:∀ vs H Q E,aY K C vs H Q E->jk K C (gW K C) { nx:=λ_ H'=>Q .non H',rt:=Q } (start ["n","thing"] vs) H:=by
 rintro vs H Q E ⟨n,i,rfl,hi,k⟩
 unfold jk
 walk_at "x"
 refine ⟨n,i,rfl,hi,?_⟩
 refine ⟨true,rfl,?_⟩
 refine j8 ?_
 walk_at "x"
 exact k
def bK (K:aa) (C:af):Sp:=λvs H Q _=>∃ (n i j:Nat),vs=[.int n,.int i,.int j]/\i<n/\j<n/\Q .non H
theorem tM {K:aa}{C:af}:∀ vs H Q E,bK K C vs H Q E->vs.length=3:=by
 rintro vs H Q E ⟨n,i,j,rfl,_⟩;rfl
theorem tN {K:aa}{C:af}:∀ vs H Q E,bK K C vs H Q E->iX K C (aY K C) { nx:=λ_ H'=>Q .non H',rt:=Q } (start ["n","a","b"] vs) H:=by
 rintro vs H Q E ⟨n,i,j,rfl,hi,hj,k⟩
 unfold iX
 walk_at "x"
 refine ⟨n,i,rfl,hi,?_⟩
 walk_at "x"
 refine ⟨n,j,rfl,hj,?_⟩
 exact k
def aQ (K:aa) (C:af):Sp:=λvs H Q _=>∃ (n i j:Nat),vs=[.int n,.int i,.int j]/\i<n/\j<n/\i≠j/\Q .non H
theorem vh {K:aa}{C:af}:∀ vs H Q E,aQ K C vs H Q E->vs.length=3:=by
 rintro vs H Q E ⟨n,i,j,rfl,_⟩;rfl
theorem vj {K:aa}{C:af}:∀ vs H Q E,aQ K C vs H Q E->jT K C (bK K C) { nx:=λ_ H'=>Q .non H',rt:=Q } (start ["n","a","b"] vs) H:=by
 rintro vs H Q E ⟨n,i,j,rfl,hi,hj,hij,k⟩
 unfold jT
 walk_at "x"
 refine ⟨n,i,j,rfl,hi,hj,?_⟩
 walk_at "x"
 refine zE (λz=>absurd (j9.mp z) (by omega)) λ_=>?_
 walk_at "x"
 exact k
theorem cY {K:aa}{ta:TE}{f:bA}{σ:L2.St}{H:Hp}{Q:VK}(h:ta σ H λx H1=>∃ a C dx fs v,x=.ref a/\H1 a=some (.ins C dx fs)/\Cls K C/\NoAttr K C f/\fs.lookup f=some v/\Q v H1):fj K ta f σ H Q:=h
theorem nK {K:aa}{ta tv:TE}{f:bA}{D:sS}{σ:L2.St}{H:Hp}(h:tv σ H λy H1=>ta σ H1 λx H2=>∃ a C dx fs,x=.ref a/\H2 a=some (.ins C dx fs)/\Cls K C/\NoAttr K C f/\fs.length<1000/\D.nx σ (upd H2 a (.ins C dx (d9 f y fs)))):uY K ta tv f D σ H:=h
theorem dD {C:af}{m:bA}{sp:Sp}{dvs:List V}{E:XK}{ta:TE}{t:TA}{σ:L2.St}{H:Hp}{Q:VK}(h:ta σ H λx H1=>∃ a dx fs,x=.ref a/\H1 a=some (.ins C dx fs)/\fs.lookup m=none/\t σ H1 λvs H2=>sp (x::(vs++dvs)) H2 Q E):eP C m sp dvs E ta t σ H Q:=h
theorem kn:¬ (("n":bA)="rows"):=by decide +kernel
def EJ (n:Nat) (l:af):List (bA×V):=d9 "rows" (.ref l) (d9 "n" (.int n) [])
theorem iu (n:Nat) (l:af):(EJ n l).lookup ("rows":bA)=some (.ref l):=by unfold EJ;rw [fJ,if_pos rfl]
theorem xJ (n:Nat) (l:af):(EJ n l).lookup ("n":bA)=some (.int n):=by unfold EJ;rw [fJ,if_neg kn,fJ,if_pos rfl]
theorem jV (n:Nat) (l:af) {m:bA}(h1:¬ m="rows") (h2:¬ m="n"):(EJ n l).lookup m=none:=by
 unfold EJ;rw [fJ,if_neg h1,fJ,if_neg h2];rfl
structure CT (K:aa) (C:af):Prop where
 cl:Cls K C
 n:NoAttr K C "n"
 rows:NoAttr K C "rows"
structure WA (C:af) (H:Hp) (p dx l:af) (n:Nat) (as:List af) (R:Nat->List Int):Prop where
 ob:H p=some (.ins C dx (EJ n l))
 rl:H l=some (.lst (as.map V.ref))
 len:as.length=n
 at_:∀ i a,as[i]?=some a->H a=some (.lst ((R i).map V.int))
 ne:∀ a∈as,a≠l
theorem WA.get {C:af}{H:Hp}{p dx l:af}{n:Nat}{as:List af}{R:Nat->List Int}(W:WA C H p dx l n as R) {i:Nat}(hi:i<n):∃ a,as[i]?=some a/\H a=some (.lst ((R i).map V.int))/\a≠l:=by
 have h:i<as.length:=by rw [W.len];exact hi
 exact ⟨as[i],ar h,W.at_ i _ (ar h),W.ne _ (dO h)⟩
theorem WA.same {C:af}{H H':Hp}{p dx l:af}{n:Nat}{as:List af}{R:Nat->List Int}(W:WA C H p dx l n as R) (S:Same H H'):WA C H' p dx l n as R :=
 ⟨S _ _ W.ob,S _ _ W.rl,W.len,λi a h=>S _ _ (W.at_ i a h),W.ne⟩
def dH (K:aa) (C:af):Sp:=λvs H Q _=>∃ (p dx:af) (n:Nat),vs=[.ref p,.int n]/\H p=some (.ins C dx [])/\CT K C/\n<=1000/\∀ (l:af) (as:List af) (H':Hp),WA C H' p dx l n as (λi=>[(i:Int)])->H l=none->SameBut1 p H H'->Q .non H'
theorem wq {K:aa}{C:af}:∀ vs H Q E,dH K C vs H Q E->vs.length=2:=by
 rintro vs H Q E ⟨p,dx,n,rfl,_⟩;rfl
theorem wu {K:aa}{C:af}:∀ vs H Q E,dH K C vs H Q E->kH K C { nx:=λ_ H'=>Q .non H',rt:=Q } (start ["self","n"] vs) H:=by
 rintro vs H Q E ⟨p,dx,n,rfl,hp,ct,hn,k⟩
 unfold kH
 walk_at "x1"
 refine nK ?_
 walk_at "x"
 refine ⟨p,C,dx,[],rfl,hp,ct.cl,ct.n,by decide,?_⟩
 dsimp only
 refine nK ?_
 walk_at "x"
 refine ⟨by omega,by omega,λacc hacc=>?_⟩
 have e0:((n:Int)).toNat=n:=by omega
 rw [e0]
 have hap:acc≠p:=λe=>by rw [e,aD] at hacc;cases hacc
 have hacc0:H acc=none:=by rw [aJ hap] at hacc;exact hacc
 have g0:(upd H p (.ins C dx (d9 "n" (.int n) []))) p=some (.ins C dx (d9 "n" (.int n) [])):=aD
 have B0:SameBut1 p H (upd H p (.ins C dx (d9 "n" (.int n) []))):=SameBut1.upd
 generalize upd H p (.ins C dx (d9 "n" (.int n) []))=H0 at hacc g0 B0
 refine oX (n:=n) (λt ys H1=>∃ as:List af,ys=as.map V.ref/\as.length=t/\H1 acc=some (.lst ys)/\Same H0 H1/\∀ (i:Nat) a,as[i]?=some a->a≠acc/\H1 a=some (.lst ([(i:Int)].map V.int))) (λσ=>∃ o,σ=[o]) ⟨[],rfl,rfl,aD,Same.upd_new hacc,λi a h=>by simp at h⟩ ⟨_,rfl⟩ ?_ ?_ ?_ ?_
 ·rintro t ys H1 ⟨_,_,_,h,_⟩;exact h
 ·rintro ys H1 ⟨as,rfl,hl,g1,S1,hA⟩
  refine ⟨aw n,?_⟩
  walk_at "x"
  refine ⟨p,C,dx,_,rfl,S1 _ _ g0,ct.cl,ct.rows,by show 1<1000;decide,?_⟩
  have hb:SameBut1 p H1 (upd H1 p (.ins C dx (EJ n acc))):=SameBut1.upd
  have nl:∀ {b:af}{xs:List V},H1 b=some (.lst xs)->b≠p:=λe z=>by rw [z,S1 _ _ g0] at e;cases e
  refine k acc as _ ⟨aD,hb _ _ g1 hap,hl,λi a ha=>hb _ _ (hA i a ha).2 (nl (hA i a ha).2),λa ha=>?_⟩ hacc0 λb o e hne=>hb _ _ (S1 _ _ (B0 _ _ e hne)) hne
  obtain ⟨i,hi⟩:=bE.mp ha
  exact (hA i a hi).1
 ·rintro t ys H1 ht _;exact ht
 ·rintro t ys σ' H1 x H2 ht ⟨as,rfl,hl,g1,S1,hA⟩ ⟨o,rfl⟩ ⟨eH,ex⟩
  subst eH ex
  walk_at "x"
  refine qi ?_
  walk_at "x"
  refine ⟨b0 (m:=1) (aw 1),λq hq=>?_⟩
  have T:=Same.upd_new (o:=.lst [.int (0+(t:Int))]) hq
  have u:(upd H2 q (.lst [.int (0+(t:Int))])) q=some (.lst ([(t:Int)].map V.int)):=by rw [aD];simp
  generalize upd H2 q (.lst [.int (0+(t:Int))])=H3 at T u
  have hqa:q≠acc:=Ne.symm (aN g1 hq)
  refine ⟨T _ _ g1,eG (m:=10000) (by rw [aj];omega),CNext.mk' ht ⟨_,rfl⟩ ⟨as++[q],by simp,by simp [hl],aD,λb o e=>by rw [aJ (aN e hacc)];exact T _ _ (S1 _ _ e),λi a ha=>?_⟩⟩
  by_cases hi:i<as.length
  ·rw [ck hi] at ha
   obtain ⟨h1,h2⟩:=hA i a ha
   exact ⟨h1,by rw [aJ h1];exact T _ _ h2⟩
  ·rw [bx (by omega)] at ha
   have:i=as.length:=by
    have:=(aB.mp ha).1
    simp at this;omega
   subst this
   simp at ha
   subst ha
   rw [hl]
   exact ⟨hqa,by rw [aJ hqa];exact u⟩
def cF (K:aa) (C:af):Sp:=λvs H Q _=>∃ (p dx l q:af) (n:Nat) (as:List af) (s:List Int),vs=[.ref p,.ref q]/\CT K C/\H p=some (.ins C dx (EJ n l))/\H l=some (.lst (as.map V.ref))/\as.length=n/\H q=some (.lst (s.map V.int))/\q≠l/\(∀ x∈s,∃ j:Nat,j<n/\x=(j:Int)) /\
 ∀ (as':List af) H',as'.length=n->(∀ (i:Nat) (a:af),as[i]?=some a->as'[i]?=some (if (i:Int)∈s then q else a))->H' l=some (.lst (as'.map V.ref))->SameBut1 l H H'->Q .non H'
theorem Cb {K:aa}{C:af}:∀ vs H Q E,cF K C vs H Q E->vs.length=2:=by
 rintro vs H Q E ⟨p,dx,l,q,n,as,s,rfl,_⟩;rfl
theorem Cc {K:aa}{C:af}:∀ vs H Q E,cF K C vs H Q E->pd K C { nx:=λ_ H'=>Q .non H',rt:=Q } (start ["self","row","place"] vs) H:=by
 rintro vs H Q E ⟨p,dx,l,q,n,as,s,rfl,ct,hp,hl,hn,hq,hql,hs,k⟩
 have hpl:p≠l:=iA hp hl (by intro z;cases z)
 unfold pd tI
 walk_at "x"
 refine .inl ⟨⟨_,SqL.of hq⟩,oj (K:=K) (a:=q) (xs:=s.map V.int) (λi σ H1=>∃ (as':List af) (o:Option V),σ=[some (.ref p),some (.ref q),o]/\as'.length=n/\(∀ (j:Nat) (a:af),as[j]?=some a->as'[j]?=some (if (j:Int)∈s.take i then q else a))/\H1 l=some (.lst (as'.map V.ref))/\SameBut1 l H H1)
  ⟨as,_,rfl,hn,λj a h=>by simpa using h,hl,SameBut1.refl _ _⟩ ?_ ?_ ?_⟩
 ·rintro i σ H1 _ ⟨as',o,_,_,_,_,B⟩;exact SqL.of (B _ _ hq hql)
 ·rintro i x σ H1 hi ⟨as',o,rfl,hn',hA,g1,B⟩
  rw [ay] at hi
  obtain ⟨c,hc,ex⟩:=bc.mp hi
  have ex:x=V.int c:=ex.symm
  subst ex
  obtain ⟨j,hj,rfl⟩:=hs c (aG hc)
  walk_at "x"
  refine cY ?_
  walk_at "x"
  refine ⟨p,C,dx,_,_,rfl,B _ _ hp hpl,ct.cl,ct.rows,iu _ _,?_⟩
  walk_at "x"
  refine Iu g1 (Iv (j:=j) rfl (by rw [aj];omega)) ?_
  refine ⟨as'.set j q,_,rfl,by simpa using hn',λk' a ha=>?_,?_,λb o' e hb=>by rw [aJ hb];exact B _ _ e hb⟩
  ·have e1:s.take (i+1)=s.take i++[(j:Int)]:=by rw [R8,hc];rfl
   rw [e1]
   by_cases hk:k'=j
   ·subst hk
    rw [uj (by rw [hn',← hn];exact (aB.mp ha).1),if_pos (by simp)]
   ·rw [vB (Ne.symm hk),hA k' a ha]
    have:((k':Int)∈s.take i++[(j:Int)])↔(k':Int)∈s.take i:=by
     simp only [aP,aC]
     exact ⟨λh=>h.elim id λe=>absurd (by omega) hk,.inl⟩
    by_cases c1:(k':Int)∈s.take i
    ·rw [if_pos c1,if_pos (this.mpr c1)]
    ·rw [if_neg c1,if_neg (λh=>c1 (this.mp h))]
  ·rw [aD,List.map_set]
 ·rintro σ H1 ⟨as',o,rfl,hn',hA,g1,B⟩
  rw [aj,Qs] at hA
  exact k as' H1 hn' hA g1 B
def a8 (K:aa) (C:af):Sp:=λvs H Q _=>∃ (p dx l:af) (n a b:Nat) (as:List af) (R:Nat->List Int),vs=[.ref p,.int a,.int b]/\CT K C/\WA C H p dx l n as R/\Wd n R/\a<n/\b<n/\Q (.bl (decide ((b:Int)∈R a))) H
theorem yQ {K:aa}{C:af}:∀ vs H Q E,a8 K C vs H Q E->vs.length=3:=by
 rintro vs H Q E ⟨p,dx,l,n,a,b,as,R,rfl,_⟩;rfl
theorem yR {K:aa}{C:af}:∀ vs H Q E,a8 K C vs H Q E->mT K C (bK K C) { nx:=λ_ H'=>Q .non H',rt:=Q } (start ["self","a","b"] vs) H:=by
 rintro vs H Q E ⟨p,dx,l,n,a,b,as,R,rfl,ct,W,D,ha,hb,k⟩
 obtain ⟨ra,e1,e2,_⟩:=W.get ha
 obtain ⟨rb,f1,f2,_⟩:=W.get hb
 have hd:∀ i,i<n->∃ x,(R i)[0]?=some x/\(R i).head?=some x:=λi hi=>by
  cases h:R i with
  | nil=>exact absurd h (D.r i hi).ne
  | cons x t=>exact ⟨x,rfl,rfl⟩
 obtain ⟨x,hx,hx'⟩:=hd a ha
 obtain ⟨y,hy,hy'⟩:=hd b hb
 have hj:=D.head ha hb
 rw [hx',hy'] at hj
 unfold mT
 walk_at "x"
 refine cY ?_
 walk_at "x"
 refine ⟨p,C,dx,_,_,rfl,W.ob,ct.cl,ct.n,xJ _ _,?_⟩
 walk_at "x"
 refine ⟨n,a,b,rfl,ha,hb,?_⟩
 walk_at "x"
 refine cY ?_
 walk_at "x"
 refine ⟨p,C,dx,_,_,rfl,W.ob,ct.cl,ct.rows,iu _ _,?_⟩
 walk_at "x"
 refine nA (SqL.of W.rl) (fv (j:=a) rfl (by rw [ay,e1];rfl)) ?_
 walk_at "x"
 refine rg (SqL.of e2) (j:=0) rfl hx ?_
 walk_at "x"
 refine cY ?_
 walk_at "x"
 refine ⟨p,C,dx,_,_,rfl,W.ob,ct.cl,ct.rows,iu _ _,?_⟩
 walk_at "x"
 refine nA (SqL.of W.rl) (fv (j:=b) rfl (by rw [ay,f1];rfl)) ?_
 walk_at "x"
 refine rg (SqL.of f2) (j:=0) rfl hy ?_
 walk_at "x"
 have e:decide (V.int x=V.int y)=decide ((b:Int)∈R a):=by
  rw [j5,decide_eq_true_iff,decide_eq_true_iff,j9,← hj]
  exact ⟨λh=>by rw [h],λh=>aS h⟩
 rw [e]
 exact k
def hU (K:aa) (C:af):Sp:=λvs H Q _=>∃ (p dx l:af) (n a b:Nat) (as:List af) (R:Nat->List Int),vs=[.ref p,.int a,.int b]/\CT K C/\WA C H p dx l n as R/\Wd n R/\n<=60/\a<n/\b<n /\
 ((b:Int)∉R a->Q .non H)/\((b:Int)∈R a->∀ q H' w,Same H H'->H q=none->H' q=some (.lst (w.map V.int))->RY (R a) a b w->Q (.ref q) H')
theorem EK {K:aa}{C:af}:∀ vs H Q E,hU K C vs H Q E->vs.length=3:=by
 rintro vs H Q E ⟨p,dx,l,n,a,b,as,R,rfl,_⟩;rfl
theorem EL {K:aa}{C:af}:∀ vs H Q E,hU K C vs H Q E->qA K C (a8 K C) (jH K C) { nx:=λ_ H'=>Q .non H',rt:=Q } (start ["self","a","b"] vs) H:=by
 rintro vs H Q E ⟨p,dx,l,n,a,b,as,R,rfl,ct,W,D,hn,ha,hb,k1,k2⟩
 obtain ⟨ra,e1,e2,_⟩:=W.get ha
 have hlen:=D.len ha
 unfold qA
 walk_at "x"
 refine dD ?_
 walk_at "x"
 refine ⟨p,dx,_,rfl,W.ob,jV _ _ (by decide +kernel) (by decide +kernel),?_⟩
 walk_at "x"
 refine ⟨p,dx,l,n,a,b,as,R,rfl,ct,W,D,ha,hb,?_⟩
 refine ⟨_,rfl,?_⟩
 refine zE (λhm=>?_) λhm=>?_
 ·walk_at "x"
  refine cY ?_
  walk_at "x"
  refine ⟨p,C,dx,_,_,rfl,W.ob,ct.cl,ct.rows,iu _ _,?_⟩
  walk_at "x"
  refine nA (SqL.of W.rl) (fv (j:=a) rfl (by rw [ay,e1];rfl)) ?_
  walk_at "x"
  exact ⟨ra,R a,a,b,rfl,e2,D.r a ha,by omega,D.me a ha,hm,λq H' w S hq gq hw=>k2 hm q H' w S hq gq hw⟩
 ·walk_at "x"
  exact k1 hm
def cG (K:aa) (C:af):Sp:=λvs H Q _=>∃ (p dx l:af) (n a b:Nat) (as:List af) (R:Nat->List Int),vs=[.ref p,.int a,.int b]/\CT K C/\WA C H p dx l n as R/\Wd n R/\n<=200/\a<n/\b<n/\(b:Int)∉R a /\
 ∀ (as':List af) H',WA C H' p dx l n as' (lk R a b)->SameBut1 l H H'->Q .non H'
theorem Cd {K:aa}{C:af}:∀ vs H Q E,cG K C vs H Q E->vs.length=3:=by
 rintro vs H Q E ⟨p,dx,l,n,a,b,as,R,rfl,_⟩;rfl
theorem Ce {K:aa}{C:af}:∀ vs H Q E,cG K C vs H Q E->pe K C (aQ K C) (a8 K C) (cF K C) (iJ K C) { nx:=λ_ H'=>Q .non H',rt:=Q } (start ["self","a","b"] vs) H:=by
 rintro vs H Q E ⟨p,dx,l,n,a,b,as,R,rfl,ct,W,D,hn,ha,hb,hm,k⟩
 obtain ⟨ra,e1,e2,_⟩:=W.get ha
 obtain ⟨rb,f1,f2,_⟩:=W.get hb
 have hla:=D.len ha
 have hlb:=D.len hb
 have hab:a≠b:=λe=>hm (e▸D.me a ha)
 obtain ⟨T2,D2,E2⟩:=D.link ha hb hm
 unfold pe
 walk_at "x"
 refine cY ?_
 walk_at "x"
 refine ⟨p,C,dx,_,_,rfl,W.ob,ct.cl,ct.n,xJ _ _,?_⟩
 walk_at "x"
 refine ⟨n,a,b,rfl,ha,hb,hab,?_⟩
 walk_at "x"
 refine dD ?_
 walk_at "x"
 refine ⟨p,dx,_,rfl,W.ob,jV _ _ (by decide +kernel) (by decide +kernel),?_⟩
 walk_at "x"
 refine ⟨p,dx,l,n,a,b,as,R,rfl,ct,W,D,ha,hb,?_⟩
 refine ⟨_,rfl,?_⟩
 refine zE (λz=>absurd z hm) λ_=>?_
 walk_at "x"
 refine dD ?_
 walk_at "x"
 refine ⟨p,dx,_,rfl,W.ob,jV _ _ (by decide +kernel) (by decide +kernel),?_⟩
 walk_at "x"
 refine cY ?_
 walk_at "x"
 refine ⟨p,C,dx,_,_,rfl,W.ob,ct.cl,ct.rows,iu _ _,?_⟩
 walk_at "x"
 refine nA (SqL.of W.rl) (fv (j:=a) rfl (by rw [ay,e1];rfl)) ?_
 walk_at "x"
 refine cY ?_
 walk_at "x"
 refine ⟨p,C,dx,_,_,rfl,W.ob,ct.cl,ct.rows,iu _ _,?_⟩
 walk_at "x"
 refine nA (SqL.of W.rl) (fv (j:=b) rfl (by rw [ay,f1];rfl)) ?_
 walk_at "x"
 refine ⟨ra,rb,R a,R b,a,b,rfl,SqL.of e2,SqL.of f2,D.me a ha,D.me b hb,by omega,by omega,λq H1 S1 hq gq=>?_⟩
 walk_at "x"
 have W1:=W.same S1
 have hql:q≠l:=Ne.symm (aN W.rl hq)
 refine ⟨p,dx,l,q,n,as,_,rfl,ct,W1.ob,W1.rl,W.len,gq,hql,λx hx=>?_,λas' H2 hl2 hA g2 B2=>?_⟩
 ·rcases (T2.mem x).mp hx with h|h
  ·obtain ⟨j,hj,e,_⟩:=D.in_ a ha x h;exact ⟨j,hj,e⟩
  ·obtain ⟨j,hj,e,_⟩:=D.in_ b hb x h;exact ⟨j,hj,e⟩
 ·have hpl:p≠l:=iA W.ob W.rl (by intro z;cases z)
  have hAt:∀ (i:Nat) (c:af),as'[i]?=some c->∃ c0,as[i]?=some c0/\c=if (i:Int)∈AA (R a) (R b) a b then q else c0:=λi c hc=>by
   have hi:i<as.length:=by rw [W.len,← hl2];exact (aB.mp hc).1
   have:=hA i _ (ar hi)
   rw [hc] at this
   exact ⟨_,ar hi,aS this⟩
  refine k as' H2 ⟨B2 _ _ W1.ob hpl,g2,hl2,λi c hc=>?_,λc hc=>?_⟩ (λb' o e hne=>B2 _ _ (S1 _ _ e) hne)
  ·obtain ⟨c0,h0,ec⟩:=hAt i c hc
   show H2 c=some (.lst ((if (i:Int)∈AA (R a) (R b) a b then AA (R a) (R b) a b else R i).map V.int))
   by_cases ci:(i:Int)∈AA (R a) (R b) a b
   ·rw [if_pos ci] at ec ⊢
    rw [ec];exact B2 _ _ gq hql
   ·rw [if_neg ci] at ec ⊢
    rw [ec];exact B2 _ _ (W1.at_ i c0 h0) (W.ne _ (aG h0))
  ·obtain ⟨i,hi⟩:=bE.mp hc
   obtain ⟨c0,h0,ec⟩:=hAt i c hi
   by_cases ci:(i:Int)∈AA (R a) (R b) a b
   ·rw [if_pos ci] at ec;rw [ec];exact hql
   ·rw [if_neg ci] at ec;rw [ec];exact W.ne _ (aG h0)
def fM (K:aa) (C:af):Sp:=λvs H Q _=>∃ (p dx l:af) (n a b:Nat) (as:List af) (R:Nat->List Int),vs=[.ref p,.int a,.int b]/\CT K C/\WA C H p dx l n as R/\Wd n R/\n<=200/\a<n/\b<n/\a≠b/\Ed n R a b /\
 ∀ (as':List af) H',WA C H' p dx l n as' (Rm.ct R a b)->SameBut1 l H H'->Q .non H'
theorem EM {K:aa}{C:af}:∀ vs H Q E,fM K C vs H Q E->vs.length=3:=by
 rintro vs H Q E ⟨p,dx,l,n,a,b,as,R,rfl,_⟩;rfl
theorem EN {K:aa}{C:af}:∀ vs H Q E,fM K C vs H Q E->qz K C (aQ K C) (ir K C) (b9 K C) (cF K C) { nx:=λ_ H'=>Q .non H',rt:=Q } (start ["self","a","b","row"] vs) H:=by
 rintro vs H Q E ⟨p,dx,l,n,a,b,as,R,rfl,ct,W,D,hn,ha,hb,hab,hE,k⟩
 obtain ⟨ra,e1,e2,_⟩:=W.get ha
 have hla:=D.len ha
 have hm:=Ed.at D hE ha (D.me a ha)
 have hm':=(D.r a ha).sym _ _ hm
 have P:=(D.r a ha).parted hm (by omega:(a:Int)≠b)
 have PM:=P.mem (D.r a ha)
 have hpl:p≠l:=iA W.ob W.rl (by intro z;cases z)
 unfold qz
 walk_at "x"
 refine cY ?_
 walk_at "x"
 refine ⟨p,C,dx,_,_,rfl,W.ob,ct.cl,ct.n,xJ _ _,?_⟩
 walk_at "x"
 refine ⟨n,a,b,rfl,ha,hb,hab,?_⟩
 walk_at "x"
 refine ⟨b0 (m:=2) (aw 2),λt ht=>?_⟩
 have S1:=Same.upd_new (o:=.tup [.int (a:Int),.int (b:Int)]) ht
 have g1:(upd H t (.tup [.int (a:Int),.int (b:Int)])) t=some (.tup [.int (a:Int),.int (b:Int)]):=aD
 generalize upd H t (.tup [.int (a:Int),.int (b:Int)])=H1 at S1 g1
 have W1:=W.same S1
 walk_at "x"
 refine cY ?_
 walk_at "x"
 refine ⟨p,C,dx,_,_,rfl,W1.ob,ct.cl,ct.rows,iu _ _,?_⟩
 walk_at "x"
 refine nA (SqL.of W1.rl) (fv (j:=a) rfl (by rw [ay,e1];rfl)) ?_
 walk_at "x"
 refine ⟨ra,R a,rfl,SqL.of (S1 _ _ e2),by omega,λz H2 zs S2 hz gz pz ez=>?_⟩
 refine Ai (IR (S2 _ _ g1)) (IQ gz pz) (EE _) (eS _ (wo _)) ?_
 have hin:(((zs.map zP).map FV).any λe=>du e (FV ((a:Int),(b:Int))))=true:=by
  rw [ez,KB,BH]
  exact ⟨_,hm,by simp [ED]⟩
 rw [hin]
 walk_at "x"
 refine j8 ?_
 have S12:=S1.trans S2
 have W2:=W.same S12
 walk_at "x"
 unfold uS
 walk_at "x"
 refine cY ?_
 walk_at "x"
 refine ⟨p,C,dx,_,_,rfl,W2.ob,ct.cl,ct.rows,iu _ _,?_⟩
 walk_at "x"
 refine nA (SqL.of W2.rl) (fv (j:=a) rfl (by rw [ay,e1];rfl)) ?_
 walk_at "x"
 refine ⟨ra,R a,a,b,rfl,SqL.of (S12 _ _ e2),by omega,hm,hm',λu x y H3 S3 hu hx hy hxy gu gx gy=>?_⟩
 have S13:=S12.trans S3
 have W3:=W.same S13
 have hxl:x≠l:=Ne.symm (aN W2.rl hx)
 have hyl:y≠l:=Ne.symm (aN W2.rl hy)
 have hul:u≠l:=Ne.symm (aN W2.rl hu)
 have jin:∀ z,z∈R a->∃ j:Nat,j<n/\z=(j:Int):=λz hz=>let ⟨j,hj,e,_⟩:=D.in_ a ha z hz;⟨j,hj,e⟩
 have ectR:∀ i:Nat,Rm.ct R a b i=if (i:Int)∈(xc (R a) a b).2 then (xc (R a) a b).2 else if (i:Int)∈(xc (R a) a b).1 then (xc (R a) a b).1 else R i:=λ_=>rfl
 generalize (xc (R a) a b).1=X at P PM gx ectR
 generalize (xc (R a) a b).2=Y at P PM gy ectR
 walk_at "x"
 refine .inr (.inl ⟨⟨_,SqT.of gu⟩,OA (K:=K) (a:=u) (xs:=[.ref x,.ref y]) (λi σ H4=>∃ (as1:List af) (o:Option V),σ=[some (.ref p),some (.int (a:Int)),some (.int (b:Int)),o]/\as1.length=n/\H4 l=some (.lst (as1.map V.ref))/\SameBut1 l H3 H4 /\
  ∀ (j:Nat) (c:af),as[j]?=some c->as1[j]?=some (if 2<=i/\(j:Int)∈Y then y else if 1<=i/\(j:Int)∈X then x else c)) ⟨as,_,rfl,W.len,W3.rl,SameBut1.refl _ _,λj c h=>by rw [if_neg (λz=>by omega),if_neg (λz=>by omega)];exact h⟩ ?_ ?_ ?_⟩)
 ·rintro i σ H4 _ ⟨_,_,_,_,_,B,_⟩;exact SqT.of (B _ _ gu hul)
 ·rintro i v σ H4 hi ⟨as1,o,rfl,hl1,g4,B,hA⟩
  obtain ⟨q,s,hql,gq,hs,ev,hif⟩:∃ (q:af) (s:List Int),q≠l/\H3 q=some (.lst (s.map V.int))/\(∀ z∈s,∃ j:Nat,j<n/\z=(j:Int))/\v=.ref q/\(∀ (j:Nat) (c:af),(if (j:Int)∈s then q else if 2<=i/\(j:Int)∈Y then y else if 1<=i/\(j:Int)∈X then x else c)=if 2<=i+1/\(j:Int)∈Y then y else if 1<=i+1/\(j:Int)∈X then x else c):=by
   rcases (show i=0\/i=1 by have:=(aB.mp hi).1;simp at this;omega) with rfl|rfl
   ·refine ⟨x,X,hxl,gx,λz hz=>jin z ((PM z).mpr (.inl hz)),by simpa using hi.symm,λj c=>?_⟩
    by_cases c1:(j:Int)∈X<;>simp [c1]
   ·refine ⟨y,Y,hyl,gy,λz hz=>jin z ((PM z).mpr (.inr hz)),by simpa using hi.symm,λj c=>?_⟩
    by_cases c2:(j:Int)∈Y<;>by_cases c1:(j:Int)∈X<;>simp [c1,c2]
  subst ev
  walk_at "x"
  refine dD ?_
  walk_at "x"
  refine ⟨p,dx,_,rfl,B _ _ W3.ob hpl,jV _ _ (by decide +kernel) (by decide +kernel),?_⟩
  walk_at "x"
  refine ⟨p,dx,l,q,n,as1,s,rfl,ct,B _ _ W3.ob hpl,g4,hl1,B _ _ gq hql,hql,hs,λas2 H5 hl2 hA2 g5 B5=>?_⟩
  refine ⟨as2,_,rfl,hl2,g5,λb' o' e hne=>B5 _ _ (B _ _ e hne) hne,λj c hc=>?_⟩
  rw [hA2 j _ (hA j c hc),hif j c]
 ·rintro σ H4 ⟨as2,o,rfl,hl2,g4,B,hA⟩
  have hAt:∀ (i:Nat) (c:af),as2[i]?=some c->∃ c0,as[i]?=some c0/\c=if (i:Int)∈Y then y else if (i:Int)∈X then x else c0:=λi c hc=>by
   have hi:i<as.length:=by rw [W.len,← hl2];exact (aB.mp hc).1
   have:=hA i _ (ar hi)
   rw [hc] at this
   refine ⟨_,ar hi,(aS this).trans ?_⟩
   show (if 2<=2/\(i:Int)∈Y then y else if 1<=2/\(i:Int)∈X then x else as[i])=_
   simp
  refine k as2 H4 ⟨B _ _ W3.ob hpl,g4,hl2,λi c hc=>?_,λc hc=>?_⟩ (λb' o' e hne=>B _ _ (S13 _ _ e) hne)
  ·obtain ⟨c0,h0,ec⟩:=hAt i c hc
   rw [ectR]
   by_cases c2:(i:Int)∈Y
   ·rw [if_pos c2] at ec ⊢
    rw [ec];exact B _ _ gy hyl
   ·rw [if_neg c2] at ec ⊢
    by_cases c1:(i:Int)∈X
    ·rw [if_pos c1] at ec ⊢
     rw [ec];exact B _ _ gx hxl
    ·rw [if_neg c1] at ec ⊢
     rw [ec];exact B _ _ (W3.at_ i c0 h0) (W.ne _ (aG h0))
  ·obtain ⟨i,hi⟩:=bE.mp hc
   obtain ⟨c0,h0,ec⟩:=hAt i c hi
   by_cases c2:(i:Int)∈Y
   ·rw [if_pos c2] at ec;rw [ec];exact hyl
   ·rw [if_neg c2] at ec
    by_cases c1:(i:Int)∈X
    ·rw [if_pos c1] at ec;rw [ec];exact hxl
    ·rw [if_neg c1] at ec;rw [ec];exact W.ne _ (aG h0)
def cJ (K:aa) (C:af):Sp:=λvs H Q _=>∃ (p dx l:af) (n a:Nat) (as:List af) (R:Nat->List Int),vs=[.ref p,.int a]/\CT K C/\WA C H p dx l n as R/\Wd n R/\(R a).length<=125/\a<n /\
 ∀ q (ks:List Int),H q=none->ks.Pairwise (· < ·)->(∀ x,x∈ks↔x∈R a)->Q (.ref q) (upd H q (.lst (ks.map V.int)))
theorem AX {K:aa}{C:af}:∀ vs H Q E,cJ K C vs H Q E->vs.length=2:=by
 rintro vs H Q E ⟨p,dx,l,n,a,as,R,rfl,_⟩;rfl
theorem AY {K:aa}{C:af}:∀ vs H Q E,cJ K C vs H Q E->nY K C (aY K C) { nx:=λ_ H'=>Q .non H',rt:=Q } (start ["self","a"] vs) H:=by
 rintro vs H Q E ⟨p,dx,l,n,a,as,R,rfl,ct,W,D,hn,ha,k⟩
 obtain ⟨ra,e1,e2,_⟩:=W.get ha
 unfold nY
 walk_at "x"
 refine cY ?_
 walk_at "x"
 refine ⟨p,C,dx,_,_,rfl,W.ob,ct.cl,ct.n,xJ _ _,?_⟩
 walk_at "x"
 refine ⟨n,a,rfl,ha,?_⟩
 walk_at "x"
 refine Dz ?_
 walk_at "x"
 refine cY ?_
 walk_at "x"
 refine ⟨p,C,dx,_,_,rfl,W.ob,ct.cl,ct.rows,iu _ _,?_⟩
 walk_at "x"
 refine nA (SqL.of W.rl) (fv (j:=a) rfl (by rw [ay,e1];rfl)) ?_
 walk_at "x"
 refine ⟨ra,R a,rfl,SqL.of e2,by omega,?_,λq ks hq h1 h2=>k q ks hq h1 h2⟩
 obtain ⟨ds,d1,d2,d3⟩:=(D.r a ha).cnt
 exact ⟨ds,by omega,λx hx=>(d2 x).mpr hx⟩
def fD (K:aa) (C:af):Sp:=λvs H Q _=>∃ (p dx l:af) (n a:Nat) (as:List af) (R:Nat->List Int),vs=[.ref p,.int a]/\CT K C/\WA C H p dx l n as R/\Wd n R/\a<n/\Q (.int ((((R a).length:Int)+1)/2)) H
theorem Cf {K:aa}{C:af}:∀ vs H Q E,fD K C vs H Q E->vs.length=2:=by
 rintro vs H Q E ⟨p,dx,l,n,a,as,R,rfl,_⟩;rfl
theorem Cg {K:aa}{C:af}:∀ vs H Q E,fD K C vs H Q E->pf K C (aY K C) { nx:=λ_ H'=>Q .non H',rt:=Q } (start ["self","a"] vs) H:=by
 rintro vs H Q E ⟨p,dx,l,n,a,as,R,rfl,ct,W,D,ha,k⟩
 obtain ⟨ra,e1,e2,_⟩:=W.get ha
 unfold pf
 walk_at "x"
 refine cY ?_
 walk_at "x"
 refine ⟨p,C,dx,_,_,rfl,W.ob,ct.cl,ct.n,xJ _ _,?_⟩
 walk_at "x"
 refine ⟨n,a,rfl,ha,?_⟩
 walk_at "x"
 refine cY ?_
 walk_at "x"
 refine ⟨p,C,dx,_,_,rfl,W.ob,ct.cl,ct.rows,iu _ _,?_⟩
 walk_at "x"
 refine nA (SqL.of W.rl) (fv (j:=a) rfl (by rw [ay,e1];rfl)) ?_
 walk_at "x"
 refine u7 (SqL.of e2) ?_
 walk_at "x"
 exact k
end K39
namespace K39
open Rm
def g9 (K:aa) (C:af):Sp:=λvs H Q _=>∃ n:Nat,vs=[.int n]/\1<=n/\n<=200/\Q (.bl true) H
theorem EO {K:aa}{C:af}:∀ vs H Q E,g9 K C vs H Q E->vs.length=1:=by
 rintro vs H Q E ⟨n,rfl,_⟩;rfl
theorem ER {K:aa}{C:af}:∀ vs H Q E,g9 K C vs H Q E->qv K C (dv K C) { nx:=λ_ H'=>Q .non H',rt:=Q } (start ["thing"] vs) H:=by
 rintro vs H Q E ⟨n,rfl,h1,h2,k⟩
 unfold qv
 walk_at "x"
 refine ⟨n,rfl,?_⟩
 walk_at "x"
 refine qi ?_
 walk_at "x"
 refine zE (λh=>?_) λh=>absurd (show (1:Int)<=n by omega) h
 walk_at "x"
 rw [show decide ((n:Int)<=200)=true from decide_eq_true (by omega)]
 exact k
def Top (n:Int) (j:Nat):Prop:=(j=0\/2*(2:Int)^j<=n)/\n<4*(2:Int)^j
def kh (K:aa) (C:af):Sp:=λvs H Q _=>∃ n:Int,vs=[.int n]/\∀ j:Nat,Top n j->Q (.int j) H
theorem Pe {K:aa}{C:af}:∀ vs H Q E,kh K C vs H Q E->vs.length=1:=by
 rintro vs H Q E ⟨n,rfl,_⟩;rfl
theorem Hc (j:Nat):(0:Int)<2^j:=Int.pow_pos (by decide)
theorem Pf {K:aa}{C:af}:∀ vs H Q E,kh K C vs H Q E->Eu K C { nx:=λ_ H'=>Q .non H',rt:=Q } (start ["n","level","needed"] vs) H:=by
 rintro vs H Q E ⟨n,rfl,k⟩
 unfold Eu
 walk_at "x"
 unfold G1
 refine GA (λσ H'=>H'=H/\∃ j:Nat,σ=[some (.int n),some (.int j),some (.int (4*2^j))]/\(j=0\/2*(2:Int)^j<=n)) (λσ _=>match σ with|[_,_,some (.int p)]=>(n+1-p).toNat|_=>0) ⟨rfl,0,rfl,.inl rfl⟩ ?_
 rintro σ H' ⟨rfl,j,rfl,hj⟩
 have hp:=Hc j
 walk_at "x"
 refine zE (λh=>⟨_,P0,?_⟩) λh=>?_
 ·walk_at "x"
  refine ⟨⟨rfl,j+1,?_,.inr ?_⟩,?_⟩
  ·have e:(4*2^j*2:Int)=4*2^(j+1):=by rw [BC];omega
   show [some (V.int n),some (V.int ((j:Int)+1)),some (V.int (4*2^j*2))]=_
   rw [e];rfl
  ·rw [BC];omega
  ·show (n+1-4*2^j*2).toNat<(n+1-4*2^j).toNat
   omega
 ·walk_at "x"
  exact k j ⟨hj,by omega⟩
def eZ (K:aa) (C:af):Sp:=λvs H Q _=>∃ a b:Nat,vs=[.int a,.int b]/\∀ p,H p=none->Q (.ref p) (upd H p (.tup [.int (min a b:Nat),.int (max a b:Nat)]))
theorem IY {K:aa}{C:af}:∀ vs H Q E,eZ K C vs H Q E->vs.length=2:=by
 rintro vs H Q E ⟨a,b,rfl,_⟩;rfl
theorem IZ {K:aa}{C:af}:∀ vs H Q E,eZ K C vs H Q E->ub K C { nx:=λ_ H'=>Q .non H',rt:=Q } (start ["a","b"] vs) H:=by
 rintro vs H Q E ⟨a,b,rfl,k⟩
 unfold ub
 walk_at "x"
 refine zE (λh=>?_) λh=>?_
 ·rw [show min a b=a by omega,show max a b=b by omega] at k
  walk_at "x"
  exact ⟨b0 (m:=2) (aw 2),k⟩
 ·rw [show min a b=b by omega,show max a b=a by omega] at k
  walk_at "x"
  exact ⟨b0 (m:=2) (aw 2),k⟩
abbrev pk (x y:Nat):List ja:=[dY (x:Int),dY (y:Int)]
def iK (K:aa) (C:af):Sp:=λvs H Q _=>∃ (n a b:Nat) (d:af) (kvs:List (List ja×V)),vs=[.int n,.ref d,.int a,.int b]/\a<n/\b<n/\a≠b/\H d=some (.dT kvs)/\mr kvs (pk (min a b) (max a b))=none /\
 ∀ p,H p=none->Q (.ref p) (upd H p (.tup [.int (min a b:Nat),.int (max a b:Nat)]))
theorem Hd {K:aa}{C:af}:∀ vs H Q E,iK K C vs H Q E->vs.length=4:=by
 rintro vs H Q E ⟨n,a,b,d,kvs,rfl,_⟩;rfl
theorem He {K:aa}{C:af}:∀ vs H Q E,iK K C vs H Q E->sk K C (aQ K C) (eZ K C) { nx:=λ_ H'=>Q .non H',rt:=Q } (start ["n","standing","a","b","tie"] vs) H:=by
 rintro vs H Q E ⟨n,a,b,d,kvs,rfl,ha,hb,hab,hd,hk,k⟩
 unfold sk
 walk_at "x"
 refine ⟨n,a,b,rfl,ha,hb,hab,?_⟩
 walk_at "x"
 refine ⟨a,b,rfl,λp hp=>?_⟩
 walk_at "x"
 have gd:(upd H p (.tup [.int (min a b:Nat),.int (max a b:Nat)])) d=some (.dT kvs):=by rw [aJ (aN hd hp)];exact hd
 refine .inr ⟨d,_,rfl,DGet.t (k:=pk (min a b) (max a b)) gd aD,?_⟩
 rw [hk]
 walk_at "x"
 rw [if_neg (by simp)]
 walk_at "x"
 exact k p hp
def d7 (K:aa) (C:af):Sp:=λvs H Q _=>∃ (n a b:Nat) (d:af) (kvs:List (List ja×V)),vs=[.int n,.ref d,.int a,.int b]/\a<n/\b<n/\a≠b/\H d=some (.dT kvs)/\(mr kvs (pk (min a b) (max a b))).isSome=true /\
 ∀ p,H p=none->Q (.ref p) (upd H p (.tup [.int (min a b:Nat),.int (max a b:Nat)]))
theorem xK {K:aa}{C:af}:∀ vs H Q E,d7 K C vs H Q E->vs.length=4:=by
 rintro vs H Q E ⟨n,a,b,d,kvs,rfl,_⟩;rfl
theorem xM {K:aa}{C:af}:∀ vs H Q E,d7 K C vs H Q E->lD K C (aQ K C) (eZ K C) { nx:=λ_ H'=>Q .non H',rt:=Q } (start ["n","standing","a","b","tie"] vs) H:=by
 rintro vs H Q E ⟨n,a,b,d,kvs,rfl,ha,hb,hab,hd,hk,k⟩
 unfold lD
 walk_at "x"
 refine ⟨n,a,b,rfl,ha,hb,hab,?_⟩
 walk_at "x"
 refine ⟨a,b,rfl,λp hp=>?_⟩
 walk_at "x"
 have gd:(upd H p (.tup [.int (min a b:Nat),.int (max a b:Nat)])) d=some (.dT kvs):=by rw [aJ (aN hd hp)];exact hd
 refine .inr ⟨d,_,rfl,DGet.t (k:=pk (min a b) (max a b)) gd aD,?_⟩
 rw [hk]
 walk_at "x"
 refine j8 ?_
 walk_at "x"
 exact k p hp
def kf (f:Ti->V) (ts:List Ti):List (List ja×V):=ts.map λt=>(pk t.x t.y,f t)
abbrev kl:List Ti->List (List ja×V):=kf λt=>.int t.lev
abbrev kw:List Ti->List (List ja×V):=kf λt=>.bl t.wd
abbrev kv:List Ti->List (List ja×V):=kf λ_=>.int 0
theorem AZ {x y u v:Nat}:pk x y=pk u v↔((x:Int),(y:Int))=((u:Int),(v:Int)):=by
 constructor
 ·intro h
  obtain ⟨h1,h2⟩:=oh h
  rw [JJ h1,JJ (oh h2).1]
 ·intro h
  obtain ⟨h1,h2⟩:=cE h
  show [dY (x:Int),dY (y:Int)]=_
  rw [h1,h2]
section
variable {f:Ti->V}{g:Ti->Ti}{ts:List Ti}{t:Ti}
theorem il (hn:(ts.map Ti.key).Nodup) (ht:t∈ts):mr (kf f ts) (pk t.x t.y)=some (f t):=by
 induction ts with
 | nil=>nomatch ht
 | cons s ts ih =>
  rw [bV,bf] at hn
  by_cases e:pk s.x s.y=pk t.x t.y
  ·have:s=t:=by
    rcases ak.mp ht with q|q
    ·exact q.symm
    ·have e':t.key=s.key:=(AZ.mp e).symm
     exact absurd (e'▸bu q) hn.1
   subst this
   exact sZ (p:=(pk s.x s.y,f s)) rfl
  ·refine (qU (p:=(pk s.x s.y,f s)) e).trans (ih hn.2 ?_)
   exact (ak.mp ht).resolve_left λq=>e (q▸rfl)
theorem ES {x y:Nat}(h:((x:Int),(y:Int))∉ts.map Ti.key):mr (kf f ts) (pk x y)=none:=by
 induction ts with
 | nil=>rfl
 | cons s ts ih =>
  rw [bV,ak] at h
  exact (qU (p:=(pk s.x s.y,f s)) λe=>h (.inl (AZ.mp e).symm)).trans (ih λq=>h (.inr q))
theorem Nv (hn:(ts.map Ti.key).Nodup) (ht:t∈ts) (hg:∀ t,(g t).key=t.key):uA (kf f ts) (pk t.x t.y) (f (g t))=kf f (i0 ts t.key g):=by
 unfold uA
 have hm:((kf f ts).any λkv=>decide (kv.1=pk t.x t.y))=true:=by rw [vK,il hn ht];rfl
 rw [if_pos hm]
 unfold kf i0
 rw [cW,cW]
 refine lX λu hu=>?_
 show (if pk u.x u.y=pk t.x t.y then (pk u.x u.y,f (g t)) else (pk u.x u.y,f u))=(pk (if u.key=t.key then g u else u).x (if u.key=t.key then g u else u).y,f (if u.key=t.key then g u else u))
 by_cases c:u.key=t.key
 ·rw [if_pos c,if_pos (AZ.mpr c),qE hn hu ht c]
  obtain ⟨e1,e2⟩:=Ti.key_eq (hg t)
  rw [e1,e2]
 ·rw [if_neg c,if_neg λe=>c (AZ.mp e)]
theorem zH (hg:∀ t,(g t).key=t.key) (hf:∀ t,f (g t)=f t) (k:Int×Int):kf f (i0 ts k g)=kf f ts:=by
 unfold kf i0
 rw [cW]
 refine lX λu hu=>?_
 show (pk (if u.key=k then g u else u).x (if u.key=k then g u else u).y,f (if u.key=k then g u else u))=_
 by_cases c:u.key=k
 ·obtain ⟨e1,e2⟩:=Ti.key_eq (hg u)
  rw [if_pos c,e1,e2,hf]
 ·rw [if_neg c]
theorem zI:oR (kf f ts) (pk t.x t.y)=kf f (ts.filter λu=>decide (u.key≠t.key)):=by
 unfold oR kf
 rw [uP]
 congr 1
 refine List.filter_congr λu _=>?_
 exact decide_eq_decide.mpr (not_congr AZ)
theorem qG:(kf f ts).length=ts.length:=aj _
end
abbrev LT1 (Pt:af) (H:Hp):Prop:=LamT Pt ⟨128,28,128,61⟩ ((("in_order":bA)++".<locals>.")++"<lambda>") H
def gZ (K:aa) (C:af) (Pt:af):Sp:=λvs H Q _=>∃ (p d:af) (zs:List Zn) (wvs:List (List ja×V)),vs=[.ref p,.ref d]/\H p=some (.lst (zs.map tq))/\H d=some (.dT wvs)/\(∀ z∈zs,∃ w x y:Int,z.1=[w,x,y]/\H z.2=some (.tup [.int x,.int y])/\mr wvs [dY x,dY y]=some (.int w))/\zs.length<64/\LT1 Pt H /\
  ∀ (l:af) (zs':List Zn) (H2:Hp),H2 l=none->GC Pt H H2->LT1 Pt H2->zs'.Perm zs->Q (.ref l) (upd H2 l (.lst (zs'.map tq)))
theorem ET {K:aa}{C Pt:af}:∀ vs H Q E,gZ K C Pt vs H Q E->vs.length=2:=by
 rintro vs H Q E ⟨p,d,zs,wvs,rfl,_⟩;rfl
theorem EU {K:aa}{C Pt:af}:∀ vs H Q E,gZ K C Pt vs H Q E->qx K C Pt { nx:=λ_ H'=>Q .non H',rt:=Q } (start ["ties","weight_of"] vs) H:=by
 rintro vs H Q E ⟨p,d,zs,wvs,rfl,hp,hd,hkv,hl,hT,k⟩
 unfold qx
 walk_at "x"
 unfold ID
 walk_at "x"
 exact ⟨p,d,zs,wvs,rfl,hp,rfl,hd,hkv,hl,hT,λl zs' H2 h1 h2 h3 h4 _=>k l zs' H2 h1 h2 h3 h4⟩
def ew (x y:Int) (S:List Int):Nat:=(if x∈S then 1 else 0)+(if y∈S then 1 else 0)
theorem any_ints (S:List Int) (x:Int):((S.map Mb).any λe=>du e (.int x))=decide (x∈S):=by
 rw [KB,j5,BH,decide_eq_true_iff]
 constructor
 ·rintro ⟨y,hy,e⟩
  have:y=x:=by simpa [du] using e
  exact this▸hy
 ·intro h
  exact ⟨x,h,by simp [du]⟩
def cR (K:aa) (C:af):Sp:=λvs H Q _=>∃ (t s:af) (x y:Int) (S:List Int),vs=[.ref t,.ref s]/\H t=some (.tup [.int x,.int y])/\H s=some (.lst (S.map V.int))/\∀ H',Same H H'->Q (.int (ew x y S)) H'
theorem yS {K:aa}{C:af}:∀ vs H Q E,cR K C vs H Q E->vs.length=2:=by
 rintro vs H Q E ⟨t,s,x,y,S,rfl,_⟩;rfl
theorem yT {K:aa}{C:af}:∀ vs H Q E,cR K C vs H Q E->mO K C { nx:=λ_ H'=>Q .non H',rt:=Q } (start ["tie","side"] vs) H:=by
 rintro vs H Q E ⟨t,s,x,y,S,rfl,ht,hs,k⟩
 unfold mO
 walk_at "x"
 refine .inr (.inl ⟨⟨_,SqT.of ht⟩,λacc hacc=>?_⟩)
 refine oX (n:=2) (λi ys H'=>ys=(([x,y].take i).filter λz=>decide (z∈S)).map V.int/\H' acc=some (.lst ys)/\Same H H') (λσ=>∃ o,σ=[o,some (.ref s)]) ⟨by simp,aD,Same.upd_new hacc⟩ ⟨_,rfl⟩ ?_ ?_ ?_ ?_
 ·rintro i ys H' ⟨_,h,_⟩;exact h
 ·rintro ys H' ⟨rfl,h,S'⟩
  refine ⟨⟨_,S'.seqT (SqT.of ht),aw _⟩,?_⟩
  walk_at "x"
  refine Eb (SqL.of h) ?_
  have e:((([x,y].take 2).filter λz=>decide (z∈S)).map V.int).length=ew x y S:=by
   unfold ew
   by_cases c1:x∈S<;>by_cases c2:y∈S<;>simp [c1,c2]
  rw [e]
  exact k H' S'
 ·rintro i ys H' hi ⟨e,h,S'⟩
  exact ⟨_,_,S'.seqT (SqT.of ht),ar hi⟩
 ·rintro i ys σ' H' v H2 hi ⟨rfl,h,S'⟩ ⟨o,rfl⟩ ⟨e2,hx⟩
  subst e2
  have hxi:=hx _ (S'.seqT (SqT.of ht))
  obtain ⟨a,ha⟩:∃ a,[x,y][i]?=some a:=⟨_,ar (by simpa using hi)⟩
  have et:[x,y].take (i+1)=[x,y].take i++[a]:=by rw [gP,ha];rfl
  have ev:v=.int a:=by
   have:([x,y].map V.int)[i]?=some v:=hxi
   rw [ay,ha] at this
   exact (aS this).symm
  subst ev
  walk_at "x"
  refine J7 (Rep.int a) (mw (SqL.of (S' _ _ hs))) ⟨rfl,by simp [nC]⟩ (eS _ (lK S)) ?_
  rw [any_ints]
  walk_at "x"
  refine zE (λc=>?_) λc=>?_
  ·walk_at "x"
   refine ⟨h,eG (m:=10) (by rw [aj];exact bo (dk _ _) (by rw [bw];omega)),CNext.mk' hi ⟨_,rfl⟩ ⟨?_,aD,λb o q=>by rw [aJ (aN q hacc)];exact S' _ _ q⟩⟩
   rw [et,eD,aV]
   simp [c]
  ·refine CNext.mk' hi ⟨_,rfl⟩ ⟨?_,h,S'⟩
   rw [et,eD,aV]
   simp [c]
def jK (K:aa) (C:af):Sp:=λvs H Q _=>∃ (n:Int) (p q:af) (x y l:Int) (b:Bool),vs=[.int n,.ref p]/\H p=some (.lst [.ref q])/\H q=some (.tup [.int x,.int y,.int l,.bl b])/\∀ (c:Int) H',Same H H'->Q (.int c) H'
theorem I0 {K:aa}{C:af}:∀ vs H Q E,jK K C vs H Q E->vs.length=2:=by
 rintro vs H Q E ⟨n,p,q,x,y,l,b,rfl,_⟩;rfl
theorem Ja {K:aa}{C:af}:∀ vs H Q E,jK K C vs H Q E->uc K C (kh K C) { nx:=λ_ H'=>Q .non H',rt:=Q } (start ["n","ties"] vs) H:=by
 rintro vs H Q E ⟨n,p,q,x,y,l,b,rfl,hp,hq,k⟩
 unfold uc
 walk_at "x"
 refine .inl ⟨⟨_,SqL.of hp⟩,λacc hacc=>?_⟩
 refine MR (λi y _=>∃ c:Int,y=.int c) (λσ=>∃ o o1 o2 o3,σ=[o,o1,o2,o3,some (.int n)]) (SqL.of hp) hacc ⟨_,_,_,_,rfl⟩ (by simp) (λi y H2 H3 ws _ _ e=>e) (λi v σ' H2 G hi hx S2 hS done=>?_) λys H2 hly gy S2 hE=>?_
 ·obtain ⟨o,o1,o2,o3,rfl⟩:=hS
  have ev:v=.ref q:=by
   match i,hx with
   | 0,hx=>exact (aS hx).symm
  subst ev
  refine xB (.of (S2 _ _ hq)) rfl ?_
  walk_at "x"
  refine ⟨n,rfl,λj hj=>?_⟩
  walk_at "x"
  exact done _ _ _ ⟨_,_,_,_,rfl⟩ (λ_ _ e=>e) ⟨_,rfl⟩
 ·have ⟨cs,ec⟩:∃ cs:List Int,ys=cs.map V.int:=by
   match ys,hly with
   | [v],_ =>
    obtain ⟨c,rfl⟩:=hE 0 v rfl
    exact ⟨[c],rfl⟩
  subst ec
  walk_at "x"
  exact ⟨acc,cs,rfl,SqL.of gy,k _ H2 S2⟩
structure Tt where
 (p s q:af) (lv:Int) (xs:List V) (f:V)
def sL (t:Tt):V:=.ref t.p
def TtOk (H:Hp) (t:Tt):Prop:=H t.p=some (.tup [.int t.lv,.ref t.s,.ref t.q,t.f])/\H t.q=some (.lst t.xs)
theorem TtOk.same {H H':Hp}{t:Tt}(h:TtOk H t) (S:Same H H'):TtOk H' t:=⟨S _ _ h.1,S _ _ h.2⟩
def fU (K:aa) (C:af):Sp:=λvs H Q _=>∃ (a:af) (ts:List Tt),vs=[.ref a]/\H a=some (.lst (ts.map sL))/\(∀ t∈ts,TtOk H t)/\ts.length<=1000/\∀ (c:Int) H',Same H H'->Q (.int c) H'
theorem Lo {K:aa}{C:af}:∀ vs H Q E,fU K C vs H Q E->vs.length=1:=by
 rintro vs H Q E ⟨a,ts,rfl,_⟩;rfl
theorem Lq {K:aa}{C:af}:∀ vs H Q E,fU K C vs H Q E->we K C { nx:=λ_ H'=>Q .non H',rt:=Q } (start ["trail"] vs) H:=by
 rintro vs H Q E ⟨a,ts,rfl,ha,hR,hl,q⟩
 unfold we
 walk_at "x"
 refine .inl ⟨⟨_,SqL.of ha⟩,λacc hacc=>?_⟩
 refine zF (K:=K) (z:=a) (xs:=ts.map sL) ts (λ_=>true) (λt=>.int (t.xs.length:Int)) (λσ=>∃ o o1 o2 o3,σ=[o,o1,o2,o3]) (by simp) (SqL.of ha) hacc ⟨_,_,_,_,rfl⟩ (by rw [aj];omega) ?_ ?_
 ·rintro i t x σ' H' G G' ht hx S' ⟨o,o1,o2,o3,rfl⟩ g1 g2
  have ex:x=sL t:=by rw [ay,ht] at hx;exact (aS hx).symm
  subst ex
  have ok:=(hR t (aG ht)).same S'
  refine xB (.of ok.1) rfl ?_
  walk_at "x"
  refine qi ?_
  walk_at "x"
  refine Eb (SqL.of ok.2) ?_
  exact g1 rfl _ ⟨_,_,_,_,rfl⟩
 ·rintro H' S' hH
  walk_at "x"
  have e:(ts.filter λ_=>true).map (λt=>V.int (t.xs.length:Int))=(ts.map λt=>(t.xs.length:Int)).map V.int:=by rw [cW,Of.mpr (λ_ _=>rfl)];rfl
  rw [e] at hH
  exact ⟨acc,_,rfl,SqL.of hH,q _ H' S'⟩
def lB (K:aa) (C:af):Sp:=λvs H Q _=>∃ (a:af) (ts:List Tt),vs=[.ref a]/\H a=some (.lst (ts.map sL))/\(∀ t∈ts,TtOk H t)/\ts.length<=1000/\∀ (c:Int) H',Same H H'->Q (.int c) H'
theorem Lr {K:aa}{C:af}:∀ vs H Q E,lB K C vs H Q E->vs.length=1:=by
 rintro vs H Q E ⟨a,ts,rfl,_⟩;rfl
theorem Ls {K:aa}{C:af}:∀ vs H Q E,lB K C vs H Q E->wg K C (fU K C) { nx:=λ_ H'=>Q .non H',rt:=Q } (start ["trail","finds"] vs) H:=by
 rintro vs H Q E ⟨a,ts,rfl,ha,hR,hl,q⟩
 unfold wg
 walk_at "x"
 refine .inl ⟨⟨_,SqL.of ha⟩,λacc hacc=>?_⟩
 refine zF (K:=K) (z:=a) (xs:=ts.map sL) ts (λt=>!decide (t.f=.non)) (λt=>t.f) (λσ=>∃ o o1 o2 o3,σ=[o,o1,o2,o3]) (by simp) (SqL.of ha) hacc ⟨_,_,_,_,rfl⟩ (by rw [aj];omega) ?_ ?_
 ·rintro i t x σ' H' G G' ht hx S' ⟨o,o1,o2,o3,rfl⟩ g1 g2
  have ex:x=sL t:=by rw [ay,ht] at hx;exact (aS hx).symm
  subst ex
  have ok:=(hR t (aG ht)).same S'
  refine xB (.of ok.1) rfl ?_
  walk_at "x"
  cases hf:(!decide (t.f=V.non)) with
  | true =>
   refine qi ?_
   walk_at "x"
   exact g1 hf _ ⟨_,_,_,_,rfl⟩
  | false =>
   refine j8 ?_
   exact g2 hf _ ⟨_,_,_,_,rfl⟩
 ·rintro H' S' hH
  walk_at "x"
  refine ⟨_,.inl ⟨_,SqL.of hH,rfl⟩,?_⟩
  generalize (!((ts.filter λt=>!decide (t.f=V.non)).map λt=>t.f).isEmpty)=bb
  cases bb with
  | true =>
   refine qi ?_
   walk_at "x"
   refine ⟨a,ts,rfl,S' _ _ ha,λt ht=>(hR t ht).same S',hl,λc H2 S2=>?_⟩
   walk_at "x"
   exact q _ _ (S'.trans S2)
  | false =>
   refine j8 ?_
   walk_at "x"
   exact ⟨a,ts,rfl,S' _ _ ha,λt ht=>(hR t ht).same S',hl,λc H2 S2=>q _ _ (S'.trans S2)⟩
end K39
namespace K39
open Rm
theorem eN {f g:bA}{v x:V}{r:List (bA×V)}(h:¬ g=f):d9 f v ((g,x)::r)=(g,x)::d9 f v r:=by show (if g=f then _ else _)=_;rw [if_neg h]
theorem wx {f:bA}{v x:V}{r:List (bA×V)}:d9 f v ((f,x)::r)=(f,v)::r:=by show (if f=f then _ else _)=_;rw [if_pos rfl]
theorem tO {f:bA}{x:V}{r:List (bA×V)}:eU f ((f,x)::r)=some x:=by rw [cS,beq_self_eq_true]
theorem fN {f g:bA}{x:V}{r:List (bA×V)}(h:¬ g=f):eU g ((f,x)::r)=eU g r:=by
 rw [cS]
 have:(g == f)=false:=by simpa using h
 rw [this]
structure zJ (K:aa) (C:af) (A:CA):Prop where
 w:CT K C
 lc:Cls K A.Levels
 l1:NoAttr K A.Levels "level_of"
 l2:NoAttr K A.Levels "wooden"
 l3:NoAttr K A.Levels "weight_of"
 l4:NoAttr K A.Levels "woods"
 kc:Cls K A.Keeper
 k1:NoAttr K A.Keeper "n"
 k2:NoAttr K A.Keeper "levels"
 k3:NoAttr K A.Keeper "wood"
 k4:NoAttr K A.Keeper "came"
 k5:NoAttr K A.Keeper "looked"
 k6:NoAttr K A.Keeper "risen"
 k7:NoAttr K A.Keeper "lost"
def fL (d1 d2 d3 L:af):List (bA×V):=[("level_of",.ref d1),("wooden",.ref d2),("weight_of",.ref d3),("woods",.ref L)]
theorem L0 {d1 d2 d3 L:af}:(fL d1 d2 d3 L).lookup ("level_of":bA)=some (.ref d1):=tO
theorem Pg {d1 d2 d3 L:af}:(fL d1 d2 d3 L).lookup ("wooden":bA)=some (.ref d2):=by unfold fL;rw [fN (by decide +kernel)];exact tO
theorem Uv {d1 d2 d3 L:af}:(fL d1 d2 d3 L).lookup ("weight_of":bA)=some (.ref d3):=by unfold fL;rw [fN (by decide +kernel),fN (by decide +kernel)];exact tO
theorem Qd {d1 d2 d3 L:af}:(fL d1 d2 d3 L).lookup ("woods":bA)=some (.ref L):=by unfold fL;rw [fN (by decide +kernel),fN (by decide +kernel),fN (by decide +kernel)];exact tO
theorem Qe {d1 d2 d3 L:af}{m:bA}(h1:¬ m="level_of") (h2:¬ m="wooden") (h3:¬ m="weight_of") (h4:¬ m="woods"):(fL d1 d2 d3 L).lookup m=none:=by unfold fL;rw [fN h1,fN h2,fN h3,fN h4];rfl
structure AL where
 (q dq d1 d2 d3 L:af) (ws:List (af×af×af))
def fp (a:AL):List af:=a.d1::a.d2::a.d3::a.ws.map (·.2.2)
def Fm (X:List af) (H H':Hp):Prop:=∀ b o,b∉X->H b=some o->H' b=some o
theorem Fm.refl {X:List af}{H:Hp}:Fm X H H:=λ_ _ _ e=>e
theorem Fm.trans {X:List af}{H H1 H2:Hp}(x:Fm X H H1) (y:Fm X H1 H2):Fm X H H2:=λb o h e=>y b o h (x b o h e)
theorem Fm.of {X:List af}{H H':Hp}(S:Same H H'):Fm X H H':=λb o _ e=>S b o e
theorem Fm.but {X:List af}{c:af}{H H':Hp}(hc:c∈X) (S:SameBut1 c H H'):Fm X H H':=λb o h e=>S b o e λz=>h (z▸hc)
theorem Fm.upd {X:List af}{c:af}{o:HO}{H:Hp}(hc:c∈X):Fm X H (upd H c o):=Fm.but hc SameBut1.upd
theorem Fm.mono {X Y:List af}{H H':Hp}(S:Fm X H H') (h:∀ b∈X,b∈Y):Fm Y H H':=λb o hb e=>S b o (λz=>hb (h b z)) e
theorem Fm.tail {X:List af}{c:af}{H H':Hp}(S:Fm X H H'):Fm (c::X) H H':=S.mono λ_=>ag _
theorem Fm.free {X:List af}{H H':Hp}(S:Fm X H H') {b:af}(h:b∉X) (e:H' b=none):H b=none:=by
 cases z:H b with
 | none=>rfl
 | some o=>rw [S b o h z] at e;cases e
structure LV (C:af) (A:CA) (H:Hp) (a:AL) (n T:Nat) (ts:List Ti) (as:Nat->List af) (R:Nat->Nat->List Int):Prop where
 ob:H a.q=some (.ins A.Levels a.dq (fL a.d1 a.d2 a.d3 a.L))
 e1:H a.d1=some (.dT (kl ts))
 e2:H a.d2=some (.dT (kw ts))
 e3:H a.d3=some (.dT (kv ts))
 ls:H a.L=some (.lst (a.ws.map λw=>.ref w.1))
 len:a.ws.length=T+1
 wa:∀ (i:Nat) w,a.ws[i]?=some w->WA C H w.1 w.2.1 w.2.2 n (as i) (R i)
 wd:∀ i,i<=T->Wd n (R i)
 n1:1<=n
 n12:a.d1≠a.d2
 n13:a.d1≠a.d3
 n23:a.d2≠a.d3
 nl:(a.ws.map (·.2.2)).Nodup
 nL:∀ w∈a.ws,a.L≠w.2.2
section
variable {C:af}{A:CA}{H H':Hp}{a:AL}{n T:Nat}{ts ts':List Ti}{as:Nat->List af}{R:Nat->Nat->List Int}
theorem LV.at (h:LV C A H a n T ts as R) {w:af×af×af}(hw:w∈a.ws):∃ i,i<=T/\a.ws[i]?=some w:=by
 obtain ⟨i,hi⟩:=bE.mp hw
 have:=(aB.mp hi).1
 rw [h.len] at this
 exact ⟨i,by omega,hi⟩
theorem LV.get (h:LV C A H a n T ts as R) {i:Nat}(hi:i<=T):∃ w,a.ws[i]?=some w/\w∈a.ws:=by
 have hl:i<a.ws.length:=by rw [h.len];omega
 exact ⟨_,ar hl,dO hl⟩
theorem LV.rows (h:LV C A H a n T ts as R) {w:af×af×af}(hw:w∈a.ws):∃ bs:List af,bs.length=n/\H w.2.2=some (.lst (bs.map V.ref)):=by
 obtain ⟨i,_,hi⟩:=h.at hw
 exact ⟨_,(h.wa i w hi).len,(h.wa i w hi).rl⟩
theorem LV.kind (h:LV C A H a n T ts as R) {b:af}(hb:b∈fp a):(∃ ks,H b=some (.dT ks))\/∃ bs:List af,bs.length=n/\H b=some (.lst (bs.map V.ref)):=by
 unfold fp at hb
 simp only [ak,br] at hb
 rcases hb with rfl|rfl|rfl|⟨w,hw,rfl⟩
 ·exact .inl ⟨_,h.e1⟩
 ·exact .inl ⟨_,h.e2⟩
 ·exact .inl ⟨_,h.e3⟩
 ·exact .inr (h.rows hw)
theorem LV.out (h:LV C A H a n T ts as R) {b:af}{o:HO}(e:H b=some o) (h1:∀ ks,o≠.dT ks) (h2:∀ bs:List af,bs.length=n->o≠.lst (bs.map V.ref)):b∉fp a:=λhb=>by
 rcases h.kind hb with ⟨ks,q⟩|⟨bs,hl,q⟩
 ·rw [e] at q;exact h1 ks (aS q)
 ·rw [e] at q;exact h2 bs hl (aS q)
theorem LV.outT (h:LV C A H a n T ts as R) {b:af}{xs:List V}(e:H b=some (.tup xs)):b∉fp a:=h.out e (λ_ z=>nomatch z) (λ_ _ z=>nomatch z)
theorem LV.outI (h:LV C A H a n T ts as R) {b x y:af}{fs:List (bA×V)}(e:H b=some (.ins x y fs)):b∉fp a:=h.out e (λ_ z=>nomatch z) (λ_ _ z=>nomatch z)
theorem LV.outL (h:LV C A H a n T ts as R) {b:af}{r:List Int}(e:H b=some (.lst (r.map V.int))):b∉fp a:=h.out e (λ_ z=>nomatch z) λbs hl z=>by
 have n1:=h.n1
 injection z with z
 match r,bs,hl with
 | [],c::bs,_=>cases z
 | x::r,c::bs,_=>cases (oh z).1
 | x::r,[],_=>cases z
 | [],[],hl=>rw [← hl] at n1;cases n1
theorem LV.outN (h:LV C A H a n T ts as R) {b:af}(e:H b=none):b∉fp a:=λhb=>by
 rcases h.kind hb with ⟨ks,q⟩|⟨bs,hl,q⟩<;>rw [e] at q<;>cases q
theorem LV.keep (h:LV C A H a n T ts as R) {X:List af}(S:Fm X H H') (hq:∀ x fs,H x=some fs->(∃ c d f,fs=.ins c d f/\f≠[])->(x=a.q\/∃ w∈a.ws,x=w.1)->x∉X) (hd:∀ b∈fp a,b∉X) (hL:a.L∉X) (hr:∀ (b:af) (r:List Int),r≠[]->H b=some (.lst (r.map V.int))->b∉X):LV C A H' a n T ts as R:=by
 have m1:a.d1∈fp a:=aq
 have m2:a.d2∈fp a:=ag _ aq
 have m3:a.d3∈fp a:=ag _ (ag _ aq)
 refine ⟨S _ _ (hq _ _ h.ob ⟨_,_,_,rfl,by simp [fL]⟩ (.inl rfl)) h.ob,S _ _ (hd _ m1) h.e1,S _ _ (hd _ m2) h.e2,S _ _ (hd _ m3) h.e3,S _ _ hL h.ls,h.len,λi w hw=>?_,h.wd,h.n1,h.n12,h.n13,h.n23,h.nl,h.nL⟩
 have hm:=aG hw
 have W:=h.wa i w hw
 have hi:i<=T:=by have:=(aB.mp hw).1;rw [h.len] at this;omega
 refine ⟨S _ _ (hq _ _ W.ob ⟨_,_,_,rfl,?_⟩ (.inr ⟨w,hm,rfl⟩)) W.ob,S _ _ (hd _ ?_) W.rl,W.len,λj c hc=>?_,W.ne⟩
 ·intro z
  have:=xJ n w.2.2
  rw [z] at this
  cases this
 ·exact ag _ (ag _ (ag _ (bu hm)))
 ·have hj:j<n:=by rw [← W.len];exact (aB.mp hc).1
  exact S _ _ (hr _ _ ((h.wd i hi).r j hj).ne (W.at_ j c hc)) (W.at_ j c hc)
theorem LV.same (h:LV C A H a n T ts as R) (S:Same H H'):LV C A H' a n T ts as R:=h.keep (X:=[]) (λb o _ e=>S b o e) (λ_ _ _ _ _=>dP) (λ_ _=>dP) dP λ_ _ _ _=>dP
theorem LV.sets (h:LV C A H a n T ts as R) (B:Fm [a.d1,a.d2,a.d3] H H') (e1:H' a.d1=some (.dT (kl ts'))) (e2:H' a.d2=some (.dT (kw ts'))) (e3:H' a.d3=some (.dT (kv ts'))):LV C A H' a n T ts' as R:=by
 have ne:∀ {b:af}{o:HO},H b=some o->(∀ ks,o≠.dT ks)->H' b=some o:=λ{b o} e q=>B _ _ (λhb=>by
  simp only [ak,dP,or_false] at hb
  rcases hb with rfl|rfl|rfl
  ·rw [h.e1] at e;cases e;exact q _ rfl
  ·rw [h.e2] at e;cases e;exact q _ rfl
  ·rw [h.e3] at e;cases e;exact q _ rfl) e
 exact ⟨ne h.ob (λ_ z=>nomatch z),e1,e2,e3,ne h.ls (λ_ z=>nomatch z),h.len,λi w hw=>⟨ne (h.wa i w hw).ob (λ_ z=>nomatch z),ne (h.wa i w hw).rl (λ_ z=>nomatch z),(h.wa i w hw).len,λj c hc=>ne ((h.wa i w hw).at_ j c hc) (λ_ z=>nomatch z),(h.wa i w hw).ne⟩,h.wd,h.n1,h.n12,h.n13,h.n23,h.nl,h.nL⟩
theorem LV.set1 (h:LV C A H a n T ts as R) (e2:kw ts'=kw ts) (e3:kv ts'=kv ts):LV C A (upd H a.d1 (.dT (kl ts'))) a n T ts' as R :=
 h.sets (Fm.upd aq) aD (by rw [aJ h.n12.symm,e2];exact h.e2) (by rw [aJ h.n13.symm,e3];exact h.e3)
theorem LV.set2 (h:LV C A H a n T ts as R) (e1:kl ts'=kl ts) (e3:kv ts'=kv ts):LV C A (upd H a.d2 (.dT (kw ts'))) a n T ts' as R :=
 h.sets (Fm.upd (ag _ aq)) (by rw [aJ h.n12,e1];exact h.e1) aD (by rw [aJ h.n23.symm,e3];exact h.e3)
theorem LV.wood (h:LV C A H a n T ts as R) {i:Nat}{w:af×af×af}{bs:List af}{R1:Nat->List Int}(hw:a.ws[i]?=some w) (W:WA C H' w.1 w.2.1 w.2.2 n bs R1) (D:Wd n R1) (B:SameBut1 w.2.2 H H') :
  LV C A H' a n T ts (λj=>if j=i then bs else as j) (λj=>if j=i then R1 else R j):=by
 have hm:=aG hw
 obtain ⟨cs,hcl,hcs⟩:=h.rows hm
 have nt:∀ {b:af}{o:HO},H b=some o->(∀ xs,o≠.lst xs)->H' b=some o:=λ{b o} e q=>B _ _ e λz=>by rw [z,hcs] at e;cases e;exact q _ rfl
 refine ⟨nt h.ob (λ_ z=>nomatch z),nt h.e1 (λ_ z=>nomatch z),nt h.e2 (λ_ z=>nomatch z),nt h.e3 (λ_ z=>nomatch z),B _ _ h.ls (h.nL w hm),h.len,λj v hv=>?_,λj hj=>?_,h.n1,h.n12,h.n13,h.n23,h.nl,h.nL⟩
 ·by_cases c:j=i
  ·subst c
   rw [hw] at hv
   cases hv
   simp only [if_pos]
   exact W
  ·simp only [if_neg c]
   have V:=h.wa j v hv
   have hjT:j<=T:=by have:=(aB.mp hv).1;rw [h.len] at this;omega
   have nvl:v.2.2≠w.2.2:=λe=>c ((List.getElem?_inj (by rw [aj];exact (aB.mp hv).1) h.nl).mp (by rw [ay,ay,hv,hw];simp [e]))
   refine ⟨nt V.ob (λ_ z=>nomatch z),B _ _ V.rl nvl,V.len,λx b hb=>B _ _ (V.at_ x b hb) λz=>?_,V.ne⟩
   have hx:x<n:=by rw [← V.len];exact (aB.mp hb).1
   have e:=V.at_ x b hb
   rw [z] at e
   exact h.outL e (ag _ (ag _ (ag _ (bu hm))))
 ·by_cases c:j=i
  ·simp only [if_pos c];exact D
  ·simp only [if_neg c];exact h.wd j hj
end
def cq (K:aa) (C:af) (A:CA):Sp:=λvs H Q _=>∃ (q dq d1 d2 d3 L t:af) (kl kw:List (List ja×V)) (x y:Int) (v1 v2:V),vs=[.ref q,.ref t]/\zJ K C A/\H q=some (.ins A.Levels dq (fL d1 d2 d3 L))/\Rd H d1 (.dT kl)/\Rd H d2 (.dT kw)/\H t=some (.tup [.int x,.int y]) /\
 mr kl [dY x,dY y]=some v1/\mr kw [dY x,dY y]=some v2/\∀ p,H p=none->Q (.ref p) (upd H p (.tup [.int x,.int y,v1,v2]))
theorem yU {K:aa}{C:af}{A:CA}:∀ vs H Q E,cq K C A vs H Q E->vs.length=2:=by
 rintro vs H Q E ⟨q,dq,d1,d2,d3,L,t,kl,kw,x,y,v1,v2,rfl,_⟩;rfl
theorem yV {K:aa}{C:af}{A:CA}:∀ vs H Q E,cq K C A vs H Q E->mX K C A { nx:=λ_ H'=>Q .non H',rt:=Q } (start ["self","tie"] vs) H:=by
 rintro vs H Q E ⟨q,dq,d1,d2,d3,L,t,kl,kw,x,y,v1,v2,rfl,ct,hq,r1,r2,ht,h1,h2,k⟩
 unfold mX
 walk_at "x"
 refine oU (SqT.of ht) (fv (j:=0) rfl rfl) ?_
 walk_at "x"
 refine oU (SqT.of ht) (fv (j:=1) rfl rfl) ?_
 walk_at "x"
 refine cY ?_
 walk_at "x"
 refine ⟨q,A.Levels,dq,_,_,rfl,hq,ct.lc,ct.l1,L0,?_⟩
 walk_at "x"
 refine .inr ⟨d1,v1,rfl,.inr ⟨kl,[dY x,dY y],t,r1,rfl,ht,h1.symm⟩,?_⟩
 walk_at "x"
 refine cY ?_
 walk_at "x"
 refine ⟨q,A.Levels,dq,_,_,rfl,hq,ct.lc,ct.l2,Pg,?_⟩
 walk_at "x"
 refine .inr ⟨d2,v2,rfl,.inr ⟨kw,[dY x,dY y],t,r2,rfl,ht,h2.symm⟩,?_⟩
 walk_at "x"
 exact ⟨b0 (m:=4) (aw 4),k⟩
end K39
namespace K39
open Rm
theorem Uw {a:AL}:a.d1∈fp a:=aq
theorem Ux {a:AL}:a.d2∈fp a:=ag _ aq
theorem fp3 {a:AL}:a.d3∈fp a:=ag _ (ag _ aq)
theorem fpw {a:AL}{w:af×af×af}(h:w∈a.ws):w.2.2∈fp a:=ag _ (ag _ (ag _ (bu h)))
theorem Nw {ts:List Ti}{k:Int×Int}:kl (i0 ts k Ti.inw)=kl ts:=zH (g:=Ti.inw) (λ_=>rfl) (λ_=>rfl) k
theorem RA {ts:List Ti}{k:Int×Int}:kv (i0 ts k Ti.inw)=kv ts:=zH (g:=Ti.inw) (λ_=>rfl) (λ_=>rfl) k
theorem Qf {ts:List Ti}{k:Int×Int}:kw (i0 ts k Ti.up)=kw ts:=zH (g:=Ti.up) (λ_=>rfl) (λ_=>rfl) k
theorem SW {ts:List Ti}{k:Int×Int}:kv (i0 ts k Ti.up)=kv ts:=zH (g:=Ti.up) (λ_=>rfl) (λ_=>rfl) k
theorem LV.cast {C:af}{A:CA}{H:Hp}{a:AL}{n T:Nat}{ts:List Ti}{as:Nat->List af}{R R':Nat->Nat->List Int}(h:LV C A H a n T ts as R) (e:∀ j,R j=R' j):LV C A H a n T ts as R':=(funext e:R=R')▸h
structure Up (C:af) (A:CA) (a:AL) (n T:Nat) (ts:List Ti) (R:Nat->Nat->List Int) (f:(Nat->List Int)->Nat->List Int) (H:Hp) (i:Nat) (H1:Hp):Prop where
 ex:∃ as R',LV C A H1 a n T ts as R'/\∀ j,R' j=if j<i then f (R j) else R j
 fm:Fm (fp a) H H1
theorem Up.step {C:af}{A:CA}{a:AL}{n T:Nat}{ts:List Ti}{R R':Nat->Nat->List Int}{f:(Nat->List Int)->Nat->List Int}{H H1 H2:Hp}{i:Nat}{w:af×af×af}{as:Nat->List af}{bs:List af}(L:LV C A H1 a n T ts as R') (e:∀ j,R' j=if j<i then f (R j) else R j) (F:Fm (fp a) H H1)
  (hw:a.ws[i]?=some w) (W:WA C H2 w.1 w.2.1 w.2.2 n bs (f (R' i))) (D:Wd n (f (R' i))) (B:SameBut1 w.2.2 H1 H2):Up C A a n T ts R f H (i+1) H2:=by
 refine ⟨⟨_,_,L.wood hw W D B,λj=>?_⟩,F.trans (Fm.but (fpw (aG hw)) B)⟩
 have ei:R' i=R i:=by rw [e,if_neg (gH i)]
 by_cases c:j=i
 ·subst c;rw [if_pos rfl,if_pos (lQ j),ei]
 ·rw [if_neg c,e]
  by_cases d:j<i
  ·rw [if_pos d,if_pos (by omega)]
  ·rw [if_neg d,if_neg (by omega)]
def bM (K:aa) (C:af) (A:CA):Sp:=λvs H Q _=>∃ (a:AL) (n T:Nat) (ts:List Ti) (as:Nat->List af) (R:Nat->Nat->List Int) (t:af) (u:Ti),vs=[.ref a.q,.ref t]/\zJ K C A/\LV C A H a n T ts as R/\n<=200/\u∈ts/\(ts.map Ti.key).Nodup/\u.x<n/\u.y<n/\u.lev<=T/\(∀ i,i<=u.lev->(u.y:Int)∉R i u.x) /\
 H t=some (.tup [.int u.x,.int u.y])/\ts.length<100/\∀ as' H',LV C A H' a n T (i0 ts u.key Ti.inw) as' (HQ R u.lev u.x u.y)->Fm (fp a) H H'->Q .non H'
theorem xN {K:aa}{C:af}{A:CA}:∀ vs H Q E,bM K C A vs H Q E->vs.length=2:=by
 rintro vs H Q E ⟨a,n,T,ts,as,R,t,u,rfl,_⟩;rfl
theorem xO {K:aa}{C:af}{A:CA}:∀ vs H Q E,bM K C A vs H Q E->lF K C A (cG K C) { nx:=λ_ H'=>Q .non H',rt:=Q } (start ["self","tie","wood"] vs) H:=by
 rintro vs H Q E ⟨a,n,T,ts,as,R,t,u,rfl,ct,h,hn,hu,hnd,hx,hy,hl,hap,ht,hlen,k⟩
 unfold lF
 walk_at "x"
 refine cY ?_
 walk_at "x"
 refine ⟨a.q,A.Levels,a.dq,_,_,rfl,h.ob,ct.lc,ct.l2,Pg,?_⟩
 walk_at "x"
 refine .inr ⟨a.d2,_,rfl,DPut.t (k:=pk u.x u.y) h.e2 ht (eG (m:=100) (by rw [qG];exact hlen)),?_⟩
 have e:=Nv (f:=λt=>V.bl t.wd) (g:=Ti.inw) hnd hu (λ_=>rfl)
 rw [show (V.bl true)=(λt:Ti=>V.bl t.wd) u.inw from rfl,e]
 have h1:=h.set2 (ts':=i0 ts u.key Ti.inw) Nw RA
 have ht1:(upd H a.d2 (.dT (kw (i0 ts u.key Ti.inw)))) t=some (.tup [.int u.x,.int u.y]):=by rw [aJ (iA ht h.e2 (by intro z;cases z))];exact ht
 have S1:Fm (fp a) H (upd H a.d2 (.dT (kw (i0 ts u.key Ti.inw)))):=Fm.upd Ux
 have hl1:mr (kl (i0 ts u.key Ti.inw)) (pk u.x u.y)=some (.int u.lev):=by rw [Nw];exact il hnd hu
 change (mU K C A _) _ _ (upd H a.d2 (.dT (kw (i0 ts u.key Ti.inw))))
 generalize upd H a.d2 (.dT (kw (i0 ts u.key Ti.inw)))=H1 at h1 ht1 S1
 generalize i0 ts u.key Ti.inw=ts1 at h1 hl1 k
 unfold mU
 walk_at "x"
 refine cY ?_
 walk_at "x"
 refine ⟨a.q,A.Levels,a.dq,_,_,rfl,h1.ob,ct.lc,ct.l4,Qd,?_⟩
 walk_at "x"
 refine cY ?_
 walk_at "x"
 refine ⟨a.q,A.Levels,a.dq,_,_,rfl,h1.ob,ct.lc,ct.l1,L0,?_⟩
 walk_at "x"
 refine .inr ⟨a.d1,.int u.lev,rfl,.inr ⟨_,pk u.x u.y,t,.inl h1.e1,rfl,ht1,hl1.symm⟩,?_⟩
 walk_at "x"
 refine GB (SqL.of h1.ls) λs hs=>?_
 rw [Ak (j:=u.lev+1) (by omega),← l7]
 have S2:=Same.upd_new (o:=.lst ((a.ws.take (u.lev+1)).map λw=>V.ref w.1)) hs
 have gs:(upd H1 s (.lst ((a.ws.take (u.lev+1)).map λw=>V.ref w.1))) s=some (.lst ((a.ws.take (u.lev+1)).map λw=>V.ref w.1)):=aD
 have nsf:=h1.outN hs
 generalize upd H1 s (.lst ((a.ws.take (u.lev+1)).map λw=>V.ref w.1))=H2 at S2 gs
 have h2:=h1.same S2
 have ht2:=S2 _ _ ht1
 have hlt:(a.ws.take (u.lev+1)).length=u.lev+1:=by rw [bw,h.len];omega
 refine ⟨s,rfl,?_⟩
 refine .inl ⟨⟨_,SqL.of gs⟩,oj (K:=K) (a:=s) (xs:=(a.ws.take (u.lev+1)).map λw=>V.ref w.1)
  (λi σ H3=>Up C A a n T ts1 R (λr=>lk r u.x u.y) H2 i H3/\∃ o,σ=[some (.ref a.q),some (.ref t),o])
  ⟨⟨⟨as,R,h2,λj=>by rw [if_neg (by omega)]⟩,Fm.refl⟩,_,rfl⟩ ?_ ?_ ?_⟩
 ·rintro i σ H3 _ ⟨U,_⟩;exact SqL.of (U.fm _ _ nsf gs)
 ·rintro i z σ H3 hi ⟨U,o,rfl⟩
  rw [ay] at hi
  obtain ⟨w,hw,rfl⟩:=bc.mp hi
  have hi:i<u.lev+1:=by rw [← hlt];exact (aB.mp hw).1
  rw [eE,if_pos hi] at hw
  obtain ⟨as1,R1,L1,e1⟩:=U.ex
  have W1:=L1.wa i w hw
  have ht3:=U.fm _ _ (h2.outT ht2) ht2
  walk_at "x"
  refine dD ?_
  walk_at "x"
  refine ⟨w.1,w.2.1,_,rfl,W1.ob,jV _ _ (by decide +kernel) (by decide +kernel),?_⟩
  walk_at "x"
  refine oU (SqT.of ht3) (fv (j:=0) rfl rfl) ?_
  walk_at "x"
  refine oU (SqT.of ht3) (fv (j:=1) rfl rfl) ?_
  walk_at "x"
  have ei:R1 i=R i:=by rw [e1,if_neg (gH i)]
  have D1:=L1.wd i (by omega)
  have hap1:(u.y:Int)∉R1 i u.x:=by rw [ei];exact hap i (by omega)
  refine ⟨w.1,w.2.1,w.2.2,n,u.x,u.y,as1 i,R1 i,rfl,ct.w,W1,D1,hn,hx,hy,hap1,λbs H4 W' B'=>?_⟩
  exact ⟨Up.step (f:=λr=>lk r u.x u.y) L1 e1 U.fm hw W' (D1.lk hx hy hap1) B',_,rfl⟩
 ·rintro σ H3 ⟨U,o,rfl⟩
  rw [aj,hlt] at U
  obtain ⟨as1,R1,L1,e1⟩:=U.ex
  refine k as1 H3 (L1.cast λj=>?_) ((S1.trans (Fm.of S2)).trans U.fm)
  rw [e1]
  show _=if j<=u.lev then _ else _
  by_cases c:j<=u.lev
  ·rw [if_pos c,if_pos (by omega)]
  ·rw [if_neg c,if_neg (by omega)]
def cQ (K:aa) (C:af) (A:CA):Sp:=λvs H Q _=>∃ (a:AL) (n T:Nat) (ts:List Ti) (as:Nat->List af) (R:Nat->Nat->List Int) (t:af) (u:Ti),vs=[.ref a.q,.ref t]/\zJ K C A/\LV C A H a n T ts as R/\n<=200/\u∈ts/\(ts.map Ti.key).Nodup/\u.x<n/\u.y<n/\(u.wd=true->u.lev+1<=T/\(u.y:Int)∉R (u.lev+1) u.x) /\
 H t=some (.tup [.int u.x,.int u.y])/\ts.length<100/\∀ as' R' H',LV C A H' a n T (i0 ts u.key Ti.up) as' R'->(R'=if u.wd=true then SV R (u.lev+1) u.x u.y else R)->Fm (fp a) H H'->Q .non H'
theorem yW {K:aa}{C:af}{A:CA}:∀ vs H Q E,cQ K C A vs H Q E->vs.length=2:=by
 rintro vs H Q E ⟨a,n,T,ts,as,R,t,u,rfl,_⟩;rfl
theorem yX {K:aa}{C:af}{A:CA}:∀ vs H Q E,cQ K C A vs H Q E->mV K C A (cG K C) { nx:=λ_ H'=>Q .non H',rt:=Q } (start ["self","tie"] vs) H:=by
 rintro vs H Q E ⟨a,n,T,ts,as,R,t,u,rfl,ct,h,hn,hu,hnd,hx,hy,hap,ht,hlen,k⟩
 unfold mV
 walk_at "x"
 refine cY ?_
 walk_at "x"
 refine ⟨a.q,A.Levels,a.dq,_,_,rfl,h.ob,ct.lc,ct.l1,L0,?_⟩
 walk_at "x"
 refine ⟨a.d1,.int u.lev,rfl,.inr ⟨_,pk u.x u.y,t,.inl h.e1,rfl,ht,(il (f:=λt=>V.int t.lev) hnd hu).symm⟩,?_⟩
 walk_at "x"
 refine ⟨u.lev,1,rfl,rfl,_,DPut.t (k:=pk u.x u.y) h.e1 ht (eG (m:=100) (by rw [qG];exact hlen)),?_⟩
 have e:=Nv (f:=λt=>V.int t.lev) (g:=Ti.up) hnd hu (λ_=>rfl)
 rw [show (V.int ((u.lev:Int)+1))=(λt:Ti=>V.int t.lev) u.up from rfl,e]
 have h1:=h.set1 (ts':=i0 ts u.key Ti.up) Qf SW
 have ht1:(upd H a.d1 (.dT (kl (i0 ts u.key Ti.up)))) t=some (.tup [.int u.x,.int u.y]):=by rw [aJ (iA ht h.e1 (by intro z;cases z))];exact ht
 have S1:Fm (fp a) H (upd H a.d1 (.dT (kl (i0 ts u.key Ti.up)))):=Fm.upd Uw
 have hw1:mr (kw (i0 ts u.key Ti.up)) (pk u.x u.y)=some (.bl u.wd):=by rw [Qf];exact il hnd hu
 have hl1:mr (kl (i0 ts u.key Ti.up)) (pk u.x u.y)=some (.int ((u.lev+1:Nat):Int)):=by
  have:=il (f:=λt=>V.int t.lev) (by rw [kD (f:=Ti.up) (λ_=>rfl)];exact hnd) ((mB (f:=Ti.up) hnd hu u.up).mpr (.inl rfl))
  exact this
 dsimp only
 change (jZ _ _ _) _ _ (upd H a.d1 (.dT (kl (i0 ts u.key Ti.up))))
 generalize upd H a.d1 (.dT (kl (i0 ts u.key Ti.up)))=H1 at h1 ht1 S1
 generalize i0 ts u.key Ti.up=ts1 at h1 hl1 hw1 k
 walk_at "x"
 refine cY ?_
 walk_at "x"
 refine ⟨a.q,A.Levels,a.dq,_,_,rfl,h1.ob,ct.lc,ct.l2,Pg,?_⟩
 walk_at "x"
 refine .inr ⟨a.d2,.bl u.wd,rfl,.inr ⟨_,pk u.x u.y,t,.inl h1.e2,rfl,ht1,hw1.symm⟩,?_⟩
 refine ⟨_,rfl,?_⟩
 cases hw:u.wd with
 | false =>
  rw [hw] at k
  refine j8 ?_
  walk_at "x"
  exact k as R H1 h1 rfl S1
 | true =>
  rw [hw] at k
  obtain ⟨hT,hap⟩:=hap hw
  obtain ⟨w,hw1,hwm⟩:=h1.get hT
  have W1:=h1.wa _ w hw1
  have D1:=h1.wd _ hT
  refine qi ?_
  walk_at "x"
  refine dD ?_
  walk_at "x"
  refine cY ?_
  walk_at "x"
  refine ⟨a.q,A.Levels,a.dq,_,_,rfl,h1.ob,ct.lc,ct.l4,Qd,?_⟩
  walk_at "x"
  refine cY ?_
  walk_at "x"
  refine ⟨a.q,A.Levels,a.dq,_,_,rfl,h1.ob,ct.lc,ct.l1,L0,?_⟩
  walk_at "x"
  refine .inr ⟨a.d1,.int ((u.lev+1:Nat):Int),rfl,.inr ⟨_,pk u.x u.y,t,.inl h1.e1,rfl,ht1,hl1.symm⟩,?_⟩
  refine nA (SqL.of h1.ls) (fv (j:=u.lev+1) rfl (by rw [ay,hw1];rfl)) ?_
  refine ⟨w.1,w.2.1,_,rfl,W1.ob,jV _ _ (by decide +kernel) (by decide +kernel),?_⟩
  walk_at "x"
  refine oU (SqT.of ht1) (fv (j:=0) rfl rfl) ?_
  walk_at "x"
  refine oU (SqT.of ht1) (fv (j:=1) rfl rfl) ?_
  walk_at "x"
  refine ⟨w.1,w.2.1,w.2.2,n,u.x,u.y,as (u.lev+1),R (u.lev+1),rfl,ct.w,W1,D1,hn,hx,hy,hap,λbs H4 W' B'=>?_⟩
  exact k _ _ H4 (h1.wood hw1 W' (D1.lk hx hy hap) B') rfl (S1.trans (Fm.but (fpw hwm) B'))
def dB (K:aa) (C:af) (A:CA):Sp:=λvs H Q _=>∃ (a:AL) (n T:Nat) (ts:List Ti) (as:Nat->List af) (R:Nat->Nat->List Int) (t:af) (u:Ti),vs=[.ref a.q,.ref t]/\zJ K C A/\LV C A H a n T ts as R/\n<=200/\u∈ts/\(ts.map Ti.key).Nodup/\u.x<n/\u.y<n/\u.x≠u.y/\u.lev<=T/\(u.wd=true->∀ i,i<=u.lev->Ed n (R i) u.x u.y) /\
 H t=some (.tup [.int u.x,.int u.y])/\∀ as' R' H',LV C A H' a n T (ts.filter λv=>decide (v.key≠u.key)) as' R'->(R'=if u.wd=true then TN R u.lev u.x u.y else R)->Fm (fp a) H H'->Q .non H'
theorem yY {K:aa}{C:af}{A:CA}:∀ vs H Q E,dB K C A vs H Q E->vs.length=2:=by
 rintro vs H Q E ⟨a,n,T,ts,as,R,t,u,rfl,_⟩;rfl
theorem yZ {K:aa}{C:af}{A:CA}:∀ vs H Q E,dB K C A vs H Q E->mW K C A (fM K C) { nx:=λ_ H'=>Q .non H',rt:=Q } (start ["self","tie","level","wood"] vs) H:=by
 rintro vs H Q E ⟨a,n,T,ts,as,R,t,u,rfl,ct,h,hn,hu,hnd,hx,hy,hxy,hl,hed,ht,k⟩
 have td:∀ {H:Hp}{d:af}{ks ks':List (List ja×V)},H t=some (.tup [.int u.x,.int u.y])->H d=some (.dT ks)->upd H d (.dT ks') t=some (.tup [.int u.x,.int u.y]):=λe1 e2=>by rw [aJ (iA e1 e2 (by intro z;cases z))];exact e1
 unfold mW
 walk_at "x"
 refine cY ?_
 walk_at "x"
 refine ⟨a.q,A.Levels,a.dq,_,_,rfl,h.ob,ct.lc,ct.l3,Uv,?_⟩
 refine ⟨.inr (.inr (.inl ⟨rfl,.inr ⟨_,h.e3⟩⟩)),?_⟩
 walk_at "x"
 refine ⟨a.d3,_,pk u.x u.y,t,.int 0,rfl,rfl,h.e3,ht,il (f:=λ_=>V.int 0) hnd hu,?_⟩
 rw [zI]
 have ht1:=td (ks':=kv (ts.filter λv=>decide (v.key≠u.key))) ht h.e3
 have ne3:∀ {b:af}{o:HO},b≠a.d3->H b=some o->(upd H a.d3 (.dT (kv (ts.filter λv=>decide (v.key≠u.key))))) b=some o:=λhb e=>by rw [aJ hb];exact e
 have q3:(upd H a.d3 (.dT (kv (ts.filter λv=>decide (v.key≠u.key))))) a.d3=_:=aD
 have F1:Fm [a.d1,a.d2,a.d3] H (upd H a.d3 (.dT (kv (ts.filter λv=>decide (v.key≠u.key))))):=Fm.upd (ag _ (ag _ aq))
 have o1:=ne3 (iA h.ob h.e3 (by intro z;cases z)) h.ob
 have p1:=ne3 h.n13 h.e1
 have p2:=ne3 h.n23 h.e2
 generalize upd H a.d3 (.dT (kv (ts.filter λv=>decide (v.key≠u.key))))=H1 at ht1 q3 F1 o1 p1 p2
 dsimp only
 walk_at "x"
 refine cY ?_
 walk_at "x"
 refine ⟨a.q,A.Levels,a.dq,_,_,rfl,o1,ct.lc,ct.l1,L0,?_⟩
 refine ⟨.inr (.inr (.inl ⟨rfl,.inr ⟨_,p1⟩⟩)),?_⟩
 walk_at "x"
 refine ⟨a.d1,_,pk u.x u.y,t,.int u.lev,rfl,rfl,p1,ht1,il (f:=λt=>V.int t.lev) hnd hu,?_⟩
 rw [zI]
 have ht2:=td (ks':=kl (ts.filter λv=>decide (v.key≠u.key))) ht1 p1
 have o2:(upd H1 a.d1 (.dT (kl (ts.filter λv=>decide (v.key≠u.key))))) a.q=_:=(aJ (iA o1 p1 (by intro z;cases z))).trans o1
 have r1:(upd H1 a.d1 (.dT (kl (ts.filter λv=>decide (v.key≠u.key))))) a.d1=_:=aD
 have r2:(upd H1 a.d1 (.dT (kl (ts.filter λv=>decide (v.key≠u.key))))) a.d2=_:=(aJ h.n12.symm).trans p2
 have r3:(upd H1 a.d1 (.dT (kl (ts.filter λv=>decide (v.key≠u.key))))) a.d3=_:=(aJ h.n13.symm).trans q3
 have F2:Fm [a.d1,a.d2,a.d3] H (upd H1 a.d1 (.dT (kl (ts.filter λv=>decide (v.key≠u.key))))):=F1.trans (Fm.upd aq)
 generalize upd H1 a.d1 (.dT (kl (ts.filter λv=>decide (v.key≠u.key))))=H2 at ht2 o2 r1 r2 r3 F2
 dsimp only
 walk_at "x"
 refine cY ?_
 walk_at "x"
 refine ⟨a.q,A.Levels,a.dq,_,_,rfl,o2,ct.lc,ct.l2,Pg,?_⟩
 refine ⟨.inr (.inr (.inl ⟨rfl,.inr ⟨_,r2⟩⟩)),?_⟩
 walk_at "x"
 refine ⟨a.d2,_,pk u.x u.y,t,.bl u.wd,rfl,rfl,r2,ht2,il (f:=λt=>V.bl t.wd) hnd hu,?_⟩
 rw [zI]
 have ht3:=td (ks':=kw (ts.filter λv=>decide (v.key≠u.key))) ht2 r2
 have F3:Fm [a.d1,a.d2,a.d3] H (upd H2 a.d2 (.dT (kw (ts.filter λv=>decide (v.key≠u.key))))):=F2.trans (Fm.upd (ag _ aq))
 have h3:LV C A (upd H2 a.d2 (.dT (kw (ts.filter λv=>decide (v.key≠u.key))))) a n T (ts.filter λv=>decide (v.key≠u.key)) as R:=h.sets F3 ((aJ h.n12).trans r1) aD ((aJ h.n23.symm).trans r3)
 have G3:Fm (fp a) H (upd H2 a.d2 (.dT (kw (ts.filter λv=>decide (v.key≠u.key))))):=F3.mono λb hb=>by
  simp only [ak,dP,or_false] at hb
  rcases hb with rfl|rfl|rfl
  ·exact Uw
  ·exact Ux
  ·exact fp3
 generalize upd H2 a.d2 (.dT (kw (ts.filter λv=>decide (v.key≠u.key))))=H3 at ht3 h3 G3
 refine ⟨_,rfl,?_⟩
 cases hw:u.wd with
 | false =>
  rw [hw] at k
  refine j8 ?_
  walk_at "x"
  exact k as R H3 h3 rfl G3
 | true =>
  rw [hw] at k
  have hed:=hed hw
  refine qi ?_
  unfold rK
  walk_at "x"
  refine cY ?_
  walk_at "x"
  refine ⟨a.q,A.Levels,a.dq,_,_,rfl,h3.ob,ct.lc,ct.l4,Qd,?_⟩
  walk_at "x"
  refine GB (SqL.of h3.ls) λs hs=>?_
  rw [Ak (j:=u.lev+1) (by omega),← l7]
  have S2:=Same.upd_new (o:=.lst ((a.ws.take (u.lev+1)).map λw=>V.ref w.1)) hs
  have gs:(upd H3 s (.lst ((a.ws.take (u.lev+1)).map λw=>V.ref w.1))) s=some (.lst ((a.ws.take (u.lev+1)).map λw=>V.ref w.1)):=aD
  have nsf:=h3.outN hs
  generalize upd H3 s (.lst ((a.ws.take (u.lev+1)).map λw=>V.ref w.1))=H4 at S2 gs
  have h4:=h3.same S2
  have ht4:=S2 _ _ ht3
  have hlt:(a.ws.take (u.lev+1)).length=u.lev+1:=by rw [bw,h.len];omega
  refine ⟨s,rfl,?_⟩
  refine .inl ⟨⟨_,SqL.of gs⟩,oj (K:=K) (a:=s) (xs:=(a.ws.take (u.lev+1)).map λw=>V.ref w.1)
   (λi σ H5=>Up C A a n T (ts.filter λv=>decide (v.key≠u.key)) R (λr=>Rm.ct r u.x u.y) H4 i H5/\∃ o,σ=[some (.ref a.q),some (.ref t),some (.int u.lev),o])
   ⟨⟨⟨as,R,h4,λj=>by rw [if_neg (by omega)]⟩,Fm.refl⟩,_,rfl⟩ ?_ ?_ ?_⟩
  ·rintro i σ H5 _ ⟨U,_⟩;exact SqL.of (U.fm _ _ nsf gs)
  ·rintro i z σ H5 hi ⟨U,o,rfl⟩
   rw [ay] at hi
   obtain ⟨w,hw,rfl⟩:=bc.mp hi
   have hi:i<u.lev+1:=by rw [← hlt];exact (aB.mp hw).1
   rw [eE,if_pos hi] at hw
   obtain ⟨as1,R1,L1,e1⟩:=U.ex
   have W1:=L1.wa i w hw
   have ht5:=U.fm _ _ (h4.outT ht4) ht4
   walk_at "x"
   refine dD ?_
   walk_at "x"
   refine ⟨w.1,w.2.1,_,rfl,W1.ob,jV _ _ (by decide +kernel) (by decide +kernel),?_⟩
   walk_at "x"
   refine oU (SqT.of ht5) (fv (j:=0) rfl rfl) ?_
   walk_at "x"
   refine oU (SqT.of ht5) (fv (j:=1) rfl rfl) ?_
   walk_at "x"
   have ei:R1 i=R i:=by rw [e1,if_neg (gH i)]
   have D1:=L1.wd i (by omega)
   have hE:Ed n (R1 i) u.x u.y:=by rw [ei];exact hed i (by omega)
   refine ⟨w.1,w.2.1,w.2.2,n,u.x,u.y,as1 i,R1 i,rfl,ct.w,W1,D1,hn,hx,hy,hxy,hE,λbs H6 W' B'=>?_⟩
   exact ⟨Up.step (f:=λr=>Rm.ct r u.x u.y) L1 e1 U.fm hw W' (D1.ct hx hy hxy hE) B',_,rfl⟩
  ·rintro σ H5 ⟨U,o,rfl⟩
   rw [aj,hlt] at U
   obtain ⟨as1,R1,L1,e1⟩:=U.ex
   refine k as1 _ H5 (L1.cast λj=>?_) rfl ((G3.trans (Fm.of S2)).trans U.fm)
   rw [e1]
   show _=if j<=u.lev then _ else _
   by_cases c:j<=u.lev
   ·rw [if_pos c,if_pos (by omega)]
   ·rw [if_neg c,if_neg (by omega)]
end K39
namespace K39
open Rm
def fq (K:aa) (C:af) (A:CA):Sp:=λvs H Q _=>∃ (a:AL) (n T:Nat) (ts:List Ti) (as:Nat->List af) (R:Nat->Nat->List Int) (t:af) (x y:Nat),vs=[.ref a.q,.ref t,.int 0]/\zJ K C A/\LV C A H a n T ts as R/\n<=200/\x<n/\y<n/\H t=some (.tup [.int x,.int y])/\(ts.map Ti.key).Nodup/\((x:Int),(y:Int))∉ts.map Ti.key/\ts.length<99 /\
 ∀ b ts' as' R' H',LV C A H' a n T ts' as' R'->(((y:Int)∈R 0 x/\ts'=ts++[⟨x,y,0,false⟩]/\R'=R)\/((y:Int)∉R 0 x/\ts'=i0 (ts++[⟨x,y,0,false⟩]) ((x:Int),(y:Int)) Ti.inw/\R'=HQ R 0 x y))->Fm (fp a) H H'->Q (.bl b) H'
theorem A1 {K:aa}{C:af}{A:CA}:∀ vs H Q E,fq K C A vs H Q E->vs.length=3:=by
 rintro vs H Q E ⟨a,n,T,ts,as,R,t,x,y,rfl,_⟩;rfl
theorem A2 {K:aa}{C:af}{A:CA}:∀ vs H Q E,fq K C A vs H Q E->nZ K C A (a8 K C) (bM K C A) { nx:=λ_ H'=>Q .non H',rt:=Q } (start ["self","tie","weight"] vs) H:=by
 rintro vs H Q E ⟨a,n,T,ts,as,R,t,x,y,rfl,ct,h,hn,hx,hy,ht,hnd,hk,hlen,k⟩
 have td:∀ {H:Hp}{d:af}{ks ks':List (List ja×V)},H t=some (.tup [.int x,.int y])->H d=some (.dT ks)->upd H d (.dT ks') t=some (.tup [.int x,.int y]):=λe1 e2=>by rw [aJ (iA e1 e2 (by intro z;cases z))];exact e1
 have kn:∀ (f:Ti->V) (v:V),f ⟨x,y,0,false⟩=v->uA (kf f ts) (pk x y) v=kf f (ts++[⟨x,y,0,false⟩]):=λf v e=>by rw [Gn _ (ES hk),← e];unfold kf;rw [aV];rfl
 have hnd':((ts++[(⟨x,y,0,false⟩:Ti)]).map Ti.key).Nodup:=by
  rw [aV,kT]
  exact ⟨hnd,by simp,λp hp q hq e=>hk (by rw [yE,aC] at hq;have e2:p=((x:Int),(y:Int)):=e.trans hq;rw [← e2];exact hp)⟩
 have hu:(⟨x,y,0,false⟩:Ti)∈ts++[⟨x,y,0,false⟩]:=aZ _ aq
 unfold nZ
 walk_at "x"
 refine cY ?_
 walk_at "x"
 refine ⟨a.q,A.Levels,a.dq,_,_,rfl,h.ob,ct.lc,ct.l1,L0,?_⟩
 walk_at "x"
 refine .inr ⟨a.d1,_,rfl,DPut.t (k:=pk x y) h.e1 ht (eG (m:=100) (by rw [qG];omega)),?_⟩
 rw [kn (λt=>V.int t.lev) (.int 0) rfl]
 have ht1:=td (ks':=kl (ts++[⟨x,y,0,false⟩])) ht h.e1
 have o1:(upd H a.d1 (.dT (kl (ts++[⟨x,y,0,false⟩])))) a.q=_:=(aJ (iA h.ob h.e1 (by intro z;cases z))).trans h.ob
 have p1:(upd H a.d1 (.dT (kl (ts++[⟨x,y,0,false⟩])))) a.d1=_:=aD
 have p2:(upd H a.d1 (.dT (kl (ts++[⟨x,y,0,false⟩])))) a.d2=_:=(aJ h.n12.symm).trans h.e2
 have p3:(upd H a.d1 (.dT (kl (ts++[⟨x,y,0,false⟩])))) a.d3=_:=(aJ h.n13.symm).trans h.e3
 have F1:Fm [a.d1,a.d2,a.d3] H (upd H a.d1 (.dT (kl (ts++[⟨x,y,0,false⟩])))):=Fm.upd aq
 generalize upd H a.d1 (.dT (kl (ts++[⟨x,y,0,false⟩])))=H1 at ht1 o1 p1 p2 p3 F1
 walk_at "x"
 refine cY ?_
 walk_at "x"
 refine ⟨a.q,A.Levels,a.dq,_,_,rfl,o1,ct.lc,ct.l2,Pg,?_⟩
 walk_at "x"
 refine .inr ⟨a.d2,_,rfl,DPut.t (k:=pk x y) p2 ht1 (eG (m:=100) (by rw [qG];omega)),?_⟩
 rw [kn (λt=>V.bl t.wd) (.bl false) rfl]
 have ht2:=td (ks':=kw (ts++[⟨x,y,0,false⟩])) ht1 p2
 have o2:(upd H1 a.d2 (.dT (kw (ts++[⟨x,y,0,false⟩])))) a.q=_:=(aJ (iA o1 p2 (by intro z;cases z))).trans o1
 have q1:(upd H1 a.d2 (.dT (kw (ts++[⟨x,y,0,false⟩])))) a.d1=_:=(aJ h.n12).trans p1
 have q2:(upd H1 a.d2 (.dT (kw (ts++[⟨x,y,0,false⟩])))) a.d2=_:=aD
 have q3:(upd H1 a.d2 (.dT (kw (ts++[⟨x,y,0,false⟩])))) a.d3=_:=(aJ h.n23.symm).trans p3
 have F2:Fm [a.d1,a.d2,a.d3] H (upd H1 a.d2 (.dT (kw (ts++[⟨x,y,0,false⟩])))):=F1.trans (Fm.upd (ag _ aq))
 generalize upd H1 a.d2 (.dT (kw (ts++[⟨x,y,0,false⟩])))=H2 at ht2 o2 q1 q2 q3 F2
 walk_at "x"
 refine cY ?_
 walk_at "x"
 refine ⟨a.q,A.Levels,a.dq,_,_,rfl,o2,ct.lc,ct.l3,Uv,?_⟩
 walk_at "x"
 refine .inr ⟨a.d3,_,rfl,DPut.t (k:=pk x y) q3 ht2 (eG (m:=100) (by rw [qG];omega)),?_⟩
 rw [kn (λ_=>V.int 0) (.int 0) rfl]
 have ht3:=td (ks':=kv (ts++[⟨x,y,0,false⟩])) ht2 q3
 have F3:Fm [a.d1,a.d2,a.d3] H (upd H2 a.d3 (.dT (kv (ts++[⟨x,y,0,false⟩])))):=F2.trans (Fm.upd (ag _ (ag _ aq)))
 have h3:LV C A (upd H2 a.d3 (.dT (kv (ts++[⟨x,y,0,false⟩])))) a n T (ts++[⟨x,y,0,false⟩]) as R:=h.sets F3 ((aJ h.n13).trans q1) ((aJ h.n23).trans q2) aD
 have S3:Fm (fp a) H (upd H2 a.d3 (.dT (kv (ts++[⟨x,y,0,false⟩])))):=F3.mono λb hb=>by
  simp only [ak,dP,or_false] at hb
  rcases hb with rfl|rfl|rfl
  ·exact Uw
  ·exact Ux
  ·exact fp3
 generalize upd H2 a.d3 (.dT (kv (ts++[⟨x,y,0,false⟩])))=H3 at ht3 h3 S3
 obtain ⟨w,hw,hwm⟩:=h3.get (a9 _)
 have W3:=h3.wa 0 w hw
 have D3:=h3.wd 0 (a9 _)
 walk_at "x"
 refine dD ?_
 walk_at "x"
 refine cY ?_
 walk_at "x"
 refine ⟨a.q,A.Levels,a.dq,_,_,rfl,h3.ob,ct.lc,ct.l4,Qd,?_⟩
 walk_at "x"
 refine nA (SqL.of h3.ls) (fv (j:=0) rfl (by rw [ay,hw];rfl)) ?_
 refine ⟨w.1,w.2.1,_,rfl,W3.ob,jV _ _ (by decide +kernel) (by decide +kernel),?_⟩
 walk_at "x"
 refine oU (SqT.of ht3) (fv (j:=0) rfl rfl) ?_
 walk_at "x"
 refine oU (SqT.of ht3) (fv (j:=1) rfl rfl) ?_
 walk_at "x"
 refine ⟨w.1,w.2.1,w.2.2,n,x,y,as 0,R 0,rfl,ct.w,W3,D3,hx,hy,?_⟩
 refine ⟨_,rfl,?_⟩
 by_cases hj:(y:Int)∈R 0 x
 ·rw [decide_eq_true hj]
  rw [if_neg (by simp)]
  walk_at "x"
  refine cY ?_
  walk_at "x"
  refine ⟨a.q,A.Levels,a.dq,_,_,rfl,h3.ob,ct.lc,ct.l2,Pg,?_⟩
  walk_at "x"
  refine .inr ⟨a.d2,.bl false,rfl,.inr ⟨_,pk x y,t,.inl h3.e2,rfl,ht3,(il (f:=λt=>V.bl t.wd) hnd' hu).symm⟩,?_⟩
  exact k _ _ as R H3 h3 (.inl ⟨hj,rfl,rfl⟩) S3
 ·rw [decide_eq_false hj]
  rw [if_pos (by simp)]
  walk_at "x"
  refine dD ?_
  walk_at "x"
  refine ⟨a.q,a.dq,_,rfl,h3.ob,Qe (by decide +kernel) (by decide +kernel) (by decide +kernel) (by decide +kernel),?_⟩
  walk_at "x"
  refine ⟨a,n,T,_,as,R,t,⟨x,y,0,false⟩,rfl,ct,h3,hn,hu,hnd',hx,hy,a9 _,λi hi=>by rw [Og.mp hi];exact hj,ht3,by simp;omega,λas' H4 h4 S4=>?_⟩
  have ht4:H4 t=some (.tup [.int x,.int y]):=S4 _ _ (h3.outT ht3) ht3
  walk_at "x"
  refine cY ?_
  walk_at "x"
  refine ⟨a.q,A.Levels,a.dq,_,_,rfl,h4.ob,ct.lc,ct.l2,Pg,?_⟩
  walk_at "x"
  refine .inr ⟨a.d2,.bl true,rfl,.inr ⟨_,pk x y,t,.inl h4.e2,rfl,ht4,(il (f:=λt=>V.bl t.wd) (t:=⟨x,y,0,true⟩) (by rw [kD (f:=Ti.inw) (λ_=>rfl)];exact hnd') ((mB (f:=Ti.inw) hnd' hu _).mpr (.inl rfl))).symm⟩,?_⟩
  exact k _ _ as' _ H4 h4 (.inr ⟨hj,rfl,rfl⟩) (S3.trans S4)
def bO (K:aa) (C:af) (A:CA):Sp:=λvs H Q _=>∃ (a:AL) (n T:Nat) (ts:List Ti) (as:Nat->List af) (R:Nat->Nat->List Int) (lv:Nat) (t:af) (x y:Nat),vs=[.ref a.q,.int lv,.ref t]/\zJ K C A/\LV C A H a n T ts as R/\n<=60/\lv<=T/\x<n/\y<n/\H t=some (.tup [.int x,.int y]) /\
 ∀ q (ks:List Int) (s o:Nat),(s=x/\o=y\/s=y/\o=x)->(R lv s).length<=(R lv o).length->H q=none->(∀ z,z∈ks↔z∈R lv s)->Q (.ref q) (upd H q (.lst (ks.map V.int)))
theorem sr {K:aa}{C:af}{A:CA}:∀ vs H Q E,bO K C A vs H Q E->vs.length=3:=by
 rintro vs H Q E ⟨a,n,T,ts,as,R,lv,t,x,y,rfl,_⟩;rfl
theorem su {K:aa}{C:af}{A:CA}:∀ vs H Q E,bO K C A vs H Q E->ie K C A (cJ K C) (fD K C) { nx:=λ_ H'=>Q .non H',rt:=Q } (start ["self","level","tie","wood"] vs) H:=by
 rintro vs H Q E ⟨a,n,T,ts,as,R,lv,t,x,y,rfl,ct,h,hn,hl,hx,hy,ht,k⟩
 obtain ⟨w,hw,hwm⟩:=h.get hl
 have W:=h.wa lv w hw
 have D:=h.wd lv hl
 have lx:=D.len hx
 have ly:=D.len hy
 obtain ⟨dx,_,_,cx⟩:=(D.r x hx).cnt
 obtain ⟨dy,_,_,cy⟩:=(D.r y hy).cnt
 unfold ie
 walk_at "x"
 refine cY ?_
 walk_at "x"
 refine ⟨a.q,A.Levels,a.dq,_,_,rfl,h.ob,ct.lc,ct.l4,Qd,?_⟩
 walk_at "x"
 refine nA (SqL.of h.ls) (fv (j:=lv) rfl (by rw [ay,hw];rfl)) ?_
 walk_at "x"
 refine dD ?_
 walk_at "x"
 refine ⟨w.1,w.2.1,_,rfl,W.ob,jV _ _ (by decide +kernel) (by decide +kernel),?_⟩
 walk_at "x"
 refine dD ?_
 walk_at "x"
 refine ⟨w.1,w.2.1,_,rfl,W.ob,jV _ _ (by decide +kernel) (by decide +kernel),?_⟩
 walk_at "x"
 refine oU (SqT.of ht) (fv (j:=0) rfl rfl) ?_
 walk_at "x"
 refine ⟨w.1,w.2.1,w.2.2,n,x,as lv,R lv,rfl,ct.w,W,D,hx,?_⟩
 refine dD ?_
 walk_at "x"
 refine ⟨w.1,w.2.1,_,rfl,W.ob,jV _ _ (by decide +kernel) (by decide +kernel),?_⟩
 walk_at "x"
 refine oU (SqT.of ht) (fv (j:=1) rfl rfl) ?_
 walk_at "x"
 refine ⟨w.1,w.2.1,w.2.2,n,y,as lv,R lv,rfl,ct.w,W,D,hy,?_⟩
 walk_at "x"
 refine zE (λc=>?_) λc=>?_
 ·walk_at "x"
  refine oU (SqT.of ht) (fv (j:=0) rfl rfl) ?_
  walk_at "x"
  exact ⟨w.1,w.2.1,w.2.2,n,x,as lv,R lv,rfl,ct.w,W,D,by omega,hx,λq ks hq _ hm=>k q ks x y (.inl ⟨rfl,rfl⟩) (by omega) hq hm⟩
 ·walk_at "x"
  refine oU (SqT.of ht) (fv (j:=1) rfl rfl) ?_
  walk_at "x"
  exact ⟨w.1,w.2.1,w.2.2,n,y,as lv,R lv,rfl,ct.w,W,D,by omega,hy,λq ks hq _ hm=>k q ks y x (.inr ⟨rfl,rfl⟩) (by omega) hq hm⟩
end K39
namespace K39
open Rm
theorem LT1.keep {Pt:af}{H H':Hp}(h:LT1 Pt H) (S:∀ b o,(∀ ks,o≠.dT ks)->(∀ xs,o≠.lst xs)->(∀ x y z,o≠.ins x y z)->(∀ o' ks,o≠.frz o' (.dT ks))->H b=some o->H' b=some o):LT1 Pt H':=by
 rcases h with h|⟨c',oc,vs,t,h1,h2,h3⟩
 ·exact .inl (S _ _ (λ_ z=>nomatch z) (λ_ z=>nomatch z) (λ_ _ _ z=>nomatch z) (λ_ _ z=>nomatch z) h)
 ·exact .inr ⟨c',oc,vs,t,S _ _ (λ_ z=>nomatch z) (λ_ z=>nomatch z) (λ_ _ _ z=>nomatch z) (λ_ _ z=>nomatch z) h1,S _ _ (λ_ z=>nomatch z) (λ_ z=>nomatch z) (λ_ _ _ z=>nomatch z) (λ_ _ z=>nomatch z) h2,h3⟩
theorem LT1.same {Pt:af}{H H':Hp}(h:LT1 Pt H) (S:Same H H'):LT1 Pt H':=h.keep λb o _ _ _ _ e=>S b o e
theorem LT1.fm {C:af}{A:CA}{Pt:af}{H H':Hp}{a:AL}{n T:Nat}{ts:List Ti}{as:Nat->List af}{R:Nat->Nat->List Int}(h:LT1 Pt H) (L:LV C A H a n T ts as R) (S:Fm (fp a) H H'):LT1 Pt H' :=
 h.keep λb o h1 h2 _ _ e=>S b o (L.out e h1 λ_ _=>h2 _) e
theorem LT1.ne {Pt:af}{H:Hp}(h:LT1 Pt H) {b:af}{o:HO}(e:H b=some o) (hn:∀ ps,o≠.tbl ps):b≠Pt:=λz=>by
 obtain ⟨ps,q⟩:=h.tbl
 rw [z,q] at e
 exact hn ps (aS e).symm
def AtL (ts:List Ti) (lv:Nat) (w:Bool) (zs:List Zt):Prop:=(zs.map zP).Nodup/\∀ k,k∈zs.map zP↔∃ t∈ts,t.lev=lv/\t.wd=w/\t.key=k
def kY (K:aa) (C:af) (A:CA) (Pt:af):Sp:=λvs H Q _=>∃ (a:AL) (n T:Nat) (ts:List Ti) (as:Nat->List af) (R:Nat->Nat->List Int) (lv:Nat) (w:Bool),vs=[.ref a.q,.int lv,.bl w]/\zJ K C A/\LV C A H a n T ts as R/\(ts.map Ti.key).Nodup/\ts.length<64/\LT1 Pt H /\
 ∀ (q:af) (zs:List Zt) (o:fR) H',H q=none->H' q=some (.lst (zs.map oP))->(∀ z∈zs,iI H' z)->AtL ts lv w zs->H' a.d1=some (.frz o (.dT (kl ts)))->LT1 Pt H'->Fm [Pt,a.d1] H H'->Q (.ref q) H'
def cb (K:aa) (C:af) (A:CA) (Pt:af):Sp:=λvs H Q _=>∃ (a:AL) (n T:Nat) (ts:List Ti) (as:Nat->List af) (R:Nat->Nat->List Int) (lv:Nat) (w:Bool),vs=[.ref a.q,.int lv,.bl w]/\zJ K C A/\LV C A H a n T ts as R/\(ts.map Ti.key).Nodup/\ts.length<64/\LT1 Pt H /\
 ∀ (q:af) (zs:List Zt) H',H q=none->H' q=some (.lst (zs.map oP))->(∀ z∈zs,iI H' z)->AtL ts lv w zs->LT1 Pt H'->GC Pt H H'->Q (.ref q) H'
theorem tP {K:aa}{C:af}{A:CA}{Pt:af}:∀ vs H Q E,kY K C A Pt vs H Q E->vs.length=3:=by
 rintro vs H Q E ⟨a,n,T,ts,as,R,lv,w,rfl,_⟩;rfl
theorem tQ {K:aa}{C:af}{A:CA}{Pt:af}:∀ vs H Q E,cb K C A Pt vs H Q E->kY K C A Pt vs H (M3 H Q) E:=by
 rintro vs H Q E ⟨a,n,T,ts,as,R,lv,w,rfl,ct,h,hnd,hlen,hT,k⟩
 refine ⟨a,n,T,ts,as,R,lv,w,rfl,ct,h,hnd,hlen,hT,λq zs o H' hq gq pz hz gd hT' B=>.inr ⟨a.d1,o,kl ts,(λo' u' e=>by rw [h.e1] at e;cases e),gd,?_⟩⟩
 have hqd:q≠a.d1:=Ne.symm (aN h.e1 hq)
 have ne:∀ {b:af}{u:HO},H' b=some u->(∀ o' ks,u≠.frz o' (.dT ks))->(upd H' a.d1 (.dT (kl ts))) b=some u:=λ{b u} e q=>by rw [aJ];exact e;rintro rfl;rw [gd] at e;cases e;exact q _ _ rfl
 refine k q zs _ hq (by rw [aJ hqd];exact gq) (λz hz'=>ne (pz z hz') (λ_ _ z=>nomatch z)) hz (hT'.keep λb u _ _ _ h4 e=>ne e h4) λb u hb e=>?_
 by_cases c:b=a.d1
 ·subst c;rw [aD,← h.e1,e]
 ·rw [aJ c];exact B _ _ (by simp [hb,c]) e
theorem tR {K:aa}{C:af}{A:CA}{Pt:af}:∀ vs H Q E,kY K C A Pt vs H Q E->jm K C A (gZ K C Pt) { nx:=λ_ H'=>Q .non H',rt:=Q } (start ["self","level","wooden","ties"] vs) H:=by
 rintro vs H Q E ⟨a,n,T,ts,as,R,lv,w,rfl,ct,h,hnd,hlen,hT,k⟩
 unfold jm
 walk_at "x"
 refine M0 ?_
 refine cY ?_
 walk_at "x"
 refine ⟨a.q,A.Levels,a.dq,_,_,rfl,h.ob,ct.lc,ct.l1,L0,?_⟩
 refine ⟨a.d1,kl ts,rfl,.inl ⟨h.e1,λo=>?_⟩⟩
 have g1:(upd H a.d1 (.frz o (.dT (kl ts)))) a.d1=some (.frz o (.dT (kl ts))):=aD
 have B1:SameBut1 a.d1 H (upd H a.d1 (.frz o (.dT (kl ts)))):=SameBut1.upd
 generalize upd H a.d1 (.frz o (.dT (kl ts)))=H1 at g1 B1
 have q1:=B1 _ _ h.ob (iA h.ob h.e1 (by intro z;cases z))
 have w1:=B1 _ _ h.e2 (Ne.symm h.n12)
 have v1:=B1 _ _ h.e3 (Ne.symm h.n13)
 have T1:LT1 Pt H1:=hT.keep λb u h1 _ _ _ e=>B1 _ _ e λz=>by rw [z,h.e1] at e;cases e;exact h1 _ rfl
 intro acc hacc
 refine oX (n:=ts.length) (λt ys H4=>H4 acc=some (.lst ys)/\Same H1 H4/\∃ us:List (Ti×af),ys=us.map (λu=>V.ref u.2)/\us.map (·.1)=(ts.take t).filter (λu=>decide (u.lev=lv))/\∀ u∈us,H4 u.2=some (.tup [.int u.1.x,.int u.1.y])) (λσ=>∃ o,σ=[o,some (.int lv),some (.ref a.q)]) ⟨aD,Same.upd_new hacc,[],rfl,rfl,λz hz=>nomatch hz⟩ ⟨_,rfl⟩ ?_ ?_ ?_ ?_
 ·rintro t ys H4 ⟨e,_⟩;exact e
 ·rintro ys H4 ⟨g4,S4,us,rfl,hu,fl⟩
  refine ⟨⟨by rw [qG];exact aw _,S4 _ _ g1⟩,?_⟩
  rw [bY (aw _)] at hu
  have hul:us.length<=ts.length:=by have:=congrArg ft hu;rw [aj] at this;rw [this];exact dk _ _
  walk_at "x"
  refine .inl ⟨⟨_,SqL.of g4⟩,λacc2 hacc2=>?_⟩
  refine zF (K:=K) (z:=acc) (xs:=us.map λu=>V.ref u.2) us (λu=>decide (u.1.wd=w)) (λu=>V.ref u.2) (λσ=>∃ o,σ=[o,some (.bl w),some (.ref a.q)]) (by simp) (SqL.of g4) hacc2 ⟨_,rfl⟩ (by rw [aj];omega) ?_ ?_
  ·rintro i u x σ' H' G G' hi hx S' ⟨o',rfl⟩ k1 k2
   have ex:x=.ref u.2:=by rw [ay,hi] at hx;exact (aS hx).symm
   subst ex
   have hum:=aG hi
   have hut:u.1∈ts:=by
    have:u.1∈us.map (·.1):=bu hum
    rw [hu] at this
    exact (fb.mp this).1
   walk_at "x"
   refine cY ?_
   walk_at "x"
   refine ⟨a.q,A.Levels,a.dq,_,_,rfl,S' _ _ (S4 _ _ q1),ct.lc,ct.l2,Pg,?_⟩
   walk_at "x"
   refine .inr ⟨a.d2,.bl u.1.wd,rfl,.inr ⟨kw ts,pk u.1.x u.1.y,u.2,.inl (S' _ _ (S4 _ _ w1)),rfl,S' _ _ (fl u hum),(il (f:=λt=>V.bl t.wd) hnd hut).symm⟩,?_⟩
   walk_at "x"
   have e:decide (V.bl u.1.wd=V.bl w)=decide (u.1.wd=w):=decide_eq_decide.mpr ⟨λq=>by injection q,λq=>by rw [q]⟩
   rw [e]
   cases c:decide (u.1.wd=w) with
   | true =>
    refine qi ?_
    walk_at "x"
    exact k1 c _ ⟨_,rfl⟩
   | false=>exact j8 (k2 c _ ⟨_,rfl⟩)
  ·intro H' S' hacc'
   have S5:=S4.trans S'
   generalize eu:us.filter (λu=>decide (u.1.wd=w))=us2 at hacc'
   have hu2:us2.map (·.1)=(ts.filter λu=>decide (u.lev=lv)).filter λu=>decide (u.wd=w):=by rw [← hu,← eu,uP];rfl
   have fl2:∀ u∈us2,H' u.2=some (.tup [.int u.1.x,.int u.1.y]):=λu hu=>S' _ _ (fl u (by rw [← eu] at hu;exact (fb.mp hu).1))
   have hm2:∀ u,u∈us2.map (·.1)↔u∈ts/\u.lev=lv/\u.wd=w:=λu=>by
    rw [hu2,fb,fb,decide_eq_true_iff,decide_eq_true_iff,and_assoc]
   have hl2:us2.length<=ts.length:=by rw [← eu];exact bg (dk _ _) hul
   walk_at "x"
   refine cY ?_
   walk_at "x"
   refine ⟨a.q,A.Levels,a.dq,_,_,rfl,S5 _ _ q1,ct.lc,ct.l3,Uv,?_⟩
   walk_at "x"
   refine ⟨acc2,a.d3,us2.map (λu=>([0,(u.1.x:Int),(u.1.y:Int)],u.2)),kv ts,rfl,by rw [hacc',cW];rfl,S5 _ _ v1,λz hz=>?_,by rw [aj];omega,T1.same S5,λl zs' H2 hl S6 T6 hp=>?_⟩
   ·obtain ⟨u,hum,rfl⟩:=br.mp hz
    exact ⟨0,u.1.x,u.1.y,rfl,fl2 u hum,il (f:=λ_=>V.int 0) hnd ((hm2 u.1).mp (bu hum)).1⟩
   ·have T5:=T1.same S5
    have hlP:l≠Pt:=λz=>by
     obtain ⟨ps,e⟩:=T6.tbl
     rw [z,e] at hl;cases hl
    have F6:Fm [Pt,a.d1] H H2:=λb u hb e=>by
     simp only [ak,dP,or_false,not_or] at hb
     exact S6 _ _ hb.1 (S5 _ _ (B1 _ _ e hb.2))
    have d6:H2 a.d1=some (.frz o (.dT (kl ts))):=S6 _ _ (T5.ne (S5 _ _ g1) (λ_ z=>nomatch z)) (S5 _ _ g1)
    have hld:a.d1≠l:=aN d6 hl
    have U:∀ {b:af}{u:HO},H2 b=some u->(upd H2 l (.lst (zs'.map tq))) b=some u:=λe=>by rw [aJ (aN e hl)];exact e
    have hzP:(zs'.map λz=>(z.1.getD 1 0,z.1.getD 2 0,z.2)).map zP=zs'.map λz=>(z.1.getD 1 0,z.1.getD 2 0):=by rw [cW];rfl
    have hperm:(zs'.map λz=>((z.1.getD 1 0,z.1.getD 2 0):Int×Int)).Perm ((us2.map (·.1)).map Ti.key):=by
     have:=hp.map λz:Zn=>((z.1.getD 1 0,z.1.getD 2 0):Int×Int)
     rw [cW] at this
     rw [cW]
     exact this
    refine k l (zs'.map λz=>(z.1.getD 1 0,z.1.getD 2 0,z.2)) o _ (F6.free (by simp [hlP,hld.symm]) hl) (by rw [aD,cW];rfl) (λz hz=>?_) ⟨?_,λkey=>?_⟩ (U d6) (T6.keep λb u _ _ _ _ e=>U e) (F6.trans λb u _ e=>U e)
    ·obtain ⟨z',hz',rfl⟩:=br.mp hz
     obtain ⟨u,hum,rfl⟩:=br.mp (hp.mem_iff.mp hz')
     exact U (S6 _ _ (T5.ne (fl2 u hum) (λ_ z=>nomatch z)) (fl2 u hum))
    ·rw [hzP,hperm.nodup_iff,hu2]
     exact ((lY.trans lY).map _).nodup hnd
    ·rw [hzP,hperm.mem_iff,br]
     exact ⟨λ⟨u,h1,h2⟩=>⟨u,((hm2 u).mp h1).1,((hm2 u).mp h1).2.1,((hm2 u).mp h1).2.2,h2⟩,λ⟨u,h1,h2,h3,h4⟩=>⟨u,(hm2 u).mpr ⟨h1,h2,h3⟩,h4⟩⟩
 ·rintro t ys H4 ht ⟨_,S4,_⟩;exact ⟨by rw [qG];exact ht,S4 _ _ g1⟩
 ·rintro t ys σ' H4 x H5 ht ⟨g4,S4,us,rfl,hu,fl⟩ ⟨o',rfl⟩ ⟨eH,key,v,b,hk,ex,hb⟩
  subst eH ex
  obtain ⟨u,hu',eu⟩:∃ u,ts[t]?=some u/\(pk u.x u.y,V.int u.lev)=(key,v):=by
   have hk:(ts.map λt=>(pk t.x t.y,V.int t.lev))[t]?=some (key,v):=hk
   rw [ay] at hk
   exact bc.mp hk
  cases eu
  have hum:=aG hu'
  have hb:H5 b=some (.tup [.int u.x,.int u.y]):=hb
  walk_at "x"
  refine cY ?_
  walk_at "x"
  refine ⟨a.q,A.Levels,a.dq,_,_,rfl,S4 _ _ q1,ct.lc,ct.l1,L0,?_⟩
  walk_at "x"
  refine .inr ⟨a.d1,.int u.lev,rfl,.inr ⟨kl ts,pk u.x u.y,b,.inr ⟨o,S4 _ _ g1⟩,rfl,hb,(il (f:=λt=>V.int t.lev) hnd hum).symm⟩,?_⟩
  have etk:ts.take (t+1)=ts.take t++[u]:=by rw [gP,hu'];rfl
  have hul:us.length<=ts.length:=by have:=congrArg ft hu;rw [aj] at this;rw [this];exact bg (dk _ _) (by rw [bw];omega)
  walk_at "x"
  refine zE (λc=>?_) λc=>?_
  ·have c:u.lev=lv:=by have:=j9.mp c;omega
   walk_at "x"
   refine ⟨g4,eG (m:=100) (by rw [aj];omega),CNext.mk' ht ⟨_,rfl⟩ ⟨aD,λb' ob e=>by rw [aJ (aN e hacc)];exact S4 _ _ e,us++[(u,b)],by simp,?_,λz hz=>?_⟩⟩
   ·rw [aV,hu,etk,eD]
    simp [c]
   ·rcases aP.mp hz with hz|hz
    ·rw [aJ (iA (fl z hz) g4 (by intro z;cases z))];exact fl z hz
    ·rw [aC.mp hz,aJ (iA hb g4 (by intro z;cases z))];exact hb
  ·have c:¬ u.lev=lv:=λe=>c (by rw [e])
   refine CNext.mk' ht ⟨_,rfl⟩ ⟨g4,S4,us,rfl,?_,fl⟩
   rw [hu,etk,eD]
   simp [c]
end K39
namespace K39
open Rm
theorem Fm.skip {X:List af}{c:af}{H H1 H2:Hp}(S:Fm X H H1) (S2:Fm (c::X) H1 H2) (hc:H c=none):Fm X H H2:=λb o hb e=>S2 b o (λz=>by
 rcases ak.mp z with z|z
 ·rw [z,hc] at e;cases e
 ·exact hb z) (S b o hb e)
theorem Uy {x y:Int}{S:List Int}:ew x y S=2↔x∈S/\y∈S:=by
 unfold ew;by_cases c1:x∈S<;>by_cases c2:y∈S<;>simp [c1,c2]
theorem ew1 {x y:Int}{S:List Int}:ew x y S=1↔(x∈S/\y∉S\/x∉S/\y∈S):=by
 unfold ew;by_cases c1:x∈S<;>by_cases c2:y∈S<;>simp [c1,c2]
section
variable {C:af}{A:CA}{H H':Hp}{a:AL}{n T:Nat}{ts:List Ti}{as:Nat->List af}{R:Nat->Nat->List Int}
theorem LV.sameT {Pt:af}(h:LV C A H a n T ts as R) (hP:LT1 Pt H) (S:GC Pt H H'):LV C A H' a n T ts as R :=
 h.keep (X:=[Pt]) (λb o hb e=>S b o (λz=>hb (aC.mpr z)) e) (λx fs e hf _ hx=>hP.ne e (by obtain ⟨c,d,f,rfl,_⟩:=hf;exact λ_ z=>nomatch z) (aC.mp hx)) (λb hb hx=>by
  rcases h.kind hb with ⟨ks,q⟩|⟨bs,_,q⟩
  ·exact hP.ne q (λ_ z=>nomatch z) (aC.mp hx)
  ·exact hP.ne q (λ_ z=>nomatch z) (aC.mp hx)) (λhx=>hP.ne h.ls (λ_ z=>nomatch z) (aC.mp hx)) λb r _ e hx=>hP.ne e (λ_ z=>nomatch z) (aC.mp hx)
theorem LV.app {c:af}{ys xs:List V}(h:LV C A H a n T ts as R) (hc:H c=some (.lst ys)) (hi:∀ i r,ys≠V.int i::r) (n1:c∉fp a) (n2:a.L≠c):LV C A (upd H c (.lst xs)) a n T ts as R :=
 h.keep (X:=[c]) (Fm.upd aq) (λx fs e hf _ hx=>by
  rw [aC.mp hx,hc] at e
  obtain ⟨c,d,f,rfl,_⟩:=hf
  cases e) (λb hb hx=>n1 (aC.mp hx▸hb)) (λhx=>n2 (aC.mp hx)) λb r hr e hx=>by
  rw [aC.mp hx,hc] at e
  injection e with e
  injection e with e
  match r,hr with
  | x::r,_=>exact hi _ _ e
end
def dC (K:aa) (C:af) (A:CA) (Pt:af):Sp:=λvs H Q _=>∃ (a:AL) (n T:Nat) (ts:List Ti) (as:Nat->List af) (R:Nat->Nat->List Int) (lv:Nat) (t:af) (x y:Nat),vs=[.ref a.q,.int lv,.ref t]/\zJ K C A/\LV C A H a n T ts as R/\n<=60/\(∀ j,2^(j+1)<=n->j<=T)/\Dn n T ts R x y (lv+1)/\H t=some (.tup [.int x,.int y])/\ts.length<64/\LT1 Pt H /\
 ∀ ts' as' R' H' (u:Tt),H u.p=none->H u.q=none->TtOk H' u->LV C A H' a n T ts' as' R'->LT1 Pt H'->Fm (Pt::fp a) H H'->ts'.map Ti.key=ts.map Ti.key->(u.f=.non/\Dn n T ts' R' x y lv\/u.f≠.non/\Lv n T ts' R'/\Jn ts' R')->Q (.ref u.p) H'
theorem y0 {K:aa}{C:af}{A:CA}{Pt:af}:∀ vs H Q E,dC K C A Pt vs H Q E->vs.length=3:=by
 rintro vs H Q E ⟨a,n,T,ts,as,R,lv,t,x,y,rfl,_⟩;rfl
theorem y3 {K:aa}{C:af}{A:CA}{Pt:af}:∀ vs H Q E,dC K C A Pt vs H Q E->mY K C A (bO K C A) (cb K C A Pt) (cQ K C A) (cR K C) (bM K C A) { nx:=λ_ H'=>Q .non H',rt:=Q } (start ["self","level","tie","side","risen","other","ends"] vs) H:=by
 rintro vs H Q E ⟨a,n,T,ts,as,R,lv,t,x,y,rfl,ct,h,hn,hT,D,ht,hlen,hP,k⟩
 have hlv:lv<=T:=by have:=D.hk;omega
 have hnd:=D.lv.nd
 have f0:∀ {m:bA},¬ m="level_of"->¬ m="wooden"->¬ m="weight_of"->¬ m="woods"->(fL a.d1 a.d2 a.d3 a.L).lookup m=none:=λh1 h2 h3 h4=>Qe h1 h2 h3 h4
 unfold mY
 walk_at "x"
 refine dD ?_
 walk_at "x"
 refine ⟨a.q,a.dq,_,rfl,h.ob,f0 (by decide +kernel) (by decide +kernel) (by decide +kernel) (by decide +kernel),?_⟩
 walk_at "x"
 refine ⟨a,n,T,ts,as,R,lv,t,x,y,rfl,ct,h,hn,hlv,D.ha,D.hb,ht,λq ks s o hso hle hq hks=>?_⟩
 have D':Dn n T ts R s o (lv+1):=by
  rcases hso with ⟨rfl,rfl⟩|⟨rfl,rfl⟩
  ·exact D
  ·exact D.swap
 have back:∀ {ts' R'},Dn n T ts' R' s o lv->Dn n T ts' R' x y lv:=λd=>by
  rcases hso with ⟨rfl,rfl⟩|⟨rfl,rfl⟩
  ·exact d
  ·exact d.swap
 have hs:((R lv s).length+1)*2^(lv+1)<=2*n:=by
  refine bg ?_ (D'.s2 lv (lQ _))
  rw [LY,Nat.mul_comm (2^lv) 2,← Nat.mul_assoc]
  exact qf _ (by omega)
 have S1:=Same.upd_new (o:=.lst (ks.map V.int)) hq
 have g1:(upd H q (.lst (ks.map V.int))) q=some (.lst (ks.map V.int)):=aD
 generalize upd H q (.lst (ks.map V.int))=H1 at S1 g1
 have h1:=h.same S1
 walk_at "x"
 refine dD ?_
 walk_at "x"
 refine ⟨a.q,a.dq,_,rfl,h1.ob,f0 (by decide +kernel) (by decide +kernel) (by decide +kernel) (by decide +kernel),?_⟩
 walk_at "x"
 refine ⟨a,n,T,ts,as,R,lv,true,rfl,ct,h1,hnd,hlen,hP.same S1,λz0 zs H2 hz0 gz pz az P2 S2=>?_⟩
 have h2:=h1.sameT (hP.same S1) S2
 have g2:H2 q=some (.lst (ks.map V.int)):=S2 _ _ ((hP.same S1).ne g1 (λ_ z=>nomatch z)) g1
 have hzl:zs.length<=ts.length:=by
  have:=Eo (l:=zs.map zP) (m:=ts.map Ti.key) az.1 λp hp=>by
   obtain ⟨t,t1,_,_,t4⟩:=(az.2 p).mp hp
   exact t4▸bu t1
  simpa using this
 refine ⟨z0,rfl,.inl ⟨⟨_,SqL.of gz⟩,λacc hacc=>?_⟩⟩
 have nacc:=h2.outN hacc
 have nLacc:a.L≠acc:=aN h2.ls hacc
 refine oX (n:=zs.length) (λi ys H4=>ys=((zs.take i).filter λz=>decide (ew z.1 z.2.1 ks=2)).map oP/\H4 acc=some (.lst ys)/\Same H2 H4) (λσ=>∃ o,σ=[o,some (.ref q)]) ⟨by simp,aD,Same.upd_new hacc⟩ ⟨_,rfl⟩ ?_ ?_ ?_ ?_
 ·rintro i ys H' ⟨_,h,_⟩;exact h
 ·rintro ys H3 ⟨rfl,g3,S3⟩
  refine ⟨⟨_,SqL.of (S3 _ _ gz),by rw [aj];exact aw _⟩,?_⟩
  rw [bY (aw _)] at g3
  generalize ew':zs.filter (λz=>decide (ew z.1 z.2.1 ks=2))=ws at g3
  have hws:∀ z,z∈ws↔z∈zs/\z.1∈ks/\z.2.1∈ks:=λz=>by rw [← ew',fb,decide_eq_true_iff,Uy]
  have wnd:(ws.map zP).Nodup:=by rw [← ew'];exact (lY.map _).nodup az.1
  have h3:=h2.same S3
  have P3:=P2.same S3
  have q3:=S3 _ _ g2
  have pw:∀ z∈ws,iI H3 z:=λz hz=>S3 _ _ (pz z ((hws z).mp hz).1)
  have st:∀ z∈ws,∃ t∈ts,t.key=zP z/\t.wd=true/\t.lev=lv/\(t.x:Int)∈R lv s/\(t.y:Int)∈R lv s:=λz hz=>by
   obtain ⟨m1,m2,m3⟩:=(hws z).mp hz
   obtain ⟨t,t1,t2,t3,t4⟩:=(az.2 (zP z)).mp (bu m1)
   obtain ⟨e1,e2⟩:=cE t4
   exact ⟨t,t1,t4,t3,t2,by rw [e1];exact (hks _).mp m2,by rw [e2];exact (hks _).mp m3⟩
  walk_at "x"
  unfold rL
  walk_at "x"
  refine .inl ⟨⟨_,SqL.of g3⟩,oj (K:=K) (a:=acc) (xs:=ws.map oP) (λi σ H4=>∃ ts1 as1 R1 o5 o6,σ=[some (.ref a.q),some (.int lv),some (.ref t),some (.ref q),some (.ref acc),o5,o6]/\LV C A H4 a n T ts1 as1 R1/\Lo1 n T lv s o ts R (ws.map zP) i ts1 R1/\Fm (fp a) H3 H4)
   ⟨ts,as,R,_,_,rfl,h3,⟨D',rfl,rfl,λt ht h1 h2 h3 h4=>?_,λp hp=>?_,λp hp=>?_⟩,Fm.refl⟩ ?_ ?_ ?_⟩
  ·obtain ⟨z,hz,e⟩:=br.mp ((az.2 t.key).mpr ⟨t,ht,h2,h1,rfl⟩)
   obtain ⟨e1,e2⟩:=cE e
   exact br.mpr ⟨z,(hws z).mpr ⟨hz,by rw [e1];exact (hks _).mpr h3,by rw [e2];exact (hks _).mpr h4⟩,e⟩
  ·obtain ⟨z,hz,rfl⟩:=br.mp hp
   exact st z hz
  ·obtain ⟨z,hz,rfl⟩:=br.mp hp
   obtain ⟨t,h1,h2,h3,_⟩:=st z hz
   exact ⟨t,h1,h2,h3⟩
  ·rintro i σ H4 _ ⟨_,_,_,_,_,_,_,_,F⟩;exact SqL.of (F _ _ nacc g3)
  ·rintro i v σ H4 hi ⟨ts1,as1,R1,o5,o6,rfl,L4,M,F⟩
   rw [ay] at hi
   obtain ⟨z,hz,rfl⟩:=bc.mp hi
   obtain ⟨u,u1,u2,u3,u4,u5,M'⟩:=M.step hT hs wnd (p:=zP z) (by rw [ay,hz];rfl)
   have hpz:=pw z (aG hz)
   have hpz4:H4 z.2.2=some (.tup [.int u.x,.int u.y]):=by
    obtain ⟨e1,e2⟩:=cE u2
    rw [e1,e2];exact F _ _ (h3.outT hpz) hpz
   obtain ⟨l1,l2,_⟩:=M.dn.lv.lt u u1
   have hl1:ts1.length=ts.length:=by have:=congrArg ft M.ks;simpa using this
   walk_at "x"
   refine dD ?_
   walk_at "x"
   refine ⟨a.q,a.dq,_,rfl,L4.ob,f0 (by decide +kernel) (by decide +kernel) (by decide +kernel) (by decide +kernel),?_⟩
   walk_at "x"
   refine ⟨a,n,T,ts1,as1,R1,z.2.2,u,rfl,ct,L4,by omega,u1,M.dn.lv.nd,by omega,l2,λ_=>⟨u4,u5⟩,hpz4,by omega,λas' R' H5 L5 eR F5=>?_⟩
   rw [u3,if_pos rfl] at eR
   subst eR
   exact ⟨_,as',_,_,_,rfl,L5,M',F.trans F5⟩
  ·rintro σ H4 ⟨ts1,as1,R1,o5,o6,rfl,L4,M,F⟩
   rw [aj] at M
   have P4:=P3.fm h3 F
   have a4:=F _ _ nacc g3
   have q4:=F _ _ (h3.outL q3) q3
   have ed:(ws.map zP).drop ws.length=[]:=Mf.mpr (by rw [aj];exact aw _)
   have hno:∀ t∈ts1,t.wd=true->t.lev=lv->(t.x:Int)∈R1 lv s->(t.y:Int)∈R1 lv s->False:=λt h1 h2 h3 h4 h5=>by
    rw [M.rl] at h4 h5
    have:=M.pend t h1 h2 h3 h4 h5
    rw [ed] at this
    cases this
   have hl1:ts1.length=ts.length:=by have:=congrArg ft M.ks;simpa using this
   have hs1:((R1 lv s).length+1)*2^(lv+1)<=2*n:=by rw [M.rl];exact hs
   have hks1:∀ z,z∈ks↔z∈R1 lv s:=by rw [M.rl];exact hks
   walk_at "x"
   unfold rM
   walk_at "x"
   refine dD ?_
   walk_at "x"
   refine ⟨a.q,a.dq,_,rfl,L4.ob,f0 (by decide +kernel) (by decide +kernel) (by decide +kernel) (by decide +kernel),?_⟩
   walk_at "x"
   refine ⟨a,n,T,ts1,as1,R1,lv,false,rfl,ct,L4,M.dn.lv.nd,by omega,P4,λz5 zs3 H5 hz5 gz5 pz5 az5 P5 S5=>?_⟩
   have L5:=L4.sameT P4 S5
   have a5:H5 acc=some (.lst (ws.map oP)):=S5 _ _ (P4.ne a4 (λ_ z=>nomatch z)) a4
   have q5:H5 q=some (.lst (ks.map V.int)):=S5 _ _ (P4.ne q4 (λ_ z=>nomatch z)) q4
   have nqa:q≠acc:=aN g2 hacc
   have n5a:z5≠acc:=Ne.symm (aN a4 hz5)
   have n5f:=L4.outN hz5
   have n3:(zs3.map zP).Nodup:=az5.1
   have hcnt:ws.length+zs3.length<=ts.length:=by
    have:=Eo (l:=ws.map zP++zs3.map zP) (m:=ts1.map Ti.key) (kT.mpr ⟨wnd,n3,λp hp p' hp' e=>by
     subst e
     obtain ⟨t,t1,t2,t3⟩:=M.all p hp
     obtain ⟨t',s1,_,s3,s4⟩:=(az5.2 p).mp hp'
     rw [qE M.dn.lv.nd t1 s1 (t2.trans s4.symm),s3] at t3
     cases t3⟩) λp hp=>by
      rcases aP.mp hp with hp|hp
      ·obtain ⟨t,t1,t2,_⟩:=M.all p hp
       exact t2▸bu t1
      ·obtain ⟨t,t1,_,_,t4⟩:=(az5.2 p).mp hp
       exact t4▸bu t1
    simp at this
    omega
   -- from the beginning to here
   have F5:Fm (Pt::fp a) H H5:=λb o hb e=>by
    rw [ak,not_or] at hb
    exact S5 _ _ hb.1 (F _ _ hb.2 (S3 _ _ (S2 _ _ hb.1 (S1 _ _ e))))
   have fr:∀ {b:af},H5 b=none->H b=none:=λ{b} e=>F5.free (λz=>by
    rcases ak.mp z with z|z
    ·obtain ⟨ps,q⟩:=P5.tbl
     rw [z,q] at e;cases e
    ·exact L5.outN e z) e
   have hacc0:H acc=none:=by
    cases z:H acc with
    | none=>rfl
    | some u =>
     have:H1 acc=some u:=S1 _ _ z
     by_cases c:acc=Pt
     ·obtain ⟨ps,q⟩:=P2.tbl
      rw [← c,hacc] at q;cases q
     ·rw [S2 _ _ c this] at hacc;cases hacc
   have Lf:∀ {H6},Fm (acc::fp a) H5 H6->H6 q=some (.lst (ks.map V.int)):=λF=>F _ _ (λz=>(ak.mp z).elim nqa (L5.outL q5)) q5
   -- the step told
   have told:∀ {ts2 as2 R2 H6} {rs:List Zt}(f:V),LV C A H6 a n T ts2 as2 R2->LT1 Pt H6->Fm (acc::fp a) H5 H6->H6 acc=some (.lst (rs.map oP))->(∀ z∈rs,iI H6 z)->rs.length<64->ts2.map Ti.key=ts.map Ti.key->(f=.non/\Dn n T ts2 R2 x y lv\/f≠.non/\Lv n T ts2 R2/\Jn ts2 R2) ->
     ∀ G:VK,(∀ v H7,(∀ p,H7 p=none->Q (.ref p) (upd H7 p (.tup [.int lv,.ref q,v,f])))->G v H7)->tu K [.ref acc] H6 G:=λ{ts2 as2 R2 H6 rs} f L6 P6 F6 g6 p6 hl6 hk hf G kG=>by
    have fr6:∀ {b:af},H6 b=none->H b=none:=λ{b} e=>fr (F6.free (λz=>by
     rcases ak.mp z with z|z
     ·rw [z,g6] at e;cases e
     ·exact L6.outN e z) e)
    refine ⟨acc,rs.map (λz=>([z.1,z.2.1],z.2.2)),[false],rfl,by rw [cW];exact SqL.of g6,λz hz=>let ⟨u,hu,e⟩:=br.mp hz;e▸⟨_,p6 u hu,.int _ (.int _ .nil)⟩,by rw [aj];exact hl6,λl rs' hl _ _=>kG _ _ λp hp=>?_⟩
    have S7:=Same.upd_new (o:=.lst (rs'.map tq)) hl
    have g7:(upd H6 l (.lst (rs'.map tq))) l=some (.lst (rs'.map tq)):=aD
    generalize upd H6 l (.lst (rs'.map tq))=H7 at S7 g7 hp
    have S8:=Same.upd_new (o:=.tup [.int lv,.ref q,.ref l,f]) hp
    have S78:=S7.trans S8
    exact k ts2 as2 R2 _ ⟨p,q,l,lv,rs'.map tq,f⟩ (fr6 (S7.free hp)) (fr6 hl) ⟨aD,S8 _ _ g7⟩ (L6.same S78) (P6.same S78) (F5.skip ((F6.mono λb hb=>(ak.mp hb).elim (λz=>z▸aq) λz=>ag _ (ag _ z)).trans (Fm.of S78)) hacc0) hk hf
   refine ⟨z5,rfl,.inl ⟨⟨_,SqL.of gz5⟩,oj (K:=K) (a:=z5) (xs:=zs3.map oP) (λi σ H6=>∃ ts2 as2 rs o5 o6,σ=[some (.ref a.q),some (.int lv),some (.ref t),some (.ref q),some (.ref acc),o5,o6]/\LV C A H6 a n T ts2 as2 R1/\LT1 Pt H6/\Lo2 n T lv s o ts R1 (zs3.map zP) i ts2/\H6 acc=some (.lst (rs.map oP))/\(∀ z∈rs,iI H6 z)/\rs.length<=ws.length+i/\Fm (acc::fp a) H5 H6)
    ⟨ts1,as1,ws,_,_,rfl,L5,P5,⟨M.dn,M.ks,λh x y hx hy h1 h2=>M.dn.full hno h hx hy h1 h2,λp hp=>?_,λt h1 h2 h3=>.inl ?_⟩,a5,λz hz=>S5 _ _ (P4.ne (F _ _ (h3.outT (pw z hz)) (pw z hz)) (λ_ z=>nomatch z)) (F _ _ (h3.outT (pw z hz)) (pw z hz)),aw _,Fm.refl⟩ ?_ ?_ ?_⟩⟩
   ·obtain ⟨t,t1,t2,t3,t4⟩:=(az5.2 p).mp hp
    exact ⟨t,t1,t4,t3,t2⟩
   ·exact (az5.2 t.key).mpr ⟨t,h1,h3,h2,rfl⟩
   ·rintro i σ H6 _ ⟨_,_,_,_,_,_,_,_,_,_,_,_,F6⟩;exact SqL.of (F6 _ _ (λz=>(ak.mp z).elim n5a n5f) gz5)
   ·rintro i v σ H6 hi ⟨ts2,as2,rs,o5,o6,rfl,L6,P6,N,g6,p6,hl6,F6⟩
    rw [ay] at hi
    obtain ⟨z,hz,rfl⟩:=bc.mp hi
    have hilt:i<zs3.length:=(aB.mp hz).1
    have hpi:(zs3.map zP)[i]?=some (zP z):=by rw [ay,hz];rfl
    have hz5:=pz5 z (aG hz)
    have hz6:H6 z.2.2=some (.tup [.int z.1,.int z.2.1]):=F6 _ _ (λe=>(ak.mp e).elim (iA hz5 a5 (by intro z;cases z)) (L5.outT hz5)) hz5
    have hl2:ts2.length=ts.length:=by have:=congrArg ft N.ks;simpa using this
    walk_at "x"
    refine ⟨z.2.2,q,z.1,z.2.1,ks,rfl,hz6,Lf F6,λH7 S7=>?_⟩
    have L7:=L6.same S7
    have P7:=P6.same S7
    have F7:=F6.trans (Fm.of S7)
    have g7:=S7 _ _ g6
    have hz7:=S7 _ _ hz6
    have p7:∀ z∈rs,iI H7 z:=λz hz=>S7 _ _ (p6 z hz)
    walk_at "x"
    refine zE (λc=>?_) λc=>?_
    ·have c:ew z.1 z.2.1 ks=1:=by have:=j9.mp c;omega
     have c:=ew1.mp c
     rw [hks1,hks1] at c
     obtain ⟨u,u1,u2,u3,u4,u5⟩:=N.one n3 hpi c
     obtain ⟨l1,l2,l3⟩:=N.dn.lv.lt u u1
     obtain ⟨e1,e2⟩:=cE u2
     walk_at "x"
     refine dD ?_
     walk_at "x"
     refine ⟨a.q,a.dq,_,rfl,L7.ob,f0 (by decide +kernel) (by decide +kernel) (by decide +kernel) (by decide +kernel),?_⟩
     walk_at "x"
     refine ⟨a,n,T,ts2,as2,R1,z.2.2,u,rfl,ct,L7,by omega,u1,N.dn.lv.nd,by omega,l2,l3,u3,by rw [e1,e2];exact hz7,by omega,λas' H8 L8 F8=>?_⟩
     walk_at "x"
     refine told (rs:=rs) (.ref z.2.2) L8 (P7.fm L7 F8) (F7.trans F8.tail) (F8 _ _ nacc g7) (λz hz=>F8 _ _ (L7.outT (p7 z hz)) (p7 z hz)) (by omega) (by rw [kD (f:=Ti.inw) (λ_=>rfl)];exact N.ks) (.inr ⟨(λz=>nomatch z),u4,u5⟩) _ λv H9 kk=>?_
     walk_at "x"
     exact ⟨b0 (m:=4) (aw 4),kk⟩
    ·walk_at "x"
     have c1:¬ ew z.1 z.2.1 ks=1:=λe=>c (by rw [e];rfl)
     refine zE (λc=>?_) λc=>?_
     ·have c:ew z.1 z.2.1 ks=2:=by have:=j9.mp c;omega
      have c:=Uy.mp c
      rw [hks1,hks1] at c
      obtain ⟨u,u1,u2,u3,N'⟩:=N.two hT hs1 n3 hpi c.1 c.2
      obtain ⟨l1,l2,l3⟩:=N.dn.lv.lt u u1
      obtain ⟨e1,e2⟩:=cE u2
      walk_at "x"
      refine dD ?_
      walk_at "x"
      refine ⟨a.q,a.dq,_,rfl,L7.ob,f0 (by decide +kernel) (by decide +kernel) (by decide +kernel) (by decide +kernel),?_⟩
      walk_at "x"
      refine ⟨a,n,T,ts2,as2,R1,z.2.2,u,rfl,ct,L7,by omega,u1,N.dn.lv.nd,by omega,l2,(λe=>by rw [u3] at e;cases e),by rw [e1,e2];exact hz7,by omega,λas' R' H8 L8 eR F8=>?_⟩
      rw [u3,if_neg (by decide)] at eR
      subst eR
      have g8:=F8 _ _ nacc g7
      have hz8:=F8 _ _ (L7.outT hz7) hz7
      walk_at "x"
      refine ⟨.inl ⟨rfl,_,SqL.of g8⟩,?_⟩
      walk_at "x"
      refine oq g8 (eG (m:=100) (by rw [aj];omega)) ?_
      have ne:∀ {b:af}{o:HO},H8 b=some o->(∀ xs,o≠.lst xs)->(upd H8 acc (.lst (rs.map oP++[.ref z.2.2]))) b=some o:=λ{b o} e hno=>by rw [aJ];exact e;rintro rfl;rw [g8] at e;cases e;exact hno _ rfl
      refine ⟨_,as',rs++[z],_,_,rfl,L8.app g8 (by intro i r e;cases rs<;>cases e) nacc nLacc,(P7.fm L7 F8).keep λb o _ h2 _ _ e=>ne e h2,N',by rw [aD,aV];rfl,λz' hz'=>ne ?_ (λ_ z=>nomatch z),by rw [aX];simp;omega,(F7.trans F8.tail).trans (Fm.upd aq)⟩
      rcases aP.mp hz' with hz'|hz'
      ·exact F8 _ _ (L7.outT (p7 z' hz')) (p7 z' hz')
      ·rw [aC.mp hz'];exact hz8
     ·have c2:¬ ew z.1 z.2.1 ks=2:=λe=>c (by rw [e];rfl)
      walk_at "x"
      have c3:z.1∉R1 lv s/\z.2.1∉R1 lv s:=by
       rw [← hks1,← hks1]
       rw [ew1] at c1
       rw [Uy] at c2
       by_cases d1:z.1∈ks<;>by_cases d2:z.2.1∈ks<;>simp_all
      exact ⟨ts2,as2,rs,_,_,rfl,L7,P7,N.zero n3 hpi c3.1 c3.2,g7,p7,by omega,F7⟩
   ·rintro σ H6 ⟨ts2,as2,rs,o5,o6,rfl,L6,P6,N,g6,p6,hl6,F6⟩
    rw [aj] at N hl6
    walk_at "x"
    refine told (rs:=rs) .non L6 P6 F6 g6 p6 (by omega) N.ks (.inl ⟨rfl,back (N.fin (by rw [aj];exact aw _))⟩) _ λv H9 kk=>?_
    walk_at "x"
    exact ⟨b0 (m:=4) (aw 4),kk⟩
 ·rintro i ys H' hi ⟨e,h,S'⟩
  exact ⟨_,_,SqL.of (S' _ _ gz),by rw [ay,ar hi];rfl⟩
 ·rintro i ys σ' H' v H3 hi ⟨rfl,hl,S'⟩ ⟨o',rfl⟩ ⟨e2,hx⟩
  subst e2
  have hxi:=hx _ (SqL.of (S' _ _ gz))
  rw [ay,ar hi] at hxi
  have hv:=(aS hxi).symm
  subst hv
  have et:zs.take (i+1)=zs.take i++[zs[i]]:=by rw [gP,ar hi];rfl
  walk_at "x"
  refine ⟨zs[i].2.2,q,zs[i].1,zs[i].2.1,ks,rfl,S' _ _ (pz _ (dO hi)),S' _ _ g2,λH4 S4=>?_⟩
  walk_at "x"
  refine zE (λc=>?_) λc=>?_
  ·have c:ew zs[i].1 zs[i].2.1 ks=2:=by have:=j9.mp c;omega
   walk_at "x"
   refine ⟨S4 _ _ hl,eG (m:=1000) (by rw [aj];exact bo (dk _ _) (by rw [bw];omega)),CNext.mk' hi ⟨_,rfl⟩ ⟨?_,aD,λb o e=>by rw [aJ (aN e hacc)];exact S4 _ _ (S' _ _ e)⟩⟩
   rw [et,eD,aV]
   simp [c]
  ·have c:¬ ew zs[i].1 zs[i].2.1 ks=2:=λe=>c (by rw [e];rfl)
   refine CNext.mk' hi ⟨_,rfl⟩ ⟨?_,S4 _ _ hl,S'.trans S4⟩
   rw [et,eD,aV]
   simp [c]
end K39
namespace K39
open Rm
def eQ (K:aa) (C:af) (A:CA) (Pt:af):Sp:=λvs H Q _=>∃ (a:AL) (n T:Nat) (ts:List Ti) (as:Nat->List af) (R:Nat->Nat->List Int) (t:af) (u:Ti),vs=[.ref a.q,.ref t]/\zJ K C A/\LV C A H a n T ts as R/\n<=60/\T<=10/\(∀ j,2^(j+1)<=n->j<=T)/\Lv n T ts R/\Jn ts R/\u∈ts/\H t=some (.tup [.int u.x,.int u.y])/\ts.length<64/\LT1 Pt H /\
 ∀ (q:af) (us:List Tt) (ts':List Ti) (as':Nat->List af) (R':Nat->Nat->List Int) (H':Hp),H q=none->H' q=some (.lst (us.map sL))->(∀ v∈us,TtOk H' v)->us.length<=1000->LV C A H' a n T ts' as' R'->Lv n T ts' R'->Jn ts' R'->ts'.map Ti.key=(ts.filter λv=>decide (v.key≠u.key)).map Ti.key->LT1 Pt H'->Fm (Pt::fp a) H H'->Q (.ref q) H'
theorem y4 {K:aa}{C:af}{A:CA}{Pt:af}:∀ vs H Q E,eQ K C A Pt vs H Q E->vs.length=2:=by
 rintro vs H Q E ⟨a,n,T,ts,as,R,t,u,rfl,_⟩;rfl
theorem y6 {K:aa}{C:af}{A:CA}{Pt:af}:∀ vs H Q E,eQ K C A Pt vs H Q E->mZ K C A (dB K C A) (dC K C A Pt) { nx:=λ_ H'=>Q .non H',rt:=Q } (start ["self","tie","level","looking","trail"] vs) H:=by
 rintro vs H Q E ⟨a,n,T,ts,as,R,t,u,rfl,ct,h,hn,hT10,hT,L,J,hu,ht,hlen,hP,k⟩
 obtain ⟨l1,l2,l3⟩:=L.lt u hu
 unfold mZ
 walk_at "x"
 refine cY ?_
 walk_at "x"
 refine ⟨a.q,A.Levels,a.dq,_,_,rfl,h.ob,ct.lc,ct.l1,L0,?_⟩
 walk_at "x"
 refine .inr ⟨a.d1,.int u.lev,rfl,.inr ⟨_,pk u.x u.y,t,.inl h.e1,rfl,ht,(il (f:=λt=>V.int t.lev) L.nd hu).symm⟩,?_⟩
 walk_at "x"
 refine cY ?_
 walk_at "x"
 refine ⟨a.q,A.Levels,a.dq,_,_,rfl,h.ob,ct.lc,ct.l2,Pg,?_⟩
 walk_at "x"
 refine .inr ⟨a.d2,.bl u.wd,rfl,.inr ⟨_,pk u.x u.y,t,.inl h.e2,rfl,ht,(il (f:=λt=>V.bl t.wd) L.nd hu).symm⟩,?_⟩
 walk_at "x"
 refine dD ?_
 walk_at "x"
 refine ⟨a.q,a.dq,_,rfl,h.ob,Qe (by decide +kernel) (by decide +kernel) (by decide +kernel) (by decide +kernel),?_⟩
 walk_at "x"
 refine ⟨a,n,T,ts,as,R,t,u,rfl,ct,h,by omega,hu,L.nd,by omega,l2,by omega,l3,λhw i hi=>(L.ed i (by omega) _ _).mpr ⟨u,hu,hw,hi,.inl rfl⟩,ht,λas1 R1 H1 h1 eR F1=>?_⟩
 have P1:=hP.fm h F1
 have ht1:=F1 _ _ (h.outT ht) ht
 walk_at "x"
 refine ⟨b0 (m:=0) (aw 0),λtr htr=>?_⟩
 have S2:=Same.upd_new (o:=.lst []) htr
 have g2:(upd H1 tr (.lst [])) tr=some (.lst []):=aD
 have ntf:=h1.outN htr
 have ntP:tr≠Pt:=λz=>by
  obtain ⟨ps,q⟩:=P1.tbl
  rw [z,q] at htr;cases htr
 have ntL:a.L≠tr:=aN h1.ls htr
 have htr0:H tr=none:=F1.free ntf htr
 generalize upd H1 tr (.lst [])=H2 at S2 g2
 have h2:=h1.same S2
 have P2:=P1.same S2
 have ht2:=S2 _ _ ht1
 have F2:Fm (Pt::fp a) H H2:=(F1.trans (Fm.of S2)).tail
 generalize ef:(ts.filter λv=>decide (v.key≠u.key))=tf at h1 h2 k
 have hlf:tf.length<=ts.length:=by rw [← ef];exact dk _ _
 walk_at "x"
 unfold rN
 refine GA (λσ H3=>∃ (ts1:List Ti) (as1:Nat->List af) (R1:Nat->Nat->List Int) (us:List Tt) (lv:Int) (b:Bool),σ=[some (.ref a.q),some (.ref t),some (.int lv),some (.bl b),some (.ref tr)]/\LV C A H3 a n T ts1 as1 R1/\LT1 Pt H3/\H3 tr=some (.lst (us.map sL))/\(∀ v∈us,TtOk H3 v/\v.q∉tr::Pt::fp a)/\Fm (tr::Pt::fp a) H2 H3/\ts1.map Ti.key=tf.map Ti.key /\
  ((b=true/\∃ kk:Nat,lv=(kk:Int)-1/\Dn n T ts1 R1 u.x u.y kk/\us.length+kk<=T+1)\/b=false/\Lv n T ts1 R1/\Jn ts1 R1/\us.length<=T+1)) (λσ _=>match σ with|[_,_,some (.int lv),_,_]=>(lv+1).toNat|_=>0) ?_ ?_
 ·refine ⟨tf,as1,R1,[],u.lev,u.wd,rfl,h2,P2,g2,(λv hv=>nomatch hv),Fm.refl,rfl,?_⟩
  cases hw:u.wd with
  | true =>
   rw [hw,if_pos rfl] at eR
   subst eR
   exact .inl ⟨rfl,u.lev+1,by omega,ef▸L.drop J hu hw,by simp;omega⟩
  | false =>
   rw [hw,if_neg (by decide)] at eR
   subst eR
   obtain ⟨L',J'⟩:=L.dropN J hu hw
   exact .inr ⟨rfl,ef▸L',ef▸J',by simp⟩
 ·rintro σ H3 ⟨ts1,as1,R1,us,lv,b,rfl,h3,P3,g3,u3,F3,hk,hc⟩
  have fin:Lv n T ts1 R1->Jn ts1 R1->us.length<=T+1->Q (.ref tr) H3:=λL' J' hl=>k tr us ts1 as1 R1 H3 htr0 g3 (λv hv=>(u3 v hv).1) (by omega) h3 L' J' hk P3 (F2.skip F3 htr0)
  walk_at "x"
  refine ⟨_,rfl,?_⟩
  cases b with
  | false =>
   refine j8 (j8 ?_)
   walk_at "x"
   rcases hc with ⟨z,_⟩|⟨_,L',J',hl⟩
   ·cases z
   ·exact fin L' J' hl
  | true =>
   refine qi ?_
   walk_at "x"
   obtain ⟨kk,rfl,D,hl⟩:∃ kk:Nat,lv=(kk:Int)-1/\Dn n T ts1 R1 u.x u.y kk/\us.length+kk<=T+1:=by
    rcases hc with ⟨_,h⟩|⟨z,_⟩
    ·exact h
    ·cases z
   refine zE (λc=>⟨_,P0,?_⟩) λc=>?_
   ·obtain ⟨m,rfl⟩:∃ m,kk=m+1:=⟨kk-1,by omega⟩
    rw [show ((m+1:Nat):Int)-1=(m:Int) by omega]
    have hl1:ts1.length=tf.length:=by have:=congrArg ft hk;simpa using this
    walk_at "x"
    refine ⟨.inl ⟨rfl,_,SqL.of g3⟩,?_⟩
    walk_at "x"
    refine dD ?_
    walk_at "x"
    refine ⟨a.q,a.dq,_,rfl,h3.ob,Qe (by decide +kernel) (by decide +kernel) (by decide +kernel) (by decide +kernel),?_⟩
    walk_at "x"
    have nt3:t∉tr::Pt::fp a:=by
     simp only [ak,not_or]
     exact ⟨iA ht2 g2 (by intro z;cases z),P2.ne ht2 (λ_ z=>nomatch z),h2.outT ht2⟩
    refine ⟨a,n,T,ts1,as1,R1,m,t,u.x,u.y,rfl,ct,h3,hn,hT,D,F3 _ _ nt3 ht2,by omega,P3,λts4 as4 R4 H4 v hp hq ok h4 P4 F4 hk4 hD=>?_⟩
    have g4:H4 tr=some (.lst (us.map sL)):=F4 _ _ (by simp only [ak,not_or];exact ⟨ntP,ntf⟩) g3
    have nvq:v.q∉tr::Pt::fp a:=by
     simp only [ak,not_or]
     refine ⟨Ne.symm (aN g3 hq),λz=>?_,h3.outN hq⟩
     obtain ⟨ps,q⟩:=P3.tbl
     rw [z,q] at hq;cases hq
    walk_at "x"
    refine oq g4 (eG (m:=100) (by rw [aj];omega)) ?_
    have ne:∀ {b:af}{o:HO},H4 b=some o->(∀ xs,o≠.lst xs)->(upd H4 tr (.lst (us.map sL++[.ref v.p]))) b=some o:=λ{b o} e hno=>by rw [aJ];exact e;rintro rfl;rw [g4] at e;cases e;exact hno _ rfl
    have g5:(upd H4 tr (.lst (us.map sL++[.ref v.p]))) tr=some (.lst ((us++[v]).map sL)):=by rw [aD,aV];rfl
    have h5:LV C A (upd H4 tr (.lst (us.map sL++[.ref v.p]))) a n T ts4 as4 R4:=h4.app g4 (by intro i r e;cases us<;>cases e) ntf ntL
    have P5:LT1 Pt (upd H4 tr (.lst (us.map sL++[.ref v.p]))):=P4.keep λb o _ h2 _ _ e=>ne e h2
    have ok5:TtOk (upd H4 tr (.lst (us.map sL++[.ref v.p]))) v:=⟨ne ok.1 (λ_ z=>nomatch z),by rw [aJ λz=>nvq (by rw [z];exact aq)];exact ok.2⟩
    have u5:∀ w∈us,TtOk (upd H4 tr (.lst (us.map sL++[.ref v.p]))) w:=λw hw=>by
     obtain ⟨⟨o1,o2⟩,o3⟩:=u3 w hw
     have n1:w.p∉Pt::fp a:=by simp only [ak,not_or];exact ⟨P3.ne o1 (λ_ z=>nomatch z),h3.outT o1⟩
     refine ⟨ne (F4 _ _ n1 o1) (λ_ z=>nomatch z),?_⟩
     rw [aJ λz=>o3 (by rw [z];exact aq)]
     exact F4 _ _ (λz=>o3 (ag _ z)) o2
    have F5:Fm (tr::Pt::fp a) H2 (upd H4 tr (.lst (us.map sL++[.ref v.p]))):=(F3.trans F4.tail).trans (Fm.upd aq)
    generalize upd H4 tr (.lst (us.map sL++[.ref v.p]))=H5 at g5 h5 P5 ok5 u5 F5 ne
    walk_at "x"
    refine nA (SqL.of g5) (v:=.ref v.p) ?_ ?_
    ·rw [aV];exact Ac _ _
    refine oU (SqT.of ok5.1) (fv (j:=3) rfl rfl) ?_
    walk_at "x"
    refine ⟨⟨ts4,as4,R4,us++[v],(m:Int)-1,decide (v.f=.non),rfl,h5,P5,g5,λw hw=>?_,F5,hk4.trans hk,?_⟩,?_⟩
    ·rcases aP.mp hw with hw|hw
     ·exact ⟨u5 w hw,(u3 w hw).2⟩
     ·rw [aC.mp hw];exact ⟨ok5,nvq⟩
    ·rcases hD with ⟨e,D4⟩|⟨e,L4,J4⟩
     ·exact .inl ⟨decide_eq_true e,m,rfl,D4,by simp;omega⟩
     ·exact .inr ⟨decide_eq_false e,L4,J4,by simp;omega⟩
    ·show ((m:Int)-1+1).toNat<((m:Int)+1).toNat
     omega
   ·walk_at "x"
    have:kk=0:=by omega
    subst this
    exact fin D.lv D.done (by omega)
end K39
namespace K39
open Rm
theorem EV {C:af}{sp:Sp}{dvs:List V}{E:XK}{t:TA}{σ:L2.St}{H:Hp}{Q:VK}(h:t σ H λvs H1=>∀ x dx,H1 x=none->H1 dx=none->dx≠x->sp (.ref x::(vs++dvs)) (upd (upd H1 dx (.own x)) x (.ins C dx [])) (λv H2=>v=.non/\Q (.ref x) H2) E):Di C sp dvs E t σ H Q:=h
theorem EW {σ:L2.St}{H:Hp}{Q:VK}(h:∀ p,H p=none->Q (.ref p) (upd H p (.dT []))):xu σ H Q:=h
theorem Top.small {n:Int}{j:Nat}(h:Top n j) (hn:n<=200):j<8:=by
 rcases h.1 with z|z
 ·omega
 ·by_cases c:j<8
  ·exact c
  ·have:(2:Int)^8<=2^j:=by
    have e:(2:Int)^j=2^(j-8)*2^8:=by rw [← Int.pow_add];congr 1;omega
    have h1:(1:Int)<=2^(j-8):=Hc (j-8)
    rw [e]
    have:=Int.mul_le_mul_of_nonneg_right h1 (show (0:Int)<=2^8 by decide)
    omega
   have e8:(2:Int)^8=256:=by decide
   omega
theorem WA.out {C:af}{H:Hp}{p dx l c:af}{n:Nat}{as:List af}{R:Nat->List Int}{o:HO}(W:WA C H p dx l n as R) (h1:p≠c) (h2:l≠c) (h3:∀ a∈as,a≠c):WA C (upd H c o) p dx l n as R :=
 ⟨by rw [aJ h1];exact W.ob,by rw [aJ h2];exact W.rl,W.len,λi a h=>by rw [aJ (h3 a (aG h))];exact W.at_ i a h,W.ne⟩
def c6 (K:aa) (C:af) (A:CA):Sp:=λvs H Q _=>∃ (q dq:af) (n:Nat),vs=[.ref q,.int n]/\H q=some (.ins A.Levels dq [])/\zJ K C A/\1<=n/\n<=200 /\
 ∀ (a:AL) (T:Nat) (as:Nat->List af) (H':Hp),a.q=q->a.dq=dq->LV C A H' a n T [] as (λ_ i=>[(i:Int)])->Top n T->SameBut1 q H H'->(∀ b∈a.L::fp a,H b=none)->Q .non H'
theorem uE {K:aa}{C:af}{A:CA}:∀ vs H Q E,c6 K C A vs H Q E->vs.length=2:=by
 rintro vs H Q E ⟨q,dq,n,rfl,_⟩;rfl
theorem uF {K:aa}{C:af}{A:CA}:∀ vs H Q E,c6 K C A vs H Q E->jl K C A (dH K C) (kh K C) { nx:=λ_ H'=>Q .non H',rt:=Q } (start ["self","n"] vs) H:=by
 rintro vs H Q E ⟨q,dq,n,rfl,hq,ct,hn1,hn2,k⟩
 unfold jl
 walk_at "x1"
 refine nK (EW λd1 hd1=>?_)
 walk_at "x"
 have nq1:q≠d1:=aN hq hd1
 refine ⟨q,A.Levels,dq,[],rfl,by rw [aJ nq1];exact hq,ct.lc,ct.l1,by decide,?_⟩
 have g1:(upd (upd H d1 (.dT [])) q (.ins A.Levels dq (d9 "level_of" (.ref d1) []))) q=some (.ins A.Levels dq [("level_of",.ref d1)]):=aD
 have e1:(upd (upd H d1 (.dT [])) q (.ins A.Levels dq (d9 "level_of" (.ref d1) []))) d1=some (.dT []):=by rw [aJ (Ne.symm nq1)];exact aD
 have B1:SameBut1 q H (upd (upd H d1 (.dT [])) q (.ins A.Levels dq (d9 "level_of" (.ref d1) []))):=λb o e hb=>by rw [aJ hb,aJ (aN e hd1)];exact e
 generalize upd (upd H d1 (.dT [])) q (.ins A.Levels dq (d9 "level_of" (.ref d1) []))=H1 at g1 e1 B1
 dsimp only
 walk_at "x1"
 refine nK (EW λd2 hd2=>?_)
 walk_at "x"
 have nq2:q≠d2:=aN g1 hd2
 refine ⟨q,A.Levels,dq,_,rfl,by rw [aJ nq2];exact g1,ct.lc,ct.l2,by show 1<1000;decide,?_⟩
 rw [eN (by decide +kernel)]
 have g2:(upd (upd H1 d2 (.dT [])) q (.ins A.Levels dq (("level_of",.ref d1)::d9 "wooden" (.ref d2) []))) q=some (.ins A.Levels dq [("level_of",.ref d1),("wooden",.ref d2)]):=aD
 have e2:(upd (upd H1 d2 (.dT [])) q (.ins A.Levels dq (("level_of",.ref d1)::d9 "wooden" (.ref d2) []))) d2=some (.dT []):=by rw [aJ (Ne.symm nq2)];exact aD
 have B2:SameBut1 q H1 (upd (upd H1 d2 (.dT [])) q (.ins A.Levels dq (("level_of",.ref d1)::d9 "wooden" (.ref d2) []))):=λb o e hb=>by rw [aJ hb,aJ (aN e hd2)];exact e
 have n12:d1≠d2:=aN e1 hd2
 generalize upd (upd H1 d2 (.dT [])) q (.ins A.Levels dq (("level_of",.ref d1)::d9 "wooden" (.ref d2) []))=H2 at g2 e2 B2
 dsimp only
 walk_at "x1"
 refine nK (EW λd3 hd3=>?_)
 walk_at "x"
 have nq3:q≠d3:=aN g2 hd3
 refine ⟨q,A.Levels,dq,_,rfl,by rw [aJ nq3];exact g2,ct.lc,ct.l3,by show 2<1000;decide,?_⟩
 rw [eN (by decide +kernel),eN (by decide +kernel)]
 have g3:(upd (upd H2 d3 (.dT [])) q (.ins A.Levels dq (("level_of",.ref d1)::("wooden",.ref d2)::d9 "weight_of" (.ref d3) []))) q=some (.ins A.Levels dq [("level_of",.ref d1),("wooden",.ref d2),("weight_of",.ref d3)]):=aD
 have e3:(upd (upd H2 d3 (.dT [])) q (.ins A.Levels dq (("level_of",.ref d1)::("wooden",.ref d2)::d9 "weight_of" (.ref d3) []))) d3=some (.dT []):=by rw [aJ (Ne.symm nq3)];exact aD
 have B3:SameBut1 q H2 (upd (upd H2 d3 (.dT [])) q (.ins A.Levels dq (("level_of",.ref d1)::("wooden",.ref d2)::d9 "weight_of" (.ref d3) []))):=λb o e hb=>by rw [aJ hb,aJ (aN e hd3)];exact e
 have n23:d2≠d3:=aN e2 hd3
 have n13:d1≠d3:=aN (B2 _ _ e1 (Ne.symm nq1)) hd3
 generalize upd (upd H2 d3 (.dT [])) q (.ins A.Levels dq (("level_of",.ref d1)::("wooden",.ref d2)::d9 "weight_of" (.ref d3) []))=H3 at g3 e3 B3
 have B:=(B1.trans B2).trans B3
 have f1:=B3 _ _ (B2 _ _ e1 (Ne.symm nq1)) (Ne.symm nq1)
 have f2:=B3 _ _ e2 (Ne.symm nq2)
 have fr:∀ {b:af},b≠q->H3 b=none->H b=none:=λ{b} hb e=>by
  cases z:H b with
  | none=>rfl
  | some o=>rw [B _ _ z hb] at e;cases e
 have fr2:∀ {b:af},b≠q->H2 b=none->H b=none:=λ{b} hb e=>by
  cases z:H b with
  | none=>rfl
  | some o=>rw [(B1.trans B2) _ _ z hb] at e;cases e
 have fr1:∀ {b:af},b≠q->H1 b=none->H b=none:=λ{b} hb e=>by
  cases z:H b with
  | none=>rfl
  | some o=>rw [B1 _ _ z hb] at e;cases e
 dsimp only
 refine nK ?_
 walk_at "x"
 refine ⟨n,rfl,λj hj=>?_⟩
 have hj8:=hj.small (by omega)
 walk_at "x"
 refine ⟨by omega,by omega,λacc hacc=>?_⟩
 have e0:(((j:Int)+1)).toNat=j+1:=by omega
 rw [e0]
 refine oX (n:=j+1) (λt ys H4=>H4 acc=some (.lst ys)/\Same H3 H4/\∃ (ws:List (af×af×af)) (as:Nat->List af),ys=ws.map (λw=>V.ref w.1)/\ws.length=t/\(ws.map (·.2.2)).Nodup/\∀ (i:Nat) w,ws[i]?=some w->WA C H4 w.1 w.2.1 w.2.2 n (as i) (λi=>[(i:Int)])/\H3 w.2.2=none/\w.1≠acc/\w.2.2≠acc/\∀ b∈as i,b≠acc) (λσ=>∃ o,σ=[o,some (.int n)]) ⟨aD,Same.upd_new hacc,[],λ_=>[],rfl,rfl,vC,λi w hw=>nomatch hw⟩ ⟨_,rfl⟩ ?_ ?_ ?_ ?_
 ·rintro t ys H4 ⟨h,_⟩;exact h
 ·rintro ys H4 ⟨g4,S4,ws,as,rfl,hl,nd,hw⟩
  refine ⟨aw _,?_⟩
  walk_at "x"
  refine ⟨q,A.Levels,dq,_,rfl,S4 _ _ g3,ct.lc,ct.l4,by show 3<1000;decide,?_⟩
  rw [eN (by decide +kernel),eN (by decide +kernel),eN (by decide +kernel)]
  have naq:acc≠q:=λz=>by rw [z,g3] at hacc;cases hacc
  have hb:SameBut1 q H4 (upd H4 q (.ins A.Levels dq (("level_of",.ref d1)::("wooden",.ref d2)::("weight_of",.ref d3)::d9 "woods" (.ref acc) []))):=SameBut1.upd
  have nl:∀ {b:af}{o:HO},H4 b=some o->(∀ x y z,o≠.ins x y z)->b≠q:=λ{b o} e hno z=>by rw [z,S4 _ _ g3] at e;cases e;exact hno _ _ _ rfl
  refine k ⟨q,dq,d1,d2,d3,acc,ws⟩ j as _ rfl rfl ⟨aD,hb _ _ (S4 _ _ f1) (Ne.symm nq1),hb _ _ (S4 _ _ f2) (Ne.symm nq2),hb _ _ (S4 _ _ e3) (Ne.symm nq3),hb _ _ g4 naq,hl,λi w hi=>?_,λ_ _=>Wd.start n,hn1,n12,n13,n23,nd,λw hm=>?_⟩ hj (λb o e hne=>hb _ _ (S4 _ _ (B _ _ e hne)) hne) λb hb=>?_
  ·obtain ⟨W,_⟩:=hw i w hi
   refine W.out (λz=>?_) (nl W.rl (λ_ _ _ z=>nomatch z)) λa ha=>?_
   ·have:=W.ob
    rw [z,S4 _ _ g3] at this
    cases this
   ·obtain ⟨i,hi⟩:=bE.mp ha
    exact nl (W.at_ i a hi) (λ_ _ _ z=>nomatch z)
  ·obtain ⟨i,hi⟩:=bE.mp hm
   exact Ne.symm (hw i w hi).2.2.2.1
  ·simp only [fp,ak,br] at hb
   rcases hb with rfl|rfl|rfl|rfl|⟨w,hm,rfl⟩
   ·exact fr naq hacc
   ·exact hd1
   ·exact fr1 (Ne.symm nq2) hd2
   ·exact fr2 (Ne.symm nq3) hd3
   ·obtain ⟨i,hi⟩:=bE.mp hm
    obtain ⟨W,h3,_⟩:=hw i w hi
    exact fr (nl W.rl (λ_ _ _ z=>nomatch z)) h3
 ·rintro t ys H4 ht _;exact ht
 ·rintro t ys σ' H4 x H5 ht ⟨g4,S4,ws,as,rfl,hl,nd,hw⟩ ⟨o,rfl⟩ ⟨eH,ex⟩
  subst eH ex
  walk_at "x"
  refine qi ?_
  refine EV ?_
  walk_at "x"
  intro xw dxw hx hdx hne
  have T0:Same H5 (upd (upd H5 dxw (.own xw)) xw (.ins C dxw [])):=λb o e=>by rw [aJ (aN e hx),aJ (aN e hdx)];exact e
  refine ⟨xw,dxw,n,rfl,aD,ct.w,by omega,λl bs H6 W hl6 B6=>⟨rfl,?_⟩⟩
  have T:Same H5 H6:=λb o e=>B6 _ _ (T0 _ _ e) (aN e hx)
  have hl5:=T0.free hl6
  have nxa:xw≠acc:=Ne.symm (aN g4 hx)
  have nla:l≠acc:=Ne.symm (aN g4 hl5)
  have naa:∀ a∈bs,a≠acc:=λa ha z=>by
   obtain ⟨i,hi⟩:=bE.mp ha
   have h1:=W.at_ i a hi
   rw [z,T _ _ g4] at h1
   cases ws<;>cases h1
  have SA:Same H3 (upd H6 acc (.lst (ws.map (λw=>V.ref w.1)++[.ref xw]))):=λb o e=>by rw [aJ (aN e hacc)];exact T _ _ (S4 _ _ e)
  refine ⟨T _ _ g4,eG (m:=100) (by rw [aj];omega),CNext.mk' ht ⟨_,rfl⟩ ⟨aD,SA,ws++[(xw,dxw,l)],(λi=>if i=t then bs else as i),by rw [aV];rfl,by rw [aX,hl];rfl,?_,λi w hi=>?_⟩⟩
  ·rw [aV,kT]
   refine ⟨nd,by simp,λp hp q hq e=>?_⟩
   obtain ⟨w,hm,rfl⟩:=br.mp hp
   obtain ⟨i,hi⟩:=bE.mp hm
   have:=(hw i w hi).1.rl
   rw [yE,aC] at hq
   rw [e.trans hq,hl5] at this
   cases this
  ·by_cases c:i=t
   ·subst c
    rw [← hl,bx (aw _),uI] at hi
    cases hi
    dsimp only
    rw [if_pos rfl]
    exact ⟨W.out nxa nla naa,S4.free hl5,nxa,nla,naa⟩
   ·have hi':i<t:=by
     have:=(aB.mp hi).1
     rw [aX,hl] at this
     simp at this
     omega
    rw [ck (by omega)] at hi
    dsimp only
    rw [if_neg c]
    obtain ⟨W',m1,m2,m3,m4⟩:=hw i w hi
    exact ⟨(W'.same T).out m2 m3 m4,m1,m2,m3,m4⟩
end K39
namespace K39
open Rm
theorem wz {K:aa}{ta tv:TE}{rd:V->V->Hp->VK->Prop}{f:bA}{D:sS}{σ:L2.St}{H:Hp}(h:ta σ H λx H1=>∃ a C dx fs v,x=.ref a/\H1 a=some (.ins C dx fs)/\Cls K C/\NoAttr K C f/\fs.lookup f=some v /\
 tv σ H1 λy H2=>rd v y H2 λz H3=>∃ dx' fs',H3 a=some (.ins C dx' fs')/\fs'.length<1000/\D.nx σ (upd H3 a (.ins C dx' (d9 f z fs')))):t8 K ta tv rd f D σ H:=h
def fK (n:Nat) (q w:af) (c1 c2 c3 c4:Int):List (bA×V):=d9 "lost" (.int c4) (d9 "risen" (.int c3) (d9 "looked" (.int c2) (d9 "came" (.int c1) (d9 "wood" (.ref w) (d9 "levels" (.ref q) (d9 "n" (.int n) []))))))
section
variable {n:Nat}{q w:af}{c1 c2 c3 c4 c:Int}
theorem Nx {f:bA}{v:V}:d9 f v []=[(f,v)]:=rfl
theorem oK:fK n q w c1 c2 c3 c4=([("n",.int n),("levels",.ref q),("wood",.ref w),("came",.int c1),("looked",.int c2),("risen",.int c3),("lost",.int c4)]:List (bA×V)):=by
 unfold fK
 repeat (first|rw [Nx]|rw [eN (by decide +kernel)])
theorem Uz:(fK n q w c1 c2 c3 c4).lookup ("n":bA)=some (.int n):=by rw [oK];exact tO
theorem RB:(fK n q w c1 c2 c3 c4).lookup ("levels":bA)=some (.ref q):=by rw [oK,fN (by decide +kernel)];exact tO
theorem UA:(fK n q w c1 c2 c3 c4).lookup ("wood":bA)=some (.ref w):=by rw [oK,fN (by decide +kernel),fN (by decide +kernel)];exact tO
theorem fK4:(fK n q w c1 c2 c3 c4).lookup ("came":bA)=some (.int c1):=by rw [oK,fN (by decide +kernel),fN (by decide +kernel),fN (by decide +kernel)];exact tO
theorem fK5:(fK n q w c1 c2 c3 c4).lookup ("looked":bA)=some (.int c2):=by rw [oK,fN (by decide +kernel),fN (by decide +kernel),fN (by decide +kernel),fN (by decide +kernel)];exact tO
theorem fK6:(fK n q w c1 c2 c3 c4).lookup ("risen":bA)=some (.int c3):=by rw [oK,fN (by decide +kernel),fN (by decide +kernel),fN (by decide +kernel),fN (by decide +kernel),fN (by decide +kernel)];exact tO
theorem fK7:(fK n q w c1 c2 c3 c4).lookup ("lost":bA)=some (.int c4):=by rw [oK,fN (by decide +kernel),fN (by decide +kernel),fN (by decide +kernel),fN (by decide +kernel),fN (by decide +kernel),fN (by decide +kernel)];exact tO
theorem HR {m:bA}(h1:¬ m="n":=by decide +kernel) (h2:¬ m="levels":=by decide +kernel) (h3:¬ m="wood":=by decide +kernel) (h4:¬ m="came":=by decide +kernel) (h5:¬ m="looked":=by decide +kernel) (h6:¬ m="risen":=by decide +kernel) (h7:¬ m="lost":=by decide +kernel):(fK n q w c1 c2 c3 c4).lookup m=none:=by rw [oK,fN h1,fN h2,fN h3,fN h4,fN h5,fN h6,fN h7];rfl
theorem TQ:(fK n q w c1 c2 c3 c4).length<1000:=by rw [oK];show 7<1000;decide
theorem UB:d9 "came" (.int c) (fK n q w c1 c2 c3 c4)=fK n q w c c2 c3 c4:=by rw [oK,oK,eN (by decide +kernel),eN (by decide +kernel),eN (by decide +kernel),wx]
theorem UC:d9 "looked" (.int c) (fK n q w c1 c2 c3 c4)=fK n q w c1 c c3 c4:=by rw [oK,oK,eN (by decide +kernel),eN (by decide +kernel),eN (by decide +kernel),eN (by decide +kernel),wx]
theorem UD:d9 "risen" (.int c) (fK n q w c1 c2 c3 c4)=fK n q w c1 c2 c c4:=by rw [oK,oK,eN (by decide +kernel),eN (by decide +kernel),eN (by decide +kernel),eN (by decide +kernel),eN (by decide +kernel),wx]
theorem UE:d9 "lost" (.int c) (fK n q w c1 c2 c3 c4)=fK n q w c1 c2 c3 c:=by rw [oK,oK,eN (by decide +kernel),eN (by decide +kernel),eN (by decide +kernel),eN (by decide +kernel),eN (by decide +kernel),eN (by decide +kernel),wx]
end
theorem Top.lo {n T:Nat}(h:Top n T):2^(T+1)<=n\/T=0:=by
 rcases h.1 with z|z
 ·exact .inr z
 ·left
  have:((2^(T+1):Nat):Int)=2*(2:Int)^T:=by rw [LY,Int.natCast_mul,Int.natCast_pow];exact Int.mul_comm _ _
  omega
theorem Top.hi {n T:Nat}(h:Top n T):∀ j,2^(j+1)<=n->j<=T:=λj hj=>by
 have h2:=h.2
 by_cases c:j<=T
 ·exact c
 ·have h3:2^(T+2)<=2^(j+1):=Oe (by decide) (by omega)
  have:((2^(T+2):Nat):Int)=4*(2:Int)^T:=by push_cast;rw [BC,BC];omega
  omega
section
variable {C:af}{A:CA}{H H':Hp}{a:AL}{n T:Nat}{ts:List Ti}{as:Nat->List af}{R:Nat->Nat->List Int}{p dx:af}
theorem LV.inst {c d:af}{fs:List (bA×V)}{o:HO}(h:LV C A H a n T ts as R) (hp:H p=some (.ins c d fs)) (h1:fs.lookup ("rows":bA)=none) (h2:fs.lookup ("woods":bA)=none):LV C A (upd H p o) a n T ts as R :=
 h.keep (X:=[p]) (Fm.upd aq) (λx f e _ hx hm=>by
  rw [aC.mp hm] at e hx
  rcases hx with z|⟨w,hw,z⟩
  ·have:=h.ob
   rw [← z,hp] at this
   cases this
   rw [Qd] at h2;cases h2
  ·obtain ⟨i,_,hi⟩:=h.at hw
   have:=(h.wa i w hi).ob
   rw [← z,hp] at this
   cases this
   rw [iu] at h1;cases h1) (λb hb hm=>h.outI hp (aC.mp hm▸hb)) (λhm=>by
   have:=h.ls
   rw [aC.mp hm,hp] at this;cases this) λb r _ e hm=>by rw [aC.mp hm,hp] at e;cases e
structure KP (C:af) (A:CA) (H:Hp) (p dx:af) (a:AL) (n T:Nat) (ts:List Ti) (as:Nat->List af) (R:Nat->Nat->List Int):Prop where
 ob:∃ (w:af×af×af) (c1 c2 c3 c4:Int),a.ws[0]?=some w/\H p=some (.ins A.Keeper dx (fK n a.q w.1 c1 c2 c3 c4))
 lv:LV C A H a n T ts as R
 iv:Lv n T ts R
 jn:Jn ts R
 tp:Top n T
theorem KP.same (h:KP C A H p dx a n T ts as R) (S:Same H H'):KP C A H' p dx a n T ts as R:=by
 obtain ⟨w,c1,c2,c3,c4,hw,hp⟩:=h.ob
 exact ⟨⟨w,c1,c2,c3,c4,hw,S _ _ hp⟩,h.lv.same S,h.iv,h.jn,h.tp⟩
structure KS (C:af) (A:CA) (a:AL) (n T:Nat) (as:Nat->List af) (p dx:af) (H0:Hp) (m:Nat) (fs:List (bA×V)) (H:Hp):Prop where
 g:H p=some (.ins A.Keeper dx fs)
 lv:LV C A H a n T [] as (λ_ i=>[(i:Int)])
 r:fs.lookup ("rows":bA)=none
 w:fs.lookup ("woods":bA)=none
 len:fs.length<=m
 b:SameBut1 p H0 H
theorem A3 (f:bA) (v:V):∀ fs:List (bA×V),(d9 f v fs).length<=fs.length+1
 | []=>aw _
 | (g,x)::r=>by
  by_cases c:g=f
  ·subst c;rw [wx];exact eV _
  ·rw [eN c];exact pL (A3 f v r)
theorem KS.put {H0:Hp}{m:Nat}{fs:List (bA×V)}(s:KS C A a n T as p dx H0 m fs H) (f:bA) (v:V) (h1:¬ ("rows":bA)=f:=by decide +kernel) (h2:¬ ("woods":bA)=f:=by decide +kernel):KS C A a n T as p dx H0 (m+1) (d9 f v fs) (upd H p (.ins A.Keeper dx (d9 f v fs))) :=
 ⟨aD,s.lv.inst s.g s.r s.w,by rw [fJ,if_neg h1];exact s.r,by rw [fJ,if_neg h2];exact s.w,bg (A3 f v fs) (pL s.len),s.b.trans SameBut1.upd⟩
end
def cK (K:aa) (C:af) (A:CA):Sp:=λvs H Q _=>∃ (p dx:af) (n:Nat),vs=[.ref p,.int n]/\H p=some (.ins A.Keeper dx [])/\zJ K C A/\1<=n/\n<=200 /\
 ∀ (a:AL) (T:Nat) (as:Nat->List af) (H':Hp),KP C A H' p dx a n T [] as (λ_ i=>[(i:Int)])->SameBut1 p H H'->(∀ b∈a.L::fp a,H b=none)->Q .non H'
theorem wA {K:aa}{C:af}{A:CA}:∀ vs H Q E,cK K C A vs H Q E->vs.length=2:=by
 rintro vs H Q E ⟨q,dq,n,rfl,_⟩;rfl
theorem wB {K:aa}{C:af}{A:CA}:∀ vs H Q E,cK K C A vs H Q E->kI K C A (c6 K C A) (g9 K C) { nx:=λ_ H'=>Q .non H',rt:=Q } (start ["self","n"] vs) H:=by
 rintro vs H Q E ⟨p,dx,n,rfl,hp,ct,hn1,hn2,k⟩
 unfold kI
 walk_at "x"
 refine ⟨n,rfl,hn1,hn2,?_⟩
 refine ⟨_,rfl,?_⟩
 rw [if_neg (by simp)]
 walk_at "x"
 refine nK ?_
 walk_at "x"
 refine ⟨p,A.Keeper,dx,[],rfl,hp,ct.kc,ct.k1,by decide,?_⟩
 have g1:(upd H p (.ins A.Keeper dx (d9 "n" (.int n) []))) p=some (.ins A.Keeper dx (d9 "n" (.int n) [])):=aD
 have B1:SameBut1 p H (upd H p (.ins A.Keeper dx (d9 "n" (.int n) []))):=SameBut1.upd
 generalize upd H p (.ins A.Keeper dx (d9 "n" (.int n) []))=H1 at g1 B1
 dsimp only
 walk_at "x1"
 refine nK (EV ?_)
 walk_at "x"
 intro q dq hq hdq hne
 have T0:Same H1 (upd (upd H1 dq (.own q)) q (.ins A.Levels dq [])):=λb o e=>by rw [aJ (aN e hq),aJ (aN e hdq)];exact e
 refine ⟨q,dq,n,rfl,aD,ct,hn1,hn2,λa T as H2 ea ed L tp B2 fr=>⟨rfl,?_⟩⟩
 subst ea ed
 have T1:Same H1 H2:=λb o e=>B2 _ _ (T0 _ _ e) (aN e hq)
 have g2:=T1 _ _ g1
 have s2:KS C A a n T as p dx H 1 (d9 "n" (.int n) []) H2:=⟨g2,L,by rw [fJ,if_neg (by decide +kernel)];rfl,by rw [fJ,if_neg (by decide +kernel)];rfl,A3 _ _ _,λb o e hb=>T1 _ _ (B1 _ _ e hb)⟩
 have frH:∀ b∈a.L::fp a,H b=none:=λb hb=>by
  have:=fr b hb
  cases z:H b with
  | none=>rfl
  | some o =>
   by_cases c:b=p
   ·have e:=T0 _ _ g1
    rw [← c,this] at e;cases e
   ·rw [T0 _ _ (B1 _ _ z c)] at this;cases this
 obtain ⟨w,hw,hwm⟩:=L.get (a9 _)
 walk_at "x"
 refine ⟨p,A.Keeper,dx,_,rfl,s2.g,ct.kc,ct.k2,bo s2.len (by decide),?_⟩
 have s3:=s2.put "levels" (.ref a.q)
 generalize upd H2 p (.ins A.Keeper dx (d9 "levels" (.ref a.q) (d9 "n" (.int n) [])))=H3 at s3
 dsimp only
 walk_at "x1"
 refine nK ?_
 walk_at "x"
 refine cY ?_
 refine cY ?_
 walk_at "x"
 refine ⟨p,A.Keeper,dx,_,_,rfl,s3.g,ct.kc,ct.k2,by rw [fJ,if_pos rfl],?_⟩
 refine ⟨a.q,A.Levels,a.dq,_,_,rfl,s3.lv.ob,ct.lc,ct.l4,Qd,?_⟩
 walk_at "x"
 refine nA (SqL.of s3.lv.ls) (fv (j:=0) rfl (by rw [ay,hw];rfl)) ?_
 walk_at "x"
 refine ⟨p,A.Keeper,dx,_,rfl,s3.g,ct.kc,ct.k3,bo s3.len (by decide),?_⟩
 have s4:=s3.put "wood" (.ref w.1)
 generalize e4:d9 ("wood":bA) (V.ref w.1) (d9 "levels" (.ref a.q) (d9 "n" (.int n) []))=f4 at s4
 generalize upd H3 p (.ins A.Keeper dx f4)=H4 at s4
 dsimp only
 walk_at "x1"
 refine nK ?_
 walk_at "x"
 refine ⟨p,A.Keeper,dx,_,rfl,s4.g,ct.kc,ct.k4,bo s4.len (by decide),?_⟩
 have s5:=s4.put "came" (.int 0)
 generalize e5:d9 ("came":bA) (V.int 0) f4=f5 at s5
 generalize upd H4 p (.ins A.Keeper dx f5)=H5 at s5
 dsimp only
 walk_at "x1"
 refine nK ?_
 walk_at "x"
 refine ⟨p,A.Keeper,dx,_,rfl,s5.g,ct.kc,ct.k5,bo s5.len (by decide),?_⟩
 have s6:=s5.put "looked" (.int 0)
 generalize e6:d9 ("looked":bA) (V.int 0) f5=f6 at s6
 generalize upd H5 p (.ins A.Keeper dx f6)=H6 at s6
 dsimp only
 walk_at "x1"
 refine nK ?_
 walk_at "x"
 refine ⟨p,A.Keeper,dx,_,rfl,s6.g,ct.kc,ct.k6,bo s6.len (by decide),?_⟩
 have s7:=s6.put "risen" (.int 0)
 generalize e7:d9 ("risen":bA) (V.int 0) f6=f7 at s7
 generalize upd H6 p (.ins A.Keeper dx f7)=H7 at s7
 dsimp only
 refine nK ?_
 walk_at "x"
 refine ⟨p,A.Keeper,dx,_,rfl,s7.g,ct.kc,ct.k7,bo s7.len (by decide),?_⟩
 have s8:=s7.put "lost" (.int 0)
 subst e4 e5 e6 e7
 exact k a T as _ ⟨⟨w,0,0,0,0,hw,s8.g⟩,s8.lv,Lv.start n T tp.lo,(λt ht=>nomatch ht),tp⟩ s8.b frH
end K39
namespace K39
open Rm
theorem KP.p0 {C:af}{A:CA}{H:Hp}{p dx:af}{a:AL}{n T:Nat}{ts:List Ti}{as:Nat->List af}{R:Nat->Nat->List Int}(h:KP C A H p dx a n T ts as R):∃ fs,H p=some (.ins A.Keeper dx fs):=let ⟨w,c1,c2,c3,c4,_,hp⟩:=h.ob;⟨_,hp⟩
def d8 (K:aa) (C:af) (A:CA):Sp:=λvs H Q _=>∃ (p dx:af) (a:AL) (n T:Nat) (ts:List Ti) (as:Nat->List af) (R:Nat->Nat->List Int) (t:af) (x y:Nat),vs=[.ref p,.ref t,.int 0]/\zJ K C A/\KP C A H p dx a n T ts as R/\n<=200/\x<y/\y<n/\H t=some (.tup [.int x,.int y])/\((x:Int),(y:Int))∉ts.map Ti.key/\ts.length<99 /\
 ∀ b ts' as' R' H',KP C A H' p dx a n T ts' as' R'->ts'.map Ti.key=ts.map Ti.key++[((x:Int),(y:Int))]->Fm (p::fp a) H H'->Q (.bl b) H'
theorem xP {K:aa}{C:af}{A:CA}:∀ vs H Q E,d8 K C A vs H Q E->vs.length=3:=by
 rintro vs H Q E ⟨p,dx,a,n,T,ts,as,R,t,x,y,rfl,_⟩;rfl
theorem xQ {K:aa}{C:af}{A:CA}:∀ vs H Q E,d8 K C A vs H Q E->lG K C A (fq K C A) { nx:=λ_ H'=>Q .non H',rt:=Q } (start ["self","tie","weight"] vs) H:=by
 rintro vs H Q E ⟨p,dx,a,n,T,ts,as,R,t,x,y,rfl,ct,h,hn,hxy,hy,ht,hk,hl,k⟩
 obtain ⟨w,c1,c2,c3,c4,hw,hp⟩:=h.ob
 unfold lG
 walk_at "x"
 refine wz ?_
 walk_at "x"
 refine ⟨p,A.Keeper,dx,_,_,rfl,hp,ct.kc,ct.k4,fK4,?_⟩
 walk_at "x"
 refine ⟨c1,1,rfl,rfl,dx,_,hp,TQ,?_⟩
 rw [UB]
 have L1:=h.lv.inst (o:=.ins A.Keeper dx (fK n a.q w.1 (c1+1) c2 c3 c4)) hp HR HR
 have p1:(upd H p (.ins A.Keeper dx (fK n a.q w.1 (c1+1) c2 c3 c4))) p=_:=aD
 have ht1:(upd H p (.ins A.Keeper dx (fK n a.q w.1 (c1+1) c2 c3 c4))) t=_:=(aJ (iA ht hp (by intro z;cases z))).trans ht
 have F1:Fm (p::fp a) H (upd H p (.ins A.Keeper dx (fK n a.q w.1 (c1+1) c2 c3 c4))):=Fm.upd aq
 generalize upd H p (.ins A.Keeper dx (fK n a.q w.1 (c1+1) c2 c3 c4))=H1 at L1 p1 ht1 F1
 dsimp only
 walk_at "x"
 refine dD ?_
 refine cY ?_
 walk_at "x"
 refine ⟨p,A.Keeper,dx,_,_,rfl,p1,ct.kc,ct.k2,RB,?_⟩
 refine ⟨a.q,a.dq,_,rfl,L1.ob,Qe (by decide +kernel) (by decide +kernel) (by decide +kernel) (by decide +kernel),?_⟩
 walk_at "x"
 refine ⟨a,n,T,ts,as,R,t,x,y,rfl,ct,L1,hn,by omega,hy,ht1,h.iv.nd,hk,hl,λb ts' as' R' H2 L2 hc F2=>?_⟩
 have hkk:(ts++[(⟨x,y,0,false⟩:Ti)]).map Ti.key=ts.map Ti.key++[((x:Int),(y:Int))]:=by rw [aV];rfl
 have V:=h.iv.put hxy hy hk
 have hu:(⟨x,y,0,false⟩:Ti)∈ts++[⟨x,y,0,false⟩]:=aZ _ aq
 have ob:∃ (w:af×af×af) (c1 c2 c3 c4:Int),a.ws[0]?=some w/\H2 p=some (.ins A.Keeper dx (fK n a.q w.1 c1 c2 c3 c4)):=⟨w,_,_,_,_,hw,F2 _ _ (L1.outI p1) p1⟩
 rcases hc with ⟨hj,rfl,rfl⟩|⟨hj,rfl,rfl⟩
 ·refine k b _ as' _ H2 ⟨ob,L2,V,λu hu=>?_,h.tp⟩ hkk (F1.trans F2.tail)
  rcases aP.mp hu with q|q
  ·exact h.jn u q
  ·rw [aC.mp q];exact hj
 ·have hap:∀ i,i<=(⟨x,y,0,false⟩:Ti).lev->(((⟨x,y,0,false⟩:Ti).y:Nat):Int)∉R i (⟨x,y,0,false⟩:Ti).x:=λi hi=>by rw [Og.mp hi];exact hj
  have W0:=h.iv.wd 0 (a9 _)
  have V':=V.adopt hu rfl hap λi hi=>by
   have e:=Og.mp hi
   subst e
   have l:=((W0.lk (a:=x) (b:=y) (by omega) hy hj).len (i:=x) (by omega))
   rw [(W0.lk_in (x:=x) (by omega) hy hj (.inl (W0.me x (by omega)))).2] at l
   show ((R 0 x).length+(R 0 y).length+2)*2^0<=2*n
   omega
  refine k b _ as' _ H2 ⟨ob,L2,V',λu hu'=>?_,h.tp⟩ ((kD (f:=Ti.inw) (λ_=>rfl) _).trans hkk) (F1.trans F2.tail)
  rcases (mB (f:=Ti.inw) V.nd hu u).mp hu' with rfl|⟨q,_⟩
  ·have e:HQ R 0 x y 0=lk (R 0) x y:=if_pos (aw _)
   show (y:Int)∈HQ R 0 x y 0 x
   rw [e]
   exact ((W0.lk_in (x:=x) (by omega) hy hj (.inl (W0.me x (by omega)))).1 _).mpr (.inr (W0.me y hy))
  ·rcases aP.mp q with q|q
   ·obtain ⟨q1,q2,q3⟩:=h.iv.lt u q
    exact V.adopt_le hu hap q3 (by omega) _ (h.jn u q)
   ·rename_i hne
    exact absurd (by rw [aC.mp q]) hne
def dm (K:aa) (C:af) (A:CA):Sp:=λvs H Q _=>∃ (p dx:af) (a:AL) (n T:Nat) (ts:List Ti) (as:Nat->List af) (R:Nat->Nat->List Int) (x y:Nat),vs=[.ref p,.int x,.int y]/\zJ K C A/\KP C A H p dx a n T ts as R/\n<=200/\x<n/\y<n/\x≠y/\(((min x y:Nat):Int),((max x y:Nat):Int))∉ts.map Ti.key/\ts.length<99 /\
 ∀ b ts' as' R' H',KP C A H' p dx a n T ts' as' R'->ts'.map Ti.key=ts.map Ti.key++[(((min x y:Nat):Int),((max x y:Nat):Int))]->Fm (p::fp a) H H'->Q (.bl b) H'
theorem A4 {K:aa}{C:af}{A:CA}:∀ vs H Q E,dm K C A vs H Q E->vs.length=3:=by
 rintro vs H Q E ⟨p,dx,a,n,T,ts,as,R,x,y,rfl,_⟩;rfl
theorem A5 {K:aa}{C:af}{A:CA}:∀ vs H Q E,dm K C A vs H Q E->n0 K C A (d8 K C A) (iK K C) { nx:=λ_ H'=>Q .non H',rt:=Q } (start ["self","a","b"] vs) H:=by
 rintro vs H Q E ⟨p,dx,a,n,T,ts,as,R,x,y,rfl,ct,h,hn,hx,hy,hxy,hk,hl,k⟩
 obtain ⟨w,c1,c2,c3,c4,hw,hp⟩:=h.ob
 unfold n0
 walk_at "x"
 refine dD ?_
 walk_at "x"
 refine ⟨p,dx,_,rfl,hp,HR,?_⟩
 walk_at "x"
 refine cY ?_
 walk_at "x"
 refine ⟨p,A.Keeper,dx,_,_,rfl,hp,ct.kc,ct.k1,Uz,?_⟩
 walk_at "x"
 refine cY ?_
 refine cY ?_
 walk_at "x"
 refine ⟨p,A.Keeper,dx,_,_,rfl,hp,ct.kc,ct.k2,RB,?_⟩
 refine ⟨a.q,A.Levels,a.dq,_,_,rfl,h.lv.ob,ct.lc,ct.l1,L0,?_⟩
 walk_at "x"
 refine ⟨n,x,y,a.d1,kl ts,rfl,hx,hy,hxy,h.lv.e1,ES hk,λt ht=>?_⟩
 have S1:=Same.upd_new (o:=.tup [.int (min x y:Nat),.int (max x y:Nat)]) ht
 have g1:(upd H t (.tup [.int (min x y:Nat),.int (max x y:Nat)])) t=_:=aD
 generalize upd H t (.tup [.int (min x y:Nat),.int (max x y:Nat)])=H1 at S1 g1
 walk_at "x"
 exact ⟨p,dx,a,n,T,ts,as,R,t,min x y,max x y,rfl,ct,h.same S1,hn,by omega,by omega,g1,hk,hl,λb ts' as' R' H' h' hk' F'=>k b ts' as' R' H' h' hk' ((Fm.of S1).trans F')⟩
def bR (K:aa) (C:af) (A:CA):Sp:=λvs H Q _=>∃ (p dx:af) (a:AL) (n T:Nat) (ts:List Ti) (as:Nat->List af) (R:Nat->Nat->List Int) (x y:Nat),vs=[.ref p,.int x,.int y]/\zJ K C A/\KP C A H p dx a n T ts as R/\x<n/\y<n/\Q (.bl (decide ((y:Int)∈R 0 x))) H
theorem y8 {K:aa}{C:af}{A:CA}:∀ vs H Q E,bR K C A vs H Q E->vs.length=3:=by
 rintro vs H Q E ⟨p,dx,a,n,T,ts,as,R,x,y,rfl,_⟩;rfl
theorem y9 {K:aa}{C:af}{A:CA}:∀ vs H Q E,bR K C A vs H Q E->m6 K C A (a8 K C) { nx:=λ_ H'=>Q .non H',rt:=Q } (start ["self","a","b"] vs) H:=by
 rintro vs H Q E ⟨p,dx,a,n,T,ts,as,R,x,y,rfl,ct,h,hx,hy,k⟩
 obtain ⟨w,c1,c2,c3,c4,hw,hp⟩:=h.ob
 have W:=h.lv.wa 0 w hw
 unfold m6
 walk_at "x"
 refine dD ?_
 refine cY ?_
 walk_at "x"
 refine ⟨p,A.Keeper,dx,_,_,rfl,hp,ct.kc,ct.k3,UA,?_⟩
 refine ⟨w.1,w.2.1,_,rfl,W.ob,jV _ _ (by decide +kernel) (by decide +kernel),?_⟩
 walk_at "x"
 exact ⟨w.1,w.2.1,w.2.2,n,x,y,as 0,R 0,rfl,ct.w,W,h.iv.wd 0 (a9 _),hx,hy,k⟩
def eL (K:aa) (C:af) (A:CA):Sp:=λvs H Q _=>∃ (p dx:af) (a:AL) (n T:Nat) (ts:List Ti) (as:Nat->List af) (R:Nat->Nat->List Int) (x y:Nat),vs=[.ref p,.int x,.int y]/\zJ K C A/\KP C A H p dx a n T ts as R/\n<=60/\x<n/\y<n /\
 ((y:Int)∉R 0 x->Q .non H)/\((y:Int)∈R 0 x->∀ q H' v,Same H H'->H q=none->H' q=some (.lst (v.map V.int))->RY (R 0 x) x y v->Q (.ref q) H')
theorem EX {K:aa}{C:af}{A:CA}:∀ vs H Q E,eL K C A vs H Q E->vs.length=3:=by
 rintro vs H Q E ⟨p,dx,a,n,T,ts,as,R,x,y,rfl,_⟩;rfl
theorem EY {K:aa}{C:af}{A:CA}:∀ vs H Q E,eL K C A vs H Q E->qC K C A (hU K C) { nx:=λ_ H'=>Q .non H',rt:=Q } (start ["self","a","b"] vs) H:=by
 rintro vs H Q E ⟨p,dx,a,n,T,ts,as,R,x,y,rfl,ct,h,hn,hx,hy,k1,k2⟩
 obtain ⟨w,c1,c2,c3,c4,hw,hp⟩:=h.ob
 have W:=h.lv.wa 0 w hw
 unfold qC
 walk_at "x"
 refine dD ?_
 refine cY ?_
 walk_at "x"
 refine ⟨p,A.Keeper,dx,_,_,rfl,hp,ct.kc,ct.k3,UA,?_⟩
 refine ⟨w.1,w.2.1,_,rfl,W.ob,jV _ _ (by decide +kernel) (by decide +kernel),?_⟩
 walk_at "x"
 exact ⟨w.1,w.2.1,w.2.2,n,x,y,as 0,R 0,rfl,ct.w,W,h.iv.wd 0 (a9 _),hn,hx,hy,k1,k2⟩
def eC (K:aa) (C:af) (A:CA):Sp:=λvs H Q _=>∃ (p dx:af) (a:AL) (n T:Nat) (ts:List Ti) (as:Nat->List af) (R:Nat->Nat->List Int) (x:Nat),vs=[.ref p,.int x]/\zJ K C A/\KP C A H p dx a n T ts as R/\n<=60/\x<n /\
 ∀ q (ks:List Int),H q=none->ks.Pairwise (· < ·)->(∀ z,z∈ks↔z∈R 0 x)->Q (.ref q) (upd H q (.lst (ks.map V.int)))
theorem Ci {K:aa}{C:af}{A:CA}:∀ vs H Q E,eC K C A vs H Q E->vs.length=2:=by
 rintro vs H Q E ⟨p,dx,a,n,T,ts,as,R,x,rfl,_⟩;rfl
theorem Cj {K:aa}{C:af}{A:CA}:∀ vs H Q E,eC K C A vs H Q E->ph K C A (cJ K C) { nx:=λ_ H'=>Q .non H',rt:=Q } (start ["self","a"] vs) H:=by
 rintro vs H Q E ⟨p,dx,a,n,T,ts,as,R,x,rfl,ct,h,hn,hx,k⟩
 obtain ⟨w,c1,c2,c3,c4,hw,hp⟩:=h.ob
 have W:=h.lv.wa 0 w hw
 have D:=h.iv.wd 0 (a9 _)
 have hlen:=D.len hx
 unfold ph
 walk_at "x"
 refine dD ?_
 refine cY ?_
 walk_at "x"
 refine ⟨p,A.Keeper,dx,_,_,rfl,hp,ct.kc,ct.k3,UA,?_⟩
 refine ⟨w.1,w.2.1,_,rfl,W.ob,jV _ _ (by decide +kernel) (by decide +kernel),?_⟩
 walk_at "x"
 exact ⟨w.1,w.2.1,w.2.2,n,x,as 0,R 0,rfl,ct.w,W,D,by omega,hx,k⟩
def e9 (K:aa) (C:af) (A:CA) (Pt:af):Sp:=λvs H Q _=>∃ (p dx:af) (a:AL) (n T:Nat) (ts:List Ti) (as:Nat->List af) (R:Nat->Nat->List Int) (x y:Nat),vs=[.ref p,.int x,.int y]/\zJ K C A/\KP C A H p dx a n T ts as R/\n<=60/\x<n/\y<n/\x≠y/\(((min x y:Nat):Int),((max x y:Nat):Int))∈ts.map Ti.key/\ts.length<64/\LT1 Pt H /\
 ∀ v ts' as' R' H',KP C A H' p dx a n T ts' as' R'->ts'.map Ti.key=(ts.map Ti.key).filter (λk=>decide (k≠(((min x y:Nat):Int),((max x y:Nat):Int))))->LT1 Pt H'->Fm (p::Pt::fp a) H H'->Q v H'
theorem EZ {K:aa}{C:af}{A:CA}{Pt:af}:∀ vs H Q E,e9 K C A Pt vs H Q E->vs.length=3:=by
 rintro vs H Q E ⟨p,dx,a,n,T,ts,as,R,x,y,rfl,_⟩;rfl
theorem E1 {K:aa}{C:af}{A:CA}{Pt:af}:∀ vs H Q E,e9 K C A Pt vs H Q E->qB K C A (d7 K C) (jK K C) (eQ K C A Pt) (lB K C) (fU K C) (cq K C A) { nx:=λ_ H'=>Q .non H',rt:=Q } (start ["self","a","b","tie","trail"] vs) H:=by
 rintro vs H Q E ⟨p,dx,a,n,T,ts,as,R,x,y,rfl,ct,h,hn,hx,hy,hxy,hk,hl,hP,k⟩
 obtain ⟨w,c1,c2,c3,c4,hw,hp⟩:=h.ob
 obtain ⟨u,hu,eu⟩:=br.mp hk
 obtain ⟨eu1,eu2⟩:=cE eu
 have eu1:u.x=min x y:=by omega
 have eu2:u.y=max x y:=by omega
 have nPp:p≠Pt:=hP.ne hp (λ_ z=>nomatch z)
 unfold qB
 walk_at "x"
 refine cY ?_
 walk_at "x"
 refine ⟨p,A.Keeper,dx,_,_,rfl,hp,ct.kc,ct.k1,Uz,?_⟩
 walk_at "x"
 refine cY ?_
 refine cY ?_
 walk_at "x"
 refine ⟨p,A.Keeper,dx,_,_,rfl,hp,ct.kc,ct.k2,RB,?_⟩
 refine ⟨a.q,A.Levels,a.dq,_,_,rfl,h.lv.ob,ct.lc,ct.l1,L0,?_⟩
 walk_at "x"
 refine ⟨n,x,y,a.d1,kl ts,rfl,hx,hy,hxy,h.lv.e1,by rw [← eu1,← eu2,il h.iv.nd hu];rfl,λt ht=>?_⟩
 rw [← eu1,← eu2]
 have S1:=Same.upd_new (o:=.tup [.int (u.x:Nat),.int (u.y:Nat)]) ht
 have g1:(upd H t (.tup [.int (u.x:Nat),.int (u.y:Nat)])) t=_:=aD
 generalize upd H t (.tup [.int (u.x:Nat),.int (u.y:Nat)])=H1 at S1 g1
 have L1:=h.lv.same S1
 have p1:=S1 _ _ hp
 walk_at "x"
 refine wz ?_
 walk_at "x"
 refine ⟨p,A.Keeper,dx,_,_,rfl,p1,ct.kc,ct.k7,fK7,?_⟩
 walk_at "x"
 refine cY ?_
 walk_at "x"
 refine ⟨p,A.Keeper,dx,_,_,rfl,p1,ct.kc,ct.k1,Uz,?_⟩
 walk_at "x"
 refine dD ?_
 refine cY ?_
 walk_at "x"
 refine ⟨p,A.Keeper,dx,_,_,rfl,p1,ct.kc,ct.k2,RB,?_⟩
 refine ⟨a.q,a.dq,_,rfl,L1.ob,Qe (by decide +kernel) (by decide +kernel) (by decide +kernel) (by decide +kernel),?_⟩
 walk_at "x"
 refine ⟨a.q,a.dq,a.d1,a.d2,a.d3,a.L,t,kl ts,kw ts,u.x,u.y,_,_,rfl,ct,L1.ob,.inl L1.e1,.inl L1.e2,g1,il (f:=λt=>V.int t.lev) h.iv.nd hu,il (f:=λt=>V.bl t.wd) h.iv.nd hu,λr hr=>?_⟩
 have S2:=Same.upd_new (o:=.tup [.int u.x,.int u.y,.int u.lev,.bl u.wd]) hr
 have g2:(upd H1 r (.tup [.int u.x,.int u.y,.int u.lev,.bl u.wd])) r=_:=aD
 generalize upd H1 r (.tup [.int u.x,.int u.y,.int u.lev,.bl u.wd])=H2 at S2 g2
 walk_at "x"
 refine ⟨b0 (m:=1) (aw 1),λl hl3=>?_⟩
 have S3:=Same.upd_new (o:=.lst [.ref r]) hl3
 have g3:(upd H2 l (.lst [.ref r])) l=_:=aD
 generalize upd H2 l (.lst [.ref r])=H3 at S3 g3
 walk_at "x"
 refine ⟨n,l,r,u.x,u.y,u.lev,u.wd,rfl,g3,S3 _ _ g2,λc H4 S4=>?_⟩
 have S14:Same H H4:=((S1.trans S2).trans S3).trans S4
 have p4:=S14 _ _ hp
 have L4:=h.lv.same S14
 have t4:=S4 _ _ (S3 _ _ (S2 _ _ g1))
 refine ⟨c4,c,rfl,rfl,dx,_,p4,TQ,?_⟩
 rw [UE]
 have L5:=L4.inst (o:=.ins A.Keeper dx (fK n a.q w.1 c1 c2 c3 (c4+c))) p4 HR HR
 have p5:(upd H4 p (.ins A.Keeper dx (fK n a.q w.1 c1 c2 c3 (c4+c)))) p=_:=aD
 have t5:(upd H4 p (.ins A.Keeper dx (fK n a.q w.1 c1 c2 c3 (c4+c)))) t=_:=(aJ (iA t4 p4 (by intro z;cases z))).trans t4
 have P5:LT1 Pt (upd H4 p (.ins A.Keeper dx (fK n a.q w.1 c1 c2 c3 (c4+c)))):=(hP.same S14).keep λb o _ _ h3 _ e=>by rw [aJ];exact e;rintro rfl;rw [p4] at e;cases e;exact h3 _ _ _ rfl
 have F5:Fm (p::Pt::fp a) H (upd H4 p (.ins A.Keeper dx (fK n a.q w.1 c1 c2 c3 (c4+c)))):=(Fm.of S14).trans (Fm.upd aq)
 generalize upd H4 p (.ins A.Keeper dx (fK n a.q w.1 c1 c2 c3 (c4+c)))=H5 at L5 p5 t5 P5 F5
 dsimp only
 walk_at "x"
 refine dD ?_
 refine cY ?_
 walk_at "x"
 refine ⟨p,A.Keeper,dx,_,_,rfl,p5,ct.kc,ct.k2,RB,?_⟩
 refine ⟨a.q,a.dq,_,rfl,L5.ob,Qe (by decide +kernel) (by decide +kernel) (by decide +kernel) (by decide +kernel),?_⟩
 walk_at "x"
 have hT8:=h.tp.small (by omega)
 refine ⟨a,n,T,ts,as,R,t,u,rfl,ct,L5,hn,by omega,h.tp.hi,h.iv,h.jn,hu,t5,hl,P5,λq us ts' as' R' H6 hq gq oks hlu L6 V6 J6 hk6 P6 F6=>?_⟩
 have p6:=F6 _ _ (λz=>(ak.mp z).elim nPp (L5.outI p5)) p5
 walk_at "x"
 refine wz ?_
 walk_at "x"
 refine ⟨p,A.Keeper,dx,_,_,rfl,p6,ct.kc,ct.k5,fK5,?_⟩
 walk_at "x"
 refine ⟨q,us,rfl,gq,oks,hlu,λc' H7 S7=>?_⟩
 have p7:=S7 _ _ p6
 refine ⟨c2,c',rfl,rfl,dx,_,p7,TQ,?_⟩
 rw [UC]
 have L8:=(L6.same S7).inst (o:=.ins A.Keeper dx (fK n a.q w.1 c1 (c2+c') c3 (c4+c))) p7 HR HR
 have p8:(upd H7 p (.ins A.Keeper dx (fK n a.q w.1 c1 (c2+c') c3 (c4+c)))) p=_:=aD
 have n8:∀ {b:af}{o:HO},H7 b=some o->(∀ x y z,o≠.ins x y z)->(upd H7 p (.ins A.Keeper dx (fK n a.q w.1 c1 (c2+c') c3 (c4+c)))) b=some o:=λ{b o} e hno=>by rw [aJ];exact e;rintro rfl;rw [p7] at e;cases e;exact hno _ _ _ rfl
 have F8:Fm (p::Pt::fp a) H (upd H7 p (.ins A.Keeper dx (fK n a.q w.1 c1 (c2+c') c3 (c4+c)))):=((F5.trans F6.tail).trans (Fm.of S7)).trans (Fm.upd aq)
 generalize upd H7 p (.ins A.Keeper dx (fK n a.q w.1 c1 (c2+c') c3 (c4+c)))=H8 at L8 p8 n8 F8
 dsimp only
 walk_at "x"
 refine wz ?_
 walk_at "x"
 refine ⟨p,A.Keeper,dx,_,_,rfl,p8,ct.kc,ct.k6,fK6,?_⟩
 walk_at "x"
 refine ⟨q,us,rfl,n8 (S7 _ _ gq) (λ_ _ _ z=>nomatch z),λv hv=>⟨n8 (S7 _ _ (oks v hv).1) (λ_ _ _ z=>nomatch z),n8 (S7 _ _ (oks v hv).2) (λ_ _ _ z=>nomatch z)⟩,hlu,λc'' H9 S9=>?_⟩
 have p9:=S9 _ _ p8
 refine ⟨c3,c'',rfl,rfl,dx,_,p9,TQ,?_⟩
 rw [UD]
 dsimp only
 walk_at "x"
 refine k _ ts' as' R' _ ⟨⟨w,_,_,_,_,hw,aD⟩,(L8.same S9).inst p9 HR HR,V6,J6,h.tp⟩ ?_ ?_ ((F8.trans (Fm.of S9)).trans (Fm.upd aq))
 ·rw [hk6,← eu1,← eu2,uP];rfl
 ·refine ((P6.same S7).keep λb o _ _ h3 _ e=>S9 _ _ (n8 e h3)).keep λb o _ _ h3 _ e=>?_
  rw [aJ];exact e;rintro rfl;rw [p9] at e;cases e;exact h3 _ _ _ rfl
end K39
namespace K39
open Rm
theorem Ny {α β:Type} {f:α->β}{m l:List β}(h:m.Perm l):∀ us:List α,m=us.map f->∃ us':List α,us'.Perm us/\l=us'.map f:=by
 induction h with
 | nil=>exact λus e=>⟨us,.refl _,e⟩
 | cons x _ ih =>
  intro us e
  match us,e with
  | u::us,e =>
   obtain ⟨e1,e2⟩:=oh e
   obtain ⟨us',h1,h2⟩:=ih us e2
   exact ⟨u::us',h1.cons u,by rw [e1,h2];rfl⟩
 | swap x y l =>
  intro us e
  match us,e with
  | u::v::us,e =>
   obtain ⟨e1,e2⟩:=oh e
   obtain ⟨e2,e3⟩:=oh e2
   exact ⟨v::u::us,.swap _ _ _,by rw [e1,e2,e3];rfl⟩
 | trans _ _ ih1 ih2 =>
  intro us e
  obtain ⟨us1,h1,e1⟩:=ih1 us e
  obtain ⟨us2,h2,e2⟩:=ih2 us1 e1
  exact ⟨us2,h2.trans h1,e2⟩
def Hf (H:Hp) (u:Ti×af):Prop:=H u.2=some (.tup [.int u.1.x,.int u.1.y,.int u.1.lev,.bl u.1.wd])
def Nz (u:Ti×af):V:=.ref u.2
def qH (K:aa) (C:af) (A:CA):Sp:=λvs H Q _=>∃ (p dx:af) (a:AL) (n T:Nat) (ts:List Ti) (as:Nat->List af) (R:Nat->Nat->List Int),vs=[.ref p]/\zJ K C A/\KP C A H p dx a n T ts as R/\ts.length<64 /\
 ∀ (q:af) (us:List (Ti×af)) (o:fR) (H':Hp),H q=none->H' q=some (.lst (us.map Nz))->(∀ u∈us,Hf H' u)->(us.map (·.1)).Perm ts->H' a.d1=some (.frz o (.dT (kl ts)))->SameBut1 a.d1 H H'->Q (.ref q) H'
def fA (K:aa) (C:af) (A:CA):Sp:=λvs H Q _=>∃ (p dx:af) (a:AL) (n T:Nat) (ts:List Ti) (as:Nat->List af) (R:Nat->Nat->List Int),vs=[.ref p]/\zJ K C A/\KP C A H p dx a n T ts as R/\ts.length<64 /\
 ∀ (q:af) (us:List (Ti×af)) (H':Hp),H q=none->H' q=some (.lst (us.map Nz))->(∀ u∈us,Hf H' u)->(us.map (·.1)).Perm ts->Same H H'->Q (.ref q) H'
theorem A6 {K:aa}{C:af}{A:CA}:∀ vs H Q E,qH K C A vs H Q E->vs.length=1:=by
 rintro vs H Q E ⟨p,dx,a,n,T,ts,as,R,rfl,_⟩;rfl
theorem A7 {K:aa}{C:af}{A:CA}:∀ vs H Q E,fA K C A vs H Q E->qH K C A vs H (M3 H Q) E:=by
 rintro vs H Q E ⟨p,dx,a,n,T,ts,as,R,rfl,ct,h,hl,k⟩
 refine ⟨p,dx,a,n,T,ts,as,R,rfl,ct,h,hl,λq us o H' hq gq fl pm gd B=>.inr ⟨a.d1,o,kl ts,(λo' u' e=>by rw [h.lv.e1] at e;cases e),gd,?_⟩⟩
 have hqd:q≠a.d1:=Ne.symm (aN h.lv.e1 hq)
 refine k q us _ hq (by rw [aJ hqd];exact gq) (λu hu=>(aJ (iA (fl u hu) gd (by intro z;cases z))).trans (fl u hu)) pm λb ob e=>?_
 by_cases hb:b=a.d1
 ·subst hb;rw [aD,← h.lv.e1,e]
 ·rw [aJ hb];exact B _ _ e hb
theorem A8 {K:aa}{C:af}{A:CA}:∀ vs H Q E,qH K C A vs H Q E->pj K C A (cq K C A) { nx:=λ_ H'=>Q .non H',rt:=Q } (start ["self"] vs) H:=by
 rintro vs H Q E ⟨p,dx,a,n,T,ts,as,R,rfl,ct,h,hl,k⟩
 obtain ⟨w,c1,c2,c3,c4,hw,hp⟩:=h.ob
 have hnd:=h.iv.nd
 unfold pj
 walk_at "x"
 refine M0 ?_
 refine cY ?_
 refine cY ?_
 walk_at "x"
 refine ⟨p,A.Keeper,dx,_,_,rfl,hp,ct.kc,ct.k2,RB,?_⟩
 refine ⟨a.q,A.Levels,a.dq,_,_,rfl,h.lv.ob,ct.lc,ct.l1,L0,?_⟩
 refine ⟨a.d1,kl ts,rfl,.inl ⟨h.lv.e1,λo=>?_⟩⟩
 have g1:(upd H a.d1 (.frz o (.dT (kl ts)))) a.d1=some (.frz o (.dT (kl ts))):=aD
 have B1:SameBut1 a.d1 H (upd H a.d1 (.frz o (.dT (kl ts)))):=SameBut1.upd
 generalize upd H a.d1 (.frz o (.dT (kl ts)))=H1 at g1 B1
 have p1:=B1 _ _ hp (iA hp h.lv.e1 (by intro z;cases z))
 have q1:=B1 _ _ h.lv.ob (iA h.lv.ob h.lv.e1 (by intro z;cases z))
 have w1:=B1 _ _ h.lv.e2 (Ne.symm h.lv.n12)
 intro acc hacc
 refine oX (n:=ts.length) (λt ys H4=>H4 acc=some (.lst ys)/\Same H1 H4/\∃ us:List (Ti×af),ys=us.map Nz/\us.map (·.1)=ts.take t/\∀ u∈us,Hf H4 u) (λσ=>∃ o,σ=[o,some (.ref p)]) ⟨aD,Same.upd_new hacc,[],rfl,rfl,λz hz=>nomatch hz⟩ ⟨_,rfl⟩ ?_ ?_ ?_ ?_
 ·rintro t ys H4 ⟨e,_⟩;exact e
 ·rintro ys H4 ⟨g4,S4,us,rfl,hu,fl⟩
  refine ⟨⟨by rw [qG];exact aw _,S4 _ _ g1⟩,?_⟩
  rw [bY (aw _)] at hu
  have hul:us.length=ts.length:=by have:=congrArg ft hu;simpa using this
  walk_at "x"
  refine ⟨acc,us.map (λu=>([(u.1.x:Int),(u.1.y:Int),(u.1.lev:Int),b2i u.1.wd],u.2)),[false,false,true],rfl,by rw [cW];exact SqL.of g4,λz hz=>?_,by rw [aj];omega,λl zs' hl4 hperm _=>?_⟩
  ·obtain ⟨u,hum,rfl⟩:=br.mp hz
   exact ⟨_,fl u hum,.int _ (.int _ (.int _ (.bl _ .nil)))⟩
  obtain ⟨us',hp',rfl⟩:=Ny hperm.symm us rfl
  have hlf:H l=none:=by
   cases z:H l with
   | none=>rfl
   | some ob =>
    by_cases hb:l=a.d1
    ·rw [hb,S4 _ _ g1] at hl4;cases hl4
    ·rw [S4 _ _ (B1 _ _ z hb)] at hl4;cases hl4
  have U:∀ {b:af}{u:HO}{xs:List V},H4 b=some u->(upd H4 l (.lst xs)) b=some u:=λe=>by rw [aJ (aN e hl4)];exact e
  refine k l us' o _ hlf (by rw [aD,cW];rfl) (λu hum=>U (fl u (hp'.mem_iff.mp hum))) (by rw [← hu];exact hp'.map _) (U (S4 _ _ g1)) λb ob e hb=>U (S4 _ _ (B1 _ _ e hb))
 ·rintro t ys H4 ht ⟨_,S4,_⟩;exact ⟨by rw [qG];exact ht,S4 _ _ g1⟩
 ·rintro t ys σ' H4 x H5 ht ⟨g4,S4,us,rfl,hu,fl⟩ ⟨o',rfl⟩ ⟨eH,key,v,b,hk,ex,hb⟩
  subst eH ex
  obtain ⟨u,hu',eu⟩:∃ u,ts[t]?=some u/\(pk u.x u.y,V.int u.lev)=(key,v):=by
   have hk:(ts.map λt=>(pk t.x t.y,V.int t.lev))[t]?=some (key,v):=hk
   rw [ay] at hk
   exact bc.mp hk
  cases eu
  have hum:=aG hu'
  walk_at "x"
  refine qi ?_
  refine dD ?_
  refine cY ?_
  walk_at "x"
  refine ⟨p,A.Keeper,dx,_,_,rfl,S4 _ _ p1,ct.kc,ct.k2,RB,?_⟩
  refine ⟨a.q,a.dq,_,rfl,S4 _ _ q1,Qe (by decide +kernel) (by decide +kernel) (by decide +kernel) (by decide +kernel),?_⟩
  walk_at "x"
  refine ⟨a.q,a.dq,a.d1,a.d2,a.d3,a.L,b,kl ts,kw ts,u.x,u.y,_,_,rfl,ct,S4 _ _ q1,.inr ⟨o,S4 _ _ g1⟩,.inl (S4 _ _ w1),hb,il (f:=λt=>V.int t.lev) hnd hum,il (f:=λt=>V.bl t.wd) hnd hum,λr hr=>?_⟩
  have T:=Same.upd_new (o:=.tup [.int u.x,.int u.y,.int u.lev,.bl u.wd]) hr
  have gr:(upd H5 r (.tup [.int u.x,.int u.y,.int u.lev,.bl u.wd])) r=some (.tup [.int u.x,.int u.y,.int u.lev,.bl u.wd]):=aD
  generalize upd H5 r (.tup [.int u.x,.int u.y,.int u.lev,.bl u.wd])=H6 at T gr
  have hul:us.length=t:=by
   have:=congrArg ft hu
   rw [aj,bw] at this
   omega
  refine ⟨T _ _ g4,eG (m:=100) (by rw [aj];omega),CNext.mk' ht ⟨_,rfl⟩ ⟨aD,λb' ob e=>by rw [aJ (aN e hacc)];exact T _ _ (S4 _ _ e),us++[(u,r)],by simp [Nz],?_,λz hz'=>?_⟩⟩
  ·rw [aV,hu,gP,hu'];rfl
  ·have tn:∀ {z:Ti×af},Hf H6 z->Hf (upd H6 acc (.lst (us.map Nz++[.ref r]))) z:=λ{z} e=>(aJ (iA e (T _ _ g4) (by intro z;cases z))).trans e
   rcases aP.mp hz' with hz'|hz'
   ·exact tn (T _ _ (fl z hz'))
   ·rw [aC.mp hz'];exact tn gr
end K39
namespace K39
def bB (K:aa) (C:af):Sp:=λvs H Q _=>∃ (a:af) (ns:List Int) (k:Nat),vs=[.ref a,.int k]/\SqL K H a (ns.map V.int)/\∀ z:Int,Q (.int z) H
theorem xR {K:aa}{C:af}:∀ vs H Q E,bB K C vs H Q E->vs.length=2:=by
 rintro vs H Q E ⟨a,ns,k,rfl,_⟩;rfl
theorem xS {K:aa}{C:af}:∀ vs H Q E,bB K C vs H Q E->lE K C { nx:=λ_ H'=>Q .non H',rt:=Q } (start ["_law_script","_law_k"] vs) H:=by
 rintro vs H Q E ⟨a,ns,k,rfl,hS,q⟩
 unfold lE
 walk_at "x"
 refine u7 hS ?_
 walk_at "x"
 refine zE (λh=>?_) λh=>?_
 ·walk_at "x"
  have hk:k<ns.length:=by omega
  refine rg hS rfl (ar hk) ?_
  exact q _
 ·walk_at "x"
  exact q _
end K39
namespace K39
open Rm
def fo (K:aa) (C:af):Sp:=λvs H Q _=>∃ i:Int,vs=[.int i]/\Q (.bl true) H
theorem A9 {K:aa}{C:af}:∀ vs H Q E,fo K C vs H Q E->vs.length=1:=by
 rintro vs H Q E ⟨i,rfl,_⟩;rfl
theorem Ba {K:aa}{C:af}:∀ vs H Q E,fo K C vs H Q E->nV K C { nx:=λ_ H'=>Q .non H',rt:=Q } (start ["_law_found"] vs) H:=by
 rintro vs H Q E ⟨i,rfl,k⟩
 unfold nV
 walk_at "x"
 refine Dv (.int i) MK ?_
 walk_at "x"
 refine qi ?_
 walk_at "x"
 refine Dv (.int i) ML ?_
 walk_at "x"
 exact k
def bU (K:aa) (C:af):Sp:=λvs H Q _=>∃ (a:af) (ns:List Int),vs=[.ref a]/\H a=some (.lst (ns.map V.int))/\ns.length<=1000/\∀ H',Same H H'->Q (.bl true) H'
theorem za {K:aa}{C:af}:∀ vs H Q E,bU K C vs H Q E->vs.length=1:=by
 rintro vs H Q E ⟨a,ns,rfl,_⟩;rfl
theorem NA {α:Type} (ns:List α):((ns.map λ_=>true).all id)=true:=by simp
theorem zb {K:aa}{C:af}:∀ vs H Q E,bU K C vs H Q E->mP K C (fo K C) { nx:=λ_ H'=>Q .non H',rt:=Q } (start ["_law_found"] vs) H:=by
 rintro vs H Q E ⟨a,ns,rfl,ha,hl,q⟩
 unfold mP
 walk_at "x"
 refine Dv (.lst ha) Rf ?_
 refine ⟨true,rfl,?_⟩
 refine j8 ?_
 walk_at "x"
 refine .inl ⟨⟨_,SqL.of ha⟩,?_⟩
 intro acc hacc
 refine zF (K:=K) (z:=a) (xs:=ns.map V.int) ns (λ_=>true) (λ_=>.bl true) (λσ=>∃ o,σ=[o]) (by simp) (SqL.of ha) hacc ⟨_,rfl⟩ (by rw [aj];omega) ?_ ?_
 ·rintro i n x σ' H' G G' hn hx S' ⟨o,rfl⟩ g1 g2
  have ex:x=.int n:=by rw [ay,hn] at hx;exact (aS hx).symm
  subst ex
  walk_at "x"
  refine qi ?_
  walk_at "x"
  exact ⟨n,rfl,g1 rfl _ ⟨_,rfl⟩⟩
 ·rintro H' S' hH
  walk_at "x"
  have e:(ns.filter λ_=>true).map (λ_=>V.bl true)=(ns.map λ_=>true).map V.bl:=by rw [cW,Of.mpr (λ_ _=>rfl)];rfl
  rw [e] at hH
  refine SM (SqL.of hH) ?_
  rw [NA]
  exact q _ S'
end K39
namespace K39
open Rm
def dh (K:aa) (C:af):Sp:=λvs H Q _=>∃ (c base:Int) (many:Nat),vs=[.int c,.int base,.int many]/\0<base/\base<1073741824/\many<=1000 /\
 ∀ l H' ds,Same H H'->H l=none->H' l=some (.lst (List.map V.int ds))->ds.length=many->(∀ d∈ds,0<=d/\d<base)->Q (.ref l) H'
theorem zc {K:aa}{C:af}:∀ vs H Q E,dh K C vs H Q E->vs.length=3:=by
 rintro vs H Q E ⟨c,base,many,rfl,_⟩;rfl
theorem zd {K:aa}{C:af}:∀ vs H Q E,dh K C vs H Q E->mR K C { nx:=λ_ H'=>Q .non H',rt:=Q } (start ["_law_cell","_law_base","_law_many","_law_row","_law_k"] vs) H:=by
 rintro vs H Q E ⟨c,base,many,rfl,hb,hb2,hm,k⟩
 unfold mR
 walk_at "x"
 refine ⟨b0 (m:=0) (aw 0),λl hl0=>?_⟩
 have S0:=Same.upd_new (o:=.lst []) hl0
 walk_at "x"
 unfold rH
 walk_at "x"
 refine ⟨by omega,by omega,tZ (λi σ H1=>∃ (c':Int) (ds:List Int) (o4:Option V),σ=[some (.int c'),some (.int base),some (.int many),some (.ref l),o4]/\Same H H1/\H1 l=some (.lst (ds.map V.int))/\ds.length=i/\∀ d∈ds,0<=d/\d<base)
  ⟨c,[],_,rfl,S0,aD,rfl,(λd h=>nomatch h)⟩ ?_ ?_⟩
 ·rintro i σ H1 hi ⟨c',ds,o4,rfl,S,hL,hd,hB⟩
  walk_at "x"
  refine ⟨.inl ⟨rfl,_,SqL.of hL⟩,?_⟩
  walk_at "x"
  refine oq hL (eG (m:=2000) (by rw [aj];omega)) ?_
  walk_at "x"
  refine ⟨_,ds++[c'%base],_,rfl,λb o e=>?_,by rw [aD,aV];rfl,by rw [aX,hd];rfl,λd h=>?_⟩
  ·rw [aJ (aN e hl0)];exact S b o e
  ·rcases aP.mp h with h|h
   ·exact hB d h
   ·rw [aC.mp h]
    exact ⟨Sa _ (by omega),PL _ hb⟩
 ·rintro σ H1 ⟨c',ds,o4,rfl,S,hL,hd,hB⟩
  walk_at "x"
  exact k l H1 ds S hl0 hL (by omega) hB
theorem E3 (x:Int):vP (.int x):=⟨rfl,by simp [nC]⟩
theorem ug (S:List Int):vP (.list (S.map Mb)):=⟨by simp only [uU];exact eS _ (lK S),by have:=Aj S;simp only [nC];omega⟩
def eM (K:aa) (C:af):Sp:=λvs H Q _=>∃ (w l:af) (v:List Int) (zs:List Zt) (a b:Int),vs=[.ref w,.ref l,.int a,.int b]/\H w=some (.lst (v.map V.int))/\H l=some (.lst (zs.map oP))/\(∀ z∈zs,iI H z)/\v.length<=1000/\v.head?=some a/\v.getLast?=some b/\v.Nodup/\(∀ x y,(x,y)∈al v->(min x y,max x y)∈zs.map zP)/\∀ H',Same H H'->Q (.bl true) H'
theorem E4 {K:aa}{C:af}:∀ vs H Q E,eM K C vs H Q E->vs.length=4:=by
 rintro vs H Q E ⟨w,l,v,zs,a,b,rfl,_⟩;rfl
theorem E5 {K:aa}{C:af}:∀ vs H Q E,eM K C vs H Q E->qy K C (bU K C) { nx:=λ_ H'=>Q .non H',rt:=Q } (start ["_law_way_here","_law_wood","_law_a","_law_b","_law_k"] vs) H:=by
 rintro vs H Q E ⟨w,l,v,zs,a,b,rfl,hw,hl,pz,hlen,h1,h2,hnd,hst,k⟩
 obtain ⟨v0,vr,rfl⟩:∃ c r,v=c::r:=by
  cases v with
  | nil=>cases h1
  | cons c r=>exact ⟨c,r,rfl⟩
 have e0:v0=a:=aS h1
 unfold qy
 walk_at "x"
 refine ⟨w,v0::vr,rfl,hw,hlen,λH1 S1=>?_⟩
 have w1:=S1 _ _ hw
 refine ⟨_,rfl,j8 ?_⟩
 walk_at "x"
 refine u7 (SqL.of w1) ?_
 walk_at "x"
 refine zE (λc=>by have:=j9.mp c;simp at this;omega) λ_=>?_
 walk_at "x"
 refine rg (SqL.of w1) (j:=0) rfl rfl ?_
 walk_at "x"
 refine K3 (λc=>absurd (by rw [e0]) c) λ_=>?_
 walk_at "x"
 obtain ⟨vi,ev⟩:=List.getLast?_eq_some_iff.mp h2
 refine nA (SqL.of w1) (v:=.int b) (by rw [ev,aV];exact Ac _ _) ?_
 walk_at "x"
 refine K3 (λc=>absurd rfl c) λ_=>?_
 walk_at "x"
 refine Nh ?_
 walk_at "x"
 refine ⟨v0::vr,SqL.of w1,by omega,λks hk hm=>?_⟩
 have ekl:ks.length=(v0::vr).length:=(Pc hk hnd hm).length_eq
 rw [ekl]
 walk_at "x"
 refine u7 (SqL.of w1) ?_
 walk_at "x"
 refine K3 (λc=>absurd rfl c) λ_=>?_
 walk_at "x"
 unfold uR
 walk_at "x"
 refine u7 (SqL.of w1) ?_
 walk_at "x"
 have el:((((v0::vr).length:Nat):Int)-1).toNat=vr.length:=by simp
 have hlen':vr.length+1<=1000:=hlen
 have hc:(((v0::vr).length:Nat):Int)=(vr.length:Int)+1:=by simp
 refine ⟨by omega,by omega,?_⟩
 rw [el]
 refine tZ (λi σ H2=>Same H H2/\∃ o,σ=[some (.ref w),some (.ref l),some (.int a),some (.int b),o]) ⟨S1,_,rfl⟩ ?_ ?_
 ·rintro i σ H2 hi ⟨S2,o,rfl⟩
  have w2:=S2 _ _ hw
  have hi0:i<(v0::vr).length:=by simp;omega
  have hi1:i+1<(v0::vr).length:=by simp;omega
  have g0:=ar hi0
  have g1:=ar hi1
  have hal:=hst _ _ (aG (DD.mpr ⟨g0,g1⟩))
  generalize (v0::vr)[i]=c0 at g0 hal
  generalize (v0::vr)[i+1]=c1 at g1 hal
  have j0:(0:Int)+(i:Int)=(i:Int):=by omega
  have j1:(0:Int)+(i:Int)+1=((i+1:Nat):Int):=by omega
  walk_at "x"
  refine rg (SqL.of w2) (j:=i) j0 g0 ?_
  walk_at "x"
  refine rg (SqL.of w2) (j:=i+1) j1 g1 ?_
  walk_at "x"
  refine rg (SqL.of w2) (j:=i) j0 g0 ?_
  walk_at "x"
  refine rg (SqL.of w2) (j:=i+1) j1 g1 ?_
  walk_at "x"
  refine ⟨b0 (m:=2) (aw 2),λp hp=>?_⟩
  rw [show (if c1<c0 then c1 else c0)=min c0 c1 by rw [Int.min_def];split<;>split<;>omega,show (if c1>c0 then c1 else c0)=max c0 c1 by rw [Int.max_def];split<;>split<;>omega]
  have S3:=Same.upd_new (o:=.tup [.int (min c0 c1),.int (max c0 c1)]) hp
  have g3:(upd H2 p (.tup [.int (min c0 c1),.int (max c0 c1)])) p=_:=aD
  generalize upd H2 p (.tup [.int (min c0 c1),.int (max c0 c1)])=H3 at S3 g3
  have S13:=S2.trans S3
  walk_at "x"
  refine Ai (IR g3) (IQ (S13 _ _ hl) λz hz=>S13 _ _ (pz z hz)) (EE _) (eS _ (wo _)) ?_
  have hin:(((zs.map zP).map FV).any λe=>du e (FV (min c0 c1,max c0 c1)))=true:=by
   rw [KB,BH]
   exact ⟨_,hal,by simp [ED]⟩
  rw [hin]
  walk_at "x"
  refine j8 ?_
  walk_at "x"
  exact ⟨S13,_,rfl⟩
 ·rintro σ H2 ⟨S2,o,rfl⟩
  walk_at "x"
  exact k H2 S2
def kd (ps:List (Int×Int)):List (List ja×V):=ps.map λp=>([dY p.1,dY p.2],.bl true)
def qI (K:aa) (C:af):Sp:=λvs H Q _=>∃ (s d:af) (a:Int) (ks:List Int) (ps:List (Int×Int)),vs=[.ref s,.ref d,.int a]/\H s=some (.lst (ks.map V.int))/\ks.Pairwise (· < ·)/\ks.length<64/\a∈ks/\H d=some (.dT (kd ps))/\(∀ p∈ps,p.1∈ks↔p.2∈ks)/\∀ (o:fR) H',H' d=some (.frz o (.dT (kd ps)))->SameBut1 d H H'->Q (.bl true) H'
def fB (K:aa) (C:af):Sp:=λvs H Q _=>∃ (s d:af) (a:Int) (ks:List Int) (ps:List (Int×Int)),vs=[.ref s,.ref d,.int a]/\H s=some (.lst (ks.map V.int))/\ks.Pairwise (· < ·)/\ks.length<64/\a∈ks/\H d=some (.dT (kd ps))/\(∀ p∈ps,p.1∈ks↔p.2∈ks)/\∀ H',Same H H'->Q (.bl true) H'
theorem Bb {K:aa}{C:af}:∀ vs H Q E,qI K C vs H Q E->vs.length=3:=by
 rintro vs H Q E ⟨s,d,a,ks,ps,rfl,_⟩;rfl
theorem Bc {K:aa}{C:af}:∀ vs H Q E,fB K C vs H Q E->qI K C vs H (M3 H Q) E:=by
 rintro vs H Q E ⟨s,d,a,ks,ps,rfl,hs,h1,h2,h3,hd,h4,k⟩
 refine ⟨s,d,a,ks,ps,rfl,hs,h1,h2,h3,hd,h4,λo H' gd B=>.inr ⟨d,o,kd ps,(λo' u' e=>by rw [hd] at e;cases e),gd,k _ λb ob e=>?_⟩⟩
 by_cases hb:b=d
 ·subst hb;rw [aD,← hd,e]
 ·rw [aJ hb];exact B _ _ e hb
theorem Bd {K:aa}{C:af}:∀ vs H Q E,qI K C vs H Q E->pb K C (bU K C) { nx:=λ_ H'=>Q .non H',rt:=Q } (start ["_law_side_here","_law_ties","_law_a","_law_one","_law_other"] vs) H:=by
 rintro vs H Q E ⟨s,d,a,ks,ps,rfl,hs,hr,hl,ha,hd,hp,k⟩
 unfold pb
 walk_at "x"
 refine ⟨s,ks,rfl,hs,by omega,λH1 S1=>?_⟩
 have s1:=S1 _ _ hs
 refine ⟨_,rfl,j8 ?_⟩
 walk_at "x"
 refine Dz ?_
 walk_at "x"
 refine ⟨s,ks,rfl,SqL.of s1,by omega,⟨ks,hl,λ_ h=>h⟩,λq ks' hq h1 h2=>?_⟩
 have e:ks'=ks:=AB h1 hr h2
 subst e
 have S2:=Same.upd_new (o:=.lst (ks'.map V.int)) hq
 have g2:(upd H1 q (.lst (ks'.map V.int))) q=some (.lst (ks'.map V.int)):=aD
 generalize upd H1 q (.lst (ks'.map V.int))=H2 at S2 g2
 have s2:=S2 _ _ s1
 refine P8 (mw (SqL.of s2)) (mw (SqL.of g2)) (ug _) (ug _) ?_
 rw [RV _ (ug ks').lay]
 walk_at "x"
 refine j8 ?_
 walk_at "x"
 refine Ai (Rep.int a) (mw (SqL.of s2)) (E3 _) (eS _ (lK _)) ?_
 rw [any_ints,decide_eq_true ha]
 walk_at "x"
 refine j8 ?_
 have d2:=S2 _ _ (S1 _ _ hd)
 walk_at "x"
 unfold tH
 walk_at "x"
 refine M0 ?_
 walk_at "x"
 refine ⟨d,kd ps,rfl,.inl ⟨d2,λo=>?_⟩⟩
 have g3:(upd H2 d (.frz o (.dT (kd ps)))) d=some (.frz o (.dT (kd ps))):=aD
 have B3:SameBut1 d H (upd H2 d (.frz o (.dT (kd ps)))):=λb u e hb=>by rw [aJ hb];exact S2 _ _ (S1 _ _ e)
 have s3:(upd H2 d (.frz o (.dT (kd ps)))) s=some (.lst (ks'.map V.int)):=(aJ (iA s2 d2 (by intro z;cases z))).trans s2
 generalize upd H2 d (.frz o (.dT (kd ps)))=H3 at g3 B3 s3
 refine Rn (λi σ H4=>H4=H3/\∃ o1 o2,σ=[some (.ref s),some (.ref d),some (.int a),o1,o2]) ⟨rfl,_,_,rfl⟩ ?_ ?_ ?_
 ·rintro i σ H4 _ ⟨rfl,_⟩;exact g3
 ·rintro i key v b σ H4 hi hb ⟨rfl,o1,o2,rfl⟩
  obtain ⟨p,hpi,ep⟩:∃ p,ps[i]?=some p/\(([dY p.1,dY p.2]:List ja),V.bl true)=(key,v):=by
   unfold kd at hi
   rw [ay] at hi
   exact bc.mp hi
  cases ep
  have hiff:=hp p (aG hpi)
  have hb:H4 b=some (.tup [.int p.1,.int p.2]):=hb
  refine xB (.of hb) rfl ?_
  walk_at "x"
  refine J7 (Rep.int p.1) (mw (SqL.of s3)) (E3 _) (eS _ (lK _)) ?_
  walk_at "x"
  refine J7 (Rep.int p.2) (mw (SqL.of s3)) (E3 _) (eS _ (lK _)) ?_
  rw [any_ints,any_ints,decide_eq_decide.mpr hiff]
  refine .inl ⟨rfl,?_⟩
  walk_at "x"
  refine K3 (λc=>absurd rfl c) λ_=>?_
  walk_at "x"
  exact ⟨rfl,_,_,rfl⟩
 ·rintro σ H4 ⟨rfl,o1,o2,rfl⟩
  walk_at "x"
  exact k o H4 g3 B3
end K39
namespace K39
theorem tS {t u:TS}{D:sS}{σ:L2.St}{H:Hp}(P:L2.St->Hp->Prop) (rest:∀ σ' H',P σ' H'->u D σ' H') (h:(∀ σ' H',P σ' H'->u D σ' H')->t { D with nx:=u D } σ H):bX t u D σ H:=h rest
end K39
namespace K39
open Rm
structure Rw where
 (a b c d:Nat) (p:af)
def E6 (r:Rw):V:=.ref r.p
def Hg (n:Nat) (H:Hp) (r:Rw):Prop:=H r.p=some (.tup [.int r.a,.int r.b,.int r.c,.int r.d])/\r.a<n/\r.b<n/\r.c<n/\r.d<n
def Lu (r:Rw):iW:=.tuple [.int r.a,.int r.b,.int r.c,.int r.d]
theorem E7 {K:aa}{n:Nat}{H:Hp}:∀ {rs:List Rw},(∀ r∈rs,Hg n H r)->RepAll K H (rs.map Lu) (rs.map E6)
 | [],_=>.nil
 | r::rs,h=>.cons (.tup (.of (h r aq).1) (.cons (.int _) (.cons (.int _) (.cons (.int _) (.cons (.int _) .nil))))) (E7 λy hy=>h y (ag _ hy))
theorem DH:∀ rs:List Rw,iB (rs.map Lu)=true
 | []=>rfl
 | t::ts=>by simp only [bV,iB,gm];exact ⟨by simp [Lu,nG,iB],DH ts⟩
theorem DI:∀ rs:List Rw,fW (rs.map Lu)<=2
 | []=>by simp [fW]
 | t::ts=>by
  have:=DI ts
  simp only [bV,fW]
  have e:(Lu t).depth<=2:=by simp [Lu,nC,fW]
  omega
theorem Hh (rs:List Rw):vP (.list (rs.map Lu)):=⟨xC _ (by simp only [nG];exact DH rs),by have:=DI rs;simp only [nC];omega⟩
theorem pq {z:Int}{n:Nat}(hn:1<=n):∃ m:Nat,z%(n:Int)=(m:Int)/\m<n:=by
 have h1:=Sa z (b:=(n:Int)) (by omega)
 have h2:=PL z (b:=(n:Int)) (by omega)
 exact ⟨(z%n).toNat,by omega,by omega⟩
theorem Kn {z:Int}{n:Nat}(hn:1<=n) (h0:0<=z) (h1:z<(n:Int)*n):∃ m:Nat,z/(n:Int)=(m:Int)/\m<n:=by
 have a1:=Int.ediv_nonneg h0 (b:=(n:Int)) (by omega)
 have a2:=Int.ediv_lt_of_lt_mul (a:=z) (b:=(n:Int)) (c:=(n:Int)) (by omega) h1
 exact ⟨(z/n).toNat,by omega,by omega⟩
theorem RC {ta:TA}{σ:L2.St}{H:Hp}{R:It->Hp->Prop}(h:ta σ H λvs H1=>∃ i j:Int,vs=[.int i,.int j]/\(-(2^62)<=i/\i<2^62/\-(2^62)<=j/\j<2^62)/\R (Oz i (j-i).toNat) H1):Mm ta σ H R:=h
def cN (K:aa) (C:af):Sp:=λvs H Q _=>∃ (s:af) (ns:List Int) (n:Nat),vs=[.ref s,.int n]/\SqL K H s (ns.map V.int)/\1<=n/\n<=24 /\
 ∀ (l:af) (rs:List Rw) (H':Hp),Same H H'->H l=none->H' l=some (.lst (rs.map E6))->(∀ r∈rs,Hg n H' r)->rs.length<=41->Q (.ref l) H'
theorem vk {K:aa}{C:af}:∀ vs H Q E,cN K C vs H Q E->vs.length=2:=by
 rintro vs H Q E ⟨s,ns,n,rfl,_⟩;rfl
theorem vm {K:aa}{C:af}:∀ vs H Q E,cN K C vs H Q E->jU K C (dh K C) (bB K C) { nx:=λ_ H'=>Q .non H',rt:=Q } (start ["_law_script","_law_n","_law_deeds","_law_questions","_law_rows","_law_k"] vs) H:=by
 rintro vs H Q E ⟨s,ns,n,rfl,hS,hn1,hn2,k⟩
 have hnn:(0:Int)<(n:Int)*n/\(n:Int)*n<=576:=by
  have h1:(n:Int)<=24:=by omega
  have h2:(1:Int)<=n:=by omega
  constructor
  ·exact Int.mul_pos (by omega) (by omega)
  ·have:=Int.mul_le_mul h1 h1 (by omega) (by omega)
   omega
 unfold jU
 walk_at "x"
 refine ⟨s,ns,1,rfl,hS,λz1=>?_⟩
 walk_at "x"
 refine ⟨s,ns,2,rfl,hS,λz2=>?_⟩
 walk_at "x"
 obtain ⟨many,hmany,hm⟩:=pq (z:=z2) (n:=41) (by decide)
 rw [show z2%41=(many:Int) from hmany]
 refine ⟨z1,(n:Int)*n,many,rfl,hnn.1,by omega,by omega,λdl H1 ds S1 hdl hD hdn hdB=>?_⟩
 walk_at "x"
 refine ⟨s,ns,3,rfl,S1.seq hS,λz3=>?_⟩
 walk_at "x"
 refine ⟨z3,(n:Int)*n,41,rfl,hnn.1,by omega,by omega,λql H2 qs S2 hql hQ hqn hqB=>?_⟩
 walk_at "x"
 refine ⟨b0 (m:=0) (aw 0),λl hl0=>?_⟩
 have S3:=Same.upd_new (o:=.lst []) hl0
 have g3:(upd H2 l (.lst [])) l=some (.lst []):=aD
 generalize upd H2 l (.lst [])=H3 at S3 g3
 have d3:=S3 _ _ (S2 _ _ hD)
 have q3:=S3 _ _ hQ
 have hl1:H l=none:=S1.free (S2.free hl0)
 have ndl:dl≠l:=aN (S2 _ _ hD) hl0
 have nql:ql≠l:=aN hQ hl0
 walk_at "x"
 unfold oV
 walk_at "x"
 refine u7 (SqL.of d3) ?_
 walk_at "x"
 refine ⟨by omega,by omega,?_⟩
 rw [show ((ds.length:Nat):Int).toNat=ds.length by omega]
 refine tZ (λi σ H4=>∃ (rs:List Rw) (o:Option V),σ=[some (.ref s),some (.int n),some (.ref dl),some (.ref ql),some (.ref l),o]/\H4 l=some (.lst (rs.map E6))/\(∀ r∈rs,Hg n H4 r)/\rs.length=i/\SameBut1 l H3 H4) ⟨[],_,rfl,g3,(λr hr=>nomatch hr),rfl,SameBut1.refl _ _⟩ ?_ ?_
 ·rintro i σ H4 hi ⟨rs,o,rfl,g4,hrs,hlen,B⟩
  have d4:=B _ _ d3 ndl
  have q4:=B _ _ q3 nql
  have hi1:i<ds.length:=hi
  have hi2:i<qs.length:=by omega
  have gd:=ar hi1
  have gq:=ar hi2
  obtain ⟨bd1,bd2⟩:=hdB _ (dO hi1)
  obtain ⟨bq1,bq2⟩:=hqB _ (dO hi2)
  generalize ds[i]=d at gd bd1 bd2
  generalize qs[i]=q at gq bq1 bq2
  obtain ⟨a,ea,ha⟩:=Kn hn1 bd1 bd2
  obtain ⟨b,eb,hb⟩:=pq (z:=d) hn1
  obtain ⟨c,ec,hc⟩:=Kn hn1 bq1 bq2
  obtain ⟨e,ee,he⟩:=pq (z:=q) hn1
  have j0:(0:Int)+(i:Int)=(i:Int):=by omega
  walk_at "x"
  refine ⟨.inl ⟨rfl,_,SqL.of g4⟩,?_⟩
  walk_at "x"
  refine rg (SqL.of d4) (j:=i) j0 gd ?_
  walk_at "x"
  refine rg (SqL.of d4) (j:=i) j0 gd ?_
  walk_at "x"
  refine rg (SqL.of q4) (j:=i) j0 gq ?_
  walk_at "x"
  refine rg (SqL.of q4) (j:=i) j0 gq ?_
  walk_at "x"
  rw [ea,eb,ec,ee]
  refine ⟨b0 (m:=4) (aw 4),λp hp=>?_⟩
  have S5:=Same.upd_new (o:=.tup [.int a,.int b,.int c,.int e]) hp
  have g5:(upd H4 p (.tup [.int a,.int b,.int c,.int e])) p=_:=aD
  generalize upd H4 p (.tup [.int a,.int b,.int c,.int e])=H5 at S5 g5
  have l5:=S5 _ _ g4
  walk_at "x"
  refine oq l5 (eG (m:=100) (by rw [aj];omega)) ?_
  have tn:∀ {b:af}{xs ys:List V},H5 b=some (.tup xs)->(upd H5 l (.lst ys)) b=some (.tup xs):=λe=>(aJ (iA e l5 (by intro z;cases z))).trans e
  refine ⟨rs++[⟨a,b,c,e,p⟩],_,rfl,by rw [aD,aV];rfl,λr hr=>?_,by rw [aX,hlen];rfl,λb' o' e hne=>by rw [aJ hne];exact S5 _ _ (B _ _ e hne)⟩
  rcases aP.mp hr with hr|hr
  ·exact ⟨tn (S5 _ _ (hrs r hr).1),(hrs r hr).2⟩
  ·rw [aC.mp hr];exact ⟨tn g5,ha,hb,hc,he⟩
 ·rintro σ H4 ⟨rs,o,rfl,g4,hrs,hlen,B⟩
  walk_at "x"
  refine k l rs H4 (λb' o' e=>B _ _ (S3 _ _ (S2 _ _ (S1 _ _ e))) (aN e hl1)) hl1 g4 hrs (by omega)
def dZ (K:aa) (C:af):Sp:=λvs H Q _=>∃ (s:af) (ns:List Int) (n:Nat),vs=[.ref s,.int n]/\SqL K H s (ns.map V.int)/\1<=n/\n<=24/\ns.length<=63 /\
 ∀ (l:af) (rs:List Rw) (H':Hp),Same H H'->H l=none->H' l=some (.lst (rs.map E6))->(∀ r∈rs,Hg n H' r)->rs.length<=41->Q (.ref l) H'
theorem Be {K:aa}{C:af}:∀ vs H Q E,dZ K C vs H Q E->vs.length=2:=by
 rintro vs H Q E ⟨s,ns,n,rfl,_⟩;rfl
theorem Bf {K:aa}{C:af}:∀ vs H Q E,dZ K C vs H Q E->nX K C { nx:=λ_ H'=>Q .non H',rt:=Q } (start ["_law_script","_law_n","_law_rows","_law_k","_law_cell","_law_a","_law_b","_law_one","_law_two"] vs) H:=by
 rintro vs H Q E ⟨s,ns,n,rfl,hS,hn1,hn2,hlen,k⟩
 unfold nX
 walk_at "x"
 refine ⟨b0 (m:=0) (aw 0),λl hl0=>?_⟩
 have S0:=Same.upd_new (o:=.lst []) hl0
 have g0:(upd H l (.lst [])) l=some (.lst []):=aD
 generalize upd H l (.lst [])=H0 at S0 g0
 walk_at "x"
 unfold sA
 walk_at "x1"
 refine RC ?_
 walk_at "x"
 refine u7 (S0.seq hS) ?_
 walk_at "x"
 generalize hm:(if ((ns.length:Nat):Int)<41 then ((ns.length:Nat):Int) else 41)=m
 have hm1:m<=ns.length/\m<=41/\0<=m:=by subst hm;split<;>omega
 refine ⟨1,m,rfl,⟨by omega,by omega,by omega,by omega⟩,?_⟩
 refine tZ (lo:=1) (n:=(m-1).toNat) (λi σ H4=>∃ (rs:List Rw) (o3 o4 o5 o6 o7 o8:Option V),σ=[some (.ref s),some (.int n),some (.ref l),o3,o4,o5,o6,o7,o8]/\H4 l=some (.lst (rs.map E6))/\(∀ r∈rs,Hg n H4 r)/\rs.length=i/\SameBut1 l H0 H4) ⟨[],_,_,_,_,_,_,rfl,g0,(λr hr=>nomatch hr),rfl,SameBut1.refl _ _⟩ ?_ ?_
 ·rintro i σ H4 hi ⟨rs,o3,o4,o5,o6,o7,o8,rfl,g4,hrs,hl4,B⟩
  have hi1:i+1<ns.length:=by omega
  have gn:=ar hi1
  generalize ns[i+1]=z at gn
  have j1:(1:Int)+(i:Int)=((i+1:Nat):Int):=by omega
  have S4:Same H H4:=λb' o' e=>B _ _ (S0 _ _ e) (aN e hl0)
  walk_at "x"
  refine rg (S4.seq hS) (j:=i+1) j1 gn ?_
  iterate 36 (walk_at "x1")
  obtain ⟨a1,ea,ha⟩:=pq (z:=z/4) hn1
  obtain ⟨b1,eb,hb⟩:=pq (z:=z/4%(n:Int)+1+(z/4/(n:Int)+(1+(i:Int)))%3) hn1
  rw [eb,ea]
  with_reducible refine tS (λσ H5=>H5=H4/\∃ b1:Nat,b1<n/\σ=[some (.ref s),some (.int n),some (.ref l),some (.int (1+(i:Int))),some (.int z),some (.int a1),some (.int b1),o7,o8]) ?_ λgo=>?_
  ·rintro σ H5 ⟨rfl,b1,hb,rfl⟩
   with_reducible refine tS (λσ H6=>SameBut1 l H0 H6/\Same H5 H6/\∃ a1 b1:Nat,a1<n/\b1<n/\σ=[some (.ref s),some (.int n),some (.ref l),some (.int (1+(i:Int))),some (.int z),some (.int a1),some (.int b1),o7,o8]) ?_ λgo=>?_
   ·rintro σ H6 ⟨B6,S6,a1,b1,ha,hb,rfl⟩
    obtain ⟨c1,ec,hc⟩:=pq (z:=z/5+(1+(i:Int))) hn1
    obtain ⟨d1,ed,hd⟩:=pq (z:=z/3+2*(1+(i:Int))+1) hn1
    iterate 32 (walk_at "x1")
    rw [ec,ed]
    with_reducible refine tS (λσ H7=>H7=H6/\∃ d1:Nat,d1<n/\σ=[some (.ref s),some (.int n),some (.ref l),some (.int (1+(i:Int))),some (.int z),some (.int a1),some (.int b1),some (.int c1),some (.int d1)]) ?_ λgo=>?_
    ·rintro σ H7 ⟨rfl,d1,hd,rfl⟩
     have g7:=S6 _ _ g4
     walk_at "x"
     refine ⟨.inl ⟨rfl,_,SqL.of g7⟩,?_⟩
     walk_at "x"
     refine ⟨b0 (m:=4) (aw 4),λp hp=>?_⟩
     have S8:=Same.upd_new (o:=.tup [.int a1,.int b1,.int c1,.int d1]) hp
     have g8:(upd H7 p (.tup [.int a1,.int b1,.int c1,.int d1])) p=_:=aD
     generalize upd H7 p (.tup [.int a1,.int b1,.int c1,.int d1])=H8 at S8 g8
     have l8:=S8 _ _ g7
     walk_at "x"
     refine oq l8 (eG (m:=100) (by rw [aj];omega)) ?_
     have tn:∀ {b:af}{xs ys:List V},H8 b=some (.tup xs)->(upd H8 l (.lst ys)) b=some (.tup xs):=λe=>(aJ (iA e l8 (by intro z;cases z))).trans e
     refine ⟨rs++[⟨a1,b1,c1,d1,p⟩],_,_,_,_,_,_,rfl,by rw [aD,aV];rfl,λr hr=>?_,by rw [aX,hl4];rfl,λb' o' e hne=>by rw [aJ hne];exact S8 _ _ (B6 _ _ e hne)⟩
     rcases aP.mp hr with hr|hr
     ·exact ⟨tn (S8 _ _ (S6 _ _ (hrs r hr).1)),(hrs r hr).2⟩
     ·rw [aC.mp hr];exact ⟨tn g8,ha,hb,hc,hd⟩
    ·walk_at "x"
     refine zE (λ_=>?_) λ_=>?_
     ·iterate 3 (walk_at "x1")
      exact go _ _ ⟨rfl,c1,hc,rfl⟩
     ·exact go _ _ ⟨rfl,d1,hd,rfl⟩
   ·walk_at "x"
    refine zE (λ_=>?_) λ_=>?_
    ·walk_at "x"
     refine ⟨b0 (m:=0) (aw 0),λp hp=>?_⟩
     have S6:=Same.upd_new (o:=.lst []) hp
     have g6:(upd H5 p (.lst [])) p=some (.lst (([]:List Rw).map E6)):=aD
     generalize upd H5 p (.lst [])=H6 at S6 g6
     have B6:SameBut1 l H0 H6:=λb' o' e hne=>S6 _ _ (B _ _ e hne)
     have hrs6:∀ r∈rs,Hg n H6 r:=λr hr=>⟨S6 _ _ (hrs r hr).1,(hrs r hr).2⟩
     refine P8 (dx:=.list (rs.map Lu)) (dy:=.list (([]:List Rw).map Lu)) (.lst (SqL.of (S6 _ _ g4)) (E7 hrs6)) (.lst (SqL.of g6) (E7 (n:=n) λr hr=>nomatch hr)) (Hh _) (Hh _) ?_
     rcases dQ rs with e|⟨rs',r,e⟩
     ·subst e
      rw [show du (.list (([]:List Rw).map Lu)) (.list (([]:List Rw).map Lu))=true by simp [du,F9]]
      refine ⟨_,rfl,j8 ?_⟩
      exact go _ _ ⟨B6,S6,a1,b1,ha,hb,rfl⟩
     ·rw [dR] at e
      have hr6:=hrs6 r (by rw [e];simp)
      have l6:=S6 _ _ g4
      rw [show du (.list (rs.map Lu)) (.list (([]:List Rw).map Lu))=false by rw [e];cases rs'<;>simp [du,F9]]
      refine ⟨_,rfl,qi ?_⟩
      walk_at "x"
      refine nA (SqL.of l6) (v:=.ref r.p) (by rw [e,aV];exact Ac _ _) ?_
      walk_at "x"
      refine ⟨r.p,_,rfl,SqT.of hr6.1,(λz=>by have:=z.2;simp [HT.nz] at this),λq hq=>?_⟩
      rw [Ak (show (2:Int)=((2:Nat):Int) from rfl)]
      have S7:=Same.upd_new (o:=.tup [.int r.a,.int r.b]) hq
      have g7:(upd H6 q (.tup [.int r.a,.int r.b])) q=some (.tup [.int r.a,.int r.b]):=aD
      change DV K 2 _ _ _ (upd H6 q (.tup [.int r.a,.int r.b])) _
      generalize upd H6 q (.tup [.int r.a,.int r.b])=H7 at S7 g7
      refine xB (.of g7) rfl ?_
      iterate 5 (walk_at "x1")
      exact go _ _ ⟨λb' o' e hne=>S7 _ _ (B6 _ _ e hne),S6.trans S7,r.a,r.b,hr6.2.1,hr6.2.2.1,rfl⟩
    ·refine j8 ?_
     exact go _ _ ⟨B,λ_ _ e=>e,a1,b1,ha,hb,rfl⟩
  ·walk_at "x"
   refine zE (λ_=>?_) λ_=>?_
   ·iterate 9 (walk_at "x1")
    obtain ⟨b2,eb,hb⟩:=pq (z:=z/8) hn1
    rw [eb]
    exact go _ _ ⟨rfl,b2,hb,rfl⟩
   ·exact go _ _ ⟨rfl,b1,hb,rfl⟩
 ·rintro σ H4 ⟨rs,o3,o4,o5,o6,o7,o8,rfl,g4,hrs,hl4,B⟩
  walk_at "x"
  exact k l rs H4 (λb' o' e=>B _ _ (S0 _ _ e) (aN e hl0)) hl0 g4 hrs (by omega)
end K39
namespace K39
open Rm
theorem DJ (ts:List Ti):kd (ts.map Ti.key)=kf (λ_=>V.bl true) ts:=by unfold kd kf;rw [cW];rfl
theorem WV {n T:Nat}{ts:List Ti}{R:Nat->Nat->List Int}{x y:Nat}{v:List Int}(V:Lv n T ts R) (hx:x<n) (W:RY (R 0 x) x y v) {ps:List (Int×Int)}(hps:∀ t∈ts,t.wd=true->t.key∈ps) :
  v.length<=1000/\v.head?=some (x:Int)/\v.getLast?=some (y:Int)/\v.Nodup/\∀ a b,(a,b)∈al v->(min a b,max a b)∈ps:=by
 refine ⟨bg W.len (by decide),by rw [Kz];exact W.first,by rw [HP];exact W.last,r0.mpr λi j hi hj hij e=>W.nd i j _ hij (ar hi) (by rw [e];exact ar hj),λa b hm=>?_⟩
 obtain ⟨i,hi⟩:=bE.mp hm
 obtain ⟨g1,g2⟩:=DD.mp hi
 obtain ⟨j,q1,q2⟩:=W.ps i a b g1 g2
 obtain ⟨t,ht,hw,_,e⟩:=(V.ed 0 (a9 _) a b).mp ⟨x,hx,aG (DD.mpr ⟨q1,q2⟩)⟩
 have h1:=(V.lt t ht).1
 have h2:=hps t ht hw
 rcases e with e|e<;>obtain ⟨rfl,rfl⟩:=cE e
 ·rw [show (min (t.x:Int) t.y,max (t.x:Int) t.y)=t.key from FX (by show min (t.x:Int) t.y=t.x;omega) (by show max (t.x:Int) t.y=t.y;omega)];exact h2
 ·rw [show (min (t.y:Int) t.x,max (t.y:Int) t.x)=t.key from FX (by show min (t.y:Int) t.x=t.x;omega) (by show max (t.y:Int) t.x=t.y;omega)];exact h2
def Wy (r:List Int) (x y:Nat) (H0 H:Hp) (b:Bool) (v:V):Prop:=(b=false/\v=.non)\/(b=true/\∃ q w,v=.ref q/\H0 q=none/\H q=some (.lst (w.map V.int))/\RY r x y w)
theorem Wy.same {r:List Int}{x y:Nat}{H0 H H':Hp}{b:Bool}{v:V}(h:Wy r x y H0 H b v) (S:Same H H'):Wy r x y H0 H' b v:=h.imp_right λ⟨e,q,w,h1,h2,h3,h4⟩=>⟨e,q,w,h1,h2,S _ _ h3,h4⟩
theorem chk {K:aa}{C:af}{n T:Nat}{ts:List Ti}{R:Nat->Nat->List Int}{x y i:Nat}{l:af}{zs:List Zt}{σ:L2.St}{H H0:Hp}{D:sS}{b:Bool}{v:V}(V:Lv n T ts R) (hx:x<n) (h2:σ[2]?=some (some (.int x))) (h3:σ[3]?=some (some (.int y))) (h4:σ[4]?=some (some (.ref l))) (h6:σ[6]?=some (some (.bl b))) (hi:σ[i]?=some (some v)) (hw:Wy (R 0 x) x y H0 H b v) (hl:H l=some (.lst (zs.map oP))) (pz:∀ z∈zs,iI H z) (hz:∀ t∈ts,t.wd=true->t.key∈zs.map zP) (k:∀ H',Same H H'->D.nx σ H') :
  jZ (JR (yF (mv K (av 6)) (sH (mv K (de (eM K C) [] E0 (aA (av i) (aA (av 4) (aA (av 2) (aA (av 3) bj)))))))) (yF (sH (mv K (av 6))) (tB (Dg (av i))))) (fu (tC (.bl false))) gL D σ H:=by
 refine PX (Ss (J2 (Gz (vQ h6 ⟨b,rfl,?_⟩))))
 rcases hw with ⟨rfl,rfl⟩|⟨rfl,q,w,rfl,_,gq,W⟩
 ·refine j8 (j8 (J2 (J3 (Gz (vQ h6 ⟨false,rfl,qi (SE (MJ (vQ hi ⟨_,rfl,?_⟩)))⟩)))))
  exact j8 (k H λ_ _ e=>e)
 ·obtain ⟨w1,w2,w3,w4,w5⟩:=WV V hx W hz
  refine qi (J3 (Gz (MG (Ag (vQ hi (Ag (vQ h4 (Ag (vQ h2 (Ag (vQ h3 (PY ?_)))))))))))) 
  refine ⟨q,l,w,zs,x,y,rfl,gq,hl,pz,w1,w2,w3,w4,w5,λH' S'=>⟨true,rfl,j8 (J2 (J3 (Gz (vQ h6 ⟨true,rfl,j8 (j8 ?_)⟩))))⟩⟩
  exact k H' S'
def dr (K:aa) (C:af) (A:CA):Sp:=λvs H Q _=>∃ (p dx:af) (a:AL) (n T:Nat) (ts:List Ti) (as:Nat->List af) (R:Nat->Nat->List Int) (d:af) (x y:Nat),vs=[.ref p,.ref d,.int x,.int y]/\zJ K C A/\KP C A H p dx a n T ts as R/\n<=24/\x<n/\y<n/\H d=some (.dT (kd (ts.map Ti.key)))/\ts.length<64/\∀ H',Same H H'->Q (.bl true) H'
theorem Bg {K:aa}{C:af}{A:CA}:∀ vs H Q E,dr K C A vs H Q E->vs.length=4:=by
 rintro vs H Q E ⟨p,dx,a,n,T,ts,as,R,d,x,y,rfl,_⟩;rfl
theorem Bh {K:aa}{C:af}{A:CA}:∀ vs H Q E,dr K C A vs H Q E->nW K C A (bR K C A) (eL K C A) (eC K C A) (fA K C A) (fB K C) (eM K C) { nx:=λ_ H'=>Q .non H',rt:=Q } (start ["_law_keeper","_law_standing","_law_a","_law_b","_law_wood","_law_tie","_law_joined","_law_way_here","_law_side_here","_law_kept","_law_again"] vs) H:=by
 rintro vs H Q E ⟨p,dx,a,n,T,ts,as,R,d,x,y,rfl,ct,h,hn,hx,hy,hd,hl,k⟩
 have W0:=h.iv.wd 0 (a9 _)
 have pO:∀ {H'},Same H H'->∃ fs:List (bA×V),H' p=some (.ins A.Keeper dx fs)/\(∀ {m:bA},¬ m="n"->¬ m="levels"->¬ m="wood"->¬ m="came"->¬ m="looked"->¬ m="risen"->¬ m="lost"->fs.lookup m=none):=λS=>by
  obtain ⟨w,c1,c2,c3,c4,hw,hp⟩:=h.ob
  exact ⟨_,S _ _ hp,λh1 h2 h3 h4 h5 h6 h7=>HR h1 h2 h3 h4 h5 h6 h7⟩
 have S0:Same H H:=λ_ _ e=>e
 unfold nW
 walk_at "x"
 refine dD ?_
 walk_at "x"
 obtain ⟨fs,hp,fn⟩:=pO S0
 refine ⟨p,dx,_,rfl,hp,fn (by decide +kernel) (by decide +kernel) (by decide +kernel) (by decide +kernel) (by decide +kernel) (by decide +kernel) (by decide +kernel),?_⟩
 walk_at "x"
 refine ⟨p,dx,a,n,T,ts,as,R,rfl,ct,h,hl,λq us H1 hq gq fl pm S1=>?_⟩
 refine ⟨_,rfl,.inl ⟨⟨_,SqL.of gq⟩,?_⟩⟩
 intro acc hacc
 have hul:us.length=ts.length:=by have:=pm.length_eq;rwa [aj] at this
 refine oX (n:=us.length) (λt ys H4=>H4 acc=some (.lst ys)/\Same H1 H4/\∃ zs:List Zt,ys=zs.map oP/\zs.map zP=((us.take t).filter λu=>u.1.wd).map (λu=>u.1.key)/\∀ z∈zs,iI H4 z) (λσ=>∃ o,σ=[o]) ⟨aD,Same.upd_new hacc,[],rfl,rfl,λz hz=>nomatch hz⟩ ⟨_,rfl⟩ ?_ ?_ ?_ ?_
 ·rintro t ys H4 ⟨e,_⟩;exact e
 ·rintro ys H2 ⟨g2,S2,zs,rfl,hz,pz⟩
  refine ⟨⟨_,SqL.of (S2 _ _ gq),by rw [aj];exact aw _⟩,?_⟩
  rw [bY (aw _)] at hz
  have S02:=S1.trans S2
  have h2:=h.same S02
  have d2:=S02 _ _ hd
  have zin:∀ t∈ts,t.wd=true->t.key∈zs.map zP:=λt ht hw=>by
   obtain ⟨u,hu,rfl⟩:=br.mp (pm.mem_iff.mpr ht)
   rw [hz];exact br.mpr ⟨u,fb.mpr ⟨hu,hw⟩,rfl⟩
  have zof:∀ z∈zs,zP z∈ts.map Ti.key:=λz hzm=>by
   have:=bu (f:=zP) hzm
   rw [hz] at this
   obtain ⟨u,hu,e⟩:=br.mp this
   rw [← e]
   exact bu (pm.mem_iff.mp (bu (fb.mp hu).1))
  walk_at "x"
  unfold sx
  walk_at "x"
  refine .inl ⟨⟨_,SqL.of g2⟩,oj (K:=K) (a:=acc) (xs:=zs.map oP) (λi σ H4=>H4=H2/\∃ o5,σ=[some (.ref p),some (.ref d),some (.int x),some (.int y),some (.ref acc),o5,none,none,none,none,none]) ⟨rfl,_,rfl⟩ ?_ ?_ ?_⟩
  ·rintro i σ H4 _ ⟨rfl,_⟩;exact SqL.of g2
  ·rintro i v σ H4 hi ⟨rfl,o5,rfl⟩
   rw [ay] at hi
   obtain ⟨z,hzi,rfl⟩:=bc.mp hi
   have hzm:=aG hzi
   obtain ⟨t,ht,et⟩:=br.mp (zof z hzm)
   have hb:H4 z.2.2=some (.tup ((pk t.x t.y).map kV)):=by
    have:=pz z hzm
    obtain ⟨e1,e2⟩:=cE et
    unfold iI at this
    rw [← e1,← e2] at this
    exact this
   walk_at "x"
   refine .inr ⟨d,_,rfl,DGet.t d2 hb,?_⟩
   rw [DJ,il h.iv.nd ht]
   walk_at "x"
   refine j8 ?_
   walk_at "x"
   exact ⟨rfl,_,rfl⟩
  ·rintro σ H4 ⟨rfl,o5,rfl⟩
   walk_at "x"
   refine dD ?_
   walk_at "x"
   obtain ⟨fs,hp,fn⟩:=pO S02
   refine ⟨p,dx,_,rfl,hp,fn (by decide +kernel) (by decide +kernel) (by decide +kernel) (by decide +kernel) (by decide +kernel) (by decide +kernel) (by decide +kernel),?_⟩
   walk_at "x"
   refine ⟨p,dx,a,n,T,ts,as,R,x,y,rfl,ct,h2,hx,hy,?_⟩
   walk_at "x1"
   generalize hb:decide ((y:Int)∈R 0 x)=b
   have wy:∀ {H0:Hp},Same H H0->∀ {G:VK},(∀ v H',Same H0 H'->Wy (R 0 x) x y H0 H' b v->G v H')->eL K C A [.ref p,.int x,.int y] H0 G E0:=λ{H0} S {G} g=>⟨p,dx,a,n,T,ts,as,R,x,y,rfl,ct,h.same S,by omega,hx,hy,λhj=>g _ _ (λ_ _ e=>e) (.inl ⟨by rw [← hb];exact decide_eq_false hj,rfl⟩),λhj q' H3 w S3 hq' gq' W=>g _ _ S3 (.inr ⟨by rw [← hb];exact decide_eq_true hj,q',w,rfl,hq',gq',W⟩)⟩
   with_reducible refine tS (λσ H3=>Same H4 H3/\∃ v7,Wy (R 0 x) x y H4 H3 b v7/\σ=[some (.ref p),some (.ref d),some (.int x),some (.int y),some (.ref acc),o5,some (.bl b),some v7,none,none,none]) ?_ λgo=>?_
   rotate_left
   ·walk_at "x"
    refine dD ?_
    walk_at "x"
    refine ⟨p,dx,_,rfl,hp,fn (by decide +kernel) (by decide +kernel) (by decide +kernel) (by decide +kernel) (by decide +kernel) (by decide +kernel) (by decide +kernel),?_⟩
    walk_at "x"
    refine wy S02 λv H3 S3 w=>?_
    walk_at "x1"
    exact go _ _ ⟨S3,v,w,rfl⟩
   rintro σ H3 ⟨S3,v7,w7,rfl⟩
   have S03:=S02.trans S3
   walk_at "x"
   refine dD ?_
   walk_at "x"
   obtain ⟨fs,hp,fn⟩:=pO S03
   refine ⟨p,dx,_,rfl,hp,fn (by decide +kernel) (by decide +kernel) (by decide +kernel) (by decide +kernel) (by decide +kernel) (by decide +kernel) (by decide +kernel),?_⟩
   walk_at "x"
   refine ⟨p,dx,a,n,T,ts,as,R,x,rfl,ct,h.same S03,by omega,hx,λs ks hs hr hk=>?_⟩
   have T5:=Same.upd_new (o:=.lst (ks.map V.int)) hs
   have s5:(upd H3 s (.lst (ks.map V.int))) s=some (.lst (ks.map V.int)):=aD
   generalize upd H3 s (.lst (ks.map V.int))=H5 at T5 s5
   have S05:=S03.trans T5
   have hkl:ks.length<64:=by
    have l1:=Eo (hr.imp λq=>Int.ne_of_lt q) λz hz=>(hk z).mp hz
    have l2:=W0.len hx
    omega
   walk_at "x"
   refine Dv (.bl _) Re ?_
   refine ⟨true,rfl,j8 ?_⟩
   walk_at "x"
   refine ⟨s,d,x,ks,ts.map Ti.key,rfl,s5,hr,hkl,(hk x).mpr (W0.me x hx),S05 _ _ hd,λc hc=>?_,λH6 S6=>?_⟩
   ·obtain ⟨t,ht,rfl⟩:=br.mp hc
    obtain ⟨t1,t2,t3⟩:=h.iv.lt t ht
    have hj:=h.iv.mono (a9 _) t3 (x:=t.x) (by omega) _ (h.jn t ht)
    show (t.x:Int)∈ks↔(t.y:Int)∈ks
    rw [hk,hk]
    constructor
    ·intro q;rw [W0.eq hx (by omega) q];exact hj
    ·intro q;rw [W0.eq hx (by omega) q,← W0.eq (by omega) (by omega) hj];exact W0.me _ (by omega)
   refine ⟨_,rfl,j8 ?_⟩
   have s6:=S6 _ _ s5
   walk_at "x"
   refine J7 (Rep.int y) (mw (SqL.of s6)) (E3 _) (eS _ (lK _)) ?_
   rw [any_ints,decide_eq_decide.mpr (hk y),hb]
   walk_at "x"
   refine .inl ⟨rfl,?_⟩
   refine ⟨_,rfl,K3 (λc=>absurd rfl c) λ_=>?_⟩
   walk_at "x1"
   refine MF (chk (i:=7) (H0:=H4) h.iv hx rfl rfl rfl rfl rfl (w7.same (T5.trans S6)) (S6 _ _ (T5 _ _ (S3 _ _ g2))) (so pz (S3.trans (T5.trans S6))) zin λH7 S7=>?_)
   have s7:=S7 _ _ s6
   walk_at "x"
   refine Rc (SqL.of s7) λl hl7=>?_
   have S8:=Same.upd_new (o:=.lst (ks.map V.int)) hl7
   have g8:(upd H7 l (.lst (ks.map V.int))) l=some (.lst (ks.map V.int)):=aD
   generalize upd H7 l (.lst (ks.map V.int))=H8 at S8 g8
   have s8:=S8 _ _ s7
   have nls:l≠s:=Ne.symm (aN s7 hl7)
   walk_at "x"
   refine ⟨.inl ⟨rfl,_,SqL.of s8⟩,?_⟩
   walk_at "x"
   refine oq s8 (eG (m:=100) (by rw [aj];omega)) ?_
   have B9:SameBut1 s H8 (upd H8 s (.lst (ks.map V.int++[V.int x]))):=SameBut1.upd
   have s9:(upd H8 s (.lst (ks.map V.int++[V.int x]))) s=_:=aD
   generalize upd H8 s (.lst (ks.map V.int++[V.int x]))=H9 at B9 s9
   walk_at "x"
   refine Iu s9 (Iv (j:=0) rfl (by simp)) ?_
   have B10:SameBut1 s H8 (upd H9 s (.lst ((ks.map V.int++[V.int x]).set 0 (V.int y)))):=B9.trans SameBut1.upd
   generalize upd H9 s (.lst ((ks.map V.int++[V.int x]).set 0 (V.int y)))=H10 at B10
   have S30:Same H3 H10:=λb o e=>B10 _ _ (S8 _ _ (S7 _ _ (S6 _ _ (T5 _ _ e)))) (aN e hs)
   have l10:=B10 _ _ g8 nls
   with_reducible refine tS (λσ H11=>Same H4 H11/\H11 l=some (.lst (ks.map V.int))/\σ=[some (.ref p),some (.ref d),some (.int x),some (.int y),some (.ref acc),o5,some (.bl b),some v7,some (.ref s),some (.ref l),none]) ?_ λgo=>?_
   rotate_left
   ·walk_at "x"
    refine ⟨_,rfl,?_⟩
    rcases w7 with ⟨rfl,rfl⟩|⟨rfl,q',w,rfl,hq',gq',W⟩
    ·exact j8 (go _ _ ⟨S3.trans S30,l10,rfl⟩)
    ·refine qi ?_
     have q10:=S30 _ _ gq'
     have nlq:l≠q':=λz=>by rw [z,S7 _ _ (S6 _ _ (T5 _ _ gq'))] at hl7;cases hl7
     walk_at "x"
     refine ⟨.inl ⟨rfl,_,SqL.of q10⟩,?_⟩
     walk_at "x"
     refine oq q10 (eG (m:=1000) (by rw [aj];exact bo W.len (by decide))) ?_
     have B11:SameBut1 q' H10 (upd H10 q' (.lst (w.map V.int++[V.int x]))):=SameBut1.upd
     have q11:(upd H10 q' (.lst (w.map V.int++[V.int x]))) q'=_:=aD
     generalize upd H10 q' (.lst (w.map V.int++[V.int x]))=H11 at B11 q11
     walk_at "x"
     refine Iu q11 (Iv (j:=0) rfl (by simp)) ?_
     have B12:=B11.trans (SameBut1.upd (o:=.lst ((w.map V.int++[V.int x]).set 0 (V.int y))))
     exact go _ _ ⟨λb o e=>B12 _ _ (S30 _ _ (S3 _ _ e)) (aN e hq'),B12 _ _ l10 nlq,rfl⟩
   rintro σ H11 ⟨S11,l11,rfl⟩
   have S011:=S02.trans S11
   with_reducible refine tS (λσ H12=>Same H4 H12/\H12 l=some (.lst (ks.map V.int))/\∃ v10,Wy (R 0 x) x y H11 H12 b v10/\σ=[some (.ref p),some (.ref d),some (.int x),some (.int y),some (.ref acc),o5,some (.bl b),some v7,some (.ref s),some (.ref l),some v10]) ?_ λgo=>?_
   rotate_left
   ·walk_at "x"
    refine dD ?_
    walk_at "x"
    obtain ⟨fs,hp,fn⟩:=pO S011
    refine ⟨p,dx,_,rfl,hp,fn (by decide +kernel) (by decide +kernel) (by decide +kernel) (by decide +kernel) (by decide +kernel) (by decide +kernel) (by decide +kernel),?_⟩
    walk_at "x"
    refine wy S011 λv H12 S12 w=>?_
    walk_at "x1"
    exact go _ _ ⟨S11.trans S12,S12 _ _ l11,v,w,rfl⟩
   rintro σ H12 ⟨S12,l12,v10,w10,rfl⟩
   refine MF (chk (i:=10) (H0:=H11) h.iv hx rfl rfl rfl rfl rfl w10 (S12 _ _ g2) (so pz S12) zin λH13 S13=>?_)
   have S013:=(S02.trans S12).trans S13
   walk_at "x"
   refine dD ?_
   walk_at "x"
   obtain ⟨fs,hp,fn⟩:=pO S013
   refine ⟨p,dx,_,rfl,hp,fn (by decide +kernel) (by decide +kernel) (by decide +kernel) (by decide +kernel) (by decide +kernel) (by decide +kernel) (by decide +kernel),?_⟩
   walk_at "x"
   refine ⟨p,dx,a,n,T,ts,as,R,x,rfl,ct,h.same S013,by omega,hx,λs2 ks2 hs2 hr2 hk2=>?_⟩
   have e2:ks2=ks:=AB hr2 hr λz=>(hk2 z).trans (hk z).symm
   subst e2
   have T14:=Same.upd_new (o:=.lst (ks2.map V.int)) hs2
   have g14:(upd H13 s2 (.lst (ks2.map V.int))) s2=some (.lst (ks2.map V.int)):=aD
   generalize upd H13 s2 (.lst (ks2.map V.int))=H14 at T14 g14
   walk_at "x"
   refine SL (mw (SqL.of g14)) (mw (SqL.of (T14 _ _ (S13 _ _ l12)))) (ug _) (ug _) ?_
   rw [RV _ (ug ks2).lay]
   exact k _ (S013.trans T14)
 ·rintro t ys H4 ht ⟨_,S4,_⟩;exact ⟨_,_,SqL.of (S4 _ _ gq),ar (by rw [aj];exact ht)⟩
 ·rintro t ys σ' H4 v H5 ht ⟨g4,S4,zs,rfl,hz,pz⟩ ⟨o,rfl⟩ ⟨e2,hv⟩
  subst e2
  have hv:=hv _ (SqL.of (S4 _ _ gq))
  rw [ay] at hv
  obtain ⟨u,hu,rfl⟩:=bc.mp hv
  have r4:=S4 _ _ (fl u (aG hu))
  have et:us.take (t+1)=us.take t++[u]:=by rw [gP,hu];rfl
  have hzl:zs.length<=t:=by
   have:=congrArg ft hz
   rw [aj,aj] at this
   rw [this];exact bg (dk _ _) (by rw [bw];omega)
  walk_at "x"
  refine oU (SqT.of r4) (v:=.bl u.1.wd) rfl ?_
  refine ⟨_,rfl,?_⟩
  cases hw:u.1.wd with
  | false =>
   refine j8 (CNext.mk' ht ⟨_,rfl⟩ ⟨g4,S4,zs,rfl,?_,pz⟩)
   rw [et,eD,aV,hz];simp [hw]
  | true =>
   refine qi ?_
   walk_at "x"
   refine ⟨u.2,_,rfl,SqT.of r4,(λz=>by have:=z.2;simp [HT.nz] at this),λc hc=>?_⟩
   rw [Ak (show (2:Int)=((2:Nat):Int) from rfl)]
   have S6:=Same.upd_new (o:=.tup [.int u.1.x,.int u.1.y]) hc
   have g6:(upd H5 c (.tup [.int u.1.x,.int u.1.y])) c=some (.tup [.int u.1.x,.int u.1.y]):=aD
   rw [show List.take 2 [V.int u.1.x,V.int u.1.y,V.int u.1.lev,V.bl u.1.wd]=[V.int u.1.x,V.int u.1.y] from rfl]
   generalize upd H5 c (.tup [.int u.1.x,.int u.1.y])=H6 at S6 g6 ⊢
   have a6:=S6 _ _ g4
   have tn:∀ {z:Zt}{ys:List V},iI H6 z->iI (upd H6 acc (.lst ys)) z:=λ{z ys} e=>(aJ (iA e a6 (by intro z;cases z))).trans e
   refine ⟨a6,eG (m:=100) (by rw [aj];omega),CNext.mk' ht ⟨_,rfl⟩ ⟨aD,λb' o' e=>by rw [aJ (aN e hacc)];exact S6 _ _ (S4 _ _ e),zs++[((u.1.x:Int),(u.1.y:Int),c)],by rw [aV];rfl,?_,λz hz'=>?_⟩⟩
   ·rw [et,eD,aV,aV,hz];simp [hw];rfl
   ·rcases aP.mp hz' with hz'|hz'
    ·exact tn (S6 _ _ (pz z hz'))
    ·rw [aC.mp hz'];exact tn (z:=((u.1.x:Int),(u.1.y:Int),c)) g6
end K39
namespace K39
open Rm
section
variable {C:af}{A:CA}{H H':Hp}{a a':AL}{n T T':Nat}{ts ts':List Ti}{as as':Nat->List af}{R R':Nat->Nat->List Int}{p dx p' dx' Pt:af}
theorem KP.keep (h:KP C A H p dx a n T ts as R) {X:List af}(F:Fm X H H') (h1:∀ b∈X,b∉p::a.L::fp a) (h2:∀ b∈X,(∀ c e f,H b=some (.ins c e f)->f.lookup ("rows":bA)=none/\f.lookup ("woods":bA)=none)/\∀ r:List Int,r≠[]->H b≠some (.lst (r.map V.int))):KP C A H' p dx a n T ts as R:=by
 obtain ⟨w,c1,c2,c3,c4,hw,hp⟩:=h.ob
 refine ⟨⟨w,c1,c2,c3,c4,hw,F _ _ (λz=>h1 _ z aq) hp⟩,h.lv.keep F (λx f e _ hx hm=>?_) (λb hb z=>h1 b z (ag _ (ag _ hb))) (λz=>h1 _ z (ag _ aq)) (λb r hr e z=>(h2 b z).2 r hr e),h.iv,h.jn,h.tp⟩
 rcases hx with z|⟨v,hv,z⟩
 ·have:=((h2 x hm).1 _ _ _ (by rw [z];exact h.lv.ob)).2
  rw [Qd] at this;cases this
 ·obtain ⟨i,_,hi⟩:=h.lv.at hv
  have:=((h2 x hm).1 _ _ _ (by rw [z];exact (h.lv.wa i v hi).ob)).1
  rw [iu] at this;cases this
theorem KP.knd (h:KP C A H p dx a n T ts as R) (hP:LT1 Pt H):∀ b∈p::Pt::fp a,((∀ c e f,H b=some (.ins c e f)->f.lookup ("rows":bA)=none/\f.lookup ("woods":bA)=none)/\∀ r:List Int,r≠[]->H b≠some (.lst (r.map V.int)))/\∀ xs,H b≠some (.tup xs):=by
 obtain ⟨w,c1,c2,c3,c4,hw,hp⟩:=h.ob
 intro b hb
 rcases ak.mp hb with rfl|hb
 ·refine ⟨⟨λc e f z=>?_,λr _ z=>?_⟩,λxs z=>?_⟩<;>rw [hp] at z<;>cases z
  exact ⟨HR,HR⟩
 ·rcases ak.mp hb with rfl|hb
  ·obtain ⟨ps,q⟩:=hP.tbl
   refine ⟨⟨λc e f z=>?_,λr _ z=>?_⟩,λxs z=>?_⟩<;>rw [q] at z<;>cases z
  ·exact ⟨⟨λc e f z=>absurd hb (h.lv.outI z),λr _ z=>h.lv.outL z hb⟩,λxs z=>h.lv.outT z hb⟩
theorem KP.lt1 (h:KP C A H p dx a n T ts as R) (hP:LT1 Pt H) (F:Fm (p::fp a) H H'):LT1 Pt H' :=
 hP.keep λb o h1 h2 h3 _ e=>F b o (λz=>by
  rcases ak.mp z with rfl|z
  ·obtain ⟨fs,hp⟩:=h.p0
   rw [hp] at e;cases e;exact h3 _ _ _ rfl
  ·exact h.lv.out e h1 (λ_ _=>h2 _) z) e
theorem KP.pt (h:KP C A H p dx a n T ts as R) (hP:LT1 Pt H):Pt∉p::a.L::fp a:=λz=>by
 obtain ⟨ps,q⟩:=hP.tbl
 rcases ak.mp z with z|z
 ·obtain ⟨fs,hp⟩:=h.p0
  rw [← z,q] at hp;cases hp
 ·rcases ak.mp z with z|z
  ·have:=h.lv.ls
   rw [← z,q] at this;cases this
  ·exact h.lv.out q (λ_ z=>nomatch z) (λ_ _ z=>nomatch z) z
end
structure Ap (p p' l d:af) (a a':AL):Prop where
 pp:p≠p'
 ff:∀ b∈fp a,b∉fp a'
 l1:a.L∉fp a'
 l2:a'.L∉fp a
 d1:d∉a.L::fp a
 d2:d∉a'.L::fp a'
 r1:l∉fp a
 r2:l∉fp a'
structure Lp (C:af) (A:CA) (Pt p dx p' dx' l:af) (a a':AL) (n T T':Nat) (rs:List Rw) (i:Nat) (ts:List Ti) (H:Hp):Prop where
 k1:∃ as R,KP C A H p dx a n T ts as R
 k2:∃ ts' as' R',KP C A H p' dx' a' n T' ts' as' R'/\ts'.length<=i
 hP:LT1 Pt H
 hl:H l=some (.lst (rs.map E6))
 hr:∀ r∈rs,Hg n H r
section
variable {C:af}{A:CA}{H H':Hp}{a a':AL}{n T T' i:Nat}{ts ts2:List Ti}{as:Nat->List af}{R:Nat->Nat->List Int}{p dx p' dx' Pt l d:af}{rs:List Rw}
theorem Lp.mono (h:Lp C A Pt p dx p' dx' l a a' n T T' rs i ts H) {j:Nat}(hj:i<=j):Lp C A Pt p dx p' dx' l a a' n T T' rs j ts H :=
 let ⟨t',s',r',k,e⟩:=h.k2;⟨h.k1,⟨t',s',r',k,bg e hj⟩,h.hP,h.hl,h.hr⟩
theorem Lp.same (h:Lp C A Pt p dx p' dx' l a a' n T T' rs i ts H) (S:Same H H'):Lp C A Pt p dx p' dx' l a a' n T T' rs i ts H':=by
 obtain ⟨t',s',r',k,e⟩:=h.k2
 obtain ⟨s,r,k1⟩:=h.k1
 exact ⟨⟨s,r,k1.same S⟩,⟨t',s',r',k.same S,e⟩,h.hP.same S,S _ _ h.hl,λr hr=>⟨S _ _ (h.hr r hr).1,(h.hr r hr).2⟩⟩
theorem Lp.set (h:Lp C A Pt p dx p' dx' l a a' n T T' rs i ts H) (P:Ap p p' l d a a') {u u':List (List ja×V)}(hd:H d=some (.dT u)):Lp C A Pt p dx p' dx' l a a' n T T' rs i ts (upd H d (.dT u')):=by
 obtain ⟨t',s',r',k,e⟩:=h.k2
 obtain ⟨s,r,k1⟩:=h.k1
 have F:Fm [d] H (upd H d (.dT u')):=Fm.upd aq
 have kd:∀ b∈[d],(∀ c e f,H b=some (.ins c e f)->f.lookup ("rows":bA)=none/\f.lookup ("woods":bA)=none)/\∀ r:List Int,r≠[]->H b≠some (.lst (r.map V.int)):=λb hb=>by
  rw [aC.mp hb,hd]
  exact ⟨(λ_ _ _ z=>nomatch z),(λ_ _ z=>nomatch z)⟩
 have ne:∀ {b:af}{o:HO},H b=some o->(∀ ks,o≠.dT ks)->(upd H d (.dT u')) b=some o:=λ{b o} e q=>by rw [aJ];exact e;rintro rfl;rw [hd] at e;cases e;exact q _ rfl
 have np:∀ {q e:af}{f:List (bA×V)},H q=some (.ins A.Keeper e f)->d≠q:=λe=>iA hd e (by intro z;cases z)
 refine ⟨⟨s,r,k1.keep F (λb hb z=>?_) kd⟩,⟨t',s',r',k.keep F (λb hb z=>?_) kd,e⟩,h.hP.keep λb o h1 _ _ _ e=>ne e h1,ne h.hl (λ_ z=>nomatch z),λr hr=>⟨ne (h.hr r hr).1 (λ_ z=>nomatch z),(h.hr r hr).2⟩⟩
 ·rw [aC.mp hb] at z
  obtain ⟨_,hp⟩:=k1.p0
  exact (ak.mp z).elim (np hp) P.d1
 ·rw [aC.mp hb] at z
  obtain ⟨_,hp⟩:=k.p0
  exact (ak.mp z).elim (np hp) P.d2
theorem Lp.one (h:Lp C A Pt p dx p' dx' l a a' n T T' rs i ts H) (P:Ap p p' l d a a') {u:List (List ja×V)}(hd:H d=some (.dT u)) (F:Fm (p::Pt::fp a) H H') (k':KP C A H' p dx a n T ts2 as R) (hP':LT1 Pt H'):Lp C A Pt p dx p' dx' l a a' n T T' rs i ts2 H'/\H' d=some (.dT u):=by
 obtain ⟨t',s',r',k,e⟩:=h.k2
 obtain ⟨s,r,k1⟩:=h.k1
 have kn:=k1.knd h.hP
 obtain ⟨_,hp⟩:=k1.p0
 obtain ⟨_,hp'⟩:=k.p0
 refine ⟨⟨⟨_,_,k'⟩,⟨t',s',r',k.keep F (λb hb z=>?_) λb hb=>(kn b hb).1,e⟩,hP',F _ _ (λz=>?_) h.hl,λr hr=>⟨F _ _ (λz=>(kn _ z).2 _ (h.hr r hr).1) (h.hr r hr).1,(h.hr r hr).2⟩⟩,F _ _ (λz=>?_) hd⟩
 ·rcases ak.mp hb with rfl|hb
  ·rcases ak.mp z with z|z
   ·exact P.pp z
   ·rcases ak.mp z with z|z
    ·rw [z,k.lv.ls] at hp;cases hp
    ·exact k.lv.outI hp z
  ·rcases ak.mp hb with rfl|hb
   ·exact k.pt h.hP z
   ·rcases ak.mp z with z|z
    ·exact k1.lv.outI hp' (z▸hb)
    ·rcases ak.mp z with z|z
     ·exact P.l2 (z▸hb)
     ·exact P.ff b hb z
 ·rcases ak.mp z with z|z
  ·rw [← z,h.hl] at hp;cases hp
  ·rcases ak.mp z with z|z
   ·exact h.hP.ne h.hl (λ_ z=>nomatch z) z
   ·exact P.r1 z
 ·rcases ak.mp z with z|z
  ·rw [← z,hd] at hp;cases hp
  ·rcases ak.mp z with z|z
   ·exact h.hP.ne hd (λ_ z=>nomatch z) z
   ·exact P.d1 (ag _ z)
theorem Lp.two (h:Lp C A Pt p dx p' dx' l a a' n T T' rs i ts H) (P:Ap p p' l d a a') {u:List (List ja×V)}(hd:H d=some (.dT u)) {t1:List Ti}{s1:Nat->List af}{r1:Nat->Nat->List Int}(k:KP C A H p' dx' a' n T' t1 s1 r1) (F:Fm (p'::fp a') H H') (k':KP C A H' p' dx' a' n T' ts2 as R) (hl2:ts2.length<=i+1):Lp C A Pt p dx p' dx' l a a' n T T' rs (i+1) ts H'/\H' d=some (.dT u):=by
 obtain ⟨s,r,k1⟩:=h.k1
 have kn:=λb (hb:b∈p'::fp a')=>k.knd h.hP b (by rcases ak.mp hb with q|q;exact q▸aq;exact ag _ (ag _ q))
 obtain ⟨_,hp⟩:=k1.p0
 obtain ⟨_,hp'⟩:=k.p0
 refine ⟨⟨⟨_,_,k1.keep F (λb hb z=>?_) λb hb=>(kn b hb).1⟩,⟨_,_,_,k',hl2⟩,k.lt1 h.hP F,F _ _ (λz=>?_) h.hl,λr hr=>⟨F _ _ (λz=>(kn _ z).2 _ (h.hr r hr).1) (h.hr r hr).1,(h.hr r hr).2⟩⟩,F _ _ (λz=>?_) hd⟩
 ·rcases ak.mp hb with rfl|hb
  ·rcases ak.mp z with z|z
   ·exact P.pp z.symm
   ·rcases ak.mp z with z|z
    ·rw [z,k1.lv.ls] at hp';cases hp'
    ·exact k1.lv.outI hp' z
  ·rcases ak.mp z with z|z
   ·exact k.lv.outI hp (z▸hb)
   ·rcases ak.mp z with z|z
    ·exact P.l1 (z▸hb)
    ·exact P.ff b z hb
 ·rcases ak.mp z with z|z
  ·rw [← z,h.hl] at hp';cases hp'
  ·exact P.r2 z
 ·rcases ak.mp z with z|z
  ·rw [← z,hd] at hp';cases hp'
  ·exact P.d2 (ag _ z)
end
theorem SX {b:Bool}{t:TE}{σ:L2.St}{H:Hp}{Q:VK}(h:t σ H λx H1=>∃ c,x=.bl c/\Q (.bl (c == b)) H1):Rr b t σ H Q:=h
theorem KP.no {C:af}{A:CA}{H:Hp}{p dx:af}{a:AL}{n T:Nat}{ts:List Ti}{as:Nat->List af}{R:Nat->Nat->List Int}(h:KP C A H p dx a n T ts as R) {x y:Nat}(hj:(y:Int)∉R 0 x):(((min y x:Nat):Int),((max y x:Nat):Int))∉ts.map Ti.key:=λhk=>by
 obtain ⟨u,hu,eu⟩:=br.mp hk
 obtain ⟨e1,e2⟩:=cE eu
 obtain ⟨q1,q2,q3⟩:=h.iv.lt u hu
 have W0:=h.iv.wd 0 (a9 _)
 have j:=h.iv.mono (a9 _) q3 (x:=u.x) (by omega) _ (h.jn u hu)
 have j2:=W0.sy (x:=u.x) (y:=u.y) (by omega) q2 j
 by_cases c:x<y
 ·rw [show u.y=y by omega,show u.x=x by omega] at j;exact hj j
 ·rw [show u.x=y by omega,show u.y=x by omega] at j2;exact hj j2
theorem SY {K:aa}{C:af}{A:CA}{Pt p dx p' dx' l d S:af}{a a':AL}{n T T':Nat}{rs:List Rw}{z:Int}{s1 s2 s3 s4:Sp}{D:sS}{H:Hp}(ct:zJ K C A) (P:Ap p p' l d a a') (hn:n<=24) (hrl:rs.length<=41) (h:Lp C A Pt p dx p' dx' l a a' n T T' rs 0 [] H) (hd:H d=some (.dT [])) (fin:∀ σ H',D.nx σ H') :
  AN K C A s1 s2 s3 s4 (e9 K C A Pt) (dm K C A) (dr K C A) (bR K C A) D [some (.ref S),some (.int z),some (.int n),some (.ref l),some (.ref p),some (.ref p'),some (.ref d),none,none,none,none,none] H:=by
 unfold AN
 walk_at "x"
 refine .inl ⟨⟨_,SqL.of h.hl⟩,oj (K:=K) (a:=l) (xs:=rs.map E6) (λi σ H1=>∃ ts o7 o8 o9 o10 o11,Lp C A Pt p dx p' dx' l a a' n T T' rs i ts H1/\H1 d=some (.dT (kd (ts.map Ti.key)))/\ts.length<=i/\σ=[some (.ref S),some (.int z),some (.int n),some (.ref l),some (.ref p),some (.ref p'),some (.ref d),o7,o8,o9,o10,o11]) ⟨[],_,_,_,_,_,h,hd,aw _,rfl⟩ ?_ ?_ ?_⟩
 ·rintro i σ H1 _ ⟨ts,o7,o8,o9,o10,o11,L,_⟩;exact SqL.of L.hl
 ·rintro i v σ H1 hi ⟨ts,o7,o8,o9,o10,o11,L,d1,hts,rfl⟩
  rw [ay] at hi
  obtain ⟨r,hri,rfl⟩:=bc.mp hi
  have him:i<41:=by have:=(aB.mp hri).1;omega
  obtain ⟨g,ha,hb,hc,he⟩:=L.hr r (aG hri)
  refine xB (.of g) rfl ?_
  walk_at "x"
  rw [show (if (r.b:Int)<r.a then (r.b:Int) else r.a)=((min r.a r.b:Nat):Int) by split<;>omega,show (if (r.b:Int)>r.a then (r.b:Int) else r.a)=((max r.a r.b:Nat):Int) by split<;>omega]
  refine ⟨b0 (m:=2) (aw 2),λt ht=>?_⟩
  have S2:=Same.upd_new (o:=.tup [.int (min r.a r.b:Nat),.int (max r.a r.b:Nat)]) ht
  have g2:(upd H1 t (.tup [.int (min r.a r.b:Nat),.int (max r.a r.b:Nat)])) t=some (.tup ((pk (min r.a r.b) (max r.a r.b)).map kV)):=aD
  generalize upd H1 t (.tup [.int (min r.a r.b:Nat),.int (max r.a r.b:Nat)])=H2 at S2 g2
  have L2:=L.same S2
  have d2:=S2 _ _ d1
  walk_at "x1"
  with_reducible refine tS (λσ H3=>∃ ts,Lp C A Pt p dx p' dx' l a a' n T T' rs (i+1) ts H3/\H3 d=some (.dT (kd (ts.map Ti.key)))/\ts.length<=i+1/\σ=[some (.ref S),some (.int z),some (.int n),some (.ref l),some (.ref p),some (.ref p'),some (.ref d),some (.int r.a),some (.int r.b),some (.int r.c),some (.int r.d),some (.ref t)]) ?_ λgo=>?_
  ·rintro σ H3 ⟨ts3,L3,d3,hl3,rfl⟩
   obtain ⟨s3,r3,k3⟩:=L3.k1
   walk_at "x"
   refine ⟨p,dx,a,n,T,ts3,s3,r3,d,r.c,r.d,rfl,ct,k3,hn,hc,he,d3,by omega,λH4 S4=>⟨true,rfl,j8 ?_⟩⟩
   walk_at "x"
   refine ⟨p,dx,a,n,T,ts3,s3,r3,d,r.a,r.b,rfl,ct,k3.same S4,hn,ha,hb,S4 _ _ d3,by omega,λH5 S5=>⟨true,rfl,j8 ?_⟩⟩
   walk_at "x"
   exact ⟨ts3,_,_,_,_,_,L3.same (S4.trans S5),S5 _ _ (S4 _ _ d3),hl3,rfl⟩
  ·obtain ⟨s1,r1,k1⟩:=L2.k1
   walk_at "x"
   refine .inr ⟨d,_,rfl,DGet.t d2 g2,?_⟩
   by_cases hk:(((min r.a r.b:Nat):Int),((max r.a r.b:Nat):Int))∈ts.map Ti.key
   ·obtain ⟨u,hu,eu⟩:=br.mp hk
    obtain ⟨e1,e2⟩:=cE eu
    have e1:u.x=min r.a r.b:=by omega
    have e2:u.y=max r.a r.b:=by omega
    have hxy:=(k1.iv.lt u hu).1
    have hv:mr (kd (ts.map Ti.key)) (pk (min r.a r.b) (max r.a r.b))=some (.bl true):=by rw [DJ,← e1,← e2];exact il (f:=λ_=>V.bl true) k1.iv.nd hu
    rw [hv]
    refine ⟨_,rfl,qi ?_⟩
    walk_at "x"
    refine ⟨.inr (.inr (.inl ⟨rfl,.inr ⟨_,d2⟩⟩)),?_⟩
    walk_at "x"
    refine ⟨d,_,pk (min r.a r.b) (max r.a r.b),t,.bl true,rfl,rfl,d2,g2,hv,?_⟩
    have L3:=L2.set P (u':=oR (kd (ts.map Ti.key)) (pk (min r.a r.b) (max r.a r.b))) d2
    have d3:(upd H2 d (.dT (oR (kd (ts.map Ti.key)) (pk (min r.a r.b) (max r.a r.b))))) d=_:=aD
    generalize upd H2 d (.dT (oR (kd (ts.map Ti.key)) (pk (min r.a r.b) (max r.a r.b))))=H3 at L3 d3
    obtain ⟨s3,r3,k3⟩:=L3.k1
    obtain ⟨w,c1,c2,c3,c4,hw,hp⟩:=k3.ob
    dsimp only
    walk_at "x"
    refine dD ?_
    walk_at "x"
    refine ⟨p,dx,_,rfl,hp,HR,?_⟩
    walk_at "x"
    refine ⟨p,dx,a,n,T,ts,s3,r3,r.a,r.b,rfl,ct,k3,by omega,ha,hb,by omega,hk,by omega,L3.hP,λv ts4 s4 r4 H4 k4 e4 P4 F4=>?_⟩
    obtain ⟨L4,d4⟩:=L3.one P d3 F4 k4 P4
    have hl4:ts4.length<=ts.length:=by
     have:=congrArg ft e4
     rw [aj] at this
     rw [this];exact bg (dk _ _) (by rw [aj];exact aw _)
    refine go _ _ ⟨ts4,L4.mono (eV _),?_,by omega,rfl⟩
    rw [d4,e4,DJ,← e1,← e2,zI,← DJ,uP];rfl
   ·have hv:mr (kd (ts.map Ti.key)) (pk (min r.a r.b) (max r.a r.b))=none:=by rw [DJ];exact ES hk
    rw [hv]
    refine ⟨_,rfl,j8 ?_⟩
    walk_at "x"
    refine K3 (λhab=>?_) λ_=>go _ _ ⟨ts,L2.mono (eV _),d2,by omega,rfl⟩
    walk_at "x"
    refine .inr ⟨d,_,rfl,DPut.t (k:=pk (min r.a r.b) (max r.a r.b)) d2 g2 (eG (m:=100) (by rw [DJ,qG];omega)),?_⟩
    rw [Gn _ hv]
    have L3:=L2.set P (u':=kd (ts.map Ti.key)++[(pk (min r.a r.b) (max r.a r.b),.bl true)]) d2
    have d3:(upd H2 d (.dT (kd (ts.map Ti.key)++[(pk (min r.a r.b) (max r.a r.b),.bl true)]))) d=_:=aD
    generalize upd H2 d (.dT (kd (ts.map Ti.key)++[(pk (min r.a r.b) (max r.a r.b),.bl true)]))=H3 at L3 d3
    obtain ⟨s3,r3,k3⟩:=L3.k1
    obtain ⟨w,c1,c2,c3,c4,hw,hp⟩:=k3.ob
    dsimp only
    walk_at "x"
    refine dD ?_
    walk_at "x"
    refine ⟨p,dx,_,rfl,hp,HR,?_⟩
    walk_at "x"
    have hab:r.a≠r.b:=λe=>hab (by rw [e])
    refine ⟨p,dx,a,n,T,ts,s3,r3,r.a,r.b,rfl,ct,k3,by omega,ha,hb,hab,hk,by omega,λv ts4 s4 r4 H4 k4 e4 F4=>?_⟩
    obtain ⟨L4,d4⟩:=L3.one P d3 (F4.mono λb hb=>by rcases ak.mp hb with q|q;exact q▸aq;exact ag _ (ag _ q)) k4 (k3.lt1 L3.hP F4)
    have hl4:ts4.length=ts.length+1:=by
     have:=congrArg ft e4
     rw [aj,aX,aj] at this
     exact this
    have d4:H4 d=some (.dT (kd (ts4.map Ti.key))):=by
     rw [d4,e4];unfold kd;rw [aV];rfl
    walk_at "x"
    refine zE (λ_=>?_) λ_=>?_
    ·walk_at "x"
     refine SX ?_
     refine dD ?_
     walk_at "x"
     obtain ⟨t',s',r',k',hl'⟩:=L4.k2
     obtain ⟨w,c1,c2,c3,c4,hw,hp'⟩:=k'.ob
     refine ⟨p',dx',_,rfl,hp',HR,?_⟩
     walk_at "x"
     refine ⟨p',dx',a',n,T',t',s',r',r.a,r.b,rfl,ct,k',ha,hb,?_⟩
     refine ⟨_,rfl,_,rfl,?_⟩
     by_cases hj:(r.b:Int)∈r' 0 r.a
     ·rw [decide_eq_true hj]
      exact j8 (go _ _ ⟨ts4,L4.mono (eV _),d4,by omega,rfl⟩)
     ·rw [decide_eq_false hj]
      refine qi ?_
      walk_at "x"
      refine dD ?_
      walk_at "x"
      refine ⟨p',dx',_,rfl,hp',HR,?_⟩
      walk_at "x"
      refine ⟨p',dx',a',n,T',t',s',r',r.b,r.a,rfl,ct,k',by omega,hb,ha,Ne.symm hab,k'.no hj,by omega,λv ts5 s5 r5 H5 k5 e5 F5=>?_⟩
      obtain ⟨L5,d5⟩:=L4.two P d4 k' F5 k5 (by
       have:=congrArg ft e5
       rw [aj,aX,aj] at this
       simp at this;omega)
      exact go _ _ ⟨ts4,L5,d5,by omega,rfl⟩
    ·exact j8 (go _ _ ⟨ts4,L4.mono (eV _),d4,by omega,rfl⟩)
 ·rintro σ H1 _;exact fin _ _
def Bi (K:aa) (Pt1:af):Sp:=λvs H Q _=>∃ (a:af) (ns:List Int),vs=[.ref a]/\SqL K H a (ns.map V.int)/\ns.length<=63/\LT1 Pt1 H/\∀ H',Q (.bl true) H'
theorem Ph {K:aa}{Pt1:af}:∀ vs H Q E,Bi K Pt1 vs H Q E->vs.length=1:=by
 rintro vs H Q E ⟨a,ns,rfl,_⟩;rfl
theorem Pi {K:aa}{C:af}{A:CA}{Pt1:af}(ct:zJ K C A):∀ vs H Q E,Bi K Pt1 vs H Q E->Ex K C A (dZ K C) (cK K C A) (bB K C) (cN K C) (e9 K C A Pt1) (dm K C A) (dr K C A) (bR K C A) { nx:=λ_ H'=>Q .non H',rt:=Q } (start ["_law_script","_law_head","_law_n","_law_rows","_law_keeper","_law_other","_law_standing","_law_a","_law_b","_law_one","_law_two","_law_tie"] vs) H:=by
 rintro vs H Q E ⟨s,ns,rfl,hS,hlen,hP,k⟩
 unfold Ex
 walk_at "x"
 refine ⟨s,ns,0,rfl,hS,λz=>?_⟩
 walk_at "x"
 obtain ⟨m,em,hm⟩:=pq (z:=z/2) (n:=24) (by decide)
 obtain ⟨n,en,hn1,hn2⟩:∃ n:Nat,(1+z/2%24:Int)=(n:Int)/\1<=n/\n<=24:=⟨m+1,by omega,by omega,by omega⟩
 rw [en]
 refine ⟨s,ns,n,rfl,hS,hn1,hn2,hlen,λl0 rs0 H1 S1 _ g1 hr1 hl1=>?_⟩
 walk_at "x1"
 with_reducible refine tS (λσ H2=>Same H H2/\∃ (l:af) (rs:List Rw),H2 l=some (.lst (rs.map E6))/\(∀ r∈rs,Hg n H2 r)/\rs.length<=41/\σ=[some (.ref s),some (.int (z/2)),some (.int n),some (.ref l),none,none,none,none,none,none,none,none]) ?_ λgo=>?_
 rotate_left
 ·walk_at "x"
  refine ⟨s,ns,0,rfl,S1.seq hS,λz2=>?_⟩
  walk_at "x"
  refine zE (λ_=>?_) λ_=>go _ _ ⟨S1,l0,rs0,g1,hr1,hl1,rfl⟩
  walk_at "x"
  refine ⟨s,ns,n,rfl,S1.seq hS,hn1,hn2,λl rs H2 S2 _ g2 hr2 hl2=>?_⟩
  walk_at "x1"
  exact go _ _ ⟨S1.trans S2,l,rs,g2,hr2,hl2,rfl⟩
 rintro σ H2 ⟨S2,l,rs,g2,hr2,hl2,rfl⟩
 walk_at "x1"
 walk_at "x1"
 refine EV ?_
 walk_at "x"
 intro p dx hp hdx _
 have T0:Same H2 (upd (upd H2 dx (.own p)) p (.ins A.Keeper dx [])):=λb o e=>by rw [aJ (aN e hp),aJ (aN e hdx)];exact e
 refine ⟨p,dx,n,rfl,aD,ct,hn1,by omega,λa T as H3 k3 B3 fr3=>⟨rfl,?_⟩⟩
 have S3:Same H2 H3:=λb o e=>B3 _ _ (T0 _ _ e) (aN e hp)
 have l3:=S3 _ _ g2
 have nl1:l∉fp a:=λz=>by have:=fr3 l (ag _ z);rw [T0 _ _ g2] at this;cases this
 walk_at "x1"
 walk_at "x1"
 walk_at "x1"
 refine EV ?_
 walk_at "x"
 intro p' dx' hp' hdx' _
 have T1:Same H3 (upd (upd H3 dx' (.own p')) p' (.ins A.Keeper dx' [])):=λb o e=>by rw [aJ (aN e hp'),aJ (aN e hdx')];exact e
 refine ⟨p',dx',n,rfl,aD,ct,hn1,by omega,λa' T' as' H4 k4 B4 fr4=>⟨rfl,?_⟩⟩
 have S4:Same H3 H4:=λb o e=>B4 _ _ (T1 _ _ e) (aN e hp')
 have fr:∀ b∈a'.L::fp a',H3 b=none:=λb hb=>T1.free (fr4 b hb)
 have l4:=S4 _ _ l3
 walk_at "x"
 intro d hd
 have S5:=Same.upd_new (o:=.dT []) hd
 have g5:(upd H4 d (.dT [])) d=some (.dT []):=aD
 generalize upd H4 d (.dT [])=H5 at S5 g5
 have k34:=k3.same S4
 have S45:Same H3 H5:=S4.trans S5
 have S25:Same H2 H5:=S3.trans S45
 walk_at "x1"
 walk_at "x1"
 refine SY ct ⟨?_,λb hb hb'=>k3.lv.outN (fr b (ag _ hb')) hb,λz=>?_,k3.lv.outN (fr _ aq),λz=>?_,λz=>?_,nl1,λz=>?_⟩ hn2 hl2 ⟨⟨_,_,k3.same S45⟩,⟨_,_,_,k4.same S5,a9 _⟩,hP.same (S2.trans S25),S25 _ _ g2,λr hr=>⟨S25 _ _ (hr2 r hr).1,(hr2 r hr).2⟩⟩ g5 λσ H'=>?_
 ·obtain ⟨_,q⟩:=k3.p0
  exact aN q hp'
 ·have:=fr _ (ag _ z)
  rw [k3.lv.ls] at this;cases this
 ·rcases ak.mp z with q|q
  ·have:=k34.lv.ls
   rw [← q,hd] at this;cases this
  ·exact k34.lv.outN hd q
 ·rcases ak.mp z with q|q
  ·have:=k4.lv.ls
   rw [← q,hd] at this;cases this
  ·exact k4.lv.outN hd q
 ·have:=fr _ (ag _ z)
  rw [l3] at this;cases this
 ·walk_at "x"
  exact k _
end K39
namespace K39
theorem RD {l:sD}{w:b8}{K:aa}{h:cm}{mg:bA->Option ai}{fa:af}(X:K.In h) (G:h.Ns bQ mg) (hfa:mg "law"=some (.ref fa)) {c1 Pt1:af}{C A_Levels A_Keeper:af}
  (E8:di K bQ "Wood"=some (some (.ref C))) (E9:jd K C Kp=true) (Fb:j6 K C=true) (Fc:nu K C=true) (Fd:bC K (.ref C) "__setattr__"=some (some (.builtin "object.__setattr__"))) (Fe:pB K C=true) (Ff:fH K (.ref C)=true)
  (n_Wood_n:bC K (.ref C) "n"=some none)
  (n_Wood_rows:bC K (.ref C) "rows"=some none)
  (xU:di K bQ "Levels"=some (some (.ref A_Levels))) (xV:jd K A_Levels Kp=true) (xW:j6 K A_Levels=true) (xX:nu K A_Levels=true) (xY:bC K (.ref A_Levels) "__setattr__"=some (some (.builtin "object.__setattr__"))) (xZ:pB K A_Levels=true) (x3:fH K (.ref A_Levels)=true)
  (n_Levels_level_of:bC K (.ref A_Levels) "level_of"=some none)
  (n_Levels_weight_of:bC K (.ref A_Levels) "weight_of"=some none)
  (n_Levels_wooden:bC K (.ref A_Levels) "wooden"=some none)
  (n_Levels_woods:bC K (.ref A_Levels) "woods"=some none)
  (x4:di K bQ "Keeper"=some (some (.ref A_Keeper))) (x5:jd K A_Keeper Kp=true) (x6:j6 K A_Keeper=true) (x8:nu K A_Keeper=true) (x9:bC K (.ref A_Keeper) "__setattr__"=some (some (.builtin "object.__setattr__"))) (ya:pB K A_Keeper=true) (yb:fH K (.ref A_Keeper)=true)
  (n_Keeper_came:bC K (.ref A_Keeper) "came"=some none)
  (n_Keeper_levels:bC K (.ref A_Keeper) "levels"=some none)
  (n_Keeper_looked:bC K (.ref A_Keeper) "looked"=some none)
  (n_Keeper_lost:bC K (.ref A_Keeper) "lost"=some none)
  (n_Keeper_n:bC K (.ref A_Keeper) "n"=some none)
  (n_Keeper_risen:bC K (.ref A_Keeper) "risen"=some none)
  (n_Keeper_wood:bC K (.ref A_Keeper) "wood"=some none)
  (nM:Dfn K mg "is_whole" rj ["thing"])
  (nN:Dfn K mg "is_count" rk ["thing"])
  (nO:Dfn K mg "is_place" rm ["n","thing"])
  (DK:Dfn K mg "top" stop ["n"])
  (rP:Dfn K mg "tie_of" vY ["a","b"])
  (rQ:Dfn K mg "credit" vZ ["n","ties"])
  (uh:Dfn K mg "rises" AC ["trail"])
  (ui:Dfn K mg "looks" AD ["trail"])
  (jL:Dfn K mg "steps_along" mC ["row"])
  (rR:Dfn K mg "turned" v3 ["row","a"])
  (pM:Dfn K mg "spliced" tw ["row","other","a","b"])
  (rS:Dfn K mg "parted" v5 ["row","a","b"])
  (rT:Dfn K mg "way_in" v8 ["row","a","b"])
  (gA:Dfn K mg "refuse_no_place" i3 ["n","thing"])
  (fX:Dfn K mg "refuse_no_places" iC ["n","a","b"])
  (hZ:Dfn K mg "refuse_no_pair" jw ["n","a","b"])
  (lL:Dfn K mg "in_order" rA ["ties","weight_of"])
  (jM:Dfn K mg "ends_within" mD ["tie","side"])
  (pN:Dfn K mg "new_tie" tD ["n","standing","a","b"])
  (i8:Dfn K mg "standing_tie" ll ["n","standing","a","b"])
  (i9:Dfn K mg "_law_cell_at" lp ["_law_script","_law_k"])
  (kJ:Dfn K mg "_law_whole" ou ["_law_found"])
  (jN:Dfn K mg "_law_places" mE ["_law_found"])
  (nQ:Dfn K mg "_law_way" rB ["_law_way_here","_law_wood","_law_a","_law_b"])
  (lW:Dfn K mg "_law_side" pT ["_law_side_here","_law_ties","_law_a"])
  (kK:Dfn K mg "_law_asked" ow ["_law_keeper","_law_standing","_law_a","_law_b"])
  (jO:Dfn K mg "_law_digits" mF ["_law_cell","_law_base","_law_many"])
  (h8:Dfn K mg "_law_by_digits" jx ["_law_script","_law_n"])
  (kM:Dfn K mg "_law_drawn" oz ["_law_script","_law_n"])
  (Ko:Dfn K mg "law" Np ["_law_script"])
  (iw:nH K C "__init__" "Wood.__init__" kb ["self","n"])
  (km:nH K C "keep" "Wood.keep" pU ["self","row"])
  (ko:nH K C "link" "Wood.link" pV ["self","a","b"])
  (lM:nH K C "cut" "Wood.cut" rC ["self","a","b"])
  (iL:nH K C "joined" "Wood.joined" mG ["self","a","b"])
  (jo:nH K C "group" "Wood.group" oA ["self","a"])
  (kq:nH K C "size" "Wood.size" pW ["self","a"])
  (lN:nH K C "way" "Wood.way" rD ["self","a","b"])
  (gB:nH K A_Levels "__init__" "Levels.__init__" i4 ["self","n"])
  (jq:nH K A_Levels "add" "Levels.add" oB ["self","tie","weight"])
  (ia:nH K A_Levels "adopt" "Levels.adopt" lq ["self","tie"])
  (iM:nH K A_Levels "lift" "Levels.lift" mH ["self","tie"])
  (iN:nH K A_Levels "drop" "Levels.drop" mI ["self","tie"])
  (fF:nH K A_Levels "at_level" "Levels.at_level" i5 ["self","level","wooden"])
  (iO:nH K A_Levels "told" "Levels.told" mJ ["self","tie"])
  (dX:nH K A_Levels "lesser_side" "Levels.lesser_side" gM ["self","level","tie"])
  (iP:nH K A_Levels "look" "Levels.look" mK ["self","level","tie"])
  (iQ:nH K A_Levels "take" "Levels.take" mL ["self","tie"])
  (iz:nH K A_Keeper "__init__" "Kept.__init__" ke ["self","n"])
  (ic:nH K A_Keeper "receive" "Kept.receive" lu ["self","tie","weight"])
  (lO:nH K A_Keeper "out" "Kept.out" rE ["self","a","b"])
  (iR:nH K A_Keeper "joined" "Kept.joined" mM ["self","a","b"])
  (lP:nH K A_Keeper "way" "Kept.way" rF ["self","a","b"])
  (kr:nH K A_Keeper "side" "Kept.side" pX ["self","a"])
  (ku:nH K A_Keeper "ties" "Kept.ties" pY ["self"])
  (jr:nH K A_Keeper "put" "Keeper.put" oC ["self","a","b"])
  (vn:lL.d.code=.ref c1)
  (NB:di K bQ "all"=some none)
  (Jb:di K bQ "bool"=some none)
  (NC:di K bQ "int"=some none)
  (sv:di K bQ "isinstance"=some none)
  (ND:di K bQ "len"=some none)
  (Jc:di K bQ "list"=some none)
  (NF:di K bQ "max"=some none)
  (NG:di K bQ "min"=some none)
  (Fg:di K bQ "range"=some none)
  (NH:di K bQ "set"=some none)
  (Bj:di K bQ "sorted"=some none)
  (NI:di K bQ "sum"=some none)
  (NJ:di K bQ "zip"=some none)
  {Ck:RE}(qJ:di K bQ "MOST_PLACES"=some (some (.int 200 Ck)))
  : ∃ fd:fP,(∀ (s:au) (v:ai),FH s fd ⟨[v],[]⟩ [("_law_script",v)])/\∀ base:cm,K.In base->base.Ns bQ mg->pF base c1 Pt1->base.BuiltinsAt mg Pt1->FnOk l.prog w K mg base bW 11 fa fd ["_law_script"] (Bi K Pt1):=by
 have e:=Ko.law hfa
 subst e
 have T:nr K mg C (⟨A_Levels,A_Keeper⟩:CA):=⟨⟨E9,Fb,Fc,Fd⟩,rY X G E8,n_Wood_n,n_Wood_rows,⟨xV,xW,xX,xY⟩,rY X G xU,n_Levels_level_of,n_Levels_weight_of,n_Levels_wooden,n_Levels_woods,⟨x5,x6,x8,x9⟩,rY X G x4,n_Keeper_came,n_Keeper_levels,n_Keeper_looked,n_Keeper_lost,n_Keeper_n,n_Keeper_risen,n_Keeper_wood,cT X G NB,cT X G Jb,cT X G NC,cT X G sv,cT X G ND,cT X G Jc,cT X G NF,cT X G NG,cT X G Fg,cT X G NH,cT X G Bj,cT X G NI,cT X G NJ,⟨_,rY X G qJ⟩⟩
 have ct:zJ K C (⟨A_Levels,A_Keeper⟩:CA):=⟨⟨T.cl_Wood,T.n_Wood_n,T.n_Wood_rows⟩,T.cl_Levels,T.n_Levels_level_of,T.n_Levels_wooden,T.n_Levels_weight_of,T.n_Levels_woods,T.cl_Keeper,T.n_Keeper_n,T.n_Keeper_levels,T.n_Keeper_wood,T.n_Keeper_came,T.n_Keeper_looked,T.n_Keeper_risen,T.n_Keeper_lost⟩
 refine ⟨Ko.d,λs v=>Ko.bt s [v] rfl,λbase _ _ CH1 B1=>?_⟩
 have kg:j3 l.prog w K mg base bW 1 "is_whole" ["thing"] (dv K C):=⟨nM.f,nM.d,GY nM.F T EF EG,nM.m,nM.F.kp,nM.b⟩
 have yA:j3 l.prog w K mg base bW 1 "top" ["n"] (kh K C):=⟨DK.f,DK.d,Rx DK.F T Pe Pf,DK.m,DK.F.kp,DK.b⟩
 have oH:j3 l.prog w K mg base bW 1 "tie_of" ["a","b"] (eZ K C):=⟨rP.f,rP.d,Lj rP.F T IY IZ,rP.m,rP.F.kp,rP.b⟩
 have oZ:j3 l.prog w K mg base bW 1 "rises" ["trail"] (fU K C):=⟨uh.f,uh.d,Nt uh.F T Lo Lq,uh.m,uh.F.kp,uh.b⟩
 have gU:j3 l.prog w K mg base bW 1 "steps_along" ["row"] (b9 K C):=⟨jL.f,jL.d,AI jL.F T yO yP,jL.m,jL.F.kp,jL.b⟩
 have oG:j3 l.prog w K mg base bW 1 "turned" ["row","a"] (eh K C):=⟨rR.f,rR.d,Ll rR.F T IU IV,rR.m,rR.F.kp,rR.b⟩
 have qc:j3 l.prog w K mg base bW 1 "in_order" ["ties","weight_of"] (gZ K C Pt1):=⟨lL.f,lL.d,G2 lL.F T vn CH1 B1 ET EU,lL.m,lL.F.kp,lL.b⟩
 have jJ:j3 l.prog w K mg base bW 1 "ends_within" ["tie","side"] (cR K C):=⟨jM.f,jM.d,AJ jM.F T yS yT,jM.m,jM.F.kp,jM.b⟩
 have dW:j3 l.prog w K mg base bW 1 "_law_cell_at" ["_law_script","_law_k"] (bB K C):=⟨i9.f,i9.d,yL i9.F T xR xS,i9.m,i9.F.kp,i9.b⟩
 have mQ:j3 l.prog w K mg base bW 1 "_law_whole" ["_law_found"] (fo K C):=⟨kJ.f,kJ.d,BX kJ.F T A9 Ba,kJ.m,kJ.F.kp,kJ.b⟩
 have jG:j3 l.prog w K mg base bW 1 "_law_digits" ["_law_cell","_law_base","_law_many"] (dh K C):=⟨jO.f,jO.d,AM jO.F T zc zd,jO.m,jO.F.kp,jO.b⟩
 have mS:j3 l.prog w K mg base bW 1 "_law_drawn" ["_law_script","_law_n"] (dZ K C):=⟨kM.f,kM.d,BZ kM.F T Be Bf,kM.m,kM.F.kp,kM.b⟩
 have gG:Ld l.prog w K mg base bW 1 C ["self","n"] (dH K C):=⟨iw.f,iw.d,xH iw.F T wq wu,⟨Fe,iw.a,iw.i,Ff⟩,iw.b⟩
 have jf:fO l.prog w K mg base bW 1 C "keep" ["self","row"] (cF K C):=⟨km.f,km.d,Ey km.F T Cb Cc,⟨km.a,km.i,km.F.kp⟩,km.b⟩
 have hJ:fO l.prog w K mg base bW 1 A_Levels "told" ["self","tie"] (cq K C (⟨A_Levels,A_Keeper⟩:CA)):=⟨iO.f,iO.d,AS iO.F T yU yV,⟨iO.a,iO.i,iO.F.kp⟩,iO.b⟩
 have qd:j3 l.prog w K mg base bW 2 "is_count" ["thing"] (g9 K C):=⟨nN.f,nN.d,GZ nN.F T kg EO ER,nN.m,nN.F.kp,nN.b⟩
 have pZ:j3 l.prog w K mg base bW 2 "is_place" ["n","thing"] (gW K C):=⟨nO.f,nO.d,G0 nO.F T kg EH EI,nO.m,nO.F.kp,nO.b⟩
 have tL:j3 l.prog w K mg base bW 2 "credit" ["n","ties"] (jK K C):=⟨rQ.f,rQ.d,Lk rQ.F T yA I0 Ja,rQ.m,rQ.F.kp,rQ.b⟩
 have wm:j3 l.prog w K mg base bW 2 "looks" ["trail"] (lB K C):=⟨ui.f,ui.d,Nu ui.F T oZ Lr Ls,ui.m,ui.F.kp,ui.b⟩
 have rJ:j3 l.prog w K mg base bW 2 "spliced" ["row","other","a","b"] (iJ K C):=⟨pM.f,pM.d,IM pM.F T oG Ha Hb,pM.m,pM.F.kp,pM.b⟩
 have tJ:j3 l.prog w K mg base bW 2 "parted" ["row","a","b"] (ir K C):=⟨rS.f,rS.d,Lm rS.F T gU IS IT,rS.m,rS.F.kp,rS.b⟩
 have tK:j3 l.prog w K mg base bW 2 "way_in" ["row","a","b"] (jH K C):=⟨rT.f,rT.d,Ln rT.F T oG IW IX,rT.m,rT.F.kp,rT.b⟩
 have gX:j3 l.prog w K mg base bW 2 "_law_places" ["_law_found"] (bU K C):=⟨jN.f,jN.d,AK jN.F T mQ za zb,jN.m,jN.F.kp,jN.b⟩
 have i7:j3 l.prog w K mg base bW 2 "_law_by_digits" ["_law_script","_law_n"] (cN K C):=⟨h8.f,h8.d,wk h8.F T jG dW vk vm,h8.m,h8.F.kp,h8.b⟩
 have gp:fO l.prog w K mg base bW 2 A_Levels "at_level" ["self","level","wooden"] (cb K C (⟨A_Levels,A_Keeper⟩:CA) Pt1):=⟨fF.f,fF.d,FnOk.thaw (vg fF.F T qc tP tR) tQ,⟨fF.a,fF.i,fF.F.kp⟩,fF.b⟩
 have oI:fO l.prog w K mg base bW 2 A_Keeper "ties" ["self"] (fA K C (⟨A_Levels,A_Keeper⟩:CA)):=⟨ku.f,ku.d,FnOk.thaw (EC ku.F T hJ A6 A8) A7,⟨ku.a,ku.i,ku.F.kp⟩,ku.b⟩
 have cM:j3 l.prog w K mg base bW 3 "refuse_no_place" ["n","thing"] (aY K C):=⟨gA.f,gA.d,ve gA.F T pZ uC uD,gA.m,gA.F.kp,gA.b⟩
 have nJ:j3 l.prog w K mg base bW 3 "_law_way" ["_law_way_here","_law_wood","_law_a","_law_b"] (eM K C):=⟨nQ.f,nQ.d,G4 nQ.F T gX E4 E5,nQ.m,nQ.F.kp,nQ.b⟩
 have oJ:j3 l.prog w K mg base bW 3 "_law_side" ["_law_side_here","_law_ties","_law_a"] (fB K C):=⟨lW.f,lW.d,FnOk.thaw (Ew lW.F T gX Bb Bd) Bc,lW.m,lW.F.kp,lW.b⟩
 have fE:Ld l.prog w K mg base bW 3 A_Levels ["self","n"] (c6 K C (⟨A_Levels,A_Keeper⟩:CA)):=⟨gB.f,gB.d,vf gB.F T gG yA uE uF,⟨xZ,gB.a,gB.i,x3⟩,gB.b⟩
 have dU:j3 l.prog w K mg base bW 4 "refuse_no_places" ["n","a","b"] (bK K C):=⟨fX.f,fX.d,uB fX.F T cM tM tN,fX.m,fX.F.kp,fX.b⟩
 have iE:fO l.prog w K mg base bW 4 C "group" ["self","a"] (cJ K C):=⟨jo.f,jo.d,B7 jo.F T cM AX AY,⟨jo.a,jo.i,jo.F.kp⟩,jo.b⟩
 have lV:fO l.prog w K mg base bW 4 C "size" ["self","a"] (fD K C):=⟨kq.f,kq.d,EA kq.F T cM Cf Cg,⟨kq.a,kq.i,kq.F.kp⟩,kq.b⟩
 have cA:j3 l.prog w K mg base bW 5 "refuse_no_pair" ["n","a","b"] (aQ K C):=⟨hZ.f,hZ.d,wj hZ.F T dU vh vj,hZ.m,hZ.F.kp,hZ.b⟩
 have dt:fO l.prog w K mg base bW 5 C "joined" ["self","a","b"] (a8 K C):=⟨iL.f,iL.d,AO iL.F T dU yQ yR,⟨iL.a,iL.i,iL.F.kp⟩,iL.b⟩
 have f9:fO l.prog w K mg base bW 5 A_Levels "lesser_side" ["self","level","tie"] (bO K C (⟨A_Levels,A_Keeper⟩:CA)):=⟨dX.f,dX.d,sJ dX.F T iE lV sr su,⟨dX.a,dX.i,dX.F.kp⟩,dX.b⟩
 have d0:Ld l.prog w K mg base bW 5 A_Keeper ["self","n"] (cK K C (⟨A_Levels,A_Keeper⟩:CA)):=⟨iz.f,iz.d,xI iz.F T fE qd wA wB,⟨ya,iz.a,iz.i,yb⟩,iz.b⟩
 have lU:fO l.prog w K mg base bW 5 A_Keeper "side" ["self","a"] (eC K C (⟨A_Levels,A_Keeper⟩:CA)):=⟨kr.f,kr.d,EB kr.F T iE Ci Cj,⟨kr.a,kr.i,kr.F.kp⟩,kr.b⟩
 have rO:j3 l.prog w K mg base bW 6 "new_tie" ["n","standing","a","b"] (iK K C):=⟨pN.f,pN.d,IP pN.F T cA oH Hd He,pN.m,pN.F.kp,pN.b⟩
 have ki:j3 l.prog w K mg base bW 6 "standing_tie" ["n","standing","a","b"] (d7 K C):=⟨i8.f,i8.d,yK i8.F T cA oH xK xM,i8.m,i8.F.kp,i8.b⟩
 have jg:fO l.prog w K mg base bW 6 C "link" ["self","a","b"] (cG K C):=⟨ko.f,ko.d,Ez ko.F T cA dt jf rJ Cd Ce,⟨ko.a,ko.i,ko.F.kp⟩,ko.b⟩
 have qb:fO l.prog w K mg base bW 6 C "cut" ["self","a","b"] (fM K C):=⟨lM.f,lM.d,G5 lM.F T cA tJ gU jf EM EN,⟨lM.a,lM.i,lM.F.kp⟩,lM.b⟩
 have qe:fO l.prog w K mg base bW 6 C "way" ["self","a","b"] (hU K C):=⟨lN.f,lN.d,G6 lN.F T dt tK EK EL,⟨lN.a,lN.i,lN.F.kp⟩,lN.b⟩
 have gY:fO l.prog w K mg base bW 6 A_Keeper "joined" ["self","a","b"] (bR K C (⟨A_Levels,A_Keeper⟩:CA)):=⟨iR.f,iR.d,AW iR.F T dt y8 y9,⟨iR.a,iR.i,iR.F.kp⟩,iR.b⟩
 have fZ:fO l.prog w K mg base bW 7 A_Levels "adopt" ["self","tie"] (bM K C (⟨A_Levels,A_Keeper⟩:CA)):=⟨ia.f,ia.d,yM ia.F T jg xN xO,⟨ia.a,ia.i,ia.F.kp⟩,ia.b⟩
 have jI:fO l.prog w K mg base bW 7 A_Levels "lift" ["self","tie"] (cQ K C (⟨A_Levels,A_Keeper⟩:CA)):=⟨iM.f,iM.d,AQ iM.F T jg yW yX,⟨iM.a,iM.i,iM.F.kp⟩,iM.b⟩
 have lz:fO l.prog w K mg base bW 7 A_Levels "drop" ["self","tie"] (dB K C (⟨A_Levels,A_Keeper⟩:CA)):=⟨iN.f,iN.d,AR iN.F T qb yY yZ,⟨iN.a,iN.i,iN.F.kp⟩,iN.b⟩
 have nI:fO l.prog w K mg base bW 7 A_Keeper "way" ["self","a","b"] (eL K C (⟨A_Levels,A_Keeper⟩:CA)):=⟨lP.f,lP.d,G8 lP.F T qe EX EY,⟨lP.a,lP.i,lP.F.kp⟩,lP.b⟩
 have kF:j3 l.prog w K mg base bW 8 "_law_asked" ["_law_keeper","_law_standing","_law_a","_law_b"] (dr K C (⟨A_Levels,A_Keeper⟩:CA)):=⟨kK.f,kK.d,BY kK.F T gY nI lU oI oJ nJ Bg Bh,kK.m,kK.F.kp,kK.b⟩
 have m5:fO l.prog w K mg base bW 8 A_Levels "add" ["self","tie","weight"] (fq K C (⟨A_Levels,A_Keeper⟩:CA)):=⟨jq.f,jq.d,B8 jq.F T dt fZ A1 A2,⟨jq.a,jq.i,jq.F.kp⟩,jq.b⟩
 have lA:fO l.prog w K mg base bW 8 A_Levels "look" ["self","level","tie"] (dC K C (⟨A_Levels,A_Keeper⟩:CA) Pt1):=⟨iP.f,iP.d,AU iP.F T f9 gp jI jJ fZ y0 y3,⟨iP.a,iP.i,iP.F.kp⟩,iP.b⟩
 have lC:fO l.prog w K mg base bW 9 A_Levels "take" ["self","tie"] (eQ K C (⟨A_Levels,A_Keeper⟩:CA) Pt1):=⟨iQ.f,iQ.d,AV iQ.F T lz lA y4 y6,⟨iQ.a,iQ.i,iQ.F.kp⟩,iQ.b⟩
 have kj:fO l.prog w K mg base bW 9 A_Keeper "receive" ["self","tie","weight"] (d8 K C (⟨A_Levels,A_Keeper⟩:CA)):=⟨ic.f,ic.d,yN ic.F T m5 xP xQ,⟨ic.a,ic.i,ic.F.kp⟩,ic.b⟩
 have qa:fO l.prog w K mg base bW 10 A_Keeper "out" ["self","a","b"] (e9 K C (⟨A_Levels,A_Keeper⟩:CA) Pt1):=⟨lO.f,lO.d,G7 lO.F T ki tL lC wm oZ hJ EZ E1,⟨lO.a,lO.i,lO.F.kp⟩,lO.b⟩
 have kE:fO l.prog w K mg base bW 10 A_Keeper "put" ["self","a","b"] (dm K C (⟨A_Levels,A_Keeper⟩:CA)):=⟨jr.f,jr.d,Ca jr.F T kj rO A4 A5,⟨jr.a,jr.i,jr.F.kp⟩,jr.b⟩
 exact Ry Ko.F T mS d0 dW i7 qa kE kF gY Ph (Pi ct)
theorem UF {l:sD}{q:bp}{loose:List bA}{XP:(bA->Option ai)->cm->Prop}{YP:b8->cm->Prop}{d dy1:DefRec}{K:Params->aa}{c1 Pt1:af}(hn:l.most=some 63) (hdf:d.params.defaults=[])
  (hY:∀ (w:b8) (h:cm),YP w h->(K w.params).In h)
  (hrec1:(recsOf q).find? (λe=>e.name == ("in_order":bA))=some dy1) (htab1:∀ w:b8,PySem.W.tabIn (K w.params) "in_order"=some (c1,Pt1))
  (hnt:∀ w:b8,PySem.W.noTabs (K w.params)=true)
  (F:∀ (w:b8) (mg:bA->Option ai) (fa:af) (h:cm),(K w.params).In h->h.Ns bQ mg->mg d.name=some (.ref fa) ->
   ∃ fd:fP,(∀ (s:au) (u:ai),FH s fd ⟨[u],[]⟩ [("_law_script",u)])/\∀ base:cm,(K w.params).In base->base.Ns bQ mg->pF base c1 Pt1->base.BuiltinsAt mg Pt1->FnOk l.prog w (K w.params) mg base bW 11 fa fd ["_law_script"] (Bi (K w.params) Pt1)) :
  N8 q loose XP YP l.row.toRowW d [] (λf vs=>N9 f vs):=by
 have m1:(c1,Pt1)∈[(c1,Pt1)]:=aq
 refine L2.Nd (n:=63) (k:=11) (x:="_law_script") (Ps:=[(c1,Pt1)]) (sp:=λw=>Bi (K w.params) Pt1) hn (by decide) hdf ⟨rfl,by decide,by decide⟩ hY (λp hp=>?_) hnt (λw mg fa h a b c=>?_) (λ_ _ a ns hl hT hS=>⟨a,ns,rfl,hS,hl,.inl (hT _ m1),λ_=>rfl⟩) λ_ _ _ _ z=>z
 ·rw [aC.mp hp];exact ⟨_,dy1,hrec1,htab1⟩
 ·obtain ⟨fd,q1,q2⟩:=F w mg fa h a b c
  exact ⟨fd,q1,λbase i1 i2 hP=>q2 base i1 i2 (hP _ m1).1 (hP _ m1).2⟩
end K39
end
structure PySem.W.Fast:Prop where(tw14608726450869095339 tw11417298040787203666 tw9622926079226527176 tw6260544192129650231 tw12745425117061469026 tw13078462748415865002 tw5675402007820711152 tw15978428043881487575 tw1603053815823795479 tw4522321536715441516 tw8708787893847694783 tw17491489493313170766 tw7224362084011914449 tw9997983116160384354 tw601108762991435608 tw2908738186010927016 tw4109188803520426684 tw10916423222781912049 tw17912652374058336517 tw6544220368652218583 tw13326269294347761994 tw125107879402652146 tw17186904136170622501 tw2815934130646599446 tw8923107006644782863 tw17789428195847880264 tw2798526734331998041 tw5020298925306210561 tw5922591450993951620 tw12508164810338326565 tw7193373782537514768 tw10759159560981631196 tw7367989236352712570 tw6057543379819244933 tw4204715890783635456 tw8163388908725124929 tw16761610325675966004 tw16949178717622385841 tw3566062167998267479 tw3491920876189629275 tw5630736385491561195 tw4421031859611085659 tw11332290663063833759 tw12707477001110209944 tw14889409340370542512 tw1645466811000135021 tw13288517895906492780 tw12654637036225554937 tw13627907200965618334 tw16599901619837594732 tw10083315105573592823 tw1107244348507816779 tw12931103528752657405 tw2520354833559789274 tw8789921950366667442 tw8616996062791973998 tw6337568764571441346 tw4517369947025519978 tw4217653030708147873 tw681447758620672245 tw7470410880511266698 tw8283296392288213550 tw816338075808260802 tw13261024966550327074 tw6050635319201078612 tw4309110107173411066 tw11397386077080381909 tw8104271771733640259 tw13570378461486429314 tw12936382220819156657 tw12908140195476646210 tw13559404783221474430 tw9938641539114628006 tw10920325992137541344 tw17759775379072819423 tw4134049045412294784 tw7649008914475819009 tw7356422159983653285 tw17270596129440811500 tw5212516537849857841 tw17063341736043114703 tw10864421611524543155 tw3940049128412155030 tw5396018188418185823 tw17746983530267468614 tw7290362276813826633 tw8518760373461865155 tw6957804026720997745 tw17364504580641874658 tw2801045326355480985 tw18300816930333238460 tw17237207576664193303 tw14455873957063795066 tw11621122824129463929 tw14331071050639765657 tw13509536551307719097 tw2687321713665996482 tw17948310065429746665 tw610396208362068698 tw7512746913782098414 tw17969216952419695459 tw11539679575682985048 tw6566512636387247915 tw7060838879484724673 tw137747411762808168 tw7005088391948417402 tw2690164421122564787 tw14358743271012108932 tw892350089991813089 tw2624836688946112322 tw17057724249202994280 tw9524611611500016375 tw6130091476369847345 tw15621506774912997739 tw5718514991767526789 tw12787031028251033426 tw15104749187150865717 tw17184840836571413959 tw6269953683591778241 tw9610712826662957476 tw696537784889848404 tw14974898853075256839 tw4609552384971078087 tw10846057162768208685 tw12326047154100935615 tw9539053168030428352 tw3908203683112469002 tw13828438310800494682 tw11265053710319963443 tw13533324690245722538 tw10987612589821669518 tw12336667012890261687 tw7246137843730969762 tw4211691236657267906 tw12881580926755219964 tw9122950511066570268 tw8189127169050429158 tw9622278230454884086 tw16765772235930424232 tw17007448414697733038 tw3477124963309996992 tw17646283409769994953 tw12435869719250601725 tw12685168190097187116 tw1073097630806314404 tw10715173964488758447 tw6684661442882977072 tw3694326676159692814 tw480720784080949071 tw6218620033533643871 tw16665775060670947431 tw9226968939139506107 tw14666769486182582326 tw15599473462010536213 tw15826225686951616902 tw8126427012278477427 tw16649463941377537606 tw7483077680332607516 tw14337221779605714313 tw2677350363684928865 tw2099653824901969237 tw14252675508750135669 tw13424006814448609755 tw14517471200223575420 tw265934851948498770 tw11451422875255313070 tw9453296610967126292 tw13043750018557324716 tw4434060671426701437 tw4547062234521657450 tw6829364587892330551 tw9632448475696837291 tw18260596846917417033 tw10555208773102388567 tw16901218033954002047 tw6650789766434526467 tw3259222903362517414 tw4774196295673550897 tw3776608482663424347 tw5871149165656750942 tw2809133336254575375 tw16608314951783596474 tw10349768302504481578 tw6278815521487733607 tw5395793762904513997 tw7927495067187278230 tw11282977777302612394 tw7457981772830179875 tw8067504607787479252 tw4345470521862230377 tw1178616527770528138 tw12208006117584607948 tw4780819746609592667 tw8133856953319410984 tw1174471435362017779 tw4424989072748846049 tw660294056296190747 tw13165319940242209158 tw11888061769618407720 tw10619172107219551226 tw4968035269428898035 tw17884511921842640107 tw13046375959180310521 tw17061742242848214216 tw8178920440785486539 tw11433967269331199937 tw7836708446845906964 tw12004099782889942678 tw16220357203410771684 tw10692729937148995638 tw12799973047819474029 tw8267514908329329921 tw7031290688574376881 tw5156368837655896256 tw6540509224627114784 tw3124021056412886534 tw10701737121398117711 tw11267179065149298576 tw1463681728185835521 tw7624490312031930297 tw6237394081049275694 tw503173082652007544 tw8772229089652274942 tw7657188442768509269 tw1752780443661755439 tw3141065138160839489 tw13211687250151878759 tw10955728364226476955 tw650384619072248832 tw18378348747704929844 tw7487123740149018290 tw8187720607776245903 tw9904340489732482501 tw12662511408305529924 tw18362168766717525689 tw14379564936178802537 tw9638581394296403010 tw15283954636817848811 tw7682255684057086424 tw17975452963920307970 tw14480546274246777183 tw10703577223519559546 tw17909229043433455804 tw15423098536670617468 tw10269626065401278354 tw7458516395339064482 tw14516980861910372656 tw16643308401253678452 tw12898011050881423639 tw2384913961881015119 tw5268567598257876479 tw17799909635132946220 tw12978584389935556229 tw2233444925737312367 tw15543593602084062853 tw6882447703865385877 tw13032008833556509075 tw10743642750051380461 tw11724998437792772253 tw17208523806189218102 tw1591871327476993770 tw9620711508064123081 tw9935535312248613025 tw1327804178686699195 tw17808949749018583294 tw6620528198623704912 tw864342749477458259 tw16115354266330963717 tw9827342402258358514 tw10728785665798267600 tw6456618567427455886 tw15023207468750416943 tw16297812333856476816 tw12313529172913575250 tw11534837251100978012 tw3302280284636701885 tw15279973506415905883 tw4869741942433232393 tw5033149291115598377 tw15384649499124148950 tw9669613531020410473 tw2452283318256878545 tw185900727463505259 tw12356533071362203947 tw17142271796818234412 tw9101460532986908054 tw17763540905575634649 tw17878462662376763272 tw3751344664995464800 tw14452367518998780850 tw2893423367694093601 tw12294841088813099384 tw7433147371528147404 tw120959571727868800 tw5796244868094827878 tw8768633596412031432 tw16430890903165139797 tw18212714486157654845 tw1436028988981843388 tw3059176577367452799 tw5998061589210019520 tw10980761073540195522 tw2489980607760995198 tw12457459779348331275 tw13084643097694622768 tw18190144578076450999 tw331594306046108383 tw14343443675114515877 tw14201719710391549597 tw13564127269191413686 tw16378215221517085909 tw15387354250342982272 tw12093565814085003747 tw17761677948272629389 tw671368700420442760 tw1265148750412231883 tw15854281401322957519 tw7376623542887798211 tw15276766411219284442 tw17782971925294936648 tw12220357884127572264 tw17764047956659814142 tw17573636071571955415 tw11832938380466851811 tw7037582831260330550 tw13503259530545154060 tw6988870521411375982 tw8393648512122725401 tw12954779886057807918 tw11604877846307011105 tw14524092710618153342 tw8896602421848706897 tw9222563007187546664 tw7060353380901141207 tw12036729071590998403 tw14378588413186634998 tw4847686415931703305 tw15593091722141385937 tw12732636985113821532 tw5066385644933096887 tw8924419889186298308 tw11546658776624559541 tw16490966020706574733 tw2389961317722383576 tw5082517877560777800 tw8286114772931372693 tw12934384379451148346 tw13822386115750445429 tw11567997922452803609 tw1747772919410592012 tw9731052463425488354 tw14525573541284710019 tw15069428626051813182 tw16016555244381570827 tw17657627834280560377 tw11384230699645362396 tw14253107392818119767 tw11622109910701815516 tw17650753867274539367 tw1184120050461387252 tw13322669182202785561 tw6129658249456026193 tw12041329353490099469 tw3512488790481319490 tw13813457990107700112 tw18147062794822602225 tw18270139779014954782 tw12514530633951977610 tw10773054437109156598 tw242104604936356422 tw938026134753634800 tw15219195871210611039 tw13166821885672212198 tw6262890690383263333 tw11229865655881283093 tw14600746338188252729 tw5894200696501912556 tw11873480802978694273 tw7900730659972635420 tw13129238076417577967 tw9819827374876264720 tw6591474998099646473 tw16680682616822897310 tw8449019045624898550 tw3041802964646871642 tw6082852975648447873 tw15427320878973690705 tw13308449023239294229 tw14371311654889819663 tw2353477784332817535 tw11935827615110087403 tw2975368230602517811 tw10727284447212845890 tw5619857612670033783 tw12086094466791884288 tw18325156559852982303 tw8136235607916436484 tw11139530523415252501 tw16095113529980783733 tw12122006751890555590 tw11248032243888362038 tw7809160343391328144 tw5989709534510199672 tw2905912685889142171 tw14608120341421992632 tw16231067929679884145 tw2711159048438863190 tw16782808924194752974 tw5500368096954017022 tw1182238306098548066 tw18423754972238143718 tw4124482115563688875 tw1829891727697823535 tw5321862647269382701 tw16428894700455423831 tw3595183706223459026 tw8208182790002584818 tw2895152295458213384 tw2831779610851861546 tw7575995276033968862 tw10778146945480202003 tw7220749009912686351 tw8017218452111063890 tw9540846643893475284 tw6761584248959204683 tw16317591463558470898 tw6568093126874638699 tw3700598376647712494 tw10588741109168199276 tw7598582358413619060 tw7985329240310611046 tw18372684795441251061 tw3528991645857406004 tw8242717212939153543 tw5656775547903445516 tw13998558442264310664 tw8767529778801275068 tw11003893335747120215 tw7346134354216662964 tw4028281656399501737 tw2592504505711899602 tw493976846323266511 tw9831672787010756465 tw17068697283182476771 tw17381827302724549600 tw4331161004138450779 tw13879705303429276470 tw8288215315529684081 tw4050871267346331258 tw7543958484444273534 tw6447686045624502007 tw7603484736840776330 tw12539187696388943753 tw1114342901196736685 tw9060494937701226737 tw839684942762596190 tw14426109777422971709 tw6355494330072158864 tw1296925143445763840 tw970371033901209814 tw13226683742334542559 tw6564524848376998803 tw3294456948558968398 tw9196557081592371855 tw18381096849508535990 tw7156114246164863792 tw15315952912415241451 tw4003621845023364313 tw4332038287477554576 tw9929919195143341090 tw7199470508280249549 tw15884226573959727061 tw15551787961354590151 tw14795415258123046815 tw11189225001808857746 tw9663491647164429021 tw16075529434307389343 tw12370489820764838118 tw5761676548494310441 tw878076891143428247 tw10781716956066921744 tw14740583269167388044 tw10536768288581013242 tw5232851805335922966 tw3639877484751802844 tw10091441879015074132 tw7844119973165418575 tw13463962735637307308 tw13049597733796537349 tw10662318282458517503 tw10919333001528040292 tw11858305298906575802 tw14147638156780649346 tw10154702169146799333 tw17017546232128032586 tw10980324851559381619 tw11932851981314157769 tw4920298924148200954 tw14860175426541351275 tw9956584462909037297 tw3823711984765817636 tw7242573158504716152 tw463181209822255218 tw16162227815360257475 tw16572847502006908332 tw10556878133791813899 tw17597938572842426965 tw9325861352623292383 tw472763800784476856 tw578427623786701898 tw9708194257144175500 tw3107619297253599855 tw13546486056761712482 tw16536521831494806019 tw15860762694976823453 tw11207264877227651287 tw11335948783026934137 tw18284738354982797193 tw15798028256221203719 tw8547051880624201343:True)
open PySem PySem.W PyProof.Rows
set_option maxRecDepth 100000 in
set_option maxHeartbeats 0 in
theorem PySem.Challenge.cw_tiewood_k39_whole_ways_and_sides_holds : PySem.Challenge.rw_tiewood_k39_whole_ways_and_sides.Holds := by
  w_on; o_law; k_head; (case hw => w_witness2)
  k_fill
  refine' K39.UF (l := PySem.Challenge.rw_tiewood_k39_whole_ways_and_sides) rfl rfl (fun w h Y => PySem.W.km_in_of Y) ?hrec1 ?htab1 ?hnt ?F
  case hrec1 => exact rfl
  case htab1 => intro w; exact rfl
  case hnt => intro w; exact rfl
  case F =>
    intro w mg fa h KX G hmg
    refine' K39.RD KX G hmg ?E8 ?E9 ?Fb ?Fc ?Fd ?Fe ?Ff ?n_Wood_n ?n_Wood_rows ?xU ?xV ?xW ?xX ?xY ?xZ ?x3 ?n_Levels_level_of ?n_Levels_weight_of ?n_Levels_wooden ?n_Levels_woods ?x4 ?x5 ?x6 ?x8 ?x9 ?ya ?yb ?n_Keeper_came ?n_Keeper_levels ?n_Keeper_looked ?n_Keeper_lost ?n_Keeper_n ?n_Keeper_risen ?n_Keeper_wood (L2.vz KX G ?Jd ?Je ?kg ?Jf fun _ _ _ _ _ _ us hl => match us, hl with | [_], _ => rfl) (L2.vz KX G ?Jg ?Jh ?qd ?Ji fun _ _ _ _ _ _ us hl => match us, hl with | [_], _ => rfl) (L2.vz KX G ?Jj ?Jk ?pZ ?Jl fun _ _ _ _ _ _ us hl => match us, hl with | [_, _], _ => rfl) (L2.vz KX G ?SZ ?Ta ?yA ?Tb fun _ _ _ _ _ _ us hl => match us, hl with | [_], _ => rfl) (L2.vz KX G ?NK ?NL ?oH ?NM fun _ _ _ _ _ _ us hl => match us, hl with | [_, _], _ => rfl) (L2.vz KX G ?NN ?NO ?tL ?NP fun _ _ _ _ _ _ us hl => match us, hl with | [_, _], _ => rfl) (L2.vz KX G ?Pj ?Pk ?oZ ?Pl fun _ _ _ _ _ _ us hl => match us, hl with | [_], _ => rfl) (L2.vz KX G ?Pn ?Po ?wm ?Pp fun _ _ _ _ _ _ us hl => match us, hl with | [_], _ => rfl) (L2.vz KX G ?Cm ?Cn ?gU ?Co fun _ _ _ _ _ _ us hl => match us, hl with | [_], _ => rfl) (L2.vz KX G ?NQ ?NR ?oG ?NS fun _ _ _ _ _ _ us hl => match us, hl with | [_, _], _ => rfl) (L2.vz KX G ?Lw ?Lx ?rJ ?Ly fun _ _ _ _ _ _ us hl => match us, hl with | [_, _, _, _], _ => rfl) (L2.vz KX G ?NT ?NU ?tJ ?NV fun _ _ _ _ _ _ us hl => match us, hl with | [_, _, _], _ => rfl) (L2.vz KX G ?NW ?NX ?tK ?NY fun _ _ _ _ _ _ us hl => match us, hl with | [_, _, _], _ => rfl) (L2.vz KX G ?wC ?wD ?cM ?wF fun _ _ _ _ _ _ us hl => match us, hl with | [_, _], _ => rfl) (L2.vz KX G ?vo ?vp ?dU ?vq fun _ _ _ _ _ _ us hl => match us, hl with | [_, _, _], _ => rfl) (L2.vz KX G ?yc ?yd ?cA ?ye fun _ _ _ _ _ _ us hl => match us, hl with | [_, _, _], _ => rfl) (L2.vz KX G ?Jm ?Jo ?qc ?Jp fun _ _ _ _ _ _ us hl => match us, hl with | [_, _], _ => rfl) (L2.vz KX G ?Cp ?Cq ?jJ ?Cr fun _ _ _ _ _ _ us hl => match us, hl with | [_, _], _ => rfl) (L2.vz KX G ?Lz ?LA ?rO ?LB fun _ _ _ _ _ _ us hl => match us, hl with | [_, _, _, _], _ => rfl) (L2.vz KX G ?Bk ?Bl ?ki ?Bn fun _ _ _ _ _ _ us hl => match us, hl with | [_, _, _, _], _ => rfl) (L2.vz KX G ?Bo ?Bp ?dW ?Bq fun _ _ _ _ _ _ us hl => match us, hl with | [_, _], _ => rfl) (L2.vz KX G ?Fh ?Fi ?mQ ?Fj fun _ _ _ _ _ _ us hl => match us, hl with | [_], _ => rfl) (L2.vz KX G ?Cs ?Ct ?gX ?Cu fun _ _ _ _ _ _ us hl => match us, hl with | [_], _ => rfl) (L2.vz KX G ?Jq ?Jr ?nJ ?Js fun _ _ _ _ _ _ us hl => match us, hl with | [_, _, _, _], _ => rfl) (L2.vz KX G ?Hi ?Hj ?oJ ?Hk fun _ _ _ _ _ _ us hl => match us, hl with | [_, _, _], _ => rfl) (L2.vz KX G ?Fk ?Fl ?kF ?Fn fun _ _ _ _ _ _ us hl => match us, hl with | [_, _, _, _], _ => rfl) (L2.vz KX G ?Cv ?Cw ?jG ?Cy fun _ _ _ _ _ _ us hl => match us, hl with | [_, _, _], _ => rfl) (L2.vz KX G ?yf ?yg ?i7 ?yh fun _ _ _ _ _ _ us hl => match us, hl with | [_, _], _ => rfl) (L2.vz KX G ?Fo ?Fp ?mS ?Fq fun _ _ _ _ _ _ us hl => match us, hl with | [_, _], _ => rfl) (L2.vz KX G ?Tc ?Td ?Te ?Tf fun _ _ _ _ _ _ us hl => match us, hl with | [_], _ => rfl) (L2.yw ?ze ?zf ?zg ?gG ?zh fun _ _ _ _ _ _ us hl => match us, hl with | [_, _], _ => rfl) (L2.yw ?Hl ?Hm ?Hn ?jf ?Ho fun _ _ _ _ _ _ us hl => match us, hl with | [_, _], _ => rfl) (L2.yw ?Hq ?Hr ?Hs ?jg ?Ht fun _ _ _ _ _ _ us hl => match us, hl with | [_, _, _], _ => rfl) (L2.yw ?Jt ?Ju ?Jv ?qb ?Jw fun _ _ _ _ _ _ us hl => match us, hl with | [_, _, _], _ => rfl) (L2.yw ?Cz ?CB ?CC ?dt ?CD fun _ _ _ _ _ _ us hl => match us, hl with | [_, _, _], _ => rfl) (L2.yw ?Fs ?Ft ?Fv ?iE ?Fw fun _ _ _ _ _ _ us hl => match us, hl with | [_, _], _ => rfl) (L2.yw ?Hu ?Hv ?Hw ?lV ?Hx fun _ _ _ _ _ _ us hl => match us, hl with | [_, _], _ => rfl) (L2.yw ?Jx ?Jy ?Jz ?qe ?JA fun _ _ _ _ _ _ us hl => match us, hl with | [_, _, _], _ => rfl) (L2.yw ?wG ?wH ?wI ?fE ?wJ fun _ _ _ _ _ _ us hl => match us, hl with | [_, _], _ => rfl) (L2.yw ?Fx ?Fy ?Fz ?m5 ?FA fun _ _ _ _ _ _ us hl => match us, hl with | [_, _, _], _ => rfl) (L2.yw ?Br ?Bs ?Bt ?fZ ?Bu fun _ _ _ _ _ _ us hl => match us, hl with | [_, _], _ => rfl) (L2.yw ?CF ?CG ?CI ?jI ?CJ fun _ _ _ _ _ _ us hl => match us, hl with | [_, _], _ => rfl) (L2.yw ?CK ?CL ?CM ?lz ?CN fun _ _ _ _ _ _ us hl => match us, hl with | [_, _], _ => rfl) (L2.yw ?wK ?wL ?wM ?gp ?wO fun _ _ _ _ _ _ us hl => match us, hl with | [_, _, _], _ => rfl) (L2.yw ?CO ?CP ?CQ ?hJ ?CS fun _ _ _ _ _ _ us hl => match us, hl with | [_, _], _ => rfl) (L2.yw ?tT ?tU ?tV ?f9 ?tW fun _ _ _ _ _ _ us hl => match us, hl with | [_, _, _], _ => rfl) (L2.yw ?CU ?CV ?CW ?lA ?CY fun _ _ _ _ _ _ us hl => match us, hl with | [_, _, _], _ => rfl) (L2.yw ?CZ ?C2 ?C3 ?lC ?C4 fun _ _ _ _ _ _ us hl => match us, hl with | [_, _], _ => rfl) (L2.yw ?zj ?zk ?zl ?d0 ?zm fun _ _ _ _ _ _ us hl => match us, hl with | [_, _], _ => rfl) (L2.yw ?Bv ?Bw ?Bx ?kj ?By fun _ _ _ _ _ _ us hl => match us, hl with | [_, _, _], _ => rfl) (L2.yw ?JB ?JC ?JD ?qa ?JE fun _ _ _ _ _ _ us hl => match us, hl with | [_, _, _], _ => rfl) (L2.yw ?C5 ?C6 ?C7 ?gY ?C8 fun _ _ _ _ _ _ us hl => match us, hl with | [_, _, _], _ => rfl) (L2.yw ?JF ?JG ?JH ?nI ?JI fun _ _ _ _ _ _ us hl => match us, hl with | [_, _, _], _ => rfl) (L2.yw ?Hy ?Hz ?HA ?lU ?HB fun _ _ _ _ _ _ us hl => match us, hl with | [_, _], _ => rfl) (L2.yw ?HC ?HD ?HE ?oI ?HF fun _ _ _ _ _ _ us hl => match us, hl with | [_], _ => rfl) (L2.yw ?FB ?FC ?FD ?kE ?FE fun _ _ _ _ _ _ us hl => match us, hl with | [_, _, _], _ => rfl) ?vn ?NB ?Jb ?NC ?sv ?ND ?Jc ?NF ?NG ?Fg ?NH ?Bj ?NI ?NJ ?qJ
    case E8|E9|Fb|Fc|Fd|Fe|Ff|n_Wood_n|n_Wood_rows|xU|xV|xW|xX|xY|xZ|x3|n_Levels_level_of|n_Levels_weight_of|n_Levels_wooden|n_Levels_woods|x4|x5|x6|x8|x9|ya|yb|n_Keeper_came|n_Keeper_levels|n_Keeper_looked|n_Keeper_lost|n_Keeper_n|n_Keeper_risen|n_Keeper_wood|Jd|Je|kg|Jf|Jg|Jh|qd|Ji|Jj|Jk|pZ|Jl|SZ|Ta|yA|Tb|NK|NL|oH|NM|NN|NO|tL|NP|Pj|Pk|oZ|Pl|Pn|Po|wm|Pp|Cm|Cn|gU|Co|NQ|NR|oG|NS|Lw|Lx|rJ|Ly|NT|NU|tJ|NV|NW|NX|tK|NY|wC|wD|cM|wF|vo|vp|dU|vq|yc|yd|cA|ye|Jm|Jo|qc|Jp|Cp|Cq|jJ|Cr|Lz|LA|rO|LB|Bk|Bl|ki|Bn|Bo|Bp|dW|Bq|Fh|Fi|mQ|Fj|Cs|Ct|gX|Cu|Jq|Jr|nJ|Js|Hi|Hj|oJ|Hk|Fk|Fl|kF|Fn|Cv|Cw|jG|Cy|yf|yg|i7|yh|Fo|Fp|mS|Fq|Tc|Td|Te|Tf|ze|zf|zg|gG|zh|Hl|Hm|Hn|jf|Ho|Hq|Hr|Hs|jg|Ht|Jt|Ju|Jv|qb|Jw|Cz|CB|CC|dt|CD|Fs|Ft|Fv|iE|Fw|Hu|Hv|Hw|lV|Hx|Jx|Jy|Jz|qe|JA|wG|wH|wI|fE|wJ|Fx|Fy|Fz|m5|FA|Br|Bs|Bt|fZ|Bu|CF|CG|CI|jI|CJ|CK|CL|CM|lz|CN|wK|wL|wM|gp|wO|CO|CP|CQ|hJ|CS|tT|tU|tV|f9|tW|CU|CV|CW|lA|CY|CZ|C2|C3|lC|C4|zj|zk|zl|d0|zm|Bv|Bw|Bx|kj|By|JB|JC|JD|qa|JE|C5|C6|C7|gY|C8|JF|JG|JH|nI|JI|Hy|Hz|HA|lU|HB|HC|HD|HE|oI|HF|FB|FC|FD|kE|FE => k_is
    case vn => exact rfl
    case NB|Jb|NC|sv|ND|Jc|NF|NG|Fg|NH|Bj|NI|NJ|qJ => k_is
