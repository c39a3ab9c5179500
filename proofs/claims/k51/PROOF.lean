import PyProof.Rows.All
import Wide.All
import OpenK.AllK
import Wide.FinOn
import Lean
import PyProof.EqAt
import PyProof.EqKinds
import PyProof.TupleCall
import KE.KMinKey
import KE.KLam
import PyProof.Rows.CallKwBuiltin
import PyProof.Rows.Range3
import PyProof.Rows.SeqMore2
import PyProof.SeqI3
import KE.KSortTup
import PyProof.ZipIter
import KE.KItemsList
import KE.KDictList
import KE.KRevIter
import PyProof.Rows.SetFrom
import PyProof.EnumMake
import PyProof.EnumStmt
import PyProof.EnumFor
import KE.KTryMore
import KE.KTryOn
import KE.KSortKey
import PyProof.ListRange
import PyProof.Rows.SumAny
import PySem.Challenge.RW_tiewood_k51_the_first_wood
set_option Elab.async false
set_option linter.all false
set_option maxRecDepth 100000
set_option maxHeartbeats 4000000
namespace L2
open PySem PySem.Spec PyProof.Rows
abbrev Key:=Sum Int Str
def keyIs:Key→Value→Bool
  | .inl k,v=>Value.isInt k v
  | .inr x,v=>Value.isStrOf x v
def keyH (w:World):Key→Int
  | .inl k=>hashInt k
  | .inr x=>hashStr w x
theorem keyIs_shape:∀ {k:Key} {v:Value},keyIs k v=true→(∃ i t,k=Sum.inl i∧v=Value.int i t)∨(∃ x t,k=Sum.inr x∧v=Value.str x t)
  | .inl i, v, h => by
    obtain ⟨t,e⟩:=Value.isInt_shape (k:=i) (v:=v) h
    exact .inl ⟨i,t,rfl,e⟩
  | .inr x, v, h => by
    obtain ⟨t,e⟩:=Value.isStrOf_shape (x:=x) (v:=v) h
    exact .inr ⟨x,t,rfl,e⟩
theorem keyIs_int (i:Int) (t:Tok):keyIs (.inl i) (.int i t)=true:=by simp [keyIs,Value.isInt]
theorem keyIs_str (x:Str) (t:Tok):keyIs (.inr x) (.str x t)=true:=by simp [keyIs,Value.isStrOf]
theorem key_ll (a b:Int):decide ((Sum.inl a:Key)=Sum.inl b)=(a == b):=by
  by_cases e:a=b
  · subst e; simp
  · have h:¬ (Sum.inl a:Key)=Sum.inl b:=fun q=>e (Sum.inl.inj q)
    rw [decide_eq_false h]
    exact (beq_eq_false_iff_ne.mpr e).symm
theorem key_rr (a b:Str):decide ((Sum.inr a:Key)=Sum.inr b)=decide (a=b):=by
  by_cases e:a=b
  · subst e; simp
  · have h:¬ (Sum.inr a:Key)=Sum.inr b:=fun q=>e (Sum.inr.inj q)
    rw [decide_eq_false h,decide_eq_false e]
theorem key_lr (a:Int) (b:Str):decide ((Sum.inl a:Key)=Sum.inr b)=false:=decide_eq_false (fun q=>nomatch q)
theorem key_rl (a:Str) (b:Int):decide ((Sum.inr a:Key)=Sum.inl b)=false:=decide_eq_false (fun q=>nomatch q)
def mixKind (prog : Program) (w : World) : PySem.KeyKind prog w Key where
  is:=keyIs
  hash:=keyH w
  inj := fun v a b ha hb => by
    rcases keyIs_shape ha with ⟨i,t,rfl,rfl⟩ | ⟨x,t,rfl,rfl⟩
    · rcases keyIs_shape hb with ⟨j,u,rfl,e⟩ | ⟨y,u,rfl,e⟩
      · injection e with e1 _; rw [e1]
      · exact nomatch e
    · rcases keyIs_shape hb with ⟨j,u,rfl,e⟩ | ⟨y,u,rfl,e⟩
      · exact nomatch e
      · injection e with e1 _; rw [e1]
  byValue:=fun k v h=>by
    rcases keyIs_shape h with ⟨i,t,rfl,rfl⟩ | ⟨x,t,rfl,rfl⟩ <;> rfl
  pyHash:=fun hv h=>by
    rcases keyIs_shape hv with ⟨i,t,rfl,rfl⟩ | ⟨x,t,rfl,rfl⟩
    · exact wpAny_pyHash_int h
    · exact wpAny_pyHash_str h
  eqBool:=fun hu hv h=>by
    rcases keyIs_shape hu with ⟨i,t,rfl,rfl⟩ | ⟨x,t,rfl,rfl⟩
    · rcases keyIs_shape hv with ⟨j,u,rfl,rfl⟩ | ⟨y,u,rfl,rfl⟩
      · rw [key_ll] at h; exact wpAny_eqBool_int h
      · rw [key_lr] at h; exact SeqAt.EqAt.int_str i t y u _ _ _ _ h
    · rcases keyIs_shape hv with ⟨j,u,rfl,rfl⟩ | ⟨y,u,rfl,rfl⟩
      · rw [key_rl] at h; exact SeqAt.EqAt.str_int x t j u _ _ _ _ h
      · rw [key_rr] at h; exact wpAny_eqBool_str h
  «strs»:=fun k x t v h=>by
    rcases keyIs_shape h with ⟨i,u,rfl,e⟩ | ⟨y,u,rfl,e⟩
    · exact nomatch e
    · injection e with e1 _
      subst e1
      cases v <;> rfl
theorem mixKind_int (prog:Program) (w:World) (i:Int) (t:Tok):(mixKind prog w).is (.inl i) (.int i t)=true:=keyIs_int i t
theorem mixKind_str (prog:Program) (w:World) (x:Str) (t:Tok):(mixKind prog w).is (.inr x) (.str x t)=true:=keyIs_str x t
end L2
namespace L2
open PySem PySem.Spec PyProof.Rows
inductive V where
  | non | bl (b:Bool) | int (i:Int) | str (x:Str) | byt (b:Array UInt8) | flt (b:UInt64) | ref (a:Addr) | ty (n:String)
  deriving DecidableEq
def RelV:V→Value→Prop
  | .non,u=>u=Value.none
  | .bl b,u=>u=Value.bool b
  | .int i,u=>∃ t,u=Value.int i t
  | .str x,u=>∃ t,u=Value.str x t
  | .byt b,u=>∃ t,u=Value.bytes b t
  | .flt b,u=>∃ t,u=Value.float b t
  | .ref a,u=>u=Value.ref a
  | .ty n,u=>u=Value.type n
abbrev Vals:List V→List Value→Prop:=Paired RelV
theorem Vals.length {xs:List V} {us:List Value} (r:Vals xs us):xs.length=us.length:=Paired.length r
theorem Vals.get:∀ {xs:List V} {us:List Value} {i:Nat} {x:V},Vals xs us→xs[i]? = some x→∃ u,us[i]? = some u∧RelV x u
  | _,_,_,_,.nil,e=>by simp at e
  | _,_,0,_,.cons r _,e=>by simp at e; subst e; exact ⟨_,rfl,r⟩
  | _, _, i + 1, x, .cons _ t, e => by
    obtain ⟨u,h1,h2⟩:=Vals.get (i:=i) (x:=x) t (by simpa using e)
    exact ⟨u,by simpa using h1,h2⟩
theorem Vals.set {x:V} {u:Value} (r:RelV x u):∀ {xs:List V} {us:List Value} (i:Nat),Vals xs us→Vals (xs.set i x) (us.set i u)
  | _,_,_,.nil=>.nil
  | _,_,0,.cons _ t=>.cons r t
  | _,_,i+1,.cons q t=>.cons q (Vals.set r i t)
theorem Vals.append:∀ {xs ys:List V} {us ws:List Value},Vals xs us→Vals ys ws→Vals (xs ++ ys) (us ++ ws)
  | _,_,_,_,.nil,s=>s
  | _,_,_,_,.cons r t,s=>.cons r (Vals.append t s)
theorem Vals.take:∀ {xs:List V} {us:List Value} (n:Nat),Vals xs us→Vals (xs.take n) (us.take n)
  | _,_,0,_=>.nil
  | _,_,_+1,.nil=>.nil
  | _,_,n+1,.cons r t=>.cons r (Vals.take n t)
theorem Vals.drop:∀ {xs:List V} {us:List Value} (n:Nat),Vals xs us→Vals (xs.drop n) (us.drop n)
  | _,_,0,r=>r
  | _,_,_+1,.nil=>.nil
  | _,_,n+1,.cons _ t=>Vals.drop n t
def RelO:Option V→Option Value→Prop
  | some v,some u=>RelV v u
  | none,none=>True
  | _,_=>False
def KV {κ:Type}:List (κ × V)→List (κ × Value)→Prop:=Paired fun (p:κ × V) (q:κ × Value)=>p.1=q.1∧RelV p.2 q.2
def kV:Key→V
  | .inl i=>.int i
  | .inr x=>.str x
inductive HO where
    | lst (xs:List V)
    | tup (xs:List V)
    | dK (kvs:List (Key × V)) | dT (kvs:List (List Key × V))
    | set (S:Int→Bool) (n:Nat)
    | ins (C dx:Addr) (fs:List (Str × V))
    | own (x:Addr)
    | xd (fs:List (Str × V))
    | met (f x:Addr)
    | rng (lo hi:Int)
    | frz (o:Obj) (u:HO)
    | tbl (ps:Array Value)
    | ext (φ:Heap→Prop)
abbrev Hp:=Addr→Option HO
def upd (H:Hp) (a:Addr) (o:HO):Hp:=fun b=>if b=a then some o else H b
theorem upd_same {H:Hp} {a:Addr} {o:HO}:upd H a o a=some o:=by unfold upd; rw [if_pos rfl]
theorem upd_ne {H:Hp} {a b:Addr} {o:HO} (h:b≠a):upd H a o b=H b:=by unfold upd; rw [if_neg h]
theorem ne_of {H:Hp} {a b:Addr} {o u:HO} (h:H a=some o) (h':H b=some u) (d:o≠u):a≠b:=by
  intro e; subst e; rw [h] at h'; exact d (Option.some.inj h')
theorem ne_of_none {H:Hp} {a b:Addr} {o:HO} (h:H a=some o) (h':H b=none):a≠b:=by
  intro e; subst e; rw [h] at h'; cases h'
section
variable (P:Program) (w:World)
def ObjOk (H:Hp) (h:Heap) (a:Addr):HO→Prop
  | .lst xs=>xs.length≤sizeLine∧∃ (its:List Value) (n:Nat),Vals xs its∧h.get? a=some { cls:=.type "list",data:=.seq its.toArray n }
  | .tup xs=>xs.length≤sizeLine∧∃ its:List Value,Vals xs its∧IsTup h a its.toArray
  | .dK kvs=>kvs.length≤sizeLine∧(a == sysModules)=false∧∃ vs,KV kvs vs∧h.DictOf (mixKind P w) a vs
  | .dT kvs=>kvs.length≤sizeLine∧(a == sysModules)=false∧∃ xs:List (List Key × Addr × Value),
      Paired (fun (p:List Key × V) (q:List Key × Addr × Value)=>p.1=q.1∧H q.2.1=some (.tup (p.1.map kV))∧RelV p.2 q.2.2) kvs xs ∧
      ∃ o es ep,h.get? a=some o∧o.ExactDict∧o.data = .dict es ep∧es.toList=xs.map (entryOfKey (tupleKind (mixKind P w)))∧(xs.map (·.1)).Nodup
  | .set S n=>h.SetOf (intKind P w) a S n
  | .ins C dx fs=>H dx=some (.own a)∧fs.length≤1000∧dx≠a∧h.get? a=some (PySem.W.instObj C dx) ∧
      ∃ mA,h.Ns1 dx mA∧(∀ f,RelO (fs.lookup f) (mA f))∧PySem.Within mA (fs.map (·.1))
  | .own _=>∃ o,h.get? a=some o
  | .xd fs=>∃ mA,h.Ns1 a mA∧∀ f,RelO (fs.lookup f) (mA f)
  | .rng lo hi=>∃ t u v,h.get? a=some { cls:=.type "range",data:=.fields #[.int lo t,.int hi u,.int 1 v] }
  | .frz o u=>h.get? a=some o∧ObjOk H h a u
  | .tbl ps=>h.get? a=some { cls:=.none,data:=.fields ps }
  | .met f x=>h.get? a=some (PySem.W.methodObj (.ref f) (.ref x))
  | .ext φ=>φ h∧(∃ o,h.get? a=some o)∧∀ h1 h2:Heap,φ h1→(∀ o,h1.get? a=some o→h2.get? a=some o)→φ h2
def HOk (H:Hp) (h:Heap):Prop:=∀ a o,H a=some o→ObjOk P w H h a o
end
section
variable {P:Program} {w:World} {H H':Hp} {h h':Heap} {a:Addr} {o:HO}
theorem ObjOk.lt (x:ObjOk P w H h a o):a < h.objs.size:=by
  cases o with
  | lst xs=>obtain ⟨_,_,_,_,e⟩:=x; exact Heap.lt_size e
  | tup xs=>obtain ⟨_,_,_,p⟩:=x; exact p.lt
  | dK kvs=>obtain ⟨_,_,_,_,o,_,_,e,_⟩:=x; exact Heap.lt_size e
  | dT kvs=>obtain ⟨_,_,_,_,o,_,_,e,_⟩:=x; exact Heap.lt_size e
  | set S n=>obtain ⟨o,_,_,_,e,_⟩:=x; exact Heap.lt_size e
  | ins C dx fs=>obtain ⟨_,_,_,e,_⟩:=x; exact Heap.lt_size e
  | own y=>obtain ⟨_,e⟩:=x; exact Heap.lt_size e
  | xd fs=>obtain ⟨_,⟨_,_,_,e,_⟩,_⟩:=x; exact Heap.lt_size e
  | rng lo hi=>obtain ⟨_,_,_,e⟩:=x; exact Heap.lt_size e
  | frz ob u=>obtain ⟨e,_⟩:=x; exact Heap.lt_size e
  | tbl ps=>exact Heap.lt_size (show h.get? a=some _ from x)
  | met f y=>exact Heap.lt_size (show h.get? a=some _ from x)
  | ext φ=>obtain ⟨_,⟨_,e⟩,_⟩:=x; exact Heap.lt_size e
theorem Paired.mapP {α β:Type} {F G:α→β→Prop}:∀ {l₁:List α} {l₂:List β},Paired F l₁ l₂→(∀ a b,F a b→G a b)→Paired G l₁ l₂
  | _,_,.nil,_=>.nil
  | _,_,.cons r t,f=>.cons (f _ _ r) (Paired.mapP t f)
theorem ObjOk.stay (x:ObjOk P w H h a o) (k:∀ b u,(b=a∨H b=some (.own a))→h.get? b=some u→h'.get? b=some u)
    (ho:∀ b,H b=some (.own a)→H' b=some (.own a)) (ht:∀ b xs,H b=some (.tup xs)→H' b=some (.tup xs)):ObjOk P w H' h' a o:=by
  induction o with
  | lst xs=>obtain ⟨z,its,n,r,e⟩:=x; exact ⟨z,its,n,r,k _ _ (.inl rfl) e⟩
  | tup xs=>obtain ⟨z,its,r,ob,e,c⟩:=x; exact ⟨z,its,r,ob,k _ _ (.inl rfl) e,c⟩
  | dK kvs=>obtain ⟨z,y,vs,r,ob,es,ep,e,c⟩:=x; exact ⟨z,y,vs,r,ob,es,ep,k _ _ (.inl rfl) e,c⟩
  | dT kvs =>
    obtain ⟨z,y,xs,r,ob,es,ep,e,c⟩:=x
    exact ⟨z,y,xs,Paired.mapP r fun p q z=>⟨z.1,ht _ _ z.2.1,z.2.2⟩,ob,es,ep,k _ _ (.inl rfl) e,c⟩
  | set S n=>obtain ⟨ob,es,ep,t,e,c⟩:=x; exact ⟨ob,es,ep,t,k _ _ (.inl rfl) e,c⟩
  | ins C dx fs =>
    obtain ⟨d,z,ne,e,mA,⟨od,es,ep,e2,c⟩,r⟩:=x
    exact ⟨ho _ d,z,ne,k _ _ (.inl rfl) e,mA,⟨od,es,ep,k _ _ (.inr d) e2,c⟩,r⟩
  | own y=>obtain ⟨ob,e⟩:=x; exact ⟨ob,k _ _ (.inl rfl) e⟩
  | xd fs=>obtain ⟨mA,⟨od,es,ep,e,c⟩,r⟩:=x; exact ⟨mA,⟨od,es,ep,k _ _ (.inl rfl) e,c⟩,r⟩
  | rng lo hi=>obtain ⟨t,u,v,e⟩:=x; exact ⟨t,u,v,k _ _ (.inl rfl) e⟩
  | frz ob u ih=>obtain ⟨e,q⟩:=x; exact ⟨k _ _ (.inl rfl) e,ih q⟩
  | tbl ps =>
    have e:h.get? a=some { cls:=.none,data:=.fields ps }:=x
    show h'.get? a=some { cls:=.none,data:=.fields ps }
    exact k a _ (.inl rfl) e
  | met f y =>
    have e:h.get? a=some (PySem.W.methodObj (.ref f) (.ref y)):=x
    show h'.get? a=some (PySem.W.methodObj (.ref f) (.ref y))
    exact k a _ (.inl rfl) e
  | ext φ=>obtain ⟨p,⟨o,e⟩,st⟩:=x; exact ⟨st _ _ p fun o q=>k _ _ (.inl rfl) q,⟨o,k _ _ (.inl rfl) e⟩,st⟩
theorem HOk.lt (x:HOk P w H h) (e:H a=some o):a < h.objs.size:=(x a o e).lt
theorem HOk.fresh (x:HOk P w H h) (e:h.objs.size≤a):H a=none:=by
  cases q:H a with
  | none=>rfl
  | some u=>exact absurd (Nat.lt_of_lt_of_le (x.lt q) e) (Nat.lt_irrefl _)
theorem HOk.kept (x:HOk P w H h) (k:∀ b u,h.get? b=some u→h'.get? b=some u):HOk P w H h':=fun a o e =>
  (x a o e).stay (fun b u _ q=>k b u q) (fun _ q=>q) fun _ _ q=>q
theorem HOk.laid (x:HOk P w H h) (k:∀ b u,h.get? b=some u→h'.get? b=some u) (hp:h.objs.size≤a) (new:ObjOk P w (upd H a o) h' a o):HOk P w (upd H a o) h':=fun b u e=>by
  have hn:=x.fresh hp
  by_cases hb:b=a
  · subst hb; rw [upd_same] at e; cases e; exact new
  · rw [upd_ne hb] at e
    exact (x b u e).stay (fun c v _ q=>k c v q) (fun c q=>by rw [upd_ne (ne_of_none q hn)]; exact q) fun c xs q=>by rw [upd_ne (ne_of_none q hn)]; exact q
end
def Rd (H:Hp) (a:Addr) (u:HO):Prop:=H a=some u∨∃ o,H a=some (.frz o u)
theorem Rd.ok {P:Program} {w:World} {H:Hp} {h:Heap} {a:Addr} {u:HO} (r:Rd H a u) (x:HOk P w H h):ObjOk P w H h a u:=by
  rcases r with r | ⟨o,r⟩
  · exact x a u r
  · obtain ⟨_,q⟩:=x a _ r
    exact q
def Mut:Option HO→Prop
  | some (.lst _)=>True
  | some (.dK _)=>True
  | some (.dT _)=>True
  | some (.set _ _)=>True
  | some (.ins _ _ _)=>True
  | some (.ext _)=>True
  | _=>False
section
variable {P:Program} {w:World} {H:Hp} {h h':Heap} {x e:Addr} {o':HO}
theorem HOk.write (ok : HOk P w H h) (mu : Mut (H x)) (he : e = x ∨ H e = some (.own x)) (k : ∀ b u, b ≠ e → h.get? b = some u → h'.get? b = some u) (heo : ∃ u, h'.get? e = some u)
    (new:ObjOk P w (upd H x o') h' x o'):HOk P w (upd H x o') h':=fun b u q=>by
  have nown:∀ c y,H c=some (.own y)→c≠x:=fun c y r z=>by subst z; rw [r] at mu; exact mu
  have ntup:∀ c xs,H c=some (.tup xs)→c≠x:=fun c xs r z=>by subst z; rw [r] at mu; exact mu
  by_cases hb:b=x
  · subst hb; rw [upd_same] at q; cases q; exact new
  · rw [upd_ne hb] at q
    by_cases hbe:b=e
    · have q':H b=some (.own x):=by
        rcases he with z | z
        · exact absurd (hbe.trans z) hb
        · rw [hbe]; exact z
      rw [q] at q'; cases q'
      obtain ⟨v,hv⟩:=heo
      exact ⟨v,by rw [hbe]; exact hv⟩
    · refine (ok b u q).stay (fun c v hc r=>k c v ?_ r) (fun c r=>by rw [upd_ne (nown c b r)]; exact r) fun c xs r=>by rw [upd_ne (ntup c xs r)]; exact r
      rcases hc with rfl | hc
      · exact hbe
      · rintro rfl
        rcases he with z | z
        · exact nown c b hc z
        · rw [hc] at z; cases z; exact hb rfl
end
structure Un (fs ex:List Addr) (H H':Hp) (h h':Heap):Prop where
  keep:∀ b o,h.get? b=some o→H b=none→b ∉ fs→b ∉ ex→h'.get? b=some o
  slot:∀ b o,h.get? b=some o→H b=none→b ∈ fs→b ∉ ex→∃ sl,h'.get? b=some { o with slots:=sl }
  free:∀ b o,h.get? b=some o→H b=none→b ∉ ex→H' b=none
  there:∀ b o,h.get? b=some o→b ∉ ex→∃ o',h'.get? b=some o'
  tups:∀ b xs,H b=some (.tup xs)→H' b=some (.tup xs)
  frzs:∀ b o u,H b=some (.frz o u)→H' b=some (.frz o u)
  tbls:∀ b ps,H b=some (.tbl ps)→∃ more,H' b=some (.tbl (ps ++ more))
section
variable {fs fs' ex ex':List Addr} {H H1 H2:Hp} {h h1 h2 h':Heap} {a x e:Addr} {o:HO}
theorem Un.any (u:Un fs ex H H1 h h1) {b:Addr} {ob:Obj} (q:h.get? b=some ob) (n:H b=none) (hx:b ∉ ex):∃ sl,h1.get? b=some { ob with slots:=sl }:=by
  by_cases hb:b ∈ fs
  · exact u.slot b ob q n hb hx
  · exact ⟨ob.slots,u.keep b ob q n hb hx⟩
theorem Un.kept (k:∀ b u,h.get? b=some u→h'.get? b=some u):Un fs ex H H h h' :=
  ⟨fun b ob q _ _ _=>k b ob q,fun b ob q _ _ _=>⟨ob.slots,k b ob q⟩,fun _ _ _ n _=>n,fun b ob q _=>⟨ob,k b ob q⟩,fun _ _ q=>q,fun _ _ _ q=>q,fun _ ps q=>⟨#[],by rw [q]; simp⟩⟩
theorem Un.refl:Un fs ex H H h h:=Un.kept fun _ _ q=>q
theorem Un.laid (k:∀ b u,h.get? b=some u→h'.get? b=some u) (hp:h.objs.size≤a) (hn:H a=none):Un fs ex H (upd H a o) h h' where
  keep:=fun b u q _ _ _=>k b u q
  slot:=fun b u q _ _ _=>⟨u.slots,k b u q⟩
  free:=fun b u q n _=>by rw [upd_ne (Nat.ne_of_lt (Nat.lt_of_lt_of_le (Heap.lt_size q) hp))]; exact n
  there:=fun b u q _=>⟨u,k b u q⟩
  tups:=fun b xs q=>by rw [upd_ne (ne_of_none q hn)]; exact q
  frzs:=fun b u xs q=>by rw [upd_ne (ne_of_none q hn)]; exact q
  tbls:=fun b ps q=>⟨#[],by rw [upd_ne (ne_of_none q hn),q]; simp⟩
theorem Un.write (mu:Mut (H x)) (he:e=x∨H e=some (.own x)) (k:∀ b u,b≠e→h.get? b=some u→h'.get? b=some u) (heo:∃ u,h'.get? e=some u):Un fs ex H (upd H x o) h h':=by
  have hx:∀ b,H b=none→b≠x:=fun b n z=>by subst z; rw [n] at mu; exact mu
  have hb:∀ b,H b=none→b≠e:=fun b n z=>by
    subst z
    rcases he with r | r
    · exact hx b n r
    · rw [n] at r; cases r
  have hm:∀ b u,H b=some u→¬ Mut (some u)→b≠x:=fun b u q nm z=>by subst z; rw [q] at mu; exact nm mu
  refine ⟨fun b u q n _ _=>k b u (hb b n) q,fun b u q n _ _=>⟨u.slots,k b u (hb b n) q⟩,fun b u q n _=>by rw [upd_ne (hx b n)]; exact n,fun b u q _=>?_,
    fun b xs q=>by rw [upd_ne (hm b _ q fun z=>z)]; exact q,fun b u xs q=>by rw [upd_ne (hm b _ q fun z=>z)]; exact q,fun b ps q=>⟨#[],by rw [upd_ne (hm b _ q fun z=>z),q]; simp⟩⟩
  by_cases hbe:b=e
  · subst hbe; exact heo
  · exact ⟨u,k b u hbe q⟩
end
def trk (h:Heap) (H:Hp):List Addr:=(List.range h.objs.size).filter fun a=>(H a).isSome
def hidT (h:Heap) (H:Hp):Heap:=PySem.W.hideAll h (trk h H)
theorem hidT_size (h:Heap) (H:Hp):(hidT h H).objs.size=h.objs.size:=PySem.W.hideAll_size _ _
theorem hidT_get {h:Heap} {H:Hp} {b:Addr} {o:Obj} (e:h.get? b=some o) (n:H b=none):(hidT h H).get? b=some o :=
  PySem.W.hideAll_get _ e fun hm=>by
    have q:(H b).isSome=true:=(List.mem_filter.mp hm).2
    rw [n] at q; simp at q
theorem of_hidT {h:Heap} {H:Hp} {b:Addr} {o:Obj} (e:(hidT h H).get? b=some o):h.get? b=some o∧H b=none:=by
  have e':h.get? b=some o:=PySem.W.of_hideAll (trk h H) e
  refine ⟨e',?_⟩
  cases q:H b with
  | none=>rfl
  | some x =>
    have hm:b ∈ trk h H:=List.mem_filter.mpr ⟨List.mem_range.mpr (Heap.lt_size e'),by simp [q]⟩
    have z:(hidT h H).get? b=none:=PySem.W.hideAll_none (trk h H) hm
    rw [z] at e; cases e
def allNews (g h:Heap) (L:Addr):List (Addr × Obj):=(List.range h.objs.size).filterMap fun a=>if a=L∨(g.get? a).isSome=true then none else (h.get? a).map fun o=>(a,o)
theorem mem_allNews {g h:Heap} {L a:Addr} {o:Obj} (h1:a≠L) (h2:g.get? a=none) (h3:h.get? a=some o):(a,o) ∈ allNews g h L :=
  List.mem_filterMap.mpr ⟨a,List.mem_range.mpr (Heap.lt_size h3),by simp [h1,h2,h3]⟩
theorem of_mem_allNews {g h:Heap} {L:Addr} {p:Addr × Obj} (hp:p ∈ allNews g h L):p.1≠L∧g.get? p.1=none∧h.get? p.1=some p.2:=by
  obtain ⟨b,_,e⟩:=List.mem_filterMap.mp hp
  split at e
  · cases e
  · rename_i hn
    cases q:h.get? b with
    | none=>rw [q] at e; simp at e
    | some u =>
      rw [q] at e
      simp only [Option.map_some,Option.some.injEq] at e
      subst e
      refine ⟨fun z=>hn (.inl z),?_,q⟩
      show g.get? b=none
      cases r:g.get? b with
      | none=>rfl
      | some v=>exact (hn (.inr (by simp [r]))).elim
theorem news_all {g h:Heap} {L:Addr}:News g L h (allNews g h L):=fun p hp=>let ⟨a,b,c⟩:=of_mem_allNews hp; ⟨c,a,b⟩
end L2
namespace L2
open PySem PySem.Spec PyProof.Rows
structure Mod (K:PySem.W.Frag) (mg:Str→Option Value) (base:Heap):Prop where
  kin:K.In base
  glob:base.Ns mainGlobals mg
  blt:∃ mb,base.Ns builtinsNs mb∧∀ x:Str,x≠"__name__"→mb x=bootBuiltins x
  nolimit:base.NoLimit
structure Cx where
  prog:Program
  w:World
  K:PySem.W.Frag
  mg:Str→Option Value
  base:Heap
  A:Around
  N:List Str
  s₀:Shared
  H₀:Hp
  env:Env
  outer:List Env
  stack:List Env
  ex:List Addr
  fn:Str→Bool
  calm:Bool
  pn:List (Addr × Obj)
  xe:Value→Shared→Prop
def frs (l:List Env):List Addr:=l.filterMap (·.frame)
abbrev Cx.fs (X:Cx):List Addr:=frs X.outer
def Vis (sc:Scope) (x:Str):Prop:=sc.names.lookup x=some .local∨sc.names.lookup x=some .cell∨sc.names.lookup x=some .free
def Loc (sc:Scope) (x:Str):Prop:=sc.names.lookup x=some .local∨sc.names.lookup x=some .cell
def Look (env:Env) (h:Heap) (m:Str→Option Value) (x:Str) (u:Value):Prop :=
  (env.kindOf x=some .local∧m x=some u)∨((env.kindOf x=some .cell∨env.kindOf x=some .free)∧∃ c,env.cells.lookup x=some c∧h.IsCell c (some u))
structure Cx.Ok (X:Cx):Prop where
  mod:Mod X.K X.mg X.base
  kind:X.env.scope.kind = .function
  glob:X.env.globals=mainGlobals
  blt:X.env.builtins=builtinsNs
  above:X.s₀.heap.objs.size≤X.env.locals
  inj:∀ x y c,X.env.cells.lookup x=some c→X.env.cells.lookup y=some c→x=y
  has:∀ x,(X.env.kindOf x=some .cell∨X.env.kindOf x=some .free)→∃ c,X.env.cells.lookup x=some c
  cab:∀ x c,X.fn x=true→X.env.cells.lookup x=some c→X.s₀.heap.objs.size≤c
  hd:X.calm=true→X.A.handled=none
  frames:X.A.frames=some X.stack
  stk:X.stack=X.outer∨(X.stack=X.env :: X.outer∧X.env.frame=some X.env.locals)
  exf:∀ b ∈ X.ex,b≠X.env.locals∧∀ x c,X.env.cells.lookup x=some c→c≠b
  bs:∀ b o,X.base.get? b=some o→X.s₀.heap.get? b=some o∧X.H₀ b=none
  bsz:X.base.objs.size≤X.s₀.heap.objs.size
  noex:∀ b o,X.base.get? b=some o→b ∉ X.ex
  exfs:∀ b ∈ X.ex,b ∉ X.fs
  funs:X.s₀.heap.FunFrames X.base X.outer
  frf:∀ b ∈ X.fs,X.H₀ b=none
structure Inv (X:Cx) (pins:List (Addr × Obj)) (σ:List (Option V)) (H:Hp) (s:Shared):Prop where
  ok:X.Ok
  os:s.os=X.s₀.os
  bare:AllBare s.gens
  base:Un X.fs X.ex X.H₀ H X.s₀.heap s.heap
  loc:∃ m,s.heap.Ns X.env.locals m∧∀ (i:Nat) (x:Str) (v:V),X.N[i]? = some x→σ[i]? = some (some v)→Vis X.env.scope x→∃ u,RelV v u∧Look X.env s.heap m x u
  cell:∀ x c,X.env.cells.lookup x=some c→∃ v,s.heap.IsCell c v
  free:H X.env.locals=none
  freeC:∀ x c,X.env.cells.lookup x=some c→H c=none
  pin:∀ p ∈ X.pn ++ pins,s.heap.get? p.1=some p.2∧H p.1=none∧p.1≠X.env.locals∧p.1 ∉ X.fs∧∀ v,p.2.data≠.cell v
  hok:HOk X.prog X.w H s.heap
  len:σ.length=X.N.length
section
variable {X:Cx} {pins:List (Addr × Obj)} {σ:List (Option V)} {H H':Hp} {s:Shared} {h':Heap}
theorem Cx.Ok.nofr (ok:X.Ok) {b:Addr} {o:Obj} (e:X.base.get? b=some o):b ∉ X.fs:=fun hb=>by
  have:=(ok.funs.mem hb).1
  rw [e] at this; cases this
theorem Inv.bs (I:Inv X pins σ H s):∀ b o,X.base.get? b=some o→s.heap.get? b=some o∧H b=none:=fun b o e =>
  ⟨I.base.keep b o (I.ok.bs b o e).1 (I.ok.bs b o e).2 (I.ok.nofr e) (I.ok.noex b o e),I.base.free b o (I.ok.bs b o e).1 (I.ok.bs b o e).2 (I.ok.noex b o e)⟩
theorem Inv.bk (I:Inv X pins σ H s):∀ b o,X.base.get? b=some o→s.heap.get? b=some o:=fun b o e=>(I.bs b o e).1
theorem Inv.mod (I:Inv X pins σ H s):Mod X.K X.mg X.base:=I.ok.mod
theorem Inv.kIn (I:Inv X pins σ H s):X.K.In s.heap:=I.ok.mod.kin.keeps I.bk
theorem Inv.fr (I:Inv X pins σ H s):∃ m,Fr X.base X.env.locals s.heap m :=
  let ⟨m,hn,_⟩:=I.loc
  ⟨m,hn,I.bk,Nat.le_trans I.ok.bsz I.ok.above⟩
theorem Inv.lt (I:Inv X pins σ H s):X.env.locals < s.heap.objs.size:=let ⟨_,hn,_⟩:=I.loc; hn.lt
theorem Inv.sz (I:Inv X pins σ H s):X.s₀.heap.objs.size≤s.heap.objs.size:=Nat.le_trans I.ok.above (Nat.le_of_lt I.lt)
theorem Inv.nofs (I:Inv X pins σ H s) {a:Addr} (h:s.heap.objs.size≤a):a ∉ X.fs:=fun hb=>by
  obtain ⟨_,o,ho,_⟩:=I.ok.funs.mem hb
  exact absurd (Nat.lt_of_lt_of_le (Heap.lt_size ho) (Nat.le_trans I.sz h)) (Nat.lt_irrefl _)
theorem Inv.cne (I:Inv X pins σ H s):∀ x c,X.env.cells.lookup x=some c→c≠X.env.locals:=fun x c e z=>by
  obtain ⟨v,o,ho,hd⟩:=I.cell x c e
  obtain ⟨m,⟨o',es,ep,ho',hd',_⟩,_⟩:=I.loc
  rw [z,ho'] at ho; cases ho; rw [hd'] at hd; cases hd
theorem Inv.funs (I:Inv X pins σ H s):s.heap.FunFrames X.base X.outer:=by
  have all:∀ (l:List Env),(∀ b ∈ frs l,b ∈ X.fs)→X.s₀.heap.FunFrames X.base l→s.heap.FunFrames X.base l:=by
    intro l
    induction l with
    | nil=>intro _ _; trivial
    | cons env r ih =>
      intro hs hl
      obtain ⟨hk,⟨L,o,hf,hn,ho,hd⟩,hr⟩:=hl
      have hL:L ∈ X.fs:=hs L (by unfold frs; rw [List.filterMap_cons,hf]; exact List.mem_cons_self)
      obtain ⟨sl,e⟩:=I.base.slot L o ho (I.ok.frf L hL) hL fun z=>I.ok.exfs L z hL
      exact ⟨hk,⟨L,_,hf,hn,e,hd⟩,ih (fun b hb=>hs b (by unfold frs; rw [List.filterMap_cons,hf]; exact List.mem_cons_of_mem _ hb)) hr⟩
  exact all X.outer (fun _ hb=>hb) I.ok.funs
theorem Inv.stack (I:Inv X pins σ H s):s.heap.FunFrames X.base X.stack:=by
  rcases I.ok.stk with e | ⟨e,hf⟩
  · rw [e]; exact I.funs
  · rw [e]
    obtain ⟨m,hn,_⟩:=I.loc
    refine .cons (by rw [I.ok.kind]; decide) hf hn ?_ I.funs
    exact Heap.get?_none_of_le (Nat.le_trans I.ok.bsz I.ok.above)
theorem Inv.stkSub (I:Inv X pins σ H s):∀ b ∈ frs X.stack,b ∈ X.env.locals :: X.fs:=fun b hb=>by
  rcases I.ok.stk with e | ⟨e,hf⟩
  · rw [e] at hb; exact List.mem_cons_of_mem _ hb
  · rw [e] at hb
    unfold frs at hb
    rw [List.filterMap_cons,hf] at hb
    exact hb
theorem Inv.stkFree (I:Inv X pins σ H s):∀ b ∈ frs X.stack,H b=none:=fun b hb=>by
  rcases List.mem_cons.mp (I.stkSub b hb) with e | hb
  · rw [e]; exact I.free
  · obtain ⟨_,o,ho,_⟩:=I.ok.funs.mem hb
    exact I.base.free b o ho (I.ok.frf b hb) fun z=>I.ok.exfs b z hb
theorem Inv.step {g':Array GenState} {t':Nat} {d':Drawn} {ch:List Addr} (I:Inv X pins σ H s)
    (hch:∀ b ∈ ch,(b ∈ X.ex∨X.s₀.heap.objs.size≤b)∧b≠X.env.locals∧(∀ x c,X.env.cells.lookup x=some c→c≠b)∧∀ p ∈ X.pn ++ pins,p.1≠b)
    (keep:∀ b o,b≠X.env.locals→b ∉ X.fs→b ∉ ch→s.heap.get? b=some o→H b=none→h'.get? b=some o)
    (slot:∀ b o,b≠X.env.locals→b ∈ X.fs→b ∉ ch→s.heap.get? b=some o→H b=none→∃ sl,h'.get? b=some { o with slots:=sl }) (free:∀ b o,b ∉ ch→s.heap.get? b=some o→H b=none→H' b=none)
    (there:∀ b o,b ∉ ch→s.heap.get? b=some o→∃ o',h'.get? b=some o')
    (tups:∀ b xs,H b=some (.tup xs)→H' b=some (.tup xs)) (frzs:∀ b o u,H b=some (.frz o u)→H' b=some (.frz o u)) (tbls:∀ b ps,H b=some (.tbl ps)→∃ more,H' b=some (.tbl (ps ++ more)))
    (ns:∀ m,s.heap.Ns X.env.locals m→h'.Ns X.env.locals m) (hok:HOk X.prog X.w H' h') (hg:AllBare g') :
    Inv X pins σ H' { s with heap:=h',gens:=g',drawn:=d',toks:=t' }:=by
  have neL:∀ b o,X.s₀.heap.get? b=some o→b≠X.env.locals:=fun b o e=>Nat.ne_of_lt (Nat.lt_of_lt_of_le (Heap.lt_size e) I.ok.above)
  have neC:∀ b o,X.s₀.heap.get? b=some o→b ∉ X.ex→b ∉ ch:=fun b o e hx hb=>by
    rcases (hch b hb).1 with z | z
    · exact hx z
    · exact absurd (Nat.lt_of_lt_of_le (Heap.lt_size e) z) (Nat.lt_irrefl _)
  have cellK:∀ x c,X.env.cells.lookup x=some c→∀ v,s.heap.IsCell c v→h'.IsCell c v:=fun x c e v ⟨o,ho,hd⟩=>by
    have nch:c ∉ ch:=fun z=>(hch c z).2.2.1 x c e rfl
    by_cases hc:c ∈ X.fs
    · obtain ⟨sl,q⟩:=slot c o (I.cne x c e) hc nch ho (I.freeC x c e)
      exact ⟨_,q,hd⟩
    · exact ⟨o,keep c o (I.cne x c e) hc nch ho (I.freeC x c e),hd⟩
  refine ⟨I.ok,I.os,hg,⟨fun b o e n hb hx=>?_,fun b o e n hb hx=>?_,fun b o e n hx=>?_,fun b o e hx=>?_,fun b xs e=>tups b xs (I.base.tups b xs e),fun b o xs e=>frzs b o xs (I.base.frzs b o xs e),fun b ps e=>?_⟩,?_,fun x c e=>?_,?_,fun x c e=>?_,fun p hp=>?_,hok,I.len⟩
  · exact keep b o (neL b o e) hb (neC b o e hx) (I.base.keep b o e n hb hx) (I.base.free b o e n hx)
  · obtain ⟨sl,e1⟩:=I.base.slot b o e n hb hx
    obtain ⟨sl',e2⟩:=slot b _ (neL b o e) hb (neC b o e hx) e1 (I.base.free b o e n hx)
    exact ⟨sl',e2⟩
  · obtain ⟨o',e1⟩:=I.base.there b o e hx
    exact free b o' (neC b o e hx) e1 (I.base.free b o e n hx)
  · obtain ⟨o',e1⟩:=I.base.there b o e hx
    exact there b o' (neC b o e hx) e1
  · obtain ⟨m1,e1⟩:=I.base.tbls b ps e
    obtain ⟨m2,e2⟩:=tbls b _ e1
    exact ⟨m1 ++ m2,by rw [e2,Array.append_assoc]⟩
  · obtain ⟨m,hn,hl⟩:=I.loc
    refine ⟨m,ns m hn,fun i x v e1 e2 e3=>?_⟩
    obtain ⟨u,r,l⟩:=hl i x v e1 e2 e3
    refine ⟨u,r,?_⟩
    rcases l with l | ⟨k,c,e,z⟩
    · exact .inl l
    · exact .inr ⟨k,c,e,cellK x c e _ z⟩
  · obtain ⟨v,z⟩:=I.cell x c e
    exact ⟨v,cellK x c e v z⟩
  · obtain ⟨m,⟨o,_,_,ho,_⟩,_⟩:=I.loc
    exact free _ o (fun z=>(hch _ z).2.1 rfl) ho I.free
  · obtain ⟨v,o,ho,hd⟩:=I.cell x c e
    exact free c o (fun z=>(hch c z).2.2.1 x c e rfl) ho (I.freeC x c e)
  · obtain ⟨e,n,ne,nf,d⟩:=I.pin p hp
    have nch:p.1 ∉ ch:=fun z=>(hch p.1 z).2.2.2 p hp rfl
    exact ⟨keep p.1 p.2 ne nf nch e n,free p.1 p.2 nch e n,ne,nf,d⟩
theorem Inv.un {t':Nat} (I:Inv X pins σ H s) (u:Un X.fs [] H H' s.heap h') (hok:HOk X.prog X.w H' h'):Inv X pins σ H' { s with heap:=h',toks:=t' }:=by
  obtain ⟨m,⟨o,es,ep,ho,r⟩,_⟩:=id I.loc
  obtain ⟨sl,hL⟩:=u.any ho I.free (by simp)
  exact I.step (g':=s.gens) (d':=s.drawn) (ch:=[]) (fun _ z=>nomatch z) (fun b o _ hb _ e n=>u.keep b o e n hb (by simp)) (fun b o _ hb _ e n=>u.slot b o e n hb (by simp)) (fun b o _ e n=>u.free b o e n (by simp)) (fun b o _ e=>u.there b o e (by simp)) u.tups u.frzs u.tbls (fun m' hm=>by
    obtain ⟨o',es',ep',ho',r'⟩:=hm
    rw [ho] at ho'; cases ho'
    exact ⟨_,es',ep',hL,r'⟩) hok I.bare
theorem Inv.call {g':Array GenState} {t':Nat} {d':Drawn} {ch:List Addr} (I:Inv X pins σ H s) (u:Un (frs X.stack) ch H H' s.heap h') (hok:HOk X.prog X.w H' h') (hg:AllBare g')
    (hch:∀ b ∈ ch,(b ∈ X.ex∨X.s₀.heap.objs.size≤b)∧b≠X.env.locals∧(∀ x c,X.env.cells.lookup x=some c→c≠b)∧∀ p ∈ X.pn ++ pins,p.1≠b) :
    Inv X pins σ H' { s with heap:=h',gens:=g',drawn:=d',toks:=t' }:=by
  obtain ⟨m,⟨o,es,ep,ho,r⟩,_⟩:=id I.loc
  obtain ⟨sl,hL⟩:=u.any ho I.free fun z=>(hch _ z).2.1 rfl
  exact I.step (ch:=ch) hch (fun b o hL hb hc e n=>u.keep b o e n (fun z=>(List.mem_cons.mp (I.stkSub b z)).elim hL hb) hc) (fun b o _ _ hc e n=>u.any e n hc) (fun b o hc e n=>u.free b o e n hc) (fun b o hc e=>u.there b o e hc) u.tups u.frzs u.tbls (fun m' hm=>by
    obtain ⟨o',es',ep',ho',r'⟩:=hm
    rw [ho] at ho'; cases ho'
    exact ⟨_,es',ep',hL,r'⟩) hok hg
theorem Inv.turned {t':Nat} {it:Addr} (I:Inv X pins σ H s) (k:∀ b o,b≠it→s.heap.get? b=some o→h'.get? b=some o) (hn:H it=none) (hL:it≠X.env.locals)
    (h1:it ∈ X.ex∨X.s₀.heap.objs.size≤it) (h2:∀ x c,X.env.cells.lookup x=some c→c≠it) (h3:∀ p ∈ X.pn ++ pins,p.1≠it):Inv X pins σ H { s with heap:=h',toks:=t' }:=by
  have nit:∀ b u,H b=some u→b≠it:=fun b u e z=>by rw [z,hn] at e; cases e
  refine I.step (g':=s.gens) (d':=s.drawn) (ch:=[it]) (fun b hb=>?_) (fun b o _ _ hc e _=>k b o (fun z=>hc (by simp [z])) e) (fun b o _ _ hc e _=>⟨o.slots,k b o (fun z=>hc (by simp [z])) e⟩) (fun _ _ _ _ n=>n)
    (fun b o hc e=>⟨o,k b o (fun z=>hc (by simp [z])) e⟩) (fun _ _ e=>e) (fun _ _ _ e=>e) (fun b ps e=>⟨#[],by rw [e]; simp⟩) (fun m hm=>?_) (fun b u e=>?_) I.bare
  · have e:b=it:=by simpa using hb
    subst e
    exact ⟨h1,hL,h2,h3⟩
  · obtain ⟨o,es,ep,ho,r⟩:=hm
    exact ⟨o,es,ep,k _ o (Ne.symm hL) ho,r⟩
  · refine (I.hok b u e).stay (fun c v hc q=>k c v ?_ q) (fun _ q=>q) fun _ _ q=>q
    rcases hc with z | z
    · rw [z]; exact nit b u e
    · exact nit c _ z
theorem Inv.tok (I:Inv X pins σ H s) (t:Nat):Inv X pins σ H { s with toks:=t }:=I.un (h':=s.heap) (t':=t) Un.refl I.hok
theorem Inv.kept {t':Nat} (I:Inv X pins σ H s) (k:∀ b u,s.heap.get? b=some u→h'.get? b=some u):Inv X pins σ H { s with heap:=h',toks:=t' }:=I.un (Un.kept k) (I.hok.kept k)
theorem Inv.laid {a:Addr} {o:HO} {t':Nat} (I:Inv X pins σ H s) (k:∀ b u,s.heap.get? b=some u→h'.get? b=some u) (hp:s.heap.objs.size≤a) (new:ObjOk X.prog X.w (upd H a o) h' a o) :
    Inv X pins σ (upd H a o) { s with heap:=h',toks:=t' }:=I.un (Un.laid k hp (I.hok.fresh hp)) (I.hok.laid k hp new)
theorem Inv.write {x e:Addr} {o:HO} {t':Nat} (I:Inv X pins σ H s) (mu:Mut (H x)) (he:e=x∨H e=some (.own x)) (k:∀ b u,b≠e→s.heap.get? b=some u→h'.get? b=some u) (heo:∃ u,h'.get? e=some u)
    (new:ObjOk X.prog X.w (upd H x o) h' x o):Inv X pins σ (upd H x o) { s with heap:=h',toks:=t' }:=I.un (Un.write mu he k heo) (I.hok.write mu he k heo new)
theorem Inv.pins_of {pins':List (Addr × Obj)} (I:Inv X pins σ H s) (h:∀ p ∈ pins',s.heap.get? p.1=some p.2∧H p.1=none∧p.1≠X.env.locals∧p.1 ∉ X.fs∧∀ v,p.2.data≠.cell v):Inv X pins' σ H s :=
  ⟨I.ok,I.os,I.bare,I.base,I.loc,I.cell,I.free,I.freeC,fun p hp=>(List.mem_append.mp hp).elim (fun z=>I.pin p (List.mem_append_left _ z)) (h p),I.hok,I.len⟩
theorem nodup_ix {N:List Str} (hN:N.Nodup) {i j:Nat} {x:Str} (a:N[i]? = some x) (b:N[j]? = some x):i=j:=by
  obtain ⟨h1,e1⟩:=List.getElem?_eq_some_iff.mp a
  obtain ⟨h2,e2⟩:=List.getElem?_eq_some_iff.mp b
  exact (List.getElem_inj hN).mp (e1.trans e2.symm)
theorem store_ok2 {M : Model} {A : Around} {E : Value → Shared → Prop} {i : Nat} {x : Str} {v : V} {u : Value} {Q : Unit → Shared → Prop} (I : Inv X pins σ H s) (hN : X.N.Nodup) (hi : X.N[i]? = some x) (hx : Loc X.env.scope x) (r : RelV v u)
    (h:∀ s',Inv X pins (σ.set i (some v)) H s'→(∃ a,Heap.SameBut a s.heap s'.heap∧(a=X.env.locals∨X.env.cells.lookup x=some a))→Q () s') (hf:X.fn x=true∨X.env.scope.names.lookup x=some .local:=by first | exact .inl rfl | exact .inr rfl | assumption):wpAny M A (storeName X.env x u) Q E s:=by
  obtain ⟨m,hn,hl⟩:=id I.loc
  have hcls:(X.env.scope.kind == .class || (X.env.scope.kind == .module && X.env.locals != X.env.globals))=false:=by rw [I.ok.kind]; rfl
  have hiσ:i < σ.length:=by rw [I.len]; exact (List.getElem?_eq_some_iff.mp hi).1
  have cne:=I.cne
  have tracked:∀ {a:Addr} {h':Heap},(∃ o,s.heap.get? a=some o∧H a=none)→Heap.SameBut a s.heap h'→HOk X.prog X.w H h':=fun {a h'} ha hs b ob e=>by
    obtain ⟨_,_,hfree⟩:=ha
    refine (I.hok b ob e).stay (fun c w' hc q=>(hs.2 c ?_).trans q) (fun _ q=>q) fun _ _ q=>q
    rintro rfl
    rcases hc with rfl | hc
    · rw [hfree] at e; cases e
    · rw [hfree] at hc; cases hc
  rcases hx with hk | hk
  · refine wpAny_storeName_local hk hn (fun h' hn' hs=>?_) hcls
    obtain ⟨oL,_,_,hoL,_⟩:=id hn
    refine h _ ⟨I.ok,I.os,I.bare,⟨fun b o e n hb hx=>?_,fun b o e n hb hx=>?_,I.base.free,fun b o e hx=>?_,I.base.tups,I.base.frzs,I.base.tbls⟩,⟨_,hn',fun j y v' e1 e2 e3=>?_⟩,fun y c e=>?_,I.free,I.freeC,fun p hp=>?_,tracked ⟨oL,hoL,I.free⟩ hs,by simpa using I.len⟩ ⟨_,hs,.inl rfl⟩
    · exact (hs.2 b (Nat.ne_of_lt (Nat.lt_of_lt_of_le (Heap.lt_size e) I.ok.above))).trans (I.base.keep b o e n hb hx)
    · obtain ⟨sl,e1⟩:=I.base.slot b o e n hb hx
      exact ⟨sl,(hs.2 b (Nat.ne_of_lt (Nat.lt_of_lt_of_le (Heap.lt_size e) I.ok.above))).trans e1⟩
    · obtain ⟨o',e1⟩:=I.base.there b o e hx
      exact ⟨o',(hs.2 b (Nat.ne_of_lt (Nat.lt_of_lt_of_le (Heap.lt_size e) I.ok.above))).trans e1⟩
    · by_cases hj:j=i
      · subst hj
        rw [hi] at e1; cases e1
        rw [List.getElem?_set_self hiσ] at e2
        cases e2
        exact ⟨u,r,.inl ⟨hk,by simp⟩⟩
      · rw [List.getElem?_set_ne (Ne.symm hj)] at e2
        obtain ⟨u',r',q⟩:=hl j y v' e1 e2 e3
        refine ⟨u',r',?_⟩
        rcases q with ⟨k,e⟩ | ⟨k,c,e,z⟩
        · refine .inl ⟨k,?_⟩
          have:y≠x:=fun e=>hj (nodup_ix hN e1 (e ▸ hi))
          simp [this,e]
        · exact .inr ⟨k,c,e,z.sameBut hs (cne y c e)⟩
    · obtain ⟨w',z⟩:=I.cell y c e
      exact ⟨w',z.sameBut hs (cne y c e)⟩
    · obtain ⟨e,n,ne,nf,d⟩:=I.pin p hp
      exact ⟨(hs.2 p.1 ne).trans e,n,ne,nf,d⟩
  · have hfn:X.fn x=true:=by
      rcases hf with z | z
      · exact z
      · rw [z] at hk; cases hk
    obtain ⟨c,hc⟩:=I.ok.has x (.inl hk)
    obtain ⟨w',z⟩:=I.cell x c hc
    refine wpAny_storeName_cell I.ok.kind hk hc z (fun h' hc' hs=>?_)
    obtain ⟨oc,hoc,hocd⟩:=id z
    refine h { s with heap:=h' } ⟨I.ok,I.os,I.bare,⟨fun b o e n hb hx=>?_,fun b o e n hb hx=>?_,I.base.free,fun b o e hx=>?_,I.base.tups,I.base.frzs,I.base.tbls⟩,⟨m,hn.sameBut hs (Ne.symm (cne x c hc)),fun j y v' e1 e2 e3=>?_⟩,fun y c' e=>?_,I.free,I.freeC,fun p hp=>?_,tracked ⟨oc,hoc,I.freeC x c hc⟩ hs,by simpa using I.len⟩ ⟨c,hs,.inr hc⟩
    · exact (hs.2 b (Nat.ne_of_lt (Nat.lt_of_lt_of_le (Heap.lt_size e) (I.ok.cab x c hfn hc)))).trans (I.base.keep b o e n hb hx)
    · obtain ⟨sl,e1⟩:=I.base.slot b o e n hb hx
      exact ⟨sl,(hs.2 b (Nat.ne_of_lt (Nat.lt_of_lt_of_le (Heap.lt_size e) (I.ok.cab x c hfn hc)))).trans e1⟩
    · obtain ⟨o',e1⟩:=I.base.there b o e hx
      exact ⟨o',(hs.2 b (Nat.ne_of_lt (Nat.lt_of_lt_of_le (Heap.lt_size e) (I.ok.cab x c hfn hc)))).trans e1⟩
    · by_cases hj:j=i
      · subst hj
        rw [hi] at e1; cases e1
        rw [List.getElem?_set_self hiσ] at e2
        cases e2
        exact ⟨u,r,.inr ⟨.inl hk,c,hc,hc'⟩⟩
      · rw [List.getElem?_set_ne (Ne.symm hj)] at e2
        obtain ⟨u',r',q⟩:=hl j y v' e1 e2 e3
        refine ⟨u',r',?_⟩
        rcases q with q | ⟨k,c',e,z'⟩
        · exact .inl q
        · refine .inr ⟨k,c',e,z'.sameBut hs ?_⟩
          rintro rfl
          exact hj (nodup_ix hN e1 (I.ok.inj _ _ _ e hc ▸ hi))
    · by_cases hcc:c'=c
      · subst hcc; exact ⟨_,hc'⟩
      · obtain ⟨w2,z2⟩:=I.cell y c' e
        exact ⟨w2,z2.sameBut hs hcc⟩
    · obtain ⟨e,n,ne,nf,d⟩:=I.pin p hp
      refine ⟨(hs.2 p.1 ?_).trans e,n,ne,nf,d⟩
      intro q
      rw [q,hoc] at e
      have q':oc=p.2:=Option.some.inj e
      exact d w' (by rw [← q']; exact hocd)
theorem store_ok {M:Model} {A:Around} {E:Value→Shared→Prop} {i:Nat} {x:Str} {v:V} {u:Value} {Q:Unit→Shared→Prop} (I:Inv X pins σ H s) (hN:X.N.Nodup) (hi:X.N[i]? = some x) (hx:Loc X.env.scope x) (r:RelV v u)
    (h:∀ s',Inv X pins (σ.set i (some v)) H s'→Q () s') (hf:X.fn x=true∨X.env.scope.names.lookup x=some .local:=by first | exact .inl rfl | exact .inr rfl | assumption):wpAny M A (storeName X.env x u) Q E s :=
  store_ok2 I hN hi hx r (fun s' I' _=>h s' I') hf
theorem Inv.call' {s':Shared} {ch:List Addr} (I:Inv X pins σ H s) (ho:s'.os=s.os) (u:Un (frs X.stack) ch H H' s.heap s'.heap) (hok:HOk X.prog X.w H' s'.heap) (hg:AllBare s'.gens)
    (hch:∀ b ∈ ch,(b ∈ X.ex∨X.s₀.heap.objs.size≤b)∧b≠X.env.locals∧(∀ x c,X.env.cells.lookup x=some c→c≠b)∧∀ p ∈ X.pn ++ pins,p.1≠b):Inv X pins σ H' s':=by
  obtain ⟨h',g',d',t',o'⟩:=s'
  have e:o'=s.os:=ho
  subst e
  exact I.call (g':=g') (t':=t') (d':=d') u hok hg hch
end
abbrev XK:=Value→Option Addr→Hp→Prop
abbrev St:=List (Option V)
abbrev VK:=V→Hp→Prop
abbrev TE:=St→Hp→VK→Prop
abbrev TT:=St→Hp→(Bool→Hp→Prop)→Prop
abbrev TA:=St→Hp→(List V→Hp→Prop)→Prop
structure Ends where
  nx:St→Hp→Prop
  rt:VK
  bk:St→Hp→Prop:=fun _ _=>False
  ct:St→Hp→Prop:=fun _ _=>False
abbrev TS:=Ends→St→Hp→Prop
def EP (X:Cx) (pins:List (Addr × Obj)) (σ:St) (Q:VK) (u:Value) (s':Shared):Prop:=∃ v H',Inv X pins σ H' s'∧RelV v u∧Q v H'
def TP (X:Cx) (pins:List (Addr × Obj)) (σ:St) (Q:Bool→Hp→Prop) (b:Bool) (s':Shared):Prop:=∃ H',Inv X pins σ H' s'∧Q b H'
def AP (X:Cx) (pins:List (Addr × Obj)) (σ:St) (Q:List V→Hp→Prop) (us:List Value) (s':Shared):Prop:=∃ vs H',Inv X pins σ H' s'∧Vals vs us∧Q vs H'
def SP (X:Cx) (pins:List (Addr × Obj)) (D:Ends) (f:Flow) (s':Shared):Prop :=
  match f with
  | .next=>∃ σ' H',Inv X pins σ' H' s'∧D.nx σ' H'
  | .brk=>∃ σ' H',Inv X pins σ' H' s'∧D.bk σ' H'
  | .cont=>∃ σ' H',Inv X pins σ' H' s'∧D.ct σ' H'
  | .ret u=>∃ v σ' H',Inv X pins σ' H' s'∧RelV v u∧D.rt v H'
def PE (X:Cx) (e:Expr) (t:TE):Prop :=
  ∀ (pins:List (Addr × Obj)) (s:Shared) (σ:St) (H:Hp) (Q:VK),Inv X pins σ H s→t σ H Q→wpAny (model X.prog X.w) X.A (eval e X.env) (EP X pins σ Q) X.xe s
def PT (X:Cx) (e:Expr) (t:TT):Prop :=
  ∀ (pins:List (Addr × Obj)) (s:Shared) (σ:St) (H:Hp) (Q:Bool→Hp→Prop),Inv X pins σ H s→t σ H Q→wpAny (model X.prog X.w) X.A (isTrue e X.env (eval e X.env)) (TP X pins σ Q) X.xe s
def PW (X:Cx) (e:Expr) (t:TT):Prop :=
  ∀ (whole:Sem Value) (pins:List (Addr × Obj)) (s:Shared) (σ:St) (H:Hp) (Q:Bool→Hp→Prop),Inv X pins σ H s→t σ H Q→wpAny (model X.prog X.w) X.A (isTrue e X.env whole) (TP X pins σ Q) X.xe s
theorem PW.pt {X:Cx} {e:Expr} {t:TT} (h:PW X e t):PT X e t:=h _
def PA (X:Cx) (es:List Expr) (t:TA):Prop :=
  ∀ (pos:Pos) (pins:List (Addr × Obj)) (s:Shared) (σ:St) (H:Hp) (Q:List V→Hp→Prop),Inv X pins σ H s→t σ H Q→wpAny (model X.prog X.w) X.A (spliced (backTo pos (starEach es X.env))) (AP X pins σ Q) X.xe s
def PS (X:Cx) (st:Stmt) (t:TS):Prop :=
  ∀ (pins:List (Addr × Obj)) (s:Shared) (σ:St) (H:Hp) (D:Ends),Inv X pins σ H s→t D σ H→wpAny (model X.prog X.w) X.A (exec st X.env) (SP X pins D) X.xe s
def PSs (X:Cx) (st:List Stmt) (t:TS):Prop :=
  ∀ (pins:List (Addr × Obj)) (s:Shared) (σ:St) (H:Hp) (D:Ends),Inv X pins σ H s→t D σ H→wpAny (model X.prog X.w) X.A (execs st X.env) (SP X pins D) X.xe s
theorem thn {α:Type} {t:Sem α} {Q Q':α→Shared→Prop} {M:Model} {A:Around} {E:Value→Shared→Prop} {s:Shared} (h:wpAny M A t Q E s) (hQ:∀ a s,Q a s→Q' a s):wpAny M A t Q' E s:=wpAny_mono h hQ fun _ _ x=>x
end L2
namespace L2
open PySem PySem.Spec PyProof.Rows
section
variable {X:Cx}
def tVar (i:Nat):TE:=fun σ H Q=>∃ v,σ[i]? = some (some v)∧Q v H
def tC (v:V):TE:=fun _ H Q=>Q v H
theorem pe_var {i:Nat} {x:Str} {pos:Pos} (hN:X.N[i]? = some x) (hv:Vis X.env.scope x) (hd:(x == ("__debug__":Str))=false:=by decide) (hcd:(x == ("__classdict__":Str))=false:=by decide):PE X (.Name x pos) (tVar i):=by
  intro pins s σ H Q I h
  obtain ⟨v,e,h⟩:=h
  obtain ⟨m,hn,hl⟩:=I.loc
  obtain ⟨u,r,l⟩:=hl i x v hN e hv
  have fin:EP X pins σ Q u s:=⟨v,H,I,r,h⟩
  rcases l with ⟨hk,hm⟩ | ⟨hk,c,hc,hcell⟩
  · exact wpAny_Name (wpAny_loadName_local I.ok.kind hk hn hm fin) hd
  · rcases hk with hk | hk
    · exact wpAny_Name (wpAny_loadName_cell I.ok.kind hk hc hcell fin) hd
    · exact wpAny_Name (wpAny_loadName_free I.ok.kind hk hc hcell fin hcd) hd
theorem pe_int {i j pos}:PE X (.Constant (.int i) j pos) (tC (.int i)):=fun _ _ _ H _ I h=>wpAny_Constant_int ⟨.int i,H,I.tok _,⟨_,rfl⟩,h⟩
theorem pe_bl {b j pos}:PE X (.Constant (.bool b) j pos) (tC (.bl b)):=fun _ _ _ H _ I h=>Constant_bool ⟨.bl b,H,I,rfl,h⟩
def Gl (X:Cx) (x:Str):Prop:=X.env.kindOf x=some .globalImplicit
theorem ld_glob {E:Value→Shared→Prop} {pins:List (Addr × Obj)} {s:Shared} {σ:St} {H:Hp} {x:Str} {u:Value} {pos:Pos} {Q:Value→Shared→Prop} (I:Inv X pins σ H s) (hg:Gl X x) (hm:X.mg x=some u) (h:Q u s)
    (hd:(x == ("__debug__":Str))=false:=by decide):wpAny (model X.prog X.w) X.A (eval (.Name x pos) X.env) Q E s :=
  Calls.Name_function_global I.ok.kind hg (Calls.loadGlobal_global (by rw [I.ok.glob]; exact I.mod.glob.keeps I.bk) hm h) hd
theorem ld_blt {E:Value→Shared→Prop} {pins:List (Addr × Obj)} {s:Shared} {σ:St} {H:Hp} {x:Str} {u:Value} {pos:Pos} {Q:Value→Shared→Prop} (I:Inv X pins σ H s) (hg:Gl X x) (hm:X.mg x=none) (hv:bootBuiltins x=some u) (h:Q u s)
    (hn:x≠"__name__":=by decide) (hd:(x == ("__debug__":Str))=false:=by decide):wpAny (model X.prog X.w) X.A (eval (.Name x pos) X.env) Q E s:=by
  obtain ⟨mb,h1,h2⟩:=I.mod.blt
  exact Calls.Name_function_global I.ok.kind hg (Calls.loadGlobal_builtin (by rw [I.ok.glob]; exact I.mod.glob.keeps I.bk) hm (by rw [I.ok.blt]; exact h1.keeps I.bk) ((h2 x hn).trans hv) h) hd
theorem pe_glob {x:Str} {v:V} {u:Value} {pos:Pos} (hg:Gl X x) (hm:X.mg x=some u) (r:RelV v u) (hd:(x == ("__debug__":Str))=false:=by decide):PE X (.Name x pos) (tC v) :=
  fun _ _ _ H _ I h=>ld_glob I hg hm ⟨v,H,I,r,h⟩ hd
theorem pe_bltn {x:Str} {v:V} {u:Value} {pos:Pos} (hg:Gl X x) (hm:X.mg x=none) (hv:bootBuiltins x=some u) (r:RelV v u) (hn:x≠"__name__":=by decide) (hd:(x == ("__debug__":Str))=false:=by decide):PE X (.Name x pos) (tC v) :=
  fun _ _ _ H _ I h=>ld_blt I hg hm hv ⟨v,H,I,r,h⟩ hn hd
variable {a b:Expr} {ta tb:TE} {pos:Pos}
variable {tA tB':TT} {rest:List Expr}
def tAnd (t u:TT):TT:=fun σ H Q=>t σ H fun c H1=>if c=true then u σ H1 Q else Q false H1
def tOr (t u:TT):TT:=fun σ H Q=>t σ H fun c H1=>if c=true then Q true H1 else u σ H1 Q
def tNot (t:TT):TT:=fun σ H Q=>t σ H fun c H1=>Q (!c) H1
theorem pw_and1 (ha:PT X a tA):PW X (.BoolOp .And [a] pos) tA:=by
  intro wh pins s σ H Q I h
  refine isTrue_and (thn (ha pins s σ H Q I h) fun c s1 e=>?_)
  cases c with
  | true=>exact isTrue_and_nil e
  | false=>exact e
theorem pw_or1 (ha:PT X a tA):PW X (.BoolOp .Or [a] pos) tA:=by
  intro wh pins s σ H Q I h
  refine isTrue_or (thn (ha pins s σ H Q I h) fun c s1 e=>?_)
  cases c with
  | false=>exact isTrue_or_nil e
  | true=>exact e
theorem pw_and (ha:PT X a tA) (hb:PW X (.BoolOp .And (b :: rest) pos) tB'):PW X (.BoolOp .And (a :: b :: rest) pos) (tAnd tA tB'):=by
  intro wh pins s σ H Q I h
  refine isTrue_and (thn (ha pins s σ H _ I h) fun c s1 ⟨H1,I1,q1⟩=>?_)
  cases c with
  | true=>exact hb wh pins s1 σ H1 Q I1 q1
  | false=>exact ⟨H1,I1,q1⟩
theorem pw_or (ha:PT X a tA) (hb:PW X (.BoolOp .Or (b :: rest) pos) tB'):PW X (.BoolOp .Or (a :: b :: rest) pos) (tOr tA tB'):=by
  intro wh pins s σ H Q I h
  refine isTrue_or (thn (ha pins s σ H _ I h) fun c s1 ⟨H1,I1,q1⟩=>?_)
  cases c with
  | true=>exact ⟨H1,I1,q1⟩
  | false=>exact hb wh pins s1 σ H1 Q I1 q1
theorem pt_not (ha:PT X a tA):PT X (.UnaryOp .Not a pos) (tNot tA):=by
  intro pins s σ H Q I h
  exact isTrue_not (ha pins s σ H (fun c H1=>Q (!c) H1) I h)
def tAndV (ta tb:TE):TE:=fun σ H Q=>ta σ H fun x H1=>∃ c,x = .bl c∧if c=true then tb σ H1 Q else Q (.bl false) H1
def tNotV (ta:TE):TE:=fun σ H Q=>ta σ H fun x H1=>∃ c,x = .bl c∧Q (.bl (!c)) H1
theorem pe_one {op} {t:TE} (h:PE X a t):PE X (.BoolOp op [a] pos) t:=fun pins s σ H Q I hw=>BoolOp_one (h pins s σ H Q I hw)
theorem pe_and (ha:PE X a ta) (hb:PE X (.BoolOp .And (b :: rest) pos) tb):PE X (.BoolOp .And (a :: b :: rest) pos) (tAndV ta tb):=by
  intro pins s σ H Q I h
  refine BoolOp_and (thn (ha pins s σ H _ I h) fun v s1 ⟨x,H1,I1,r1,q1⟩=>?_)
  obtain ⟨c,rfl,q1⟩:=q1
  cases r1
  refine wpAny_truthy_bool ?_
  cases c with
  | true=>exact hb pins s1 σ H1 Q I1 q1
  | false=>exact ⟨.bl false,H1,I1,rfl,q1⟩
theorem pe_not (ha:PE X a ta):PE X (.UnaryOp .Not a pos) (tNotV ta):=by
  intro pins s σ H Q I h
  refine UnaryOp_ (thn (ha pins s σ H _ I h) fun v s1 ⟨x,H1,I1,r1,q1⟩=>?_)
  obtain ⟨c,rfl,q1⟩:=q1
  cases r1
  exact not_of (wpAny_truthy_bool ⟨.bl (!c),H1,I1,rfl,q1⟩)
def tIf (t:TT) (ta tb:TE):TE:=fun σ H Q=>t σ H fun c H1=>if c=true then ta σ H1 Q else tb σ H1 Q
theorem pe_ifExp {c:Expr} (hc:PT X c tA) (ha:PE X a ta) (hb:PE X b tb):PE X (.IfExp c a b pos) (tIf tA ta tb):=by
  intro pins s σ H Q I h
  refine wpAny_IfExp (thn (hc pins s σ H _ I h) fun d s1 ⟨H1,I1,q1⟩=>?_)
  cases d with
  | true=>exact ha pins s1 σ H1 Q I1 q1
  | false=>exact hb pins s1 σ H1 Q I1 q1
end
end L2
namespace L2
open PySem PySem.Spec PyProof.Rows
def SqL (K : PySem.W.Frag) (H : Hp) (a : Addr) (xs : List V) : Prop :=
  Rd H a (.lst xs) ∨
    ∃ (o:Obj) (its:Array Value) (n:Nat),K.lookup a=some o∧o.cls = .type "list"∧o.dict=none∧o.data = .seq its n∧its.size≤sizeLine∧Vals xs its.toList
def SqT (K : PySem.W.Frag) (H : Hp) (a : Addr) (xs : List V) : Prop :=
  Rd H a (.tup xs) ∨
    ∃ (o:Obj) (its:Array Value) (n:Nat),K.lookup a=some o∧o.cls = .type "tuple"∧o.data = .seq its n∧its.size≤sizeLine∧Vals xs its.toList
def absV:Value→Option V
  | .none=>some .non
  | .bool b=>some (.bl b)
  | .int i _=>some (.int i)
  | .str x _=>some (.str x)
  | .bytes b _=>some (.byt b)
  | .float b _=>some (.flt b)
  | .ref a=>some (.ref a)
  | .type n=>some (.ty n)
  | _=>none
theorem RelV.abs {x:V} {u:Value} (r:RelV x u):absV u=some x:=by
  cases x with
  | non=>cases r; rfl
  | bl _=>cases r; rfl
  | int _=>obtain ⟨t,rfl⟩:=r; rfl
  | str _=>obtain ⟨t,rfl⟩:=r; rfl
  | byt _=>obtain ⟨t,rfl⟩:=r; rfl
  | flt _=>obtain ⟨t,rfl⟩:=r; rfl
  | ref _=>cases r; rfl
  | ty _=>cases r; rfl
theorem RelV.inj {x y:V} {u:Value} (r:RelV x u) (q:RelV y u):x=y:=Option.some.inj (r.abs.symm.trans q.abs)
theorem Vals.inj:∀ {xs ys:List V} {us:List Value},Vals xs us→Vals ys us→xs=ys
  | _,_,_,.nil,.nil=>rfl
  | _,_,_,.cons r t,.cons r' t'=>by rw [r.inj r',Vals.inj t t']
section
variable {X:Cx} {pins:List (Addr × Obj)} {σ:St} {H:Hp} {s:Shared} {a:Addr} {xs ys:List V}
theorem SqL.of {K:PySem.W.Frag} (h:H a=some (.lst xs)):SqL K H a xs:=.inl (.inl h)
theorem SqT.of {K:PySem.W.Frag} (h:H a=some (.tup xs)):SqT K H a xs:=.inl (.inl h)
theorem Inv.list (I:Inv X pins σ H s) (h:SqL X.K H a xs):∃ its:List Value,Vals xs its∧PlainL s.heap a its.toArray∧xs.length≤sizeLine:=by
  rcases h with h | ⟨o,its,n,hk,hc,hd,hs,hz,r⟩
  · obtain ⟨z,its,n,r,e⟩:=h.ok I.hok
    exact ⟨its,r,⟨_,n,e,rfl,rfl,rfl⟩,z⟩
  · refine ⟨its.toList,r,⟨o,n,I.kIn a o hk,hc,hd,by simpa using hs⟩,?_⟩
    have e:=r.length
    simp only [Array.length_toList] at e
    omega
theorem Inv.tuple (I:Inv X pins σ H s) (h:SqT X.K H a xs):∃ its:List Value,Vals xs its∧IsTup s.heap a its.toArray∧xs.length≤sizeLine:=by
  rcases h with h | ⟨o,its,n,hk,hc,hs,hz,r⟩
  · obtain ⟨z,its,r,p⟩:=h.ok I.hok
    exact ⟨its,r,p,z⟩
  · refine ⟨its.toList,r,⟨o,I.kIn a o hk,hc,n,by simpa using hs⟩,?_⟩
    have e:=r.length
    simp only [Array.length_toList] at e
    omega
theorem Inv.list_inj (I:Inv X pins σ H s) (h:SqL X.K H a xs) (h':SqL X.K H a ys):xs=ys:=by
  obtain ⟨its,r,⟨o,n,e,_,_,d⟩,_⟩:=I.list h
  obtain ⟨its',r',⟨o',n',e',_,_,d'⟩,_⟩:=I.list h'
  rw [e] at e'; cases e'
  rw [d] at d'
  injection d' with d1 _
  have:its=its':=by simpa using congrArg Array.toList d1
  subst this
  exact r.inj r'
theorem Inv.tuple_inj (I:Inv X pins σ H s) (h:SqT X.K H a xs) (h':SqT X.K H a ys):xs=ys:=by
  obtain ⟨its,r,⟨o,e,_,n,d⟩,_⟩:=I.tuple h
  obtain ⟨its',r',⟨o',e',_,n',d'⟩,_⟩:=I.tuple h'
  rw [e] at e'; cases e'
  rw [d] at d'
  injection d' with d1 _
  have:its=its':=by simpa using congrArg Array.toList d1
  subst this
  exact r.inj r'
end
abbrev Cx.wish (X:Cx) (E:Value→Shared→Prop):Cx:={ X with xe:=E }
abbrev Cx.nox (X:Cx):Cx:=X.wish fun _ _=>False
theorem Cx.Ok.wish {X:Cx} (ok:X.Ok) (E:Value→Shared→Prop):(X.wish E).Ok :=
  ⟨ok.mod,ok.kind,ok.glob,ok.blt,ok.above,ok.inj,ok.has,ok.cab,ok.hd,ok.frames,ok.stk,ok.exf,ok.bs,ok.bsz,ok.noex,ok.exfs,ok.funs,ok.frf⟩
theorem Cx.Ok.unwish {X:Cx} {E:Value→Shared→Prop} (ok:(X.wish E).Ok):X.Ok :=
  ⟨ok.mod,ok.kind,ok.glob,ok.blt,ok.above,ok.inj,ok.has,ok.cab,ok.hd,ok.frames,ok.stk,ok.exf,ok.bs,ok.bsz,ok.noex,ok.exfs,ok.funs,ok.frf⟩
section
variable {X:Cx} {pins:List (Addr × Obj)} {σ:St} {H:Hp} {s:Shared} {E:Value→Shared→Prop}
theorem Inv.wish (I:Inv X pins σ H s) (E:Value→Shared→Prop):Inv (X.wish E) pins σ H s:=⟨I.ok.wish E,I.os,I.bare,I.base,I.loc,I.cell,I.free,I.freeC,I.pin,I.hok,I.len⟩
theorem Inv.unwish (I:Inv (X.wish E) pins σ H s):Inv X pins σ H s:=⟨I.ok.unwish,I.os,I.bare,I.base,I.loc,I.cell,I.free,I.freeC,I.pin,I.hok,I.len⟩
theorem SP.unwish {D:Ends} {f:Flow} {s':Shared} (h:SP (X.wish E) pins D f s'):SP X pins D f s':=by
  cases f with
  | next=>obtain ⟨σ',H',I,q⟩:=h; exact ⟨σ',H',I.unwish,q⟩
  | brk=>obtain ⟨σ',H',I,q⟩:=h; exact ⟨σ',H',I.unwish,q⟩
  | cont=>obtain ⟨σ',H',I,q⟩:=h; exact ⟨σ',H',I.unwish,q⟩
  | ret u=>obtain ⟨v,σ',H',I,r,q⟩:=h; exact ⟨v,σ',H',I.unwish,r,q⟩
theorem PSs.nox {st:List Stmt} {t:TS} (h:PSs X.nox st t):PSs X st t:=fun pins s σ H D I hw =>
  wpAny_mono (h pins s σ H D (I.wish _) hw) (fun _ _ q=>q.unwish) fun _ _ z=>False.elim z
end
section
variable {X:Cx} {st:Stmt} {rest:List Stmt} {t u:TS} {e:Expr} {te:TE} {pos:Pos}
def tNext:TS:=fun D σ H=>D.nx σ H
def tSeq (t u:TS):TS:=fun D σ H=>t { D with nx:=u D } σ H
theorem pss_nil:PSs X [] tNext:=fun _ _ σ H _ I h=>wpAny_execs_nil ⟨σ,H,I,h⟩
theorem pss_cons (h1:PS X st t) (h2:PSs X rest u):PSs X (st :: rest) (tSeq t u):=by
  intro pins s σ H D I h
  refine wpAny_execs_cons (thn (h1 pins s σ H { D with nx:=u D } I h) fun f s1 q=>?_)
  cases f with
  | next =>
    obtain ⟨σ',H',I',q⟩:=q
    exact h2 pins s1 σ' H' D I' q
  | ret v=>exact q
  | brk=>exact q
  | cont=>exact q
theorem pss_one (h1:PS X st t):PSs X [st] t:=by
  intro pins s σ H D I h
  refine wpAny_execs_cons (thn (h1 pins s σ H D I h) fun f s1 q=>?_)
  cases f with
  | next=>exact wpAny_execs_nil q
  | ret v=>exact q
  | brk=>exact q
  | cont=>exact q
theorem Inv.quiet {pins:List (Addr × Obj)} {σ:St} {H:Hp} {s:Shared} (I:Inv X pins σ H s):interactive X.env=false:=by simp [interactive,I.ok.kind]
def tDrop (te:TE):TS:=fun D σ H=>te σ H fun _ H1=>D.nx σ H1
theorem ps_expr (he:PE X e te) (hs:swapsWith e none pos.line X.env=pure false:=by rfl):PS X (.Expr e pos) (tDrop te):=by
  intro pins s σ H D I h
  exact wpAny_Expr_any (thn (he pins s σ H _ I h) fun v s1 ⟨x,H1,I1,r1,q1⟩=>⟨σ,H1,I1,q1⟩) I.quiet hs
def tRet (te:TE):TS:=fun D σ H=>te σ H D.rt
theorem ps_ret (he:PE X e te):PS X (.Return (some e) pos) (tRet te):=by
  intro pins s σ H D I h
  exact wpAny_Return_some (thn (he pins s σ H _ I h) fun v s1 ⟨x,H1,I1,r1,q1⟩=>⟨x,σ,H1,I1,r1,q1⟩)
def tIfS (c:TT) (t u:TS):TS:=fun D σ H=>c σ H fun b H1=>if b=true then t D σ H1 else u D σ H1
theorem ps_if {c:Expr} {a b:List Stmt} {tc:TT} (hc:PT X c tc) (ha:PSs X a t) (hb:PSs X b u):PS X (.If c a b pos) (tIfS tc t u):=by
  intro pins s σ H D I h
  refine wpAny_If (thn (hc pins s σ H _ I h) fun d s1 ⟨H1,I1,q1⟩=>?_)
  cases d with
  | true=>exact ha pins s1 σ H1 D I1 q1
  | false=>exact hb pins s1 σ H1 D I1 q1
def tNever:TS:=fun _ _ _=>False
theorem ps_never:PS X st tNever:=fun _ _ _ _ _ _ h=>h.elim
end
abbrev TG:=V→St→Hp→(St→Hp→Prop)→Prop
abbrev TGs:=List V→St→Hp→(St→Hp→Prop)→Prop
def PG (X : Cx) (target : Expr) (t : TG) : Prop :=
  ∀ (pins : List (Addr × Obj)) (s : Shared) (σ : St) (H : Hp) (v : V) (u : Value) (Q : St → Hp → Prop), Inv X pins σ H s → RelV v u → t v σ H Q →
    wpAny (model X.prog X.w) X.A (assign target X.env u) (fun _ s'=>∃ σ' H',Inv X pins σ' H' s'∧Q σ' H') X.xe s
def PGs (X : Cx) (ts : List Expr) (t : TGs) : Prop :=
  ∀ (pins : List (Addr × Obj)) (s : Shared) (σ : St) (H : Hp) (vs : List V) (us : List Value) (Q : St → Hp → Prop), Inv X pins σ H s → Vals vs us → t vs σ H Q →
    wpAny (model X.prog X.w) X.A (assignInOrder ((assignEach ts X.env).map (·.2)) us) (fun _ s'=>∃ σ' H',Inv X pins σ' H' s'∧Q σ' H') X.xe s
abbrev TSet:=V→V→V→Hp→(Hp→Prop)→Prop
def PSet (X : Cx) (t : TSet) : Prop :=
  ∀ (pins : List (Addr × Obj)) (s : Shared) (σ : St) (H : Hp) (o i v : V) (ov iv u : Value) (Q : Hp → Prop), Inv X pins σ H s → RelV o ov → RelV i iv → RelV v u → t o i v H Q →
    wpAny (model X.prog X.w) X.A (setItem ov iv u) (fun _ s'=>∃ H',Inv X pins σ H' s'∧Q H') X.xe s
abbrev TIp:=V→V→Hp→VK→Prop
def PIp (X : Cx) (op : Operator) (t : TIp) : Prop :=
  ∀ (pins : List (Addr × Obj)) (s : Shared) (σ : St) (H : Hp) (x y : V) (v u : Value) (Q : VK), Inv X pins σ H s → RelV x v → RelV y u → t x y H Q →
    wpAny (model X.prog X.w) X.A (inplaceOp op v u) (EP X pins σ Q) X.xe s
section
variable {X:Cx} {pos:Pos}
def gName (i:Nat):TG:=fun v σ H Q=>Q (σ.set i (some v)) H
theorem pg_name {i:Nat} {x:Str} (hN:X.N.Nodup) (hi:X.N[i]? = some x) (hx:Loc X.env.scope x) (hf:X.fn x=true∨X.env.scope.names.lookup x=some .local:=by first | exact .inl rfl | exact .inr rfl | assumption):PG X (.Name x pos) (gName i):=by
  intro pins s σ H v u Q I r h
  exact wpAny_assign_Name (store_ok I hN hi hx r (fun s' I'=>⟨_,H,I',h⟩) hf)
def gNil:TGs:=fun vs σ H Q=>vs=[]∧Q σ H
def gCons (t:TG) (u:TGs):TGs:=fun vs σ H Q=>∃ v r,vs=v :: r∧t v σ H fun σ' H'=>u r σ' H' Q
theorem pgs_nil:PGs X [] gNil:=by
  intro pins s σ H vs us Q I r h
  obtain ⟨e,h⟩:=h
  subst e
  cases r
  exact assignInOrder_nil ⟨σ,H,I,h⟩
theorem pgs_cons {e:Expr} {es:List Expr} {t:TG} {u:TGs} (h1:PG X e t) (h2:PGs X es u)
    (hs:(assignEach (e :: es) X.env).map (·.2)=assign e X.env :: (assignEach es X.env).map (·.2):=by rfl):PGs X (e :: es) (gCons t u):=by
  intro pins s σ H vs us Q I r h
  obtain ⟨v,vr,e1,h⟩:=h
  subst e1
  cases r with
  | cons r rr =>
    rw [hs]
    refine assignInOrder_cons (thn (h1 pins s σ H _ _ _ I r h) fun _ s1 ⟨σ1,H1,I1,q1⟩=>?_)
    exact h2 pins s1 σ1 H1 _ _ Q I1 rr q1
def gTup (K:PySem.W.Frag) (n:Nat) (t:TGs):TG:=fun v σ H Q=>∃ a xs,v = .ref a∧SqT K H a xs∧xs.length=n∧t xs σ H Q
theorem pg_tup {es:List Expr} {k:Nat} {t:TGs} {n:Nat} (hc:X.calm=true) (h:PGs X es t)
    (hn:(assignEach es X.env).length=n:=by rfl) (hst:(assignEach es X.env).findIdx? (·.1)=none:=by rfl):PG X (.Tuple es k pos) (gTup X.K n t):=by
  intro pins s σ H v u Q I r hw
  obtain ⟨a,xs,e1,hq,hl,hw⟩:=hw
  subst e1
  cases r
  obtain ⟨its,rv,ht,hz⟩:=I.tuple hq
  refine assign_Tuple_tuple (I.ok.hd hc) ht (by simp [hn,← hl,rv.length]) hst fun h' hx=>?_
  have I1:Inv X pins σ H { s with heap:=h' }:=I.kept (t':=s.toks) fun b o e=>hx b o (Nat.ne_of_lt (Heap.lt_size e)) e
  exact h pins _ σ H xs _ Q I1 (by simpa using rv) hw
def gSub (to ti:TE) (t:TSet):TG:=fun v σ H Q=>to σ H fun o H1=>ti σ H1 fun i H2=>t o i v H2 fun H3=>Q σ H3
theorem pg_sub {o i:Expr} {to ti:TE} {t:TSet} (ho:PE X o to) (hi:PE X i ti) (hs:PSet X t)
    (ha:∀ v,assign (.Subscript o i pos) X.env v=(do
      let ov ← holding [v] (eval o X.env)
      let iv ← holding [v,ov] (eval i X.env)
      standAt pos
      holding [v,ov,iv] (setItem ov iv v)
      release [v,ov,iv] []):=by intro _; rfl):PG X (.Subscript o i pos) (gSub to ti t):=by
  intro pins s σ H v u Q I r h
  rw [ha]
  refine wpAny_bind (wpAny_holding (thn (ho pins s σ H _ I h) fun ov s1 ⟨x,H1,I1,r1,q1⟩=>?_))
  refine wpAny_bind (wpAny_holding (thn (hi pins s1 σ H1 _ I1 q1) fun iv s2 ⟨y,H2,I2,r2,q2⟩=>?_))
  refine wpAny_bind (wpAny_standAt (wpAny_bind (wpAny_holding (thn (hs pins s2 σ H2 x y v ov iv u _ I2 r1 r2 r q2) fun _ s3 ⟨H3,I3,q3⟩=>?_))))
  exact wpAny_release ⟨σ,H3,I3,q3⟩
def tAsg (te:TE) (g:TG):TS:=fun D σ H=>te σ H fun x H1=>g x σ H1 D.nx
theorem ps_asg {tg e:Expr} {te:TE} {g:TG} (he:PE X e te) (hg:PG X tg g) (hs:swapsWithSole [tg] e pos.line X.env=pure false:=by rfl) (hw:swappedStores [tg] e X.env=pure none:=by rfl)
    (h1:(assignEach [tg] X.env).map (·.2)=[assign tg X.env]:=by rfl):PS X (.Assign [tg] e pos) (tAsg te g):=by
  intro pins s σ H D I h
  refine wpAny_Assign_stores (thn (he pins s σ H _ I h) fun v s1 ⟨x,H1,I1,r1,q1⟩=>?_) hs hw
  rw [h1]
  exact thn (hg pins s1 σ H1 x v _ I1 r1 q1) fun _ s2 q=>q
theorem ps_set {i:Nat} {x:Str} {e:Expr} {te:TE} {pos':Pos} (hN:X.N.Nodup) (hi:X.N[i]? = some x) (hx:Loc X.env.scope x) (he:PE X e te) (hs:swapsWith e (some (.Name x pos')) pos.line X.env=pure false:=by rfl) (hf:X.fn x=true∨X.env.scope.names.lookup x=some .local:=by first | exact .inl rfl | exact .inr rfl | assumption) :
    PS X (.Assign [.Name x pos'] e pos) (tAsg te (gName i)):=by
  intro pins s σ H D I h
  refine wpAny_Assign_Name (thn (he pins s σ H _ I h) fun v s1 ⟨y,H1,I1,r1,q1⟩=>?_) hs
  exact store_ok I1 hN hi hx r1 (fun s2 I2=>⟨_,H1,I2,q1⟩) hf
def tAug (i:Nat) (te:TE) (ti:TIp):TS:=fun D σ H=>∃ x,σ[i]? = some (some x)∧te σ H fun y H1=>ti x y H1 fun z H2=>D.nx (σ.set i (some z)) H2
theorem ps_aug {i : Nat} {x : Str} {e : Expr} {te : TE} {op : Operator} {ti : TIp} {pos' : Pos} (hN : X.N.Nodup) (hi : X.N[i]? = some x) (hx : Loc X.env.scope x) (he : PE X e te) (ho : PIp X op ti) (hf : X.fn x = true ∨ X.env.scope.names.lookup x = some .local := by first | exact .inl rfl | exact .inr rfl | assumption) :
    PS X (.AugAssign (.Name x pos') op e pos) (tAug i te ti):=by
  intro pins s σ H D I h
  obtain ⟨v,e1,h⟩:=h
  obtain ⟨m,hn,hl⟩:=I.loc
  have vis:Vis X.env.scope x:=by rcases hx with k | k; exact .inl k; exact .inr (.inl k)
  obtain ⟨u,r,l⟩:=hl i x v hi e1 vis
  refine wpAny_AugAssign_Name ?_
  have go:wpAny (model X.prog X.w) X.A (eval e X.env) (fun w s₂=>wpAny (model X.prog X.w) X.A (inplaceOp op u w) (fun r s₃=>wpAny (model X.prog X.w) X.A (storeName X.env x r) (fun _=>SP X pins D .next) X.xe s₃) X.xe s₂) X.xe s:=by
    refine thn (he pins s σ H _ I h) fun w s1 ⟨y,H1,I1,r1,q1⟩=>?_
    refine thn (ho pins s1 σ H1 v y u w _ I1 r r1 q1) fun z s2 ⟨zv,H2,I2,r2,q2⟩=>?_
    exact store_ok I2 hN hi hx r2 (fun s3 I3=>⟨_,H2,I3,q2⟩) hf
  rcases l with ⟨hk,hm⟩ | ⟨hk,c,hc,hcell⟩
  · exact wpAny_loadName_local I.ok.kind hk hn hm go
  · rcases hk with hk | hk
    · exact wpAny_loadName_cell I.ok.kind hk hc hcell go
    · rcases hx with k | k
      · have:X.env.scope.names.lookup x=some .free:=hk
        rw [k] at this; cases this
      · have:X.env.scope.names.lookup x=some .free:=hk
        rw [k] at this; cases this
end
section
variable {X:Cx} {pos:Pos}
def tWhile (c:TT) (tb:TS):TS:=fun D σ H=>∃ W:Nat→St→Hp→Prop,(∃ m,W m σ H)∧∀ m σ H,W m σ H →
  c σ H fun b H1=>if b=true then ∃ N:St→Hp→Prop,(∀ σ' H',N σ' H'→∃ m',m' < m∧W m' σ' H')∧tb { D with nx:=N,ct:=N,bk:=D.nx } σ H1 else D.nx σ H1
theorem ps_while {c:Expr} {body:List Stmt} {tc:TT} {tb:TS} (hp:PassesOwn (model X.prog X.w) X.A X.env X.xe) (hc:PT X c tc) (hb:PSs X body tb):PS X (.While c body [] pos) (tWhile tc tb):=by
  intro pins s σ H D I h
  obtain ⟨W,⟨m0,w0⟩,turn⟩:=h
  refine wpAny_While (codeAny_whileLoop (fun n s'=>∃ σ' H',Inv X pins σ' H' s'∧W n σ' H') ?_ m0 ⟨σ,H,I,w0⟩)
  rintro n s1 ⟨σ1,H1,I1,w1⟩
  refine wpAny_passesOwn hp (thn (hc pins s1 σ1 H1 _ I1 (turn n σ1 H1 w1)) fun b s2 ⟨H2,I2,q2⟩=>?_)
  cases b with
  | true =>
    obtain ⟨N,hN,q2⟩:=q2
    rw [if_pos rfl]
    refine wpAny_passesOwn hp (thn (hb pins s2 σ1 H2 _ I2 q2) fun f s3 q3=>?_)
    cases f with
    | next =>
      obtain ⟨σ3,H3,I3,n3⟩:=q3
      obtain ⟨m',hm,w3⟩:=hN σ3 H3 n3
      exact ⟨m',hm,σ3,H3,I3,w3⟩
    | cont =>
      obtain ⟨σ3,H3,I3,n3⟩:=q3
      obtain ⟨m',hm,w3⟩:=hN σ3 H3 n3
      exact ⟨m',hm,σ3,H3,I3,w3⟩
    | brk=>exact q3
    | ret v=>exact q3
  | false =>
    rw [if_neg Bool.false_ne_true]
    exact wpAny_execs_nil ⟨σ1,H2,I2,q2⟩
end
structure It where
  go:Nat→Hp→Prop
  yld:Nat→Hp→V→Hp→Prop
  stop:Nat→Hp→Prop
def FpOk (X:Cx) (pins:List (Addr × Obj)) (H:Hp) (b:Addr):Prop :=
  H b=none∧b≠X.env.locals∧b ∉ X.fs∧(b ∈ X.ex∨X.s₀.heap.objs.size≤b)∧(∀ x c,X.env.cells.lookup x=some c→c≠b)∧∀ p ∈ X.pn ++ pins,p.1≠b
theorem Inv.fpOk {X:Cx} {pins:List (Addr × Obj)} {σ:St} {H H':Hp} {s:Shared} {b:Addr} (I:Inv X pins σ H s) (hb:s.heap.objs.size≤b) (hn:H' b=none):FpOk X pins H' b:=by
  refine ⟨hn,Nat.ne_of_gt (Nat.lt_of_lt_of_le I.lt hb),I.nofs hb,.inr (Nat.le_trans I.sz hb),fun x c e z=>?_,fun p hp z=>?_⟩
  · obtain ⟨v,q⟩:=I.cell x c e
    exact absurd (Nat.lt_of_lt_of_le q.lt (by rw [z]; exact hb)) (Nat.lt_irrefl _)
  · exact absurd (Nat.lt_of_lt_of_le (Heap.lt_size (I.pin p hp).1) (by rw [z]; exact hb)) (Nat.lt_irrefl _)
structure Turn (P:Program) (w:World) (K:PySem.W.Frag) (tg:Expr) (J:It) (fp:List Addr) (it:Addr) (tn:Nat→Heap→Prop):Prop where
  mem:it ∈ fp
  obj:∀ i h,tn i h→∀ b ∈ fp,∃ o,h.get? b=some o∧∀ v,o.data≠.cell v
  keep:∀ i h h',tn i h→(∀ b ∈ fp,∀ o,h.get? b=some o→h'.get? b=some o)→tn i h'
  item:∀ (X:Cx),X.prog=P→X.w=w→X.K=K→X.calm=true→∀ (i:Nat) (pins:List (Addr × Obj)) (s:Shared) (σ:St) (H:Hp) (E:Value→Shared→Prop),Inv X pins σ H s→(∀ b ∈ fp,FpOk X pins H b)→tn i s.heap→J.go i H →
    wpAny (model P w) X.A (pyNext (.ref it)) (fun r s1=>∃ u,r=some u ∧
      wpAny (model P w) X.A (letOwnedTupleGo tg (.ref it) u) (fun _ s2=>∃ x H',Inv X pins σ H' s2∧RelV x u∧J.yld i H x H'∧tn (i+1) s2.heap∧∀ b ∈ fp,H' b=none) E s1) E s
  done:∀ (X:Cx),X.prog=P→X.w=w→X.K=K→X.calm=true→∀ (i:Nat) (pins:List (Addr × Obj)) (s:Shared) (σ:St) (H:Hp) (E:Value→Shared→Prop),Inv X pins σ H s→(∀ b ∈ fp,FpOk X pins H b)→tn i s.heap→J.stop i H →
    wpAny (model P w) X.A (pyNext (.ref it)) (fun r s1=>r=none∧Inv X pins σ H s1) E s
  self:∀ (A:Around) (i:Nat) (s:Shared) (Q:Value→Shared→Prop) (E:Value→Shared→Prop),tn i s.heap→Q (.ref it) s→wpAny (model P w) A (pyIter (.ref it)) Q E s
abbrev TI:=St→Hp→(It→Hp→Prop)→Prop
def PIE (X:Cx) (pins:List (Addr × Obj)) (σ:St) (tg:Expr) (R:It→Hp→Prop) (itv:Value) (s2:Shared):Prop :=
  ∃ (it:Addr) (fp:List Addr) (tn:Nat→Heap→Prop) (J:It) (H':Hp),itv = .ref it∧Inv X pins σ H' s2∧Turn X.prog X.w X.K tg J fp it tn∧tn 0 s2.heap∧(∀ b ∈ fp,FpOk X pins H' b)∧R J H'
def PI (X : Cx) (tg iter : Expr) (wi : TI) : Prop :=
  ∀ (pins : List (Addr × Obj)) (s : Shared) (σ : St) (H : Hp) (R : It → Hp → Prop), Inv X pins σ H s → wi σ H R →
    wpAny (model X.prog X.w) X.A (eval iter X.env) (fun v s1=>wpAny (model X.prog X.w) X.A (pyIter v) (PIE X pins σ tg R) X.xe s1) X.xe s
theorem go_of {M : Model} {A : Around} {E : Value → Shared → Prop} {s : Shared} {tg : Expr} {it : Addr} {u : Value} {o : Obj} {n : String} {vs : Array Value} {Q : Unit → Shared → Prop} (ho : s.heap.get? it = some o) (hc : o.cls = .type n) (hd : o.data = .fields vs)
    (hn:["enumerate","zip","dict_itemiterator","dict_reverseitemiterator","odict_iterator","itertools.zip_longest","itertools.pairwise"].contains n=false) (hQ:Q () s):wpAny M A (letOwnedTupleGo tg (.ref it) u) Q E s:=by
  unfold letOwnedTupleGo
  cases tg <;> first
    | exact wpAny_pure hQ
    | (cases u <;> first
        | exact wpAny_pure hQ
        | (refine wpAny_bind (wpAny_load ho ?_)
           rw [hc,hd]
           show wpAny M A (if (["enumerate","zip","dict_itemiterator","dict_reverseitemiterator","odict_iterator","itertools.zip_longest","itertools.pairwise"].contains n && vs[0]? == some (rawInt _))=true then _ else _) Q E s
           rw [if_neg (by intro h; rw [hn,Bool.false_and] at h; cases h)]
           exact wpAny_pure hQ))
def Itl (K:PySem.W.Frag) (a:Addr):It :=
  ⟨fun i H=>∃ xs x,SqL K H a xs∧xs[i]? = some x,fun i H x H'=>H'=H∧∀ xs,SqL K H a xs→xs[i]? = some x,fun i H=>∃ xs,SqL K H a xs∧xs.length≤i⟩
def Itt (K:PySem.W.Frag) (a:Addr):It :=
  ⟨fun i H=>∃ xs x,SqT K H a xs∧xs[i]? = some x,fun i H x H'=>H'=H∧∀ xs,SqT K H a xs→xs[i]? = some x,fun i H=>∃ xs,SqT K H a xs∧xs.length≤i⟩
def Itr (lo:Int) (n:Nat):It:=⟨fun i _=>i < n,fun i H x H'=>H'=H∧x = .int (lo+i),fun i _=>n≤i⟩
theorem turn_list {P:Program} {w:World} {K:PySem.W.Frag} {tg:Expr} (a it:Addr):Turn P w K tg (Itl K a) [it] it (fun i h=>h.IsListIter it a i) where
  mem:=by simp
  obj:=fun i h st b hb=>by
    have e:b=it:=by simpa using hb
    subst e
    obtain ⟨o,e,c,d⟩:=st
    exact ⟨o,e,fun v z=>by rw [d] at z; cases z⟩
  keep:=fun i h h' st k=>st.at fun o e=>k it (by simp) o e
  item:=by
    intro X hP hw hK hc i pins s σ H E I hf st hg
    subst hP hw hK
    obtain ⟨xs,x,hq,hx⟩:=hg
    obtain ⟨its,rv,p,hz⟩:=I.list hq
    obtain ⟨u,hu,ru⟩:=rv.get hx
    obtain ⟨f0,f1,f2,f3,f4,f5⟩:=hf it (by simp)
    refine wpAny_pyNext_list_item st p.isList (x:=u) (by simpa using hu) fun h' st' sb=>?_
    have I1:Inv X pins σ H { s with heap:=h' }:=I.turned (t':=s.toks) (fun b o hb e=>(sb.2 b hb).trans e) f0 f1 f3 f4 f5
    obtain ⟨o,e,c,d⟩:=id st'
    exact ⟨u,rfl,go_of (s:={ s with heap:=h' }) e c d (by decide) ⟨x,H,I1,ru,⟨rfl,fun ys hy=>by rw [I.list_inj hy hq]; exact hx⟩,st',fun b hb=>(hf b hb).1⟩⟩
  done:=by
    intro X hP hw hK hc i pins s σ H E I hf st hg
    subst hP hw hK
    obtain ⟨xs,hq,hx⟩:=hg
    obtain ⟨its,rv,p,hz⟩:=I.list hq
    obtain ⟨f0,f1,f2,f3,f4,f5⟩:=hf it (by simp)
    have hl:=rv.length
    exact wpAny_pyNext_list_end (I.ok.hd hc) st p.isList (by simp; omega) fun h' eb=>⟨rfl,I.turned (t':=s.toks) (fun b o hb e=>eb b o hb e) f0 f1 f3 f4 f5⟩
  self:=fun _ _ _ _ _ st h=>wpAny_pyIter_listiter st h
theorem turn_tuple {P:Program} {w:World} {K:PySem.W.Frag} {tg:Expr} (a it:Addr):Turn P w K tg (Itt K a) [it] it (fun i h=>h.IsTupleIter it a i) where
  mem:=by simp
  obj:=fun i h st b hb=>by
    have e:b=it:=by simpa using hb
    subst e
    obtain ⟨o,e,c,d⟩:=st
    exact ⟨o,e,fun v z=>by rw [d] at z; cases z⟩
  keep:=fun i h h' st k=>st.at fun o e=>k it (by simp) o e
  item:=by
    intro X hP hw hK hc i pins s σ H E I hf st hg
    subst hP hw hK
    obtain ⟨xs,x,hq,hx⟩:=hg
    obtain ⟨its,rv,p,hz⟩:=I.tuple hq
    obtain ⟨u,hu,ru⟩:=rv.get hx
    obtain ⟨f0,f1,f2,f3,f4,f5⟩:=hf it (by simp)
    refine wpAny_pyNext_tuple_item st (show s.heap.IsTuple a its.toArray from p) (x:=u) (by simpa using hu) fun h' st' sb=>?_
    have I1:Inv X pins σ H { s with heap:=h' }:=I.turned (t':=s.toks) (fun b o hb e=>(sb.2 b hb).trans e) f0 f1 f3 f4 f5
    obtain ⟨o,e,c,d⟩:=id st'
    exact ⟨u,rfl,go_of (s:={ s with heap:=h' }) e c d (by decide) ⟨x,H,I1,ru,⟨rfl,fun ys hy=>by rw [I.tuple_inj hy hq]; exact hx⟩,st',fun b hb=>(hf b hb).1⟩⟩
  done:=by
    intro X hP hw hK hc i pins s σ H E I hf st hg
    subst hP hw hK
    obtain ⟨xs,hq,hx⟩:=hg
    obtain ⟨its,rv,p,hz⟩:=I.tuple hq
    obtain ⟨f0,f1,f2,f3,f4,f5⟩:=hf it (by simp)
    have hl:=rv.length
    exact wpAny_pyNext_tuple_end (I.ok.hd hc) st (show s.heap.IsTuple a its.toArray from p) (by simp; omega) fun h' eb=>⟨rfl,I.turned (t':=s.toks) (fun b o hb e=>eb b o hb e) f0 f1 f3 f4 f5⟩
  self:=fun _ _ _ _ _ st h=>wpAny_pyIter_tupleiter st h
theorem turn_range {P:Program} {w:World} {K:PySem.W.Frag} {tg:Expr} (it:Addr) (lo:Int) (n:Nat):Turn P w K tg (Itr lo n) [it] it (fun i h=>IsRangeIter h it (lo+(i:Nat) * 1) ((n:Int) - (i:Nat)) 1) where
  mem:=by simp
  obj := fun i h st b hb => by
    have e:b=it:=by simpa using hb
    subst e
    exact ⟨_,st,fun v z=>by
      have z':Data.fields _=Data.cell v:=z
      cases z'⟩
  keep:=fun i h h' st k=>k it (by simp) _ st
  item:=by
    intro X hP hw hK hc i pins s σ H E I hf st hg
    subst hP hw hK
    obtain ⟨f0,f1,f2,f3,f4,f5⟩:=hf it (by simp)
    have W:=Walks.range (prog:=X.prog) (w:=X.w) (I.ok.hd hc) it lo 1 n
    refine W.item i s _ _ hg st fun v h' tk hv st' kk=>?_
    obtain ⟨t,rfl⟩:=hv
    have I1:Inv X pins σ H { s with heap:=h',toks:=tk }:=I.turned (fun b o hb e=>kk b o (by simpa using hb) e) f0 f1 f3 f4 f5
    refine ⟨_,rfl,go_of (s:={ s with heap:=h',toks:=tk }) (n:="range_iterator") st' rfl rfl (by decide) ⟨.int (lo+i),H,I1,⟨t,?_⟩,⟨rfl,rfl⟩,st',fun b hb=>(hf b hb).1⟩⟩
    rw [Int.mul_one]
  done:=by
    intro X hP hw hK hc i pins s σ H E I hf st hg
    subst hP hw hK
    obtain ⟨f0,f1,f2,f3,f4,f5⟩:=hf it (by simp)
    exact wpAny_pyNext_range_end (I.ok.hd hc) st (by have:n≤i:=hg; omega) fun h' eb=>⟨rfl,I.turned (t':=s.toks) (fun b o hb e=>eb b o hb e) f0 f1 f3 f4 f5⟩
  self:=fun _ _ _ _ _ st h=>wpAny_pyIter_rangeiter st h
end L2
namespace L2
open PySem PySem.Spec PyProof.Rows
section
variable {X:Cx} {tg:Expr}
theorem range_it {pins:List (Addr × Obj)} {σ:St} {H:Hp} {s:Shared} {R:It→Hp→Prop} {E:Value→Shared→Prop} {lo hi:Int} {t u v:Tok} {tk:Nat} (I:Inv X pins σ H s) (h1:-(2 ^ 62)≤lo) (h2:lo < 2 ^ 62) (h3:-(2 ^ 62)≤hi) (h4:hi < 2 ^ 62)
    (q:R (Itr lo (hi - lo).toNat) H):wpAny (model X.prog X.w) X.A (pyIter (.ref s.heap.objs.size)) (PIE X pins σ tg R) E { s with heap:=s.heap.push { cls:=.type "range",data:=.fields #[.int lo t,.int hi u,.int 1 v] },toks:=tk }:=by
  refine wpAny_pyIter_range (IsRange.new ..) (small_one h1 h2 h3 h4) ?_
  have I1:Inv X pins σ H { s with heap:=s.heap.push { cls:=.type "range",data:=.fields #[.int lo t,.int hi u,.int 1 v] },toks:=tk }:=I.kept fun b o e=>Heap.get?_push_of_some _ e
  refine ⟨(s.heap.push { cls:=.type "range",data:=.fields #[.int lo t,.int hi u,.int 1 v] }).objs.size,[(s.heap.push { cls:=.type "range",data:=.fields #[.int lo t,.int hi u,.int 1 v] }).objs.size],_,_,H,rfl,
    I1.kept (t':=tk) fun b o e=>Heap.get?_push_of_some _ e,turn_range _ lo (hi - lo).toNat,?_,fun b hb=>?_,q⟩
  · have e1:lo+((0:Nat):Int) * 1=lo:=by simp
    have e2:(((hi - lo).toNat:Nat):Int) - ((0:Nat):Int)=Builtin.Range.rangeSize lo hi 1:=by rw [rangeSize_one]; split <;> omega
    show IsRangeIter _ _ (lo+((0:Nat):Int) * 1) ((((hi - lo).toNat:Nat):Int) - ((0:Nat):Int)) 1
    rw [e1,e2]
    exact Heap.get?_push_size _ rfl
  · have e:b=(s.heap.push { cls:=.type "range",data:=.fields #[.int lo t,.int hi u,.int 1 v] }).objs.size:=by simpa using hb
    subst e
    exact I1.fpOk (Nat.le_refl _) (I1.hok.fresh (Nat.le_refl _))
def iRng1 (ta:TA):TI:=fun σ H R=>ta σ H fun vs H1=>∃ j:Int,vs=[.int j]∧-(2 ^ 62)≤j∧j < 2 ^ 62∧R (Itr 0 j.toNat) H1
def iRng2 (ta:TA):TI:=fun σ H R=>ta σ H fun vs H1=>∃ i j:Int,vs=[.int i,.int j]∧(-(2 ^ 62)≤i∧i < 2 ^ 62∧-(2 ^ 62)≤j∧j < 2 ^ 62)∧R (Itr i (j - i).toNat) H1
theorem pi_range1 {a:Expr} {ta:TA} {p pos:Pos} (hg:Gl X "range") (hm:X.mg "range" = none) (ha:PA X [a] ta) (hs:starEach [a] X.env=[(false,eval a X.env)]:=by rfl):PI X tg (.Call (.Name "range" p) [a] [] pos) (iRng1 ta):=by
  intro pins s σ H R I h
  refine Call_ (ld_blt I hg hm boot_range (PyProof.Rows.callWith_type1 (thn (ha pos pins s σ H _ I h) fun us s1 ⟨vs,H1,I1,r1,q1⟩=>?_) hs rfl))
  obtain ⟨j,e,q1,q2,q⟩:=q1
  subst e
  cases r1 with
  | cons r rr =>
    cases rr
    obtain ⟨t,rfl⟩:=r
    exact call_range_1 (range_it I1 (by omega) (by omega) q1 q2 (by simpa using q))
theorem pi_range2 {a b:Expr} {ta:TA} {p pos:Pos} (hg:Gl X "range") (hm:X.mg "range" = none) (ha:PA X [a,b] ta) (hs:starEach [a,b] X.env=[(false,eval a X.env),(false,eval b X.env)]:=by rfl) (hs2:starEach [b] X.env=[(false,eval b X.env)]:=by rfl) :
    PI X tg (.Call (.Name "range" p) [a,b] [] pos) (iRng2 ta):=by
  intro pins s σ H R I h
  refine Call_ (ld_blt I hg hm boot_range (PyProof.Rows.callWith_type1 (thn (ha pos pins s σ H _ I h) fun us s1 ⟨vs,H1,I1,r1,q1⟩=>?_) (by rw [hs,hs2]) (by rw [hs2]; rfl)))
  obtain ⟨i,j,e,⟨q1,q2,q3,q4⟩,q⟩:=q1
  subst e
  cases r1 with
  | cons r rr =>
    cases rr with
    | cons r' rr =>
      cases rr
      obtain ⟨t,rfl⟩:=r
      obtain ⟨t',rfl⟩:=r'
      exact call_range_2 (range_it I1 q1 q2 q3 q4 q)
def tFor (wi:TI) (g:TG) (tb:TS):TS:=fun D σ H=>wi σ H fun J H1=>∃ W:Nat→Nat→St→Hp→Prop,(∃ m,W 0 m σ H1)∧∀ i m σ H,W i m σ H →
  (J.stop i H∧D.nx σ H)∨(J.go i H∧∃ N:St→Hp→Prop,(∀ σ' H',N σ' H'→∃ m',m' < m∧W (i+1) m' σ' H')∧∀ x H',J.yld i H x H'→g x σ H' fun σ2 H2=>tb { D with nx:=N,ct:=N,bk:=D.nx } σ2 H2)
def pinsAt (fp:List Addr) (h:Heap):List (Addr × Obj):=fp.filterMap fun b=>(h.get? b).map fun o=>(b,o)
theorem mem_pinsAt {fp:List Addr} {h:Heap} {b:Addr} {o:Obj} (hb:b ∈ fp) (e:h.get? b=some o):(b,o) ∈ pinsAt fp h:=List.mem_filterMap.mpr ⟨b,hb,by rw [e]; rfl⟩
theorem of_pinsAt {fp:List Addr} {h:Heap} {p:Addr × Obj} (hp:p ∈ pinsAt fp h):p.1 ∈ fp∧h.get? p.1=some p.2:=by
  obtain ⟨b,hb,e⟩:=List.mem_filterMap.mp hp
  cases q:h.get? b with
  | none=>rw [q] at e; cases e
  | some o =>
    rw [q] at e
    have e':(b,o)=p:=Option.some.inj e
    subst e'
    exact ⟨hb,q⟩
theorem Inv.pinned {pins:List (Addr × Obj)} {σ:St} {H:Hp} {s:Shared} {fp:List Addr} (I:Inv X pins σ H s) (hf:∀ b ∈ fp,FpOk X pins H b) (ho:∀ b ∈ fp,∃ o,s.heap.get? b=some o∧∀ v,o.data≠.cell v):Inv X (pins ++ pinsAt fp s.heap) σ H s :=
  I.pins_of fun p hp=>(List.mem_append.mp hp).elim (fun z=>I.pin p (List.mem_append_right _ z)) fun z=>by
    obtain ⟨hb,e⟩:=of_pinsAt z
    obtain ⟨f0,f1,f2,_⟩:=hf p.1 hb
    obtain ⟨o,e',d⟩:=ho p.1 hb
    rw [e] at e'; cases e'
    exact ⟨e,f0,f1,f2,d⟩
theorem Inv.unpinned {pins pl:List (Addr × Obj)} {σ:St} {H:Hp} {s:Shared} (I:Inv X (pins ++ pl) σ H s):Inv X pins σ H s:=I.pins_of fun p hp=>I.pin p (List.mem_append_right _ (List.mem_append_left _ hp))
theorem ps_for {iter:Expr} {body:List Stmt} {wi:TI} {g:TG} {tb:TS} {pos:Pos} (hp:PassesOwn (model X.prog X.w) X.A X.env X.xe) (hc:X.calm=true) (hi:PI X tg iter wi) (hg:PG X tg g) (hb:PSs X body tb)
    (hs:∀ x,foldedSetIterable iter X.env x=pure x:=by intro _; rfl):PS X (.For tg iter body [] pos) (tFor wi g tb):=by
  intro pins s σ H D I h
  refine wpAny_For (thn (hi pins s σ H _ I h) fun v s1 h1=>thn h1 fun itv s2 h2=>?_) hs
  obtain ⟨it,fp,tn,J,H2,e,I2,T,st2,f2,W,⟨m0,w0⟩,turn⟩:=h2
  subst e
  -- what stays true of the iterator's objects through the loop
  have stat:∀ {H':Hp},(∀ b ∈ fp,H' b=none)→∀ b ∈ fp,FpOk X pins H' b:=fun hn b hb=>⟨hn b hb,(f2 b hb).2⟩
  refine codeAny_forLoop_any (fun n s'=>∃ i σ' H',Inv X pins σ' H' s'∧tn i s'.heap∧(∀ b ∈ fp,H' b=none)∧W i n σ' H') ?_ m0 ⟨0,σ,H2,I2,st2,fun b hb=>(f2 b hb).1,w0⟩
  rintro n s3 ⟨i,σ3,H3,I3,st3,fr3,w3⟩
  rcases turn i n σ3 H3 w3 with ⟨stop,qn⟩ | ⟨go,N,hN,step⟩
  · refine wpAny_passesOwn hp (thn (T.done X rfl rfl rfl hc i pins s3 σ3 H3 X.xe I3 (stat fr3) st3 stop) fun r s4 ⟨hr,I4⟩=>?_)
    subst hr
    exact wpAny_execs_nil ⟨σ3,H3,I4,qn⟩
  · refine wpAny_passesOwn hp (thn (T.item X rfl rfl rfl hc i pins s3 σ3 H3 X.xe I3 (stat fr3) st3 go) fun r s4 ⟨u,hr,h4⟩=>?_)
    subst hr
    refine wpAny_passesOwn hp (thn h4 fun _ s5 ⟨x,H5,I5,r5,y5,st5,fr5⟩=>?_)
    have I5':=I5.pinned (stat fr5) (T.obj _ _ st5)
    refine wpAny_passesOwn hp (thn (hg _ s5 σ3 H5 x u _ I5' r5 (step x H5 y5)) fun _ s6 ⟨σ6,H6,I6,q6⟩=>?_)
    refine wpAny_passesOwn hp (thn (hb _ s6 σ6 H6 _ I6 q6) fun f s7 q7=>?_)
    have again:∀ {σ7:St} {H7:Hp},Inv X (pins ++ pinsAt fp s5.heap) σ7 H7 s7→N σ7 H7→∃ m,m < n∧∃ i σ' H',Inv X pins σ' H' s7∧tn i s7.heap∧(∀ b ∈ fp,H' b=none)∧W i m σ' H':=fun {σ7 H7} I7 n7=>by
      obtain ⟨m',hm,w7⟩:=hN σ7 H7 n7
      refine ⟨m',hm,i+1,σ7,H7,I7.unpinned,T.keep _ _ _ st5 fun b hb o e=>(I7.pin (b,o) (List.mem_append_right _ (List.mem_append_right _ (mem_pinsAt hb e)))).1,fun b hb=>?_,w7⟩
      obtain ⟨o,e,d⟩:=T.obj _ _ st5 b hb
      exact (I7.pin (b,o) (List.mem_append_right _ (List.mem_append_right _ (mem_pinsAt hb e)))).2.1
    cases f with
    | next=>obtain ⟨σ7,H7,I7,n7⟩:=q7; exact again I7 n7
    | cont=>obtain ⟨σ7,H7,I7,n7⟩:=q7; exact again I7 n7
    | brk=>obtain ⟨σ7,H7,I7,q7⟩:=q7; exact ⟨σ7,H7,I7.unpinned,q7⟩
    | ret v=>obtain ⟨x7,σ7,H7,I7,r7,q7⟩:=q7; exact ⟨x7,σ7,H7,I7.unpinned,r7,q7⟩
end
theorem for_list {K:PySem.W.Frag} {a:Addr} {xs:List V} {g:TG} {tb:TS} {D:Ends} {σ:St} {H:Hp} (Pv:Nat→St→Hp→Prop) (h0:Pv 0 σ H) (hl:∀ i σ H,i≤xs.length→Pv i σ H→SqL K H a xs)
    (hs:∀ i x σ H,xs[i]? = some x→Pv i σ H→g x σ H fun σ2 H2=>tb { D with nx:=Pv (i+1),ct:=Pv (i+1),bk:=D.nx } σ2 H2) (hd:∀ σ H,Pv xs.length σ H→D.nx σ H) :
    ∃ W : Nat → Nat → St → Hp → Prop, (∃ m, W 0 m σ H) ∧ ∀ i m σ H, W i m σ H →
      ((Itl K a).stop i H∧D.nx σ H)∨((Itl K a).go i H∧∃ N:St→Hp→Prop,(∀ σ' H',N σ' H'→∃ m',m' < m∧W (i+1) m' σ' H')∧∀ x H',(Itl K a).yld i H x H'→g x σ H' fun σ2 H2=>tb { D with nx:=N,ct:=N,bk:=D.nx } σ2 H2):=by
  refine ⟨fun i m σ H=>m=xs.length - i∧i≤xs.length∧Pv i σ H,⟨xs.length,by simp,Nat.zero_le _,h0⟩,?_⟩
  rintro i m σ H ⟨rfl,hi,p⟩
  have q:=hl i σ H hi p
  by_cases hlt:i < xs.length
  · refine .inr ⟨⟨xs,xs[i],q,by simp [hlt]⟩,Pv (i+1),fun σ' H' p'=>⟨xs.length - (i+1),by omega,rfl,hlt,p'⟩,fun x H' y=>?_⟩
    obtain ⟨e,y⟩:=y
    subst e
    exact hs i x σ _ (y xs q) p
  · have e:i=xs.length:=by omega
    subst e
    exact .inl ⟨⟨xs,q,Nat.le_refl _⟩,hd σ H p⟩
theorem for_range {lo:Int} {n:Nat} {g:TG} {tb:TS} {D:Ends} {σ:St} {H:Hp} (Pv:Nat→St→Hp→Prop) (h0:Pv 0 σ H)
    (hs:∀ i σ H,i < n→Pv i σ H→g (.int (lo+i)) σ H fun σ2 H2=>tb { D with nx:=Pv (i+1),ct:=Pv (i+1),bk:=D.nx } σ2 H2) (hd:∀ σ H,Pv n σ H→D.nx σ H) :
    ∃ W : Nat → Nat → St → Hp → Prop, (∃ m, W 0 m σ H) ∧ ∀ i m σ H, W i m σ H →
      ((Itr lo n).stop i H∧D.nx σ H)∨((Itr lo n).go i H∧∃ N:St→Hp→Prop,(∀ σ' H',N σ' H'→∃ m',m' < m∧W (i+1) m' σ' H')∧∀ x H',(Itr lo n).yld i H x H'→g x σ H' fun σ2 H2=>tb { D with nx:=N,ct:=N,bk:=D.nx } σ2 H2):=by
  refine ⟨fun i m σ H=>m=n - i∧i≤n∧Pv i σ H,⟨n,by simp,Nat.zero_le _,h0⟩,?_⟩
  rintro i m σ H ⟨rfl,hi,p⟩
  by_cases hlt:i < n
  · refine .inr ⟨hlt,Pv (i+1),fun σ' H' p'=>⟨n - (i+1),by omega,rfl,hlt,p'⟩,fun x H' y=>?_⟩
    obtain ⟨e,y⟩:=y
    subst e y
    exact hs i σ _ hlt p
  · have e:i=n:=by omega
    subst e
    exact .inl ⟨Nat.le_refl _,hd σ H p⟩
end L2
namespace L2
open PySem PySem.Spec PyProof.Rows
abbrev R2:=V→V→Hp→VK→Prop
def OpR (X : Cx) (f : Value → Value → Sem Value) (r : R2) : Prop :=
  ∀ (pins : List (Addr × Obj)) (s : Shared) (σ : St) (H : Hp) (x y : V) (v u : Value) (Q : VK), Inv X pins σ H s → RelV x v → RelV y u → r x y H Q →
    wpAny (model X.prog X.w) X.A (f v u) (EP X pins σ Q) X.xe s
def CallR (X : Cx) (f : Value) (r : List V → Hp → VK → Prop) : Prop :=
  ∀ (pins : List (Addr × Obj)) (s : Shared) (σ : St) (H : Hp) (xs : List V) (us : List Value) (Q : VK), Inv X pins σ H s → Vals xs us → r xs H Q →
    wpAny (model X.prog X.w) X.A (call f us) (EP X pins σ Q) X.xe s
def TruR (X : Cx) (r : V → Hp → (Bool → Hp → Prop) → Prop) : Prop :=
  ∀ (pins : List (Addr × Obj)) (s : Shared) (σ : St) (H : Hp) (x : V) (v : Value) (Q : Bool → Hp → Prop), Inv X pins σ H s → RelV x v → r x H Q →
    wpAny (model X.prog X.w) X.A (truthy v) (TP X pins σ Q) X.xe s
def tOp (r:R2) (ta tb:TE):TE:=fun σ H Q=>ta σ H fun x H1=>tb σ H1 fun y H2=>r x y H2 Q
def rI (C:Int→Int→Prop) (g:Int→Int→V):R2:=fun x y H Q=>∃ i j,x = .int i∧y = .int j∧C i j∧Q (g i j) H
def rI0 (g:Int→Int→V):R2:=fun x y H Q=>∃ i j,x = .int i∧y = .int j∧Q (g i j) H
section
variable {X:Cx} {a b c:Expr} {ta tb tc:TE} {pos:Pos}
theorem binT (ha:PE X a ta) (hb:PE X b tb) {pins:List (Addr × Obj)} {s:Shared} {σ:St} {H:Hp} {R:V→V→Hp→Prop} (I:Inv X pins σ H s)
    (h:ta σ H fun x H1=>tb σ H1 fun y H2=>R x y H2) {Q:Value→Shared→Prop} {f:Value→Value→Sem Value}
    (hf:∀ v u s2 x y H2,Inv X pins σ H2 s2→RelV x v→RelV y u→R x y H2→wpAny (model X.prog X.w) X.A (f v u) Q X.xe s2) :
    wpAny (model X.prog X.w) X.A (eval a X.env) (fun v s₁=>wpAny (model X.prog X.w) X.A (eval b X.env) (fun u s₂=>wpAny (model X.prog X.w) X.A (f v u) Q X.xe s₂) X.xe s₁) X.xe s:=by
  refine thn (ha pins s σ H _ I h) fun v s1 ⟨x,H1,I1,r1,q1⟩=>?_
  refine thn (hb pins s1 σ H1 _ I1 q1) fun u s2 ⟨y,H2,I2,r2,q2⟩=>?_
  exact hf v u s2 x y H2 I2 r1 r2 q2
theorem pe_op {op:Operator} {r:R2} (ho:OpR X (binaryOp op) r) (ha:PE X a ta) (hb:PE X b tb):PE X (.BinOp a op b pos) (tOp r ta tb):=by
  intro pins s σ H Q I h
  exact wpAny_BinOp (binT ha hb I h fun v u s2 x y H2 I2 rx ry q=>ho pins s2 σ H2 x y v u Q I2 rx ry q)
theorem opI {f:Value→Value→Sem Value} {C:Int→Int→Prop} {g:Int→Int→Int}
    (rule:∀ (i j:Int) (t u:Tok) (s:Shared) (Q:Value→Shared→Prop) (E:Value→Shared→Prop),C i j→Q (.int (g i j) s.toks) { s with toks:=s.toks+1 }→wpAny (model X.prog X.w) X.A (f (.int i t) (.int j u)) Q E s) :
    OpR X f (rI C fun i j=>.int (g i j)):=by
  intro pins s σ H x y v u Q I rx ry h
  obtain ⟨i,j,rfl,rfl,hc,q⟩:=h
  obtain ⟨t,rfl⟩:=rx
  obtain ⟨t',rfl⟩:=ry
  exact rule i j t t' s _ _ hc ⟨.int (g i j),H,I.tok _,⟨_,rfl⟩,q⟩
theorem opI0 {f:Value→Value→Sem Value} {g:Int→Int→Int}
    (rule:∀ (i j:Int) (t u:Tok) (s:Shared) (Q:Value→Shared→Prop) (E:Value→Shared→Prop),Q (.int (g i j) s.toks) { s with toks:=s.toks+1 }→wpAny (model X.prog X.w) X.A (f (.int i t) (.int j u)) Q E s) :
    OpR X f (rI0 fun i j=>.int (g i j)):=by
  intro pins s σ H x y v u Q I rx ry h
  obtain ⟨i,j,rfl,rfl,q⟩:=h
  obtain ⟨t,rfl⟩:=rx
  obtain ⟨t',rfl⟩:=ry
  exact rule i j t t' s _ _ ⟨.int (g i j),H,I.tok _,⟨_,rfl⟩,q⟩
theorem opB0 {f:Value→Value→Sem Value} {g:Int→Int→Bool}
    (rule:∀ (i j:Int) (t u:Tok) (s:Shared) (Q:Value→Shared→Prop) (E:Value→Shared→Prop),Q (.bool (g i j)) s→wpAny (model X.prog X.w) X.A (f (.int i t) (.int j u)) Q E s) :
    OpR X f (rI0 fun i j=>.bl (g i j)):=by
  intro pins s σ H x y v u Q I rx ry h
  obtain ⟨i,j,rfl,rfl,q⟩:=h
  obtain ⟨t,rfl⟩:=rx
  obtain ⟨t',rfl⟩:=ry
  exact rule i j t t' s _ _ ⟨.bl (g i j),H,I,rfl,q⟩
def CDiv (i j:Int):Prop:=0 < j∧j < 1073741824
def CPow (i j:Int):Prop:=0≤j∧j≤1000000∧i.natAbs < 2 ^ 64
def CMul (i j:Int):Prop:=(-(2 ^ 64) < i∧i < 2 ^ 64)∨(-(2 ^ 64) < j∧j < 2 ^ 64)
theorem CMul.ok {i j:Int} (h:CMul i j):IntMulOk i j:=by
  rcases h with ⟨h1,h2⟩ | ⟨h1,h2⟩
  · exact .of_left (intBits_le_64 h1 h2)
  · exact .of_right (intBits_le_64 h1 h2)
theorem op_add:OpR X (binaryOp .Add) (rI0 fun i j=>.int (i+j)):=opI0 fun _ _ _ _ _ _ _ q=>add_int q
theorem op_sub:OpR X (binaryOp .Sub) (rI0 fun i j=>.int (i - j)):=opI0 fun _ _ _ _ _ _ _ q=>sub_int q
theorem op_mul:OpR X (binaryOp .Mult) (rI CMul fun i j=>.int (i * j)):=opI fun _ _ _ _ _ _ _ hc q=>mul_int q hc.ok
theorem op_fdiv:OpR X (binaryOp .FloorDiv) (rI CDiv fun i j=>.int (i / j)):=opI fun i j _ _ _ _ _ hc q=>by
  have h1:(0:Int) < j:=hc.1
  have h2:j < 1073741824:=hc.2
  exact floordiv_int (by omega) (by rw [Int.fdiv_eq_ediv_of_nonneg i (by omega)]; exact q) (.inl (PyProof.noPylong_small (by omega)))
theorem op_mod:OpR X (binaryOp .Mod) (rI (fun _ j=>0 < j) fun i j=>.int (i % j)):=opI fun i j _ _ _ _ _ hc q=>by
  have h1:(0:Int) < j:=hc
  exact mod_int' (by omega) (by rw [Int.fmod_eq_emod_of_nonneg i (by omega)]; exact q)
theorem op_pow:OpR X (binaryOp .Pow) (rI CPow fun i j=>.int (i ^ j.toNat)):=opI fun _ _ _ _ _ _ _ hc q=>pow_int_small hc.1 hc.2.1 hc.2.2 q
theorem iop_add:OpR X (inplaceOp .Add) (rI0 fun i j=>.int (i+j)):=opI0 fun _ _ _ _ _ _ _ q=>iadd_int q
theorem iop_mul:OpR X (inplaceOp .Mult) (rI CMul fun i j=>.int (i * j)):=opI fun _ _ _ _ _ _ _ hc q=>imul_int q hc.ok
end
def scal:V→V→Bool
  | .non,.non=>true | .non,.int _=>true | .int _,.non=>true | .non,.bl _=>true | .bl _,.non=>true | .non,.str _=>true | .str _,.non=>true
  | .int _,.int _=>true | .bl _,.bl _=>true | .str _,.str _=>true | .byt _,.byt _=>true
  | .int _,.str _=>true | .str _,.int _=>true | .bl _,.str _=>true | .str _,.bl _=>true
  | _,_=>false
def rEq:R2:=fun x y H Q=>scal x y=true∧Q (.bl (decide (x=y))) H
def rNe:R2:=fun x y H Q=>scal x y=true∧Q (.bl (!decide (x=y))) H
theorem dec_int {i j:Int}:decide (V.int i=V.int j)=(i == j):=by
  rw [Bool.eq_iff_iff]
  simp
theorem dec_bl {i j:Bool}:decide (V.bl i=V.bl j)=(i == j):=by
  rw [Bool.eq_iff_iff]
  simp
theorem dec_str {i j:Str}:decide (V.str i=V.str j)=(i == j):=by
  rw [Bool.eq_iff_iff]
  simp
theorem dec_byt {i j:Array UInt8}:decide (V.byt i=V.byt j)=(i.toList == j.toList):=by
  rw [Bool.eq_iff_iff]
  cases i
  cases j
  simp
section
variable {X:Cx} {a b c:Expr} {ta tb tc:TE} {pos:Pos}
theorem fin_bl {pins:List (Addr × Obj)} {σ:St} {H:Hp} {s:Shared} {Q:VK} {k k':Bool} (I:Inv X pins σ H s) (q:Q (.bl k) H) (e:k=k'):EP X pins σ Q (.bool k') s:=by
  subst e
  exact ⟨.bl k,H,I,rfl,q⟩
theorem op_eq:OpR X (compareOp .Eq) rEq:=by
  intro pins s σ H x y v u Q I rx ry h
  obtain ⟨hs,q⟩:=h
  cases x with
  | non =>
    cases rx
    cases y with
    | non=>cases ry; exact PySem.EqNone.eq_none_none (fin_bl I q (by simp))
    | bl j=>cases ry; exact PySem.EqNone.eq_none_bool (fin_bl I q (by simp))
    | int j=>obtain ⟨t',rfl⟩:=ry; exact PySem.EqNone.eq_none_int (fin_bl I q (by simp))
    | str j=>obtain ⟨t',rfl⟩:=ry; exact PySem.EqNone.eq_none_str (fin_bl I q (by simp))
    | _=>exact absurd (show false=true from hs) Bool.false_ne_true
  | bl i =>
    cases rx
    cases y with
    | non=>cases ry; exact PySem.EqNone.eq_bool_none (fin_bl I q (by simp))
    | bl j=>cases ry; exact eq_bool (fin_bl I q dec_bl)
    | str j=>obtain ⟨t',rfl⟩:=ry; exact PySem.EqMixed.eq_bool_str (fin_bl I q (by simp))
    | _=>exact absurd (show false=true from hs) Bool.false_ne_true
  | int i =>
    obtain ⟨t,rfl⟩:=rx
    cases y with
    | non=>cases ry; exact PySem.EqNone.eq_int_none (fin_bl I q (by simp))
    | int j=>obtain ⟨t',rfl⟩:=ry; exact eq_int (fin_bl I q dec_int)
    | str j=>obtain ⟨t',rfl⟩:=ry; exact PySem.EqMixed.eq_int_str (fin_bl I q (by simp))
    | _=>exact absurd (show false=true from hs) Bool.false_ne_true
  | str i =>
    obtain ⟨t,rfl⟩:=rx
    cases y with
    | non=>cases ry; exact PySem.EqNone.eq_str_none (fin_bl I q (by simp))
    | bl j=>cases ry; exact PySem.EqMixed.eq_str_bool (fin_bl I q (by simp))
    | int j=>obtain ⟨t',rfl⟩:=ry; exact PySem.EqMixed.eq_str_int (fin_bl I q (by simp))
    | str j=>obtain ⟨t',rfl⟩:=ry; exact eq_str (fin_bl I q dec_str)
    | _=>exact absurd (show false=true from hs) Bool.false_ne_true
  | byt i =>
    obtain ⟨t,rfl⟩:=rx
    cases y with
    | byt j=>obtain ⟨t',rfl⟩:=ry; exact PySem.W.eq_bytes (fin_bl I q dec_byt)
    | _=>exact absurd (show false=true from hs) Bool.false_ne_true
  | _=>cases y <;> exact absurd (show false=true from hs) Bool.false_ne_true
theorem op_ne:OpR X (compareOp .NotEq) rNe:=by
  intro pins s σ H x y v u Q I rx ry h
  obtain ⟨hs,q⟩:=h
  cases x with
  | non =>
    cases rx
    cases y with
    | non=>cases ry; exact PySem.EqNone.ne_none_none (fin_bl I q (by simp))
    | bl j=>cases ry; exact PySem.EqNone.ne_none_bool (fin_bl I q (by simp))
    | int j=>obtain ⟨t',rfl⟩:=ry; exact PySem.EqNone.ne_none_int (fin_bl I q (by simp))
    | str j=>obtain ⟨t',rfl⟩:=ry; exact PySem.EqNone.ne_none_str (fin_bl I q (by simp))
    | _=>exact absurd (show false=true from hs) Bool.false_ne_true
  | bl i =>
    cases rx
    cases y with
    | non=>cases ry; exact PySem.EqNone.ne_bool_none (fin_bl I q (by simp))
    | bl j=>cases ry; exact ne_bool (fin_bl I q (congrArg not dec_bl))
    | str j=>obtain ⟨t',rfl⟩:=ry; exact PySem.EqMixed.ne_bool_str (fin_bl I q (by simp))
    | _=>exact absurd (show false=true from hs) Bool.false_ne_true
  | int i =>
    obtain ⟨t,rfl⟩:=rx
    cases y with
    | non=>cases ry; exact PySem.EqNone.ne_int_none (fin_bl I q (by simp))
    | int j=>obtain ⟨t',rfl⟩:=ry; exact ne_int (fin_bl I q (congrArg not dec_int))
    | str j=>obtain ⟨t',rfl⟩:=ry; exact PySem.EqMixed.ne_int_str (fin_bl I q (by simp))
    | _=>exact absurd (show false=true from hs) Bool.false_ne_true
  | str i =>
    obtain ⟨t,rfl⟩:=rx
    cases y with
    | non=>cases ry; exact PySem.EqNone.ne_str_none (fin_bl I q (by simp))
    | bl j=>cases ry; exact PySem.EqMixed.ne_str_bool (fin_bl I q (by simp))
    | int j=>obtain ⟨t',rfl⟩:=ry; exact PySem.EqMixed.ne_str_int (fin_bl I q (by simp))
    | str j=>obtain ⟨t',rfl⟩:=ry; exact ne_str (fin_bl I q (congrArg not dec_str))
    | _=>exact absurd (show false=true from hs) Bool.false_ne_true
  | byt i =>
    obtain ⟨t,rfl⟩:=rx
    cases y with
    | byt j=>obtain ⟨t',rfl⟩:=ry; exact PySem.W.ne_bytes (fin_bl I q (congrArg not dec_byt))
    | _=>exact absurd (show false=true from hs) Bool.false_ne_true
  | _=>cases y <;> exact absurd (show false=true from hs) Bool.false_ne_true
theorem op_lt:OpR X (compareOp .Lt) (rI0 fun i j=>.bl (decide (i < j))):=opB0 fun _ _ _ _ _ _ _ q=>lt_int q
theorem op_le:OpR X (compareOp .LtE) (rI0 fun i j=>.bl (decide (i≤j))):=opB0 fun _ _ _ _ _ _ _ q=>le_int q
theorem OpR.or {f:Value→Value→Sem Value} {r r':R2} (h:OpR X f r) (h':OpR X f r'):OpR X f (fun x y H Q=>r x y H Q∨r' x y H Q):=by
  intro pins s σ H x y v u Q I rx ry q
  rcases q with q | q
  · exact h pins s σ H x y v u Q I rx ry q
  · exact h' pins s σ H x y v u Q I rx ry q
theorem nomark (b:Expr) {op:CmpOp} (h:op≠.In:=by decide) (h2:op≠.NotIn:=by decide):behindInMarks op b=false:=by
  have e1:(op == CmpOp.In)=false:=by cases op <;> first | rfl | exact absurd rfl h
  have e2:(op == CmpOp.NotIn)=false:=by cases op <;> first | rfl | exact absurd rfl h2
  cases b <;> simp [behindInMarks,e1,e2]
theorem pe_cmpR {op:CmpOp} {r:R2} (ho:OpR X (compareOp op) r) (ha:PE X a ta) (hb:PE X b tb) (hm:behindInMarks op b=false):PE X (.Compare a [op] [b] pos) (tOp r ta tb):=by
  intro pins s σ H Q I h
  exact wpAny_Compare1 (binT ha hb I h fun v u s2 x y H2 I2 rx ry q=>ho pins s2 σ H2 x y v u Q I2 rx ry q) hm
def tTest (t:TE):TT:=fun σ H Q=>t σ H fun x H'=>∃ k,x = .bl k∧Q k H'
theorem pt_cmpR {op:CmpOp} {r:R2} (ho:OpR X (compareOp op) r) (ha:PE X a ta) (hb:PE X b tb) (hm:behindInMarks op b=false):PT X (.Compare a [op] [b] pos) (tTest (tOp r ta tb)):=by
  intro pins s σ H Q I h
  refine wpAny_isTrue_Compare1 (thn (ha pins s σ H _ I h) fun v s1 ⟨x,H1,I1,r1,q1⟩=>thn (hb pins s1 σ H1 _ I1 q1) fun u s2 ⟨y,H2,I2,r2,q2⟩ =>
    thn (ho pins s2 σ H2 x y v u _ I2 r1 r2 q2) fun c s3 ⟨z,H3,I3,r3,k,e,q3⟩=>?_) hm
  subst e
  cases r3
  exact wpAny_truthy_bool ⟨H3,I3,q3⟩
def tChain (r r':R2) (ta tb tc:TE):TE:=fun σ H Q=>ta σ H fun x H1=>tb σ H1 fun y H2=>r x y H2 fun z H3=>∃ k,z = .bl k ∧
  (if k=true then tc σ H3 fun w' H4=>r' y w' H4 Q else Q (.bl false) H3)
theorem pe_chain {op op':CmpOp} {r r':R2} (ho:OpR X (compareOp op) r) (ho':OpR X (compareOp op') r') (ha:PE X a ta) (hb:PE X b tb) (hc:PE X c tc)
    (hm:lastMarks [op,op'] [b,c]=false:=by with_unfolding_all rfl):PE X (.Compare a [op,op'] [b,c] pos) (tChain r r' ta tb tc):=by
  intro pins s σ H Q I h
  refine Compare_chain (thn (ha pins s σ H _ I h) fun v s1 ⟨x,H1,I1,r1,q1⟩=>chain_link (thn (hb pins s1 σ H1 _ I1 q1) fun u s2 ⟨y,H2,I2,r2,q2⟩ =>
    thn (ho pins s2 σ H2 x y v u _ I2 r1 r2 q2) fun d s3 ⟨z,H3,I3,r3,k,e,q3⟩=>?_)) hm
  subst e
  cases r3
  refine wpAny_truthy_bool ?_
  cases k with
  | false=>exact ite_ff ⟨.bl false,H3,I3,rfl,q3⟩
  | true=>exact ite_tt (chain_last (thn (hc pins s3 σ H3 _ I3 q3) fun w' s4 ⟨z',H4,I4,r4,q4⟩=>ho' pins s4 σ H4 y z' u w' Q I4 r2 r4 q4))
def TruV (K:PySem.W.Frag) (x:V) (H:Hp) (k:Bool):Prop :=
  match x with
  | .non=>k=false
  | .bl b=>k=b
  | .int i=>k=(i != 0)
  | .str y=>y.length≤sizeLine∧k=((y.length:Int) != 0)
  | .byt y=>y.size≤sizeLine∧k=((y.size:Int) != 0)
  | .ref p=>(∃ xs,SqL K H p xs∧k = !xs.isEmpty)∨(∃ xs,SqT K H p xs∧k = !xs.isEmpty)∨∃ kvs,H p=some (.dK kvs)∧k = !kvs.isEmpty
  | _=>False
theorem isEmpty_kv {κ:Type} {kvs:List (κ × V)} {vs:List (κ × Value)} (r:KV kvs vs):(!vs.isEmpty) = !kvs.isEmpty:=by
  cases r <;> rfl
theorem isEmpty_of {xs:List V} {its:List Value} (r:Vals xs its):(!its.toArray.isEmpty) = !xs.isEmpty:=by
  cases r <;> simp
theorem line63:(sizeLine:Nat) < 2 ^ 63:=by rw [sizeLine_eq]; decide
theorem tru_ok:TruR X (fun x H Q=>∃ k,TruV X.K x H k∧Q k H):=by
  intro pins s σ H x v Q I rx h
  obtain ⟨k,e,q⟩:=h
  have hl:=line63
  have hs:sizeLine=16777216:=sizeLine_eq
  cases x with
  | non =>
    cases rx
    have e':k=false:=e
    subst e'
    exact truthy_none ⟨H,I,q⟩
  | bl b =>
    cases rx
    have e':k=b:=e
    subst e'
    exact wpAny_truthy_bool ⟨H,I,q⟩
  | int i =>
    obtain ⟨t,rfl⟩:=rx
    have e':k=(i != 0):=e
    subst e'
    exact PySem.P.truthy_int ⟨H,I,q⟩
  | str y =>
    obtain ⟨t,rfl⟩:=rx
    obtain ⟨hy,e'⟩:y.length≤sizeLine∧k=((y.length:Int) != 0):=e
    subst e'
    exact PySem.P.truthy_str (by omega) ⟨H,I.tok _,q⟩
  | byt y =>
    obtain ⟨t,rfl⟩:=rx
    obtain ⟨hy,e'⟩:y.size≤sizeLine∧k=((y.size:Int) != 0):=e
    subst e'
    exact PySem.W.truthy_bytes (by omega) ⟨H,I.tok _,q⟩
  | ref p =>
    cases rx
    have e':(∃ xs,SqL X.K H p xs∧k = !xs.isEmpty)∨(∃ xs,SqT X.K H p xs∧k = !xs.isEmpty)∨∃ kvs,H p=some (.dK kvs)∧k = !kvs.isEmpty:=e
    rcases e' with ⟨xs,hx,e'⟩ | ⟨xs,hx,e'⟩ | ⟨kvs,hx,e'⟩
    · subst e'
      obtain ⟨its,r,pl,hz⟩:=I.list hx
      have hlen:=r.length
      exact wpAny_truthy_list pl.isList (by simp only [List.size_toArray]; omega) ⟨H,I.tok _,by rw [isEmpty_of r]; exact q⟩
    · subst e'
      obtain ⟨its,r,pl,hz⟩:=I.tuple hx
      have hlen:=r.length
      exact truthy_tuple pl (by simp only [List.size_toArray]; omega) ⟨H,I.tok _,by rw [isEmpty_of r]; exact q⟩
    · subst e'
      obtain ⟨hz,hS,vs,r,m⟩:kvs.length≤sizeLine∧(p == sysModules)=false∧∃ vs,KV kvs vs∧s.heap.DictOf (mixKind X.prog X.w) p vs:=I.hok p _ hx
      have hlen:kvs.length=vs.length:=Paired.length r
      exact wpAny_truthy_dict hS m (by omega) ⟨H,I.tok _,by rw [isEmpty_kv r]; exact q⟩
  | _=>exact (show False from e).elim
theorem pt_truth (ha:PE X a ta) (he:∀ whole,isTrue a X.env whole=(do let v ← whole; standAt a.pos; holding [v] (truthy v))) :
    PT X a (fun σ H Q=>ta σ H fun x H'=>∃ k,TruV X.K x H' k∧Q k H'):=by
  intro pins s σ H Q I h
  exact isTrue_plain (thn (ha pins s σ H _ I h) fun v s1 ⟨x,H1,I1,r1,q1⟩=>tru_ok pins s1 σ H1 x v Q I1 r1 q1) (he _)
theorem vals1 {x:V} {us:List Value} (r:Vals [x] us):∃ u,us=[u]∧RelV x u:=by
  cases r with
  | cons r1 r2=>cases r2; exact ⟨_,rfl,r1⟩
theorem vals2 {x y:V} {us:List Value} (r:Vals [x,y] us):∃ u w',us=[u,w']∧RelV x u∧RelV y w':=by
  cases r with
  | cons r1 r2 =>
    cases r2 with
    | cons r3 r4=>cases r4; exact ⟨_,_,rfl,r1,r3⟩
theorem call_max2 (hc:X.calm=true):CallR X (.builtin "max") (fun xs H Q=>∃ i j,xs=[.int i,.int j]∧Q (.int (if j > i then j else i)) H):=by
  intro pins s σ H xs us Q I r h
  obtain ⟨i,j,rfl,q⟩:=h
  obtain ⟨u,w',rfl,⟨t,rfl⟩,⟨t',rfl⟩⟩:=vals2 r
  refine max_two_ints (I.ok.hd hc) fun h' tk k=>⟨_,H,I.kept k,?_,q⟩
  by_cases hj:j > i
  · rw [if_pos hj,if_pos hj]; exact ⟨_,rfl⟩
  · rw [if_neg hj,if_neg hj]; exact ⟨_,rfl⟩
theorem call_min2 (hc:X.calm=true):CallR X (.builtin "min") (fun xs H Q=>∃ i j,xs=[.int i,.int j]∧Q (.int (if j < i then j else i)) H):=by
  intro pins s σ H xs us Q I r h
  obtain ⟨i,j,rfl,q⟩:=h
  obtain ⟨u,w',rfl,⟨t,rfl⟩,⟨t',rfl⟩⟩:=vals2 r
  refine min_two_ints (I.ok.hd hc) fun h' tk k=>⟨_,H,I.kept k,?_,q⟩
  by_cases hj:j < i
  · rw [if_pos hj,if_pos hj]; exact ⟨_,rfl⟩
  · rw [if_neg hj,if_neg hj]; exact ⟨_,rfl⟩
end
end L2
namespace L2
open PySem PySem.Spec PyProof.Rows
structure ObjM (h:Heap) (x dx C:Addr) (mA:Str→Option Value):Prop where
  obj:h.get? x=some (PySem.W.instObj C dx)
  ns:h.Ns1 dx mA
  ne:dx≠x
theorem lookIn_ns {h:Heap} {dx:Addr} {mA:Str→Option Value} (n:h.Ns1 dx mA):∃ od,h.get? dx=some od∧∀ name,PySem.W.lookIn name od=some (mA name):=by
  obtain ⟨o,es,ep,ho,hd,hk,_,hm⟩:=n
  refine ⟨o,ho,fun name=>?_⟩
  have e:=hm name
  unfold nsFind findBy at e
  rw [← Array.find?_toList] at e
  unfold PySem.W.lookIn
  rw [hd]
  dsimp only
  split
  · rename_i y q
    rw [q] at e
    exact congrArg some e
  · rename_i q
    rw [q] at e
    have a:es.toList.any (·.refKey)=false:=by
      rw [List.any_eq_false]
      intro y hy
      obtain ⟨z,t,hkey⟩:=hk y (Array.mem_toList_iff.mp hy)
      simp [DictEntry.refKey,hkey]
    have a':¬ es.toList.any (·.refKey)=true:=by rw [a]; exact Bool.false_ne_true
    rw [if_neg a']
    exact congrArg some e
theorem ObjM.look {h:Heap} {x dx C:Addr} {mA:Str→Option Value} (I:ObjM h x dx C mA):∃ od,PySem.W.InstAt h x (PySem.W.instObj C dx) C (some od)∧∀ name,PySem.W.lookIn name od=some (mA name) :=
  let ⟨od,ho,hl⟩:=lookIn_ns I.ns
  ⟨od,⟨I.obj,rfl,rfl,ho⟩,hl⟩
section
variable {prog:Program} {w:World} {A:Around} {E:Value→Shared→Prop} {s:Shared} {K:PySem.W.Frag} {x dx C f:Addr} {mA:Str→Option Value} {name:Str} {v:Value}
theorem get_map {expr:Bool} {Q:Value→Shared→Prop} (X:K.In s.heap) (I:ObjM s.heap x dx C mA) (hg:PySem.W.plainGet K C name=true) (hh:PySem.W.hasDictIn K C=true)
    (ha:PySem.W.findIn K (.ref C) name=some none) (hv:mA name=some v) (hv':PySem.W.handedIn v=true) (h:Q v { s with toks:=s.toks+1 }) :
    wpAny (model prog w) A (getAttr (.ref x) name expr) Q E s:=by
  obtain ⟨od,J,hl⟩:=I.look
  exact PySem.W.get_value X J (PySem.W.plainGet_of hg).1 (PySem.W.findObj_own hh ha rfl (by rw [hl,hv])) hv' h
theorem get_meth {pl:Sem Bool} {Q:Value × List Value→Shared→Prop} (X:K.In s.heap) (I:ObjM s.heap x dx C mA) (hg:PySem.W.plainGet K C name=true)
    (hf:PySem.W.findIn K (.ref C) name=some (some (.ref f))) (ht:PySem.W.isFn K (.ref f)=true) (hv:mA name=none) (h:Q (.ref f,[.ref x]) s) :
    wpAny (model prog w) A (getMethod (.ref x) name pl) Q E s:=by
  obtain ⟨od,J,hl⟩:=I.look
  exact PySem.W.method_fn X J (PySem.W.plainGet_of hg).1 (PySem.W.plainGet_of hg).2 hf (beq_iff_eq.mp ht) (by show (PySem.W.lookIn name od).map (·.isSome)=some false; rw [hl,hv]; rfl) h
theorem set_map {ns:List Str} {Q:Unit→Shared→Prop} (X:K.In s.heap) (I:ObjM s.heap x dx C mA)
    (hs:PySem.W.findIn K (.ref C) "__setattr__" = some (some (.builtin "object.__setattr__"))) (hp:PySem.W.plainOver K C=true) (ht:PySem.W.takerIn K C name=some none) (hh:PySem.W.hasDictIn K C=true)
    (hw:PySem.Within mA ns) (hsz:ns.length≤sizeLine)
    (h:∀ h',ObjM h' x dx C (fun y=>if y=name then some v else mA y)→Heap.SameBut dx s.heap h'→Q () { s with heap:=h',toks:=s.toks+2 }) :
    wpAny (model prog w) A (setAttr (.ref x) name v) Q E s:=by
  obtain ⟨od,J,hl⟩:=I.look
  refine PySem.W.set_plain X J hs (PySem.W.osa_open (s:={ s with toks:=s.toks+1 }) (r:=none) X J hp ht fun b=>?_)
  obtain ⟨cd,hc,hd'⟩:=PySem.W.any_some hh
  have hx:s.heap.get? x=some ⟨.ref C,some dx,.plain,#[]⟩:=I.obj
  refine wpAny_bind (wpAny_pure (wpAny_bind (wpAny_bind (wpAny_loadPart hx (wpAny_bind (PySem.W.Looks.here (s:={ s with toks:=s.toks+1 }) (PySem.W.looks_clsIn X hc) ?_))))))
  rw [hd']
  refine wpAny_pure (a:=some dx) (wpAny_bind (wpAny_pure (wpAny_bind ?_)))
  refine wpAny_nsSet1 (s:={ s with toks:=s.toks+1 }) I.ns fun h' hn2 hs2=>?_
  obtain ⟨oD,esD,epD,hoD,hdD,hcD⟩:=hn2.count (PySem.Within.cons name v hw)
  refine wpAny_bind (wpAny_lookBehind hoD (by rw [hdD]; exact pastItsLine_dict (Nat.le_trans hcD (by rw [List.length_cons]; omega))) ?_)
  exact wpAny_pure (h _ ⟨(hs2.2 _ (Ne.symm I.ne)).trans I.obj,hn2,I.ne⟩ hs2)
theorem make_map {R:Result→Shared→Prop} {vs:List Value} {kw:List (Str × Value)} (X:K.In s.heap) (hm:PySem.W.makesIn K C=true)
    (hi:PySem.W.findIn K (.ref C) "__init__" = some (some (.ref f))) (hf:PySem.W.typeIn K (.ref f)=some (.type "function"))
    (h:codeAny (model prog w) (A.under (.builtin "type.__call__" ⟨.ref C :: vs,kw⟩)) (.call (.ref f) ⟨.ref (s.heap.objs.size+1) :: vs,kw⟩) (PySem.W.InitBack (s.heap.objs.size+1) R)
      { s with heap:=(s.heap.push PySem.W.emptyDict).push (PySem.W.instObj C s.heap.objs.size) }) :
    codeAny (model prog w) A (.call (.ref C) ⟨vs,kw⟩) R s:=by
  obtain ⟨hh,g,d,t,os⟩:=s
  exact PySem.W.make_core (PySem.W.makes_of X hm) (PySem.W.looks_findIn X hi) (fun self=>PySem.W.bind_fn X self hf) (.inl rfl) h
end
def putF (f:Str) (v:V):List (Str × V)→List (Str × V)
  | []=>[(f,v)]
  | (g,x) :: r=>if g=f then (g,v) :: r else (g,x) :: putF f v r
theorem lookup_putF (f g : Str) (v : V) : ∀ fs : List (Str × V), (putF f v fs).lookup g = if g = f then some v else fs.lookup g
  | [] => by
    show List.lookup g [(f,v)]=_
    by_cases h:g=f
    · have hb:(g == f)=true:=beq_iff_eq.mpr h
      simp only [List.lookup,hb,if_pos h]
    · have hb:(g == f)=false:=beq_eq_false_iff_ne.mpr h
      simp only [List.lookup,hb,if_neg h]
  | (k, x) :: r => by
    have ih:=lookup_putF f g v r
    rw [show putF f v ((k,x) :: r)=(if k=f then (k,v) :: r else (k,x) :: putF f v r) from rfl]
    by_cases hk:k=f
    · rw [if_pos hk]
      by_cases h:g=k
      · have hb:(g == k)=true:=beq_iff_eq.mpr h
        simp only [List.lookup,hb,if_pos (h.trans hk)]
      · have hb:(g == k)=false:=beq_eq_false_iff_ne.mpr h
        simp only [List.lookup,hb,if_neg (fun e:g=f=>h (e.trans hk.symm))]
    · rw [if_neg hk]
      by_cases h:g=k
      · have hb:(g == k)=true:=beq_iff_eq.mpr h
        simp only [List.lookup,hb,if_neg (fun e:g=f=>hk (h.symm.trans e))]
      · have hb:(g == k)=false:=beq_eq_false_iff_ne.mpr h
        simp only [List.lookup,hb]
        exact ih
theorem keys_putF (f : Str) (v : V) : ∀ fs : List (Str × V), f ∈ (putF f v fs).map (·.1) ∧ ∀ g, g ∈ fs.map (·.1) → g ∈ (putF f v fs).map (·.1)
  | []=>⟨by simp [putF],fun g h=>by simp at h⟩
  | (k, x) :: r => by
    obtain ⟨i1,i2⟩:=keys_putF f v r
    rw [show putF f v ((k,x) :: r)=(if k=f then (k,v) :: r else (k,x) :: putF f v r) from rfl]
    by_cases hk:k=f
    · rw [if_pos hk]
      subst hk
      exact ⟨by simp,fun g h=>by simpa using h⟩
    · rw [if_neg hk]
      refine ⟨?_,fun g h=>?_⟩
      · rw [List.map_cons]
        exact List.mem_cons_of_mem _ i1
      · rw [List.map_cons] at h ⊢
        rcases List.mem_cons.mp h with e | e
        · exact List.mem_cons.mpr (.inl e)
        · exact List.mem_cons_of_mem _ (i2 g e)
theorem length_putF (f:Str) (v:V):∀ fs:List (Str × V),(putF f v fs).length≤fs.length+1
  | []=>by simp [putF]
  | (k, x) :: r => by
    have ih:=length_putF f v r
    rw [show putF f v ((k,x) :: r)=(if k=f then (k,v) :: r else (k,x) :: putF f v r) from rfl]
    by_cases hk:k=f
    · rw [if_pos hk,List.length_cons,List.length_cons]; omega
    · rw [if_neg hk,List.length_cons,List.length_cons]; omega
theorem RelO.some_of {v:V} {o:Option Value} (r:RelO (some v) o):∃ u,o=some u∧RelV v u:=by
  cases o with
  | none=>exact (show False from r).elim
  | some u=>exact ⟨u,rfl,r⟩
theorem RelO.none_of {o:Option Value} (r:RelO none o):o=none:=by
  cases o with
  | none=>rfl
  | some u=>exact (show False from r).elim
theorem handed_of {v:V} {u:Value} (r:RelV v u):PySem.W.handedIn u=true:=by
  cases v with
  | non=>cases (show u=Value.none from r); rfl
  | bl b=>cases (show u=Value.bool b from r); rfl
  | int i=>obtain ⟨t,e⟩:=(show ∃ t,u=Value.int i t from r); cases e; rfl
  | str x=>obtain ⟨t,e⟩:=(show ∃ t,u=Value.str x t from r); cases e; rfl
  | byt b=>obtain ⟨t,e⟩:=(show ∃ t,u=Value.bytes b t from r); cases e; rfl
  | flt b=>obtain ⟨t,e⟩:=(show ∃ t,u=Value.float b t from r); cases e; rfl
  | ref a=>cases (show u=Value.ref a from r); rfl
  | ty n=>cases (show u=Value.type n from r); rfl
section
variable {P:Program} {w:World} {H H':Hp} {h h':Heap} {a C dx:Addr} {fs fs':List (Str × V)}
theorem ins_get (hok:HOk P w H h) (e:H a=some (.ins C dx fs)):∃ mA,ObjM h a dx C mA∧(∀ f,RelO (fs.lookup f) (mA f))∧PySem.Within mA (fs.map (·.1))∧fs.length≤1000∧H dx=some (.own a):=by
  obtain ⟨d,z,ne,ob,mA,n,r,q⟩:=(show ObjOk P w H h a (.ins C dx fs) from hok a _ e)
  exact ⟨mA,⟨ob,n,ne⟩,r,q,z,d⟩
end
structure Cls (K:PySem.W.Frag) (C:Addr):Prop where
  pg:PySem.W.plainGet K C Str.empty=true
  hd:PySem.W.hasDictIn K C=true
  po:PySem.W.plainOver K C=true
  sa:PySem.W.findIn K (.ref C) "__setattr__" = some (some (.builtin "object.__setattr__"))
theorem Cls.get {K:PySem.W.Frag} {C:Addr} (c:Cls K C) (f:Str):PySem.W.plainGet K C f=true:=c.pg
def NoAttr (K:PySem.W.Frag) (C:Addr) (f:Str):Prop:=PySem.W.findIn K (.ref C) f=some none
theorem NoAttr.taker {K:PySem.W.Frag} {C:Addr} {f:Str} (n:NoAttr K C f):PySem.W.takerIn K C f=some none:=by
  unfold PySem.W.takerIn
  rw [show PySem.W.findIn K (.ref C) f=some none from n]
  rfl
structure Meth (K:PySem.W.Frag) (C:Addr) (m:Str) (f:Addr):Prop where
  at_:PySem.W.findIn K (.ref C) m=some (some (.ref f))
  fn:PySem.W.isFn K (.ref f)=true
  kp:PySem.W.keepIn K (.ref f)=true
section
variable {X:Cx} {pins:List (Addr × Obj)} {σ:St} {H:Hp} {s:Shared} {a C dx:Addr} {fs:List (Str × V)} {f:Str} {v:V} {A:Around} {E:Value→Shared→Prop}
theorem getattr_ok {b:Bool} {Q:Value→Shared→Prop} (I:Inv X pins σ H s) (e:H a=some (.ins C dx fs)) (c:Cls X.K C) (n:NoAttr X.K C f) (l:fs.lookup f=some v)
    (h:∀ u s',Inv X pins σ H s'→RelV v u→Q u s'):wpAny (model X.prog X.w) A (getAttr (.ref a) f b) Q E s:=by
  obtain ⟨mA,O,r,_,_,_⟩:=ins_get I.hok e
  obtain ⟨u,hu,ru⟩:=RelO.some_of (v:=v) (o:=mA f) (by rw [← l]; exact r f)
  exact get_map I.kIn O (c.get f) c.hd n hu (handed_of ru) (h u _ (I.tok _) ru)
theorem getmeth_ok {m:Str} {g:Addr} {pl:Sem Bool} {Q:Value × List Value→Shared→Prop} (I:Inv X pins σ H s) (e:H a=some (.ins C dx fs)) (c:Cls X.K C) (k:Meth X.K C m g) (l:fs.lookup m=none)
    (h:Q (.ref g,[.ref a]) s):wpAny (model X.prog X.w) A (getMethod (.ref a) m pl) Q E s:=by
  obtain ⟨mA,O,r,_,_,_⟩:=ins_get I.hok e
  have hn:mA m=none:=RelO.none_of (by rw [← l]; exact r m)
  exact get_meth I.kIn O (c.get m) k.at_ k.fn hn h
theorem setattr_ok {y:V} {u:Value} {Q:Unit→Shared→Prop} (I:Inv X pins σ H s) (e:H a=some (.ins C dx fs)) (c:Cls X.K C) (n:NoAttr X.K C f) (hl:fs.length < 1000) (ry:RelV y u)
    (h:∀ s',Inv X pins σ (upd H a (.ins C dx (putF f y fs))) s'→Q () s'):wpAny (model X.prog X.w) A (setAttr (.ref a) f u) Q E s:=by
  obtain ⟨mA,O,r,wi,_,ho⟩:=ins_get I.hok e
  have hz:(fs.map (·.1)).length≤sizeLine:=by rw [List.length_map,sizeLine_eq]; omega
  refine set_map I.kIn O c.sa c.po n.taker c.hd wi hz fun h' O' sb=>h _ ?_
  have hd:∃ o,h'.get? dx=some o:=let ⟨o,_,_,e',_⟩:=O'.ns; ⟨o,e'⟩
  refine I.write (x:=a) (e:=dx) (by rw [e]; exact True.intro) (.inr ho) (fun b q hb z=>(sb.2 b hb).trans z) hd ?_
  refine ⟨by rw [upd_ne O.ne]; exact ho,?_,O.ne,O'.obj,_,O'.ns,fun g=>?_,fun g hg=>?_⟩
  · have:=length_putF f y fs; omega
  · show RelO ((putF f y fs).lookup g) (if g=f then some u else mA g)
    rw [lookup_putF]
    by_cases q:g=f
    · rw [if_pos q,if_pos q]; exact ry
    · rw [if_neg q,if_neg q]; exact r g
  · by_cases q:g=f
    · rw [q]; exact (keys_putF f y fs).1
    · refine (keys_putF f y fs).2 g (wi g fun z=>hg ?_)
      show (if g=f then some u else mA g)=none
      rw [if_neg q]; exact z
theorem Inv.made (I:Inv X pins σ H s):Inv X pins σ (upd (upd H s.heap.objs.size (.own (s.heap.objs.size+1))) (s.heap.objs.size+1) (.ins C s.heap.objs.size []))
    { s with heap:=(s.heap.push PySem.W.emptyDict).push (PySem.W.instObj C s.heap.objs.size) }:=by
  have e1:(s.heap.push PySem.W.emptyDict).get? s.heap.objs.size=some PySem.W.emptyDict:=Heap.get?_push_size s.heap rfl
  have e2:((s.heap.push PySem.W.emptyDict).push (PySem.W.instObj C s.heap.objs.size)).get? (s.heap.objs.size+1)=some (PySem.W.instObj C s.heap.objs.size):=by
    have:=Heap.get?_push_size (s.heap.push PySem.W.emptyDict) (o:=PySem.W.instObj C s.heap.objs.size) rfl
    rwa [Heap.size_push] at this
  have e3:(s.heap.push PySem.W.emptyDict).Ns s.heap.objs.size (fun _=>none):=⟨PySem.W.emptyDict,#[],_,e1,rfl,(fun e he=>absurd he (by simp)),fun _=>rfl⟩
  have I1:=I.laid (a:=s.heap.objs.size) (o:=.own (s.heap.objs.size+1)) (h':=s.heap.push PySem.W.emptyDict) (t':=s.toks) (fun b u q=>Heap.get?_push_of_some _ q) (Nat.le_refl _) ⟨_,e1⟩
  refine I1.laid (a:=s.heap.objs.size+1) (o:=.ins C s.heap.objs.size []) (t':=s.toks) (fun b u q=>Heap.get?_push_of_some _ q) (Nat.le_of_eq (Heap.size_push _ _)) ?_
  have ne:s.heap.objs.size≠s.heap.objs.size+1:=Nat.ne_of_lt (Nat.lt_succ_self _)
  refine ⟨by rw [upd_ne ne,upd_same],Nat.zero_le _,ne,e2,fun _=>none,(Heap.Ns1.of_empty e3).at fun o q=>Heap.get?_push_of_some _ q,fun _=>True.intro,fun y hy=>absurd rfl hy⟩
theorem attr_of {prog:Program} {w:World} {env:Env} {e:Expr} {f:Str} {pos:Pos} {s:Shared} {Q:Value→Shared→Prop} (hb:attributeBase e f env (eval e env)=eval e env)
    (h:wpAny (model prog w) A (eval e env) (fun o s₁=>wpAny (model prog w) A (getAttr o f true) Q E s₁) E s):wpAny (model prog w) A (eval (.Attribute e f pos) env) Q E s :=
  Attribute_any_ h (by rw [arm_eval_Attribute,hb])
end
def tFld (K:PySem.W.Frag) (ta:TE) (f:Str):TE:=fun σ H Q=>ta σ H fun x H1=>∃ a C dx fs v,x = .ref a∧H1 a=some (.ins C dx fs)∧Cls K C∧NoAttr K C f∧fs.lookup f=some v∧Q v H1
def sFld (K:PySem.W.Frag) (ta tv:TE) (f:Str):TS:=fun D σ H=>tv σ H fun y H1=>ta σ H1 fun x H2=>∃ a C dx fs,x = .ref a∧H2 a=some (.ins C dx fs)∧Cls K C∧NoAttr K C f∧fs.length < 1000 ∧
  D.nx σ (upd H2 a (.ins C dx (putF f y fs)))
def InOp (X:Cx) (op:Operator) (rd:V→V→Hp→VK→Prop):Prop :=
  ∀ (pins:List (Addr × Obj)) (s:Shared) (σ:St) (H:Hp) (x y:V) (u v:Value) (Q:VK),Inv X pins σ H s→RelV x u→RelV y v→rd x y H Q→wpAny (model X.prog X.w) X.A (inplaceOp op u v) (EP X pins σ Q) X.xe s
def sFldAug (K:PySem.W.Frag) (ta tv:TE) (rd:V→V→Hp→VK→Prop) (f:Str):TS:=fun D σ H=>ta σ H fun x H1=>∃ a C dx fs v,x = .ref a∧H1 a=some (.ins C dx fs)∧Cls K C∧NoAttr K C f∧fs.lookup f=some v ∧
  tv σ H1 fun y H2=>rd v y H2 fun z H3=>∃ dx' fs',H3 a=some (.ins C dx' fs')∧fs'.length < 1000∧D.nx σ (upd H3 a (.ins C dx' (putF f z fs')))
section
variable {X:Cx} {o e value:Expr} {f:Str} {pos pos' tpos:Pos} {ta tv:TE}
theorem pe_fld (he:PE X e ta) (hb:attributeBase e f X.env (eval e X.env)=eval e X.env):PE X (.Attribute e f pos) (tFld X.K ta f):=by
  intro pins s σ H Q I h
  refine attr_of hb (thn (he pins s σ H _ I h) fun u s1 ⟨x,H1,I1,rx,a,C,dx,fs,v,ex,ea,c,n,l,q⟩=>?_)
  subst ex
  obtain rfl:u=Value.ref a:=rx
  exact getattr_ok I1 ea c n l fun u' s2 I2 ru=>⟨v,H1,I2,ru,q⟩
theorem ps_fld (ha:PE X o ta) (hv:PE X value tv) (hs:swapsWith value (some (.Attribute o f pos')) pos.line X.env=pure false):PS X (.Assign [.Attribute o f pos'] value pos) (sFld X.K ta tv f):=by
  intro pins s σ H D I h
  refine plainObj_wpAny_Assign_Attribute (thn (hv pins s σ H _ I h) fun u s1 ⟨y,H1,I1,ry,q⟩=>thn (ha pins s1 σ H1 _ I1 q) fun ov s2 ⟨x,H2,I2,rx,a,C,dx,fs,ex,ea,c,n,l,q2⟩=>?_) hs
  subst ex
  obtain rfl:ov=Value.ref a:=rx
  exact setattr_ok I2 ea c n l ry fun s3 I3=>⟨σ,_,I3,q2⟩
theorem ps_fldaug {op:Operator} {rd:V→V→Hp→VK→Prop} (ha:PE X o ta) (hv:PE X value tv) (hop:InOp X op rd):PS X (.AugAssign (.Attribute o f tpos) op value pos) (sFldAug X.K ta tv rd f):=by
  intro pins s σ H D I h
  refine wpAny_AugAssign_AttributeAny (thn (ha pins s σ H _ I h) fun ov s1 ⟨x,H1,I1,rx,a,C,dx,fs,v,ex,ea,c,n,l,q⟩=>?_)
  subst ex
  obtain rfl:ov=Value.ref a:=rx
  refine getattr_ok I1 ea c n l fun u s2 I2 ru=>thn (hv pins s2 σ H1 _ I2 q) fun w3 s3 ⟨y,H2,I3,ry,q3⟩=>thn (hop pins s3 σ H2 v y u w3 _ I3 ru ry q3) fun w4 s4 ⟨z,H3,I4,rz,dx',fs',ea',l',q4⟩=>?_
  exact setattr_ok I4 ea' c n l' rz fun s5 I5=>⟨σ,_,I5,q4⟩
def rAdd:V→V→Hp→VK→Prop:=fun x y H Q=>∃ i j,x = .int i∧y = .int j∧Q (.int (i+j)) H
theorem in_add:InOp X .Add rAdd:=by
  rintro pins s σ H x y u v Q I rx ry ⟨i,j,rfl,rfl,q⟩
  obtain ⟨t,rfl⟩:=(show ∃ t,u=Value.int i t from rx)
  obtain ⟨t',rfl⟩:=(show ∃ t',v=Value.int j t' from ry)
  exact PyProof.Rows.iadd_int ⟨.int (i+j),H,I.tok _,⟨_,rfl⟩,q⟩
end
section
variable {X:Cx} {pins:List (Addr × Obj)} {σ:St} {H:Hp} {s:Shared} {A:Around} {E:Value→Shared→Prop} {Q:Value→Shared→Prop} {c:Value} {b:Bool}
inductive TyOf (K:PySem.W.Frag) (H:Hp):V→Value→Prop where
  | non:TyOf K H .non (.type "NoneType")
  | bl (x:Bool):TyOf K H (.bl x) (.type "bool")
  | int (i:Int):TyOf K H (.int i) (.type "int")
  | str (x:Str):TyOf K H (.str x) (.type "str")
  | flt (x:UInt64):TyOf K H (.flt x) (.type "float")
  | lst {a:Addr} {xs:List V} (e:H a=some (.lst xs)):TyOf K H (.ref a) (.type "list")
  | frz {a:Addr} {o:Obj} {xs:List V} (e:H a=some (.frz o (.lst xs))):TyOf K H (.ref a) (.type "list")
  | tup {a:Addr} {xs:List V} (e:H a=some (.tup xs)):TyOf K H (.ref a) (.type "tuple")
  | dK {a:Addr} {kvs:List (Key × V)} (e:H a=some (.dK kvs)):TyOf K H (.ref a) (.type "dict")
  | dT {a:Addr} {kvs:List (List Key × V)} (e:H a=some (.dT kvs)):TyOf K H (.ref a) (.type "dict")
  | ins {a C dx:Addr} {fs:List (Str × V)} (e:H a=some (.ins C dx fs)) (cl:Cls K C) (ha:PySem.W.findIn K (.ref C) "__class__" = some (some (.builtin "object.__class__")))
      (hn:PySem.W.specialIn K (.builtin "object.__class__") "__get__" = some (some (.builtin "getset_descriptor.__get__"))) (htk:PySem.W.takesIn K (.builtin "object.__class__")=some true)
      (hm:PySem.W.mroIn K C (.type "object")=some true):TyOf K H (.ref a) (.ref C)
theorem isinst_ok {x:V} {u t:Value} (I:Inv X pins σ H s) (rx:RelV x u) (ty:TyOf X.K H x t) (e:PySem.W.kitOne X.K t c=some b) (h:∀ tk,Q (.bool b) { s with toks:=tk }) :
    wpAny (model X.prog X.w) A (call (.builtin "isinstance") [u,c]) Q E s:=by
  cases ty with
  | non=>cases (show u=Value.none from rx); exact PySem.W.kia_one PySem.W.kitx_none I.kIn True.intro e (fun z=>nomatch z) h
  | bl y=>cases (show u=Value.bool y from rx); exact PySem.W.kia_one PySem.W.kitx_bool I.kIn True.intro e (fun z=>nomatch z) h
  | int i=>obtain ⟨t,q⟩:=(show ∃ t,u=Value.int i t from rx); cases q; exact PySem.W.kia_one PySem.W.kitx_int I.kIn True.intro e (fun z=>nomatch z) h
  | str y=>obtain ⟨t,q⟩:=(show ∃ t,u=Value.str y t from rx); cases q; exact PySem.W.kia_one PySem.W.kitx_str I.kIn True.intro e (fun z=>nomatch z) h
  | flt y=>obtain ⟨t,q⟩:=(show ∃ t,u=Value.float y t from rx); cases q; exact PySem.W.kia_one PySem.W.kitx_float I.kIn True.intro e (fun z=>nomatch z) h
  | @lst a xs ea =>
    cases (show u=Value.ref a from rx)
    obtain ⟨_,_,n,_,h1⟩:=(show ObjOk X.prog X.w H s.heap a (.lst xs) from I.hok a _ ea)
    exact PySem.W.kia_one PySem.W.kitx_list I.kIn ⟨_,h1,rfl⟩ e (fun z=>nomatch z) h
  | @frz a ob xs ea =>
    cases (show u=Value.ref a from rx)
    obtain ⟨_,_,_,n,_,h1⟩:=(show ObjOk X.prog X.w H s.heap a (.frz ob (.lst xs)) from I.hok a _ ea)
    exact PySem.W.kia_one PySem.W.kitx_list I.kIn ⟨_,h1,rfl⟩ e (fun z=>nomatch z) h
  | @tup a xs ea =>
    cases (show u=Value.ref a from rx)
    obtain ⟨_,_,_,p⟩:=(show ObjOk X.prog X.w H s.heap a (.tup xs) from I.hok a _ ea)
    obtain ⟨o,h1,h2,_⟩:=p
    exact PySem.W.kia_one PySem.W.kitx_tuple I.kIn ⟨o,h1,h2⟩ e (fun z=>nomatch z) h
  | @dK a kvs ea =>
    cases (show u=Value.ref a from rx)
    obtain ⟨_,_,vs,_,p⟩:=(show ObjOk X.prog X.w H s.heap a (.dK kvs) from I.hok a _ ea)
    obtain ⟨o,es,ep,h1,h2,_⟩:=p
    exact PySem.W.kia_one PySem.W.kitx_dict I.kIn ⟨o,h1,h2.1⟩ e (fun z=>nomatch z) h
  | @dT a kvs ea =>
    cases (show u=Value.ref a from rx)
    obtain ⟨_,_,xs,_,o,es,ep,h1,h2,_⟩:=(show ObjOk X.prog X.w H s.heap a (.dT kvs) from I.hok a _ ea)
    exact PySem.W.kia_one PySem.W.kitx_dict I.kIn ⟨o,h1,h2.1⟩ e (fun z=>nomatch z) h
  | @ins a C dx fs ea cl ha hn htk hm =>
    cases (show u=Value.ref a from rx)
    obtain ⟨mA,O,_⟩:=ins_get I.hok ea
    obtain ⟨od,J,_⟩:=O.look
    exact PySem.W.kia_one (PySem.W.kitx_own (cl.get _) cl.hd ha hn htk hm) I.kIn J e (fun z=>nomatch z) h
end
end L2
namespace L2
open PySem PySem.Spec PyProof.Rows
structure Room (k:Nat) (A:Around):Prop where
  hd:A.handled=none
  dp:A.depth+3 * k+5 < recursionLimit
  un:A.units+16 * k+200 < cLine
theorem Room.mono {j k:Nat} {A:Around} (r:Room k A) (h:j≤k):Room j A:=⟨r.hd,by have:=r.dp; omega,by have:=r.un; omega⟩
theorem Room.deeper {k:Nat} {A:Around} (r:Room (k+1) A) (env:Env):Room k (A.deeper env) :=
  ⟨r.hd,by have:=r.dp; show A.depth+1+3 * k+5 < _; omega,by have:=r.un; show A.units+3+16 * k+200 < _; omega⟩
theorem make_depth {A:Around} {C:Addr} {us:List Value} {kw:List (Str × Value)}:(A.under (.builtin "type.__call__" ⟨.ref C :: us,kw⟩)).depth=A.depth+1:=by
  first | rfl | simp [Around.under,Code.weight,Code.isCreation,Code.isGuard,Code.isCaller,Code.frames,Code.isFrame,guardIds]
theorem make_units {A:Around} {C:Addr} {us:List Value} {kw:List (Str × Value)}:(A.under (.builtin "type.__call__" ⟨.ref C :: us,kw⟩)).units=A.units+1:=by
  first | rfl | simp [Around.under,Code.cUnits,Code.frames,Code.isFrame]
theorem Room.make {k:Nat} {A:Around} (r:Room (k+1) A) (C:Addr) (us:List Value) (kw:List (Str × Value)):Room k (A.under (.builtin "type.__call__" ⟨.ref C :: us,kw⟩)) :=
  ⟨r.hd,by have:=r.dp; rw [make_depth]; omega,by have:=r.un; rw [make_units]; omega⟩
theorem Room.depth {k:Nat} {A:Around} (r:Room k A):A.depth < recursionLimit:=by have:=r.dp; omega
theorem Room.units {k:Nat} {A:Around} (r:Room k A):A.units+64 < cLine:=by have:=r.un; omega
def tNil:TA:=fun _ H Q=>Q [] H
def tCons (ta:TE) (tr:TA):TA:=fun σ H Q=>ta σ H fun x H1=>tr σ H1 fun xs H2=>Q (x :: xs) H2
section
variable {X:Cx} {e:Expr} {es:List Expr} {te:TE} {t:TA} {pos:Pos}
theorem pa_nil:PA X [] tNil:=fun _ _ _ _ H Q I h=>Calls.spliced_nil ⟨[],H,I,.nil,h⟩
theorem pa_cons (ha:PE X e te) (hr:PA X es t) (hs:starEach (e :: es) X.env=(false,eval e X.env) :: starEach es X.env:=by rfl):PA X (e :: es) (tCons te t):=by
  intro pos pins s σ H Q I h
  rw [hs]
  show wpAny _ _ (spliced ((false,eval e X.env) :: backTo pos (starEach es X.env))) _ _ s
  refine Calls.spliced_cons (thn (ha pins s σ H _ I h) fun u s1 ⟨x,H1,I1,r1,q1⟩=>?_)
  exact thn (hr pos pins s1 σ H1 _ I1 q1) fun us s2 ⟨xs,H2,I2,r2,q2⟩=>⟨x :: xs,H2,I2,.cons r1 r2,q2⟩
def tTup (t:TA):TE:=fun σ H Q=>t σ H fun xs H1=>xs.length≤sizeLine∧∀ p,H1 p=none→Q (.ref p) (upd H1 p (.tup xs))
def tLst (t:TA):TE:=fun σ H Q=>t σ H fun xs H1=>xs.length≤sizeLine∧∀ p,H1 p=none→Q (.ref p) (upd H1 p (.lst xs))
theorem pe_tup {x1} (h:PA X es t):PE X (.Tuple es x1 pos) (tTup t):=by
  intro pins s σ H Q I hq
  refine wpAny_Tuple_spliced (thn (h pos pins s σ H _ I hq) fun us s1 ⟨xs,H1,I1,r,z,q⟩=>⟨by rw [← r.length]; exact z,?_⟩)
  have hf:H1 s1.heap.objs.size=none:=I1.hok.fresh (Nat.le_refl _)
  refine ⟨.ref s1.heap.objs.size,upd H1 s1.heap.objs.size (.tup xs),I1.laid (t':=s1.toks) (fun b u e=>Heap.get?_push_of_some _ e) (Nat.le_refl _) ?_,rfl,q _ hf⟩
  exact ⟨z,us,r,⟨_,Heap.get?_push_size _ rfl,rfl,_,rfl⟩⟩
theorem pe_lst (h:PA X es t):PE X (.List es pos) (tLst t):=by
  intro pins s σ H Q I hq
  refine wpAny_List_spliced (thn (h pos pins s σ H _ I hq) fun us s1 ⟨xs,H1,I1,r,z,q⟩=>⟨by rw [← r.length]; exact z,?_⟩)
  have hf:H1 s1.heap.objs.size=none:=I1.hok.fresh (Nat.le_refl _)
  refine ⟨.ref s1.heap.objs.size,upd H1 s1.heap.objs.size (.lst xs),I1.laid (t':=s1.toks) (fun b u e=>Heap.get?_push_of_some _ e) (Nat.le_refl _) ?_,rfl,q _ hf⟩
  exact ⟨z,us,0,r,Heap.get?_push_size _ rfl⟩
end
abbrev Sp:=List V→Hp→VK→XK→Prop
abbrev CXT:=List Env→Hp→Shared→XK→Value→Shared→Prop
structure Env0 (P:Program) (w:World) (K:PySem.W.Frag) (mg:Str→Option Value) (base:Heap) (A:Around) (outer:List Env) (s:Shared) (H:Hp):Prop where
  frames:A.frames=some outer
  mod:Mod K mg base
  bs:∀ b o,base.get? b=some o→s.heap.get? b=some o∧H b=none
  bsz:base.objs.size≤s.heap.objs.size
  funs:s.heap.FunFrames base outer
  frf:∀ b ∈ frs outer,H b=none
  hok:HOk P w H s.heap
  bare:AllBare s.gens
def CE (outer:List Env) (P:Program) (w:World) (H:Hp) (s:Shared) (Q:VK) (u:Value) (s':Shared):Prop :=
  ∃ v H',s'.os=s.os∧AllBare s'.gens∧Un (frs outer) [] H H' s.heap s'.heap∧HOk P w H' s'.heap∧RelV v u∧Q v H'
def CR (CX:CXT) (outer:List Env) (P:Program) (w:World) (H:Hp) (s:Shared) (Q:VK) (E:XK) (r:Result) (s':Shared):Prop :=
  match r with
  | .ok (.ret u)=>CE outer P w H s Q u s'
  | .ok _=>False
  | .error e=>CX outer H s E e s'
structure FnOk (P:Program) (w:World) (K:PySem.W.Frag) (mg:Str→Option Value) (base:Heap) (CX:CXT) (k:Nat) (f:Addr) (fd:FuncData) (ps:List Str) (sp:Sp):Prop where
  len:∀ vs H Q E,sp vs H Q E→vs.length=ps.length
  run:∀ (A:Around) (outer:List Env) (s:Shared) (H:Hp) (args:Args) (us:List Value) (vs:List V) (Q:VK) (E:XK),Room k A→Env0 P w K mg base A outer s H→BindsTo s fd args (ps.zip us)→Vals vs us→sp vs H Q E →
    codeAny (model P w) A (.call (.ref f) args) (CR CX outer P w H s Q E) s
theorem Env0.make {P:Program} {w:World} {K:PySem.W.Frag} {mg:Str→Option Value} {base:Heap} {A:Around} {outer:List Env} {s:Shared} {H:Hp} (e:Env0 P w K mg base A outer s H) (C:Addr) (us:List Value) (kw:List (Str × Value)) :
    Env0 P w K mg base (A.under (.builtin "type.__call__" ⟨.ref C :: us,kw⟩)) outer s H:=⟨by first | exact e.frames | (simpa [Around.under,Code.envs,Code.isFrame,pushEnvs] using e.frames),e.mod,e.bs,e.bsz,e.funs,e.frf,e.hok,e.bare⟩
section
variable {X:Cx} {pins:List (Addr × Obj)} {σ:St} {H:Hp} {s s':Shared}
theorem Inv.env0 (I:Inv X pins σ H s):Env0 X.prog X.w X.K X.mg X.base X.A X.stack s H :=
  ⟨I.ok.frames,I.ok.mod,I.bs,Nat.le_trans I.ok.bsz I.sz,I.stack,I.stkFree,I.hok,I.bare⟩
theorem Inv.after {Q:VK} {u:Value} (I:Inv X pins σ H s) (h:CE X.stack X.prog X.w H s Q u s'):EP X pins σ Q u s':=by
  obtain ⟨v,H',os,bare,un,hok,r,q⟩:=h
  obtain ⟨hh,g,d,t,os'⟩:=s'
  obtain rfl:os'=s.os:=os
  exact ⟨v,H',I.call (h':=hh) (g':=g) (d':=d) (t':=t) (ch:=[]) un hok bare (fun b z=>absurd z (by simp)),r,q⟩
end
def tCall (sp:Sp) (dvs:List V) (E:XK) (t:TA):TE:=fun σ H Q=>t σ H fun vs H1=>sp (vs ++ dvs) H1 Q E
def tMeth (C:Addr) (m:Str) (sp:Sp) (dvs:List V) (E:XK) (ta:TE) (t:TA):TE:=fun σ H Q=>ta σ H fun x H1=>∃ a dx fs,x = .ref a∧H1 a=some (.ins C dx fs)∧fs.lookup m=none ∧
  t σ H1 fun vs H2=>sp (x :: (vs ++ dvs)) H2 Q E
def tMake (C:Addr) (sp:Sp) (dvs:List V) (E:XK) (t:TA):TE:=fun σ H Q=>t σ H fun vs H1=>∀ x dx,H1 x=none→H1 dx=none→dx≠x →
  sp (.ref x :: (vs ++ dvs)) (upd (upd H1 dx (.own x)) x (.ins C dx [])) (fun v H2=>v = .non∧Q (.ref x) H2) E
def Binds (K:PySem.W.Frag) (fd:FuncData) (ps:List Str) (ds:List Value):Prop :=
  ∀ (s:Shared) (us:List Value),K.In s.heap→(us ++ ds).length=ps.length→BindsTo s fd ⟨us,[]⟩ (ps.zip (us ++ ds))
theorem Binds.all {K:PySem.W.Frag} {fd:FuncData} {ps:List Str} (h:∀ us:List Value,us.length=ps.length→bindArgs fd ⟨us,[]⟩=pure (ps.zip us)):Binds K fd ps []:=fun s us _ hl=>by
  rw [List.append_nil] at hl ⊢
  exact .of_eq (h us hl)
def Passes (CX:CXT) (X:Cx) (E:XK):Prop:=∀ (pins:List (Addr × Obj)) (σ:St) (H:Hp) (s:Shared) (e:Value) (s':Shared),Inv X pins σ H s→CX X.stack H s E e s'→X.xe e s'
section
variable {X:Cx} {CX:CXT} {k:Nat} {f C:Addr} {fd:FuncData} {ps:List Str} {sp:Sp} {dvs:List V} {ds:List Value} {E:XK} {x m:Str} {p pos apos:Pos} {e o:Expr} {es:List Expr} {ta:TE} {t:TA}
theorem run_fn {pins:List (Addr × Obj)} {σ:St} {H:Hp} {s:Shared} {Q:VK} {us:List Value} {vs:List V} (F:FnOk X.prog X.w X.K X.mg X.base CX k f fd ps sp) (hr:Room k X.A) (hb:Binds X.K fd ps ds) (hd:Vals dvs ds) (hx:Passes CX X E)
    (I:Inv X pins σ H s) (r:Vals vs us) (h:sp (vs ++ dvs) H Q E):wpAny (model X.prog X.w) X.A (call (.ref f) us) (EP X pins σ Q) X.xe s:=by
  have r2:Vals (vs ++ dvs) (us ++ ds):=r.append hd
  have hl:(us ++ ds).length=ps.length:=by rw [← r2.length]; exact F.len _ _ _ _ h
  refine wpAny_call (codeAny_mono (F.run X.A X.stack s H ⟨us,[]⟩ (us ++ ds) (vs ++ dvs) Q E hr I.env0 (hb s us I.kIn hl) r2 h) fun r s' hq=>?_)
  cases r with
  | error e=>exact hx pins σ H s e s' I hq
  | ok fl =>
    cases fl with
    | ret u=>exact I.after hq
    | next=>exact False.elim hq
    | brk=>exact False.elim hq
    | cont=>exact False.elim hq
theorem pe_call (F:FnOk X.prog X.w X.K X.mg X.base CX k f fd ps sp) (hr:Room k X.A) (hg:Gl X x) (hm:X.mg x=some (.ref f)) (hk:PySem.W.keepIn X.K (.ref f)=true) (hb:Binds X.K fd ps ds) (hd:Vals dvs ds) (hx:Passes CX X E)
    (ha:PA X (e :: es) t) (hdb:(x == ("__debug__":Str))=false:=by decide) (he:starEach (e :: es) X.env=(false,eval e X.env) :: starEach es X.env:=by rfl) (hpl:(backTo pos (starEach es X.env)).any (·.1)=false:=by rfl) :
    PE X (.Call (.Name x p) (e :: es) [] pos) (tCall sp dvs E t):=by
  intro pins s σ H Q I h
  refine wpAny_Call_Name_kw (ld_glob I hg hm ?_ hdb)
  refine PySem.W.callWith_K (h₀:=X.base) I.ok.mod.kin hk (thn (ha pos pins s σ H _ I h) fun us s1 ⟨vs,H1,I1,r,q⟩=>⟨I1.kIn,?_⟩) he hpl
  exact run_fn F hr hb hd hx I1 r q
theorem pe_meth {pl:Sem Bool} (he:PE X o ta) (c:Cls X.K C) (hm:Meth X.K C m f) (F:FnOk X.prog X.w X.K X.mg X.base CX k f fd ps sp) (hr:Room k X.A) (hb:Binds X.K fd ps ds) (hd:Vals dvs ds) (hx:Passes CX X E) (ha:PA X (e :: es) t)
    (hst:starEach (e :: es) X.env=(false,eval e X.env) :: starEach es X.env:=by rfl) (hpl:(backTo pos (starEach es X.env)).any (·.1)=false:=by rfl)
    (ht:eval (.Call (.Attribute o m apos) (e :: es) [] pos) X.env=(do
      let ov ← eval o X.env
      standAt apos.atName
      let (f,first) ← holding [ov] (getMethod ov m pl)
      callWith pos f first (backTo pos (starEach (e :: es) X.env)) (backToKw pos (keywordEach [] X.env))):=by rfl) :
    PE X (.Call (.Attribute o m apos) (e :: es) [] pos) (tMeth C m sp dvs E ta t):=by
  intro pins s σ H Q I h
  refine PySem.W.methodCall_KW (pl:=pl) (thn (he pins s σ H _ I h) fun u s1 ⟨x,H1,I1,rx,a,dx,fs,ex,ea,l,q⟩=>?_) ht
  subst ex
  obtain rfl:u=Value.ref a:=rx
  refine getmeth_ok I1 ea c hm l ?_
  refine PySem.W.callWith_K (first:=[.ref a]) (h₀:=X.base) I.ok.mod.kin hm.kp (thn (ha pos pins s1 σ H1 _ I1 q) fun us s2 ⟨vs,H2,I2,r,q2⟩=>⟨I2.kIn,?_⟩) hst hpl
  exact run_fn (us:=.ref a :: us) (vs:=.ref a :: vs) F hr hb hd hx I2 (.cons rfl r) q2
theorem pe_meth0 {pl:Sem Bool} (he:PE X o ta) (c:Cls X.K C) (hm:Meth X.K C m f) (F:FnOk X.prog X.w X.K X.mg X.base CX k f fd ps sp) (hr:Room k X.A) (hb:Binds X.K fd ps ds) (hd:Vals dvs ds) (hx:Passes CX X E)
    (ht:eval (.Call (.Attribute o m apos) [] [] pos) X.env=(do
      let ov ← eval o X.env
      standAt apos.atName
      let (f,first) ← holding [ov] (getMethod ov m pl)
      callWith pos f first (backTo pos (starEach [] X.env)) (backToKw pos (keywordEach [] X.env))):=by rfl) :
    PE X (.Call (.Attribute o m apos) [] [] pos) (tMeth C m sp dvs E ta tNil):=by
  intro pins s σ H Q I h
  refine PySem.W.methodCall_KW (pl:=pl) (thn (he pins s σ H _ I h) fun u s1 ⟨x,H1,I1,rx,a,dx,fs,ex,ea,l,q⟩=>?_) ht
  subst ex
  obtain rfl:u=Value.ref a:=rx
  refine getmeth_ok I1 ea c hm l ?_
  exact PySem.W.callWith_K0 (first:=[.ref a]) I1.kIn hm.kp (run_fn (us:=[.ref a]) (vs:=[.ref a]) F hr hb hd hx I1 (.cons rfl .nil) q)
structure Mk (K:PySem.W.Frag) (C f:Addr):Prop where
  makes:PySem.W.makesIn K C=true
  init:PySem.W.findIn K (.ref C) "__init__" = some (some (.ref f))
  fn:PySem.W.isFn K (.ref f)=true
  kp:PySem.W.keepIn K (.ref C)=true
theorem run_make {pins:List (Addr × Obj)} {σ:St} {H:Hp} {s:Shared} {Q:VK} {us:List Value} {vs:List V} (M:Mk X.K C f) (F:FnOk X.prog X.w X.K X.mg X.base CX k f fd ps sp) (hr:Room (k+1) X.A) (hb:Binds X.K fd ps ds) (hd:Vals dvs ds)
    (hx:Passes CX X E) (I:Inv X pins σ H s) (r:Vals vs us)
    (h:∀ x dx,H x=none→H dx=none→dx≠x→sp (.ref x :: (vs ++ dvs)) (upd (upd H dx (.own x)) x (.ins C dx [])) (fun v H2=>v = .non∧Q (.ref x) H2) E) :
    wpAny (model X.prog X.w) X.A (call (.ref C) us) (EP X pins σ Q) X.xe s:=by
  have hq:=h (s.heap.objs.size+1) s.heap.objs.size (I.hok.fresh (Nat.le_succ _)) (I.hok.fresh (Nat.le_refl _)) (Nat.ne_of_lt (Nat.lt_succ_self _))
  have I2:=Inv.made (C:=C) I
  have r2:Vals (V.ref (s.heap.objs.size+1) :: (vs ++ dvs)) (Value.ref (s.heap.objs.size+1) :: (us ++ ds)):=.cons rfl (r.append hd)
  have hl:(Value.ref (s.heap.objs.size+1) :: us ++ ds).length=ps.length:=by
    have e:=r2.length
    rw [F.len _ _ _ _ hq] at e
    exact e.symm
  refine wpAny_call (make_map (f:=f) I.kIn M.makes M.init (beq_iff_eq.mp M.fn) (codeAny_mono (F.run _ X.stack _ _ ⟨Value.ref (s.heap.objs.size+1) :: us,[]⟩ (Value.ref (s.heap.objs.size+1) :: (us ++ ds)) _ _ E (hr.make C us [])
    (I2.env0.make C us []) (hb _ (Value.ref (s.heap.objs.size+1) :: us) I2.kIn hl) r2 hq) fun r s' hq'=>?_))
  cases r with
  | error e=>exact hx pins σ _ _ e s' I2 hq'
  | ok fl =>
    cases fl with
    | ret u =>
      obtain ⟨v,H',I3,rv,ev,q3⟩:=I2.after hq'
      subst ev
      exact ⟨rv,⟨V.ref (s.heap.objs.size+1),H',I3,rfl,q3⟩⟩
    | next=>exact False.elim hq'
    | brk=>exact False.elim hq'
    | cont=>exact False.elim hq'
theorem pe_make (M:Mk X.K C f) (F:FnOk X.prog X.w X.K X.mg X.base CX k f fd ps sp) (hr:Room (k+1) X.A) (hg:Gl X x) (hm:X.mg x=some (.ref C)) (hb:Binds X.K fd ps ds) (hd:Vals dvs ds) (hx:Passes CX X E)
    (ha:PA X (e :: es) t) (hdb:(x == ("__debug__":Str))=false:=by decide) (he:starEach (e :: es) X.env=(false,eval e X.env) :: starEach es X.env:=by rfl) (hpl:(backTo pos (starEach es X.env)).any (·.1)=false:=by rfl) :
    PE X (.Call (.Name x p) (e :: es) [] pos) (tMake C sp dvs E t):=by
  intro pins s σ H Q I h
  refine wpAny_Call_Name_kw (ld_glob I hg hm ?_ hdb)
  refine PySem.W.callWith_K (h₀:=X.base) I.ok.mod.kin M.kp (thn (ha pos pins s σ H _ I h) fun us s1 ⟨vs,H1,I1,r,q⟩=>⟨I1.kIn,?_⟩) he hpl
  exact run_make M F hr hb hd hx I1 r q
end
section
variable {X:Cx} {CX:CXT} {k:Nat} {f C:Addr} {fd:FuncData} {ps ks:List Str} {sp:Sp} {E:XK} {x m:Str} {p pos apos kpos:Pos} {e o:Expr} {es:List Expr} {kws:List Keyword} {te ta:TE} {t tk:TA} {nm:Option Str}
variable {g:List Value→List Value→List Value} {gV:List V→List V→List V}
end
structure FnScope (N P:List Str) (sc:Scope):Prop where
  kind:sc.kind = .function
  co:sc.isCoroutine=false
  gen:sc.isGenerator=false
  nd:N.Nodup
  pre:N.take P.length=P
  par:∀ x ∈ P,sc.names.lookup x=some .local∨sc.names.lookup x=some .cell
  nofree:∀ y ∈ sc.names,y.2≠.free
theorem bindL_out {kindOf:Str→Option NameKind} {x:Str}:∀ {binds:List (Str × Value)} {m:Str→Option Value},(∀ v,(x,v) ∉ binds)→bindL kindOf binds m x=m x
  | [],_,_=>rfl
  | (n, v) :: r, m, h => by
    unfold bindL
    rw [bindL_out fun w hw=>h w (List.mem_cons_of_mem _ hw)]
    split
    · have:x≠n:=by rintro rfl; exact h v List.mem_cons_self
      simp [this]
    · rfl
theorem bindC_out {kindOf:Str→Option NameKind} {x:Str}:∀ {binds:List (Str × Value)} {m:Str→Option Value},(∀ v,(x,v) ∉ binds)→bindC kindOf binds m x=m x
  | [],_,_=>rfl
  | (n, v) :: r, m, h => by
    unfold bindC
    rw [bindC_out fun w hw=>h w (List.mem_cons_of_mem _ hw)]
    split
    · rfl
    · have:x≠n:=by rintro rfl; exact h v List.mem_cons_self
      simp [this]
theorem bindL_get {kindOf:Str→Option NameKind} {x:Str} {v:Value}:∀ {P:List Str} {vs:List Value} {i:Nat} {m:Str→Option Value},P.Nodup→P[i]? = some x→vs[i]? = some v→kindOf x=some .local →
    bindL kindOf (P.zip vs) m x=some v
  | [],_,_,_,_,h,_,_=>by simp at h
  | _ :: _,[],_,_,_,_,h,_=>by simp at h
  | p :: P, w :: vs, 0, m, nd, h1, h2, hk => by
    simp at h1 h2; subst h1; subst h2
    show bindL kindOf ((p,w) :: P.zip vs) m p=_
    unfold bindL
    rw [bindL_out fun v hv=>(List.nodup_cons.mp nd).1 (List.of_mem_zip hv).1,if_pos hk]
    simp
  | p :: P, w :: vs, i + 1, m, nd, h1, h2, hk => by
    show bindL kindOf ((p,w) :: P.zip vs) m x=_
    unfold bindL
    exact bindL_get (i:=i) (List.nodup_cons.mp nd).2 (by simpa using h1) (by simpa using h2) hk
theorem bindC_get {kindOf:Str→Option NameKind} {x:Str} {v:Value}:∀ {P:List Str} {vs:List Value} {i:Nat} {m:Str→Option Value},P.Nodup→P[i]? = some x→vs[i]? = some v→kindOf x≠some .local →
    bindC kindOf (P.zip vs) m x=some v
  | [],_,_,_,_,h,_,_=>by simp at h
  | _ :: _,[],_,_,_,_,h,_=>by simp at h
  | p :: P, w :: vs, 0, m, nd, h1, h2, hk => by
    simp at h1 h2; subst h1; subst h2
    show bindC kindOf ((p,w) :: P.zip vs) m p=_
    unfold bindC
    rw [bindC_out fun v hv=>(List.nodup_cons.mp nd).1 (List.of_mem_zip hv).1,if_neg hk]
    simp
  | p :: P, w :: vs, i + 1, m, nd, h1, h2, hk => by
    show bindC kindOf ((p,w) :: P.zip vs) m x=_
    unfold bindC
    exact bindC_get (i:=i) (List.nodup_cons.mp nd).2 (by simpa using h1) (by simpa using h2) hk
def start (N:List Str) (vs:List V):St:=vs.map some ++ List.replicate (N.length - vs.length) none
def cxOf (CX:CXT) (P:Program) (w:World) (K:PySem.W.Frag) (mg:Str→Option Value) (base:Heap) (N:List Str) (qual:Str) (scope:Scope) (f:Addr) (cd:Value) (A:Around) (outer:List Env) (s:Shared) (H:Hp) (E:XK):Cx where
  prog:=P
  w:=w
  K:=K
  mg:=mg
  base:=base
  A:=A.deeper (envOfC qual scope s.heap.objs.size f cd)
  N:=N
  s₀:=s
  H₀:=H
  env:=envOfC qual scope s.heap.objs.size f cd
  outer:=outer
  stack:=envOfC qual scope s.heap.objs.size f cd :: outer
  ex:=[]
  calm:=true
  fn:=fun _=>true
  pn:=[]
  xe:=fun e s'=>wpAny (model P w) (A.deeper (envOfC qual scope s.heap.objs.size f cd)) (leaving (envOfC qual scope s.heap.objs.size f cd) e) (fun _ s''=>CX outer H s E e s'') (fun e' s''=>CX outer H s E e' s'') s'
theorem cell_has {sc:Scope} {n:Nat} {x:Str} (h:sc.names.lookup x=some .cell):∃ c,(cellsFrom n sc.names []).lookup x=some c:=by
  have q:=PySem.W.cellsFrom_some sc.names n [] (.inl h)
  exact Option.isSome_iff_exists.mp q
theorem inv_start {CX : CXT} {P : Program} {w : World} {K : PySem.W.Frag} {mg : Str → Option Value} {base : Heap} {N ps : List Str} {qual : Str} {scope : Scope} {f : Addr} {cd : Value} {A : Around} {outer : List Env} {s s1 : Shared} {H : Hp} {E : XK} {us : List Value} {vs : List V}
    (S:FnScope N ps scope) (hd:A.handled=none) (e0:Env0 P w K mg base A outer s H) (hl:vs.length=ps.length) (r:Vals vs us)
    (x:InCallC s s.heap.objs.size (bindL (envOfC qual scope s.heap.objs.size f cd).kindOf (ps.zip us) fun _=>none) (cellsFrom (s.heap.objs.size+1) scope.names []) (bindC (envOfC qual scope s.heap.objs.size f cd).kindOf (ps.zip us) fun _=>none) s1) :
    Inv (cxOf CX P w K mg base N qual scope f cd A outer s H E) [] (start N vs) H s1:=by
  have hpl:ps.length≤N.length:=by have:=congrArg List.length S.pre; rw [List.length_take] at this; omega
  obtain ⟨h1,tk,rfl,hk⟩:=x.done
  have noA:∀ b:Addr,b ∉ (cxOf CX P w K mg base N qual scope f cd A outer s H E).ex:=fun b z=>absurd (show b ∈ ([]:List Addr) from z) (by simp)
  refine ⟨⟨e0.mod,S.kind,rfl,rfl,Nat.le_refl _,fun y z c h1 h2=>?_,fun y hy=>?_,fun y c _ h=>?_,fun _=>hd,Around.frames_deeper e0.frames,.inr ⟨rfl,rfl⟩,fun b z=>absurd z (noA b),e0.bs,e0.bsz,fun b _ _=>noA b,fun b z=>absurd z (noA b),e0.funs,e0.frf⟩,
    rfl,e0.bare,Un.kept hk,⟨_,x.toInCall.ns,fun i y v h1 h2 h3=>?_⟩,fun y c h=>⟨_,x.cell y c h⟩,e0.hok.fresh (Nat.le_refl _),fun y c h=>?_,fun p hp=>absurd (show p ∈ ([]:List (Addr × Obj)) from hp) (by simp),e0.hok.kept hk,?_⟩
  · exact name_of_addr x.apart (PySem.mem_of_lookup h1) (PySem.mem_of_lookup h2)
  · have hy:scope.names.lookup y=some .cell∨scope.names.lookup y=some .free:=hy
    rcases hy with hy | hy
    · exact cell_has hy
    · exact absurd rfl (S.nofree _ (PySem.mem_of_lookup hy))
  · exact Nat.le_of_lt (x.above y c (PySem.mem_of_lookup h))
  · have hi:i < vs.length:=by
      unfold start at h2
      by_cases hi:i < vs.length
      · exact hi
      · rw [List.getElem?_append_right (by simpa using hi)] at h2
        rw [List.getElem?_replicate] at h2
        split at h2 <;> cases h2
    have ha:vs[i]? = some v:=by
      unfold start at h2
      rw [List.getElem?_append_left (by simpa using hi),List.getElem?_map] at h2
      cases e:vs[i]? with
      | none=>rw [e] at h2; cases h2
      | some a=>rw [e] at h2; cases h2; rfl
    obtain ⟨u,hu,rv⟩:=r.get ha
    have hp:ps[i]? = some y:=by
      rw [← S.pre,List.getElem?_take_of_lt (by omega)]; exact h1
    have ndP:ps.Nodup:=by rw [← S.pre]; exact S.nd.sublist (List.take_sublist _ _)
    refine ⟨u,rv,?_⟩
    rcases S.par y (List.mem_of_getElem? hp) with k | k
    · exact .inl ⟨k,bindL_get ndP hp hu k⟩
    · obtain ⟨c,e⟩:=cell_has (n:=s.heap.objs.size+1) k
      refine .inr ⟨.inl k,c,e,?_⟩
      have q:=x.cell y c e
      rw [bindC_get ndP hp hu (by show scope.names.lookup y≠_; rw [k]; decide)] at q
      exact q
  · exact e0.hok.fresh (Nat.le_of_lt (x.above y c (PySem.mem_of_lookup h)))
  · unfold start
    show _=N.length
    rw [List.length_append,List.length_map,List.length_replicate]
    omega
theorem fn_of {CX:CXT} {P:Program} {w:World} {K:PySem.W.Frag} {mg:Str→Option Value} {base:Heap} {k:Nat} {f:Addr} {name qual:Str} {params:Arguments} {body:List Stmt} {scope:Scope} {dV kV doc pm cdv ct oc:Value} {an od:Option Addr}
    {osl:Array (Option Value)} {N ps:List Str} {sp:Sp} (lk:K.lookup f=some ⟨oc,od,.func (PySem.W.fnOf name qual params body scope dV kV doc pm an cdv ct),osl⟩) (hcd:PySem.W.codeIn K cdv qual=true) (S:FnScope N ps scope)
    (len:∀ vs H Q E,sp vs H Q E→vs.length=ps.length)
    (hbody:∀ (A:Around) (outer:List Env) (s:Shared) (H:Hp) (vs:List V) (Q:VK) (E:XK),Room k (A.deeper (envOfC qual scope s.heap.objs.size f cdv))→sp vs H Q E →
      ∃ t,PSs (cxOf CX P w K mg base N qual scope f cdv A outer s H E) body t∧t { nx:=fun _ H'=>Q .non H',rt:=Q } (start N vs) H) :
    FnOk P w K mg base CX (k+1) f (PySem.W.fnOf name qual params body scope dV kV doc pm an cdv ct) ps sp:=by
  refine ⟨len,fun A outer s H args us vs Q E hr e0 hb r hsp=>?_⟩
  have hl:=len _ _ _ _ hsp
  have KX:K.In s.heap:=e0.mod.kin.keeps fun b o e=>(e0.bs b o e).1
  have lim:s.heap.NoLimit:=e0.mod.nolimit.keeps fun b o e=>(e0.bs b o e).1
  have hkind:∀ y ∈ ps.zip us,scope.names.lookup y.1=some .local∨(scope.names.lookup y.1=some .cell∧((cellsFrom (s.heap.objs.size+1) scope.names []).lookup y.1).isSome=true):=fun ⟨n,v⟩ hy=>by
    rcases S.par n (List.of_mem_zip hy).1 with q | q
    · exact .inl q
    · exact .inr ⟨q,PySem.W.cellsFrom_some _ _ _ (.inl q)⟩
  refine codeAny_call_function hr.depth (KX _ _ lk) rfl S.co S.gen rfl (PySem.W.codeRec_of KX hcd) (hb _ _ _ _ ?_)
  refine wpAny_newFunctionEnv_cells S.kind hkind fun env he s1 x=>?_
  subst he
  refine ⟨lim.keeps x.toInCall.keep,codeAny_func ?_⟩
  obtain ⟨t,ht,hq⟩:=hbody A outer s H vs Q E (hr.deeper _) hsp
  have I:Inv (cxOf CX P w K mg base N qual scope f cdv A outer s H E) [] (start N vs) H s1:=inv_start S hr.hd e0 hl r x
  refine wpAny_mono (ht [] s1 (start N vs) H _ I hq) (fun fl s' hs=>?_) fun e s' hs=>hs
  have fin:∀ {σ':St} {H':Hp} {v:V} {u:Value},Inv (cxOf CX P w K mg base N qual scope f cdv A outer s H E) [] σ' H' s'→RelV v u→Q v H'→CE outer P w H s Q u s' :=
    fun {σ' H' v u} J rv q=>⟨v,H',J.os,J.bare,J.base,J.hok,rv,q⟩
  cases fl with
  | ret u =>
    obtain ⟨v,σ',H',J,rv,q⟩:=hs
    exact fin J rv q
  | next =>
    obtain ⟨σ',H',J,q⟩:=hs
    exact fin (v:=V.non) (u:=Value.none) J rfl q
  | brk =>
    obtain ⟨_,_,_,q⟩:=hs
    exact False.elim q
  | cont =>
    obtain ⟨_,_,_,q⟩:=hs
    exact False.elim q
end L2
namespace L2
open PySem PySem.Spec PyProof.Rows
section
variable {X:Cx} {x:Str} {p pos:Pos} {e:Expr} {es:List Expr} {t:TA} {id T:String} {r:List V→Hp→VK→Prop}
def tCB (r:List V→Hp→VK→Prop) (t:TA):TE:=fun σ H Q=>t σ H fun vs H1=>r vs H1 Q
theorem pe_callB (hc:CallR X (.builtin id) r) (hg:Gl X x) (hm:X.mg x=none) (hv:bootBuiltins x=some (.builtin id)) (ha:PA X (e :: es) t) (hn:x≠"__name__":=by decide) (hdb:(x == ("__debug__":Str))=false:=by decide)
    (he:starEach (e :: es) X.env=(false,eval e X.env) :: starEach es X.env:=by rfl) (hpl:(backTo pos (starEach es X.env)).any (·.1)=false:=by rfl):PE X (.Call (.Name x p) (e :: es) [] pos) (tCB r t):=by
  intro pins s σ H Q I h
  refine wpAny_Call_Name_kw (ld_blt I hg hm hv ?_ hn hdb)
  exact PyProof.Rows.callWith_builtin1 (thn (ha pos pins s σ H _ I h) fun us s1 ⟨vs,H1,I1,r1,q1⟩=>hc pins s1 σ H1 vs us Q I1 r1 q1) he hpl
theorem pe_callTy (hc:CallR X (.type T) r) (hg:Gl X x) (hm:X.mg x=none) (hv:bootBuiltins x=some (.type T)) (ha:PA X (e :: es) t) (hn:x≠"__name__":=by decide) (hdb:(x == ("__debug__":Str))=false:=by decide)
    (he:starEach (e :: es) X.env=(false,eval e X.env) :: starEach es X.env:=by rfl) (hpl:(backTo pos (starEach es X.env)).any (·.1)=false:=by rfl):PE X (.Call (.Name x p) (e :: es) [] pos) (tCB r t):=by
  intro pins s σ H Q I h
  refine wpAny_Call_Name_kw (ld_blt I hg hm hv ?_ hn hdb)
  exact PyProof.Rows.callWith_type1 (thn (ha pos pins s σ H _ I h) fun us s1 ⟨vs,H1,I1,r1,q1⟩=>hc pins s1 σ H1 vs us Q I1 r1 q1) he hpl
end
end L2
namespace HT
open PySem PyProof.Rows
def lexLt:List Int→List Int→Bool
  | [],[]=>false
  | [],_ :: _=>true
  | _ :: _,[]=>false
  | x :: xs,y :: ys=>if x=y then lexLt xs ys else decide (x < y)
theorem lexLt_cons (x y:Int) (xs ys:List Int):lexLt (x :: xs) (y :: ys)=if x=y then lexLt xs ys else decide (x < y):=rfl
theorem lexLt_nil_nil:lexLt [] []=false:=rfl
theorem lexLt_nil_cons (y:Int) (ys:List Int):lexLt [] (y :: ys)=true:=rfl
theorem lexLt_cons_nil (x:Int) (xs:List Int):lexLt (x :: xs) []=false:=rfl
theorem eqAt_int (A:Around) (s:Shared) (a:Int) (t:Tok) (c:Int) (u:Tok):∃ e,SeqAt.EqAt A s (.int a t) (.int c u) e∧(e=true↔a=c) :=
  ⟨(a == c),SeqAt.EqAt.int_int a t c u,by simp⟩
theorem rcLt_int (A:Around) (s:Shared) (a:Int) (t:Tok) (c:Int) (u:Tok) (prog:Program) (w:World) (E:Value→Shared→Prop) (Q:Value→Shared→Prop) (h:Q (.bool (decide (a < c))) s) :
    wpAny (model prog w) A (richCompare .Lt (.int a t) (.int c u)) Q E s :=
  (PyProof.Rows.lt_int h:wpAny (model prog w) A (compareOp .Lt (.int a t) (.int c u)) Q E s)
section
open PySem.SeqAt
open PySem.AutoSeq1 (wpAny_loadPart')
open PySem.MeetsSeq PySem.MeetsSeq2 PySem.MeetsSeq3
theorem tuple_lt_ints (l b : Addr) (items items2 : Array Value) (n n2 : Nat) (dd dd2 : Option Addr) (sl sl2 : Array (Option Value)) (ns ms : List Int) (hi : IntsAre items.toList ns) (hj : IntsAre items2.toList ms) :
    Meets (Builtin.«tuple.__lt__» ⟨[.ref l,.ref b],[]⟩)
      (fun _ R s=>s.heap.get? l=some { cls:=.type "tuple",dict:=dd,data:=.seq items n,slots:=sl }∧s.heap.get? b=some { cls:=.type "tuple",dict:=dd2,data:=.seq items2 n2,slots:=sl2 } ∧
        R (.ok (.ret (.bool (lexLt ns ms)))) s) :=
  .of_wp fun prog w A R s h=>by
    obtain ⟨hp,g,d,tk,os⟩:=s; obtain ⟨hl,hb,h⟩:=h
    have f2:=AutoSeq1.sub_tuple_tuple
    have z1:items.size=ns.length:=by rw [← hi.length]; simp
    have z2:items2.size=ms.length:=by rw [← hj.length]; simp
    wp_walk using wpAny_loadPart' hl,wpAny_loadPart' hb,wpAny_forIn_list _ (fun rest b s'=>b.1=none∧s'=⟨hp,g,d,tk,os⟩∧∃ (vs ws:List Value) (ns' ms':List Int),rest=vs.zip ws ∧
      IntsAre vs ns'∧IntsAre ws ms'∧ns'.length+items2.size=ms'.length+items.size∧R (.ok (.ret (.bool (lexLt ns' ms')))) ⟨hp,g,d,tk,os⟩) _
    case turn =>
      rintro ⟨y,x⟩ rest b s' ⟨hb',rfl,vs,ws,ns',ms',hz,hvi,hwi,hlen,hR⟩
      cases hvi with
      | nil=>rw [List.zip_nil_left] at hz; cases hz
      | cons a t hvi' =>
        cases hwi with
        | nil=>rw [List.zip_nil_right] at hz; cases hz
        | cons c u hwi' =>
          rw [List.zip_cons_cons] at hz
          injection hz with hyx hrest
          injection hyx with hy hx
          subst hy hx
          rw [lexLt_cons] at hR
          simp only [List.length_cons] at hlen
          obtain ⟨e,he,hiff⟩:=eqAt_int A.in1 ⟨hp,g,d,tk,os⟩ a t c u
          refine wpAny_bind (he prog w _ _ ?_)
          cases e with
          | true =>
            rw [if_pos (hiff.mp rfl)] at hR
            wp_walk
            exact ⟨rfl,rfl,_,_,_,_,hrest,hvi',hwi',by omega,hR⟩
          | false =>
            rw [if_neg (fun q=>absurd (hiff.mpr q) Bool.false_ne_true)] at hR
            have hri:=rcLt_int A.in1 ⟨hp,g,d,tk,os⟩ a t c u prog w
            wp_walk using hri
            exact ⟨_,rfl,by simpa using hR⟩
    case fin =>
      rintro ⟨b1,b2⟩ s' ⟨hb',rfl,vs,ws,ns',ms',hz,hvi,hwi,hlen,hR⟩
      simp only at hb'
      subst hb'
      have hv:lexLt ns' ms'=decide (items.size < items2.size):=by
        cases hvi with
        | nil =>
          cases hwi with
          | nil =>
            simp only [List.length_nil] at hlen
            rw [lexLt_nil_nil]
            exact (decide_eq_false (by omega)).symm
          | cons c u hw =>
            simp only [List.length_nil,List.length_cons] at hlen
            rw [lexLt_nil_cons]
            exact (decide_eq_true (by omega)).symm
        | cons a t hv =>
          cases hwi with
          | nil =>
            simp only [List.length_nil,List.length_cons] at hlen
            rw [lexLt_cons_nil]
            exact (decide_eq_false (by omega)).symm
          | cons c u hw =>
            rw [List.zip_cons_cons] at hz
            cases hz
      rw [hv] at hR
      wp_walk
      exact ⟨_,rfl,by simpa [Builtin.Tuple.tupleCompareSizes] using hR⟩
    case h =>
      exact ⟨rfl,rfl,items.toList,items2.toList,ns,ms,rfl,hi,hj,by omega,h⟩
end
section
variable {prog:Program} {w:World} {A:Around} {E:Value→Shared→Prop} {s:Shared}
theorem lt_tupInts {l b:Addr} {items items2:Array Value} {ns ms:List Int} {Q:Value→Shared→Prop} (hl:IsTup s.heap l items) (hb:IsTup s.heap b items2) (hi:IntsAre items.toList ns) (hj:IntsAre items2.toList ms)
    (hu:A.units < cLine) (h:Q (.bool (lexLt ns ms)) s):wpAny (model prog w) A (compareOp .Lt (.ref l) (.ref b)) Q E s:=by
  obtain ⟨⟨cls,dd,data,sl⟩,ho,hc,n,hd⟩:=id hl
  obtain ⟨⟨cls2,dd2,data2,sl2⟩,ho2,hc2,n2,hd2⟩:=id hb
  simp only at hc hd hc2 hd2
  subst hc hd hc2 hd2
  exact richCompare_meets_room (op:=.Lt) ⟨_,ho,rfl⟩ ⟨_,ho2,rfl⟩ PySem.F.slot_tuple_lt PySem.F.entry_tuple_lt (PySem.F.args_tuple_lt_2 _ _) (tuple_lt_ints l b items items2 n n2 dd dd2 sl sl2 ns ms hi hj)
    ⟨ho,ho2,show Value.bool (lexLt ns ms)≠Value.notImplemented∧Q (.bool (lexLt ns ms)) s from ⟨(fun x=>nomatch x),h⟩⟩ hu
def sIx (n d:Nat):Option Int→Nat
  | none=>d
  | some v=>if v < 0 then (v+(n:Int)).toNat else min v.toNat n
theorem sIx_none (n d:Nat):sIx n d none=d:=rfl
theorem sIx_nat (n d k:Nat):sIx n d (some (k:Int))=min k n:=by
  show (if (k:Int) < 0 then ((k:Int)+(n:Int)).toNat else min (k:Int).toNat n)=min k n
  rw [if_neg (by omega),Int.toNat_natCast]
end
end HT
namespace L2
open PySem PySem.Spec PyProof.Rows
abbrev TO:=St→Hp→(Option Int→Hp→Prop)→Prop
def PO (X : Cx) (e : Option Expr) (t : TO) : Prop :=
  ∀ (pins : List (Addr × Obj)) (s : Shared) (σ : St) (H : Hp) (Q : Option Int → Hp → Prop), Inv X pins σ H s → t σ H Q →
    wpAny (model X.prog X.w) X.A (evalPart e X.env) (fun u s'=>∃ o H',Inv X pins σ H' s'∧IsPart u o∧Q o H') X.xe s
def tNoPart:TO:=fun _ H Q=>Q none H
def tPart (t:TE):TO:=fun σ H Q=>t σ H fun x H1=>∃ i,x = .int i∧Q (some i) H1
theorem intsAre_of {ns:List Int}:∀ {us:List Value},Vals (ns.map V.int) us→IntsAre us ns:=by
  induction ns with
  | nil=>intro us r; rw [List.map_nil] at r; cases r; exact .nil
  | cons n ns ih =>
    intro us r
    rw [List.map_cons] at r
    cases r with
    | cons r1 r2 =>
      obtain ⟨t,e⟩:=r1
      subst e
      exact .cons n t (ih r2)
section
variable {X:Cx} {e:Expr} {te:TE} {lo hi:Option Expr} {tl th:TO} {pos p2:Pos}
theorem po_none:PO X none tNoPart:=by
  intro pins s σ H Q I h
  rw [evalPart_none]
  exact wpAny_pure ⟨none,H,I,.none,h⟩
theorem po_some (h:PE X e te):PO X (some e) (tPart te):=by
  intro pins s σ H Q I hw
  rw [evalPart_some]
  refine thn (h pins s σ H _ I hw) fun u s1 ⟨x,H1,I1,r1,q1⟩=>?_
  obtain ⟨i,rfl,q⟩:=q1
  obtain ⟨t,rfl⟩:=r1
  exact ⟨some i,H1,I1,.int i t,q⟩
def SlR (X : Cx) (r : V → Option Int → Option Int → Hp → VK → Prop) : Prop :=
  ∀ (pins : List (Addr × Obj)) (s : Shared) (σ : St) (H : Hp) (x : V) (v vl vu : Value) (lo hi : Option Int) (sl : Addr) (Q : VK), Inv X pins σ H s → RelV x v → s.heap.IsSliceOf sl vl vu .none → IsPart vl lo → IsPart vu hi → r x lo hi H Q →
    ∃ T id,typeLookup (.type T) "__getitem__" = pure (some (.builtin id))∧s.TypeIs v T∧wpAny (model X.prog X.w) X.A (getItem v (.ref sl)) (EP X pins σ Q) X.xe s
def tSl (r:V→Option Int→Option Int→Hp→VK→Prop) (te:TE) (tl th:TO):TE:=fun σ H Q=>te σ H fun x H1=>tl σ H1 fun l H2=>th σ H2 fun u H3=>r x l u H3 Q
theorem pe_slice {r:V→Option Int→Option Int→Hp→VK→Prop} (hr:SlR X r) (he:PE X e te) (hl:PO X lo tl) (hu:PO X hi th):PE X (.Subscript e (.Slice lo hi none p2) pos) (tSl r te tl th):=by
  intro pins s σ H Q I h
  refine Subscript_ (thn (he pins s σ H _ I h) fun v s1 ⟨x,H1,I1,r1,q1⟩=>?_)
  refine wpAny_Slice (thn (hl pins s1 σ H1 _ I1 q1) fun vl s2 ⟨l,H2,I2,pl,q2⟩=>thn (hu pins s2 σ H2 _ I2 q2) fun vu s3 ⟨u,H3,I3,pu,q3⟩=>?_)
  rw [evalPart_none]
  refine wpAny_pure ?_
  have I4:Inv X pins σ H3 { s3 with heap:=s3.heap.push { cls:=.type "slice",data:=.fields #[vl,vu,.none] } }:=I3.kept (t':=s3.toks) fun b ob q=>Heap.get?_push_of_some _ q
  obtain ⟨T,id,hT,ht,hg⟩:=hr pins { s3 with heap:=s3.heap.push { cls:=.type "slice",data:=.fields #[vl,vu,.none] } } σ H3 x v vl vu l u s3.heap.objs.size Q I4 r1 (Heap.IsSliceOf.new ..) pl pu q3
  show wpAny (model X.prog X.w) X.A (subscriptTail e (.Slice lo hi none p2) v (.ref s3.heap.objs.size)) (EP X pins σ Q) X.xe { s3 with heap:=s3.heap.push { cls:=.type "slice",data:=.fields #[vl,vu,.none] } }
  exact tail_any (ops:=[.ref s3.heap.objs.size,v]) ht hT hg (by with_unfolding_all rfl)
def cutV (xs:List V) (lo hi:Option Int):List V:=(xs.drop (HT.sIx xs.length 0 lo)).take (HT.sIx xs.length xs.length hi - HT.sIx xs.length 0 lo)
theorem cutV_length (xs:List V) (lo hi:Option Int):(cutV xs lo hi).length≤xs.length:=by
  unfold cutV
  rw [List.length_take,List.length_drop]
  omega
end
end L2
namespace L2
open PySem PySem.Spec PyProof.Rows
def ixN (n:Nat) (i:Int):Option Nat:=if 0≤i then (if i < n then some i.toNat else none) else if -(n:Int)≤i then some (i+n).toNat else none
def atI {α:Type} (xs:List α) (i:Int):Option α:=(ixN xs.length i).bind fun j=>xs[j]?
theorem ixN_seq {n:Nat} {i:Int} {j:Nat} (h:ixN n i=some j):seqIndex? i n=some j∧j < n∧-(n:Int)≤i∧i < n:=by
  unfold ixN at h
  by_cases h0:0≤i
  · rw [if_pos h0] at h
    by_cases h1:i < n
    · rw [if_pos h1] at h
      have e:i.toNat=j:=Option.some.inj h
      exact ⟨by rw [seqIndex_of h0 h1,e],by omega,by omega,h1⟩
    · rw [if_neg h1] at h; cases h
  · rw [if_neg h0] at h
    by_cases h1:-(n:Int)≤i
    · rw [if_pos h1] at h
      have e:(i+n).toNat=j:=Option.some.inj h
      exact ⟨by rw [seqIndex_neg (by omega) h1,e],by omega,h1,by omega⟩
    · rw [if_neg h1] at h; cases h
theorem atI_get {α:Type} {xs:List α} {i:Int} {v:α} (h:atI xs i=some v):∃ j,seqIndex? i xs.length=some j∧xs[j]? = some v∧j < xs.length∧-(xs.length:Int)≤i∧i < xs.length:=by
  unfold atI at h
  cases e:ixN xs.length i with
  | none=>rw [e] at h; cases h
  | some j =>
    rw [e] at h
    obtain ⟨h1,h2,h3,h4⟩:=ixN_seq e
    exact ⟨j,h1,h,h2,h3,h4⟩
theorem atI_nat {α:Type} {xs:List α} {j:Nat} {v:α} (h:xs[j]? = some v):atI xs (j:Int)=some v:=by
  have hj:j < xs.length:=(List.getElem?_eq_some_iff.mp h).1
  have e:ixN xs.length (j:Int)=some j:=by
    unfold ixN
    rw [if_pos (by omega),if_pos (by omega)]; simp
  unfold atI; rw [e]; exact h
def PlainIx (b:Expr):Prop:=∀ o i,subscripted b false o i=operate [o,i] (getItem o i)
def IxR (X : Cx) (r : R2) : Prop :=
  ∀ (value slice : Expr) (pins : List (Addr × Obj)) (s : Shared) (σ : St) (H : Hp) (x y : V) (v u : Value) (Q : VK), Inv X pins σ H s → RelV x v → RelV y u → r x y H Q →
    subscripted slice false v u=operate [v,u] (getItem v u)→wpAny (model X.prog X.w) X.A (subscriptTail value slice v u) (EP X pins σ Q) X.xe s
def MtR (X : Cx) (id : String) (r : V → List V → Hp → VK → Prop) : Prop :=
  ∀ (pins : List (Addr × Obj)) (s : Shared) (σ : St) (H : Hp) (x : V) (xs : List V) (v : Value) (us : List Value) (Q : VK), Inv X pins σ H s → RelV x v → Vals xs us → r x xs H Q →
    wpAny (model X.prog X.w) X.A (call (.builtin id) (v :: us)) (EP X pins σ Q) X.xe s
section
variable {X:Cx} {a b:Expr} {ta tb:TE} {pos:Pos}
theorem IxR.or {r r':R2} (h:IxR X r) (h':IxR X r'):IxR X (fun x y H Q=>r x y H Q∨r' x y H Q):=by
  intro value slice pins s σ H x y v u Q I rx ry q hs
  rcases q with q | q
  · exact h value slice pins s σ H x y v u Q I rx ry q hs
  · exact h' value slice pins s σ H x y v u Q I rx ry q hs
theorem pe_ix {r:R2} (hr:IxR X r) (ha:PE X a ta) (hb:PE X b tb) (hs:PlainIx b):PE X (.Subscript a b pos) (tOp r ta tb):=by
  intro pins s σ H Q I h
  exact Subscript_ (binT ha hb I h fun v u s2 x y H2 I2 rx ry q=>hr a b pins s2 σ H2 x y v u Q I2 rx ry q (hs _ _))
def rIxL (K:PySem.W.Frag):R2:=fun x y H Q=>∃ p xs i v,x = .ref p∧y = .int i∧SqL K H p xs∧atI xs i=some v∧Q v H
def rIxT (K:PySem.W.Frag):R2:=fun x y H Q=>∃ p xs i v,x = .ref p∧y = .int i∧SqT K H p xs∧atI xs i=some v∧Q v H
theorem ix_list:IxR X (rIxL X.K):=by
  intro value slice pins s σ H x y v u Q I rx ry h hs
  obtain ⟨p,xs,i,z,rfl,rfl,hq,he,q⟩:=h
  cases rx
  obtain ⟨t,rfl⟩:=ry
  obtain ⟨its,r,pl,hz⟩:=I.list hq
  obtain ⟨j,h1,h2,h3,h4,h5⟩:=atI_get he
  obtain ⟨w,ew,rw'⟩:=r.get h2
  have hl:=r.length
  have hn:=line63
  have fin:EP X pins σ Q w s:=⟨z,H,I,rw',q⟩
  by_cases h0:0≤i
  · have hj:i.toNat=j:=by
      rw [seqIndex_of h0 h5] at h1
      exact Option.some.inj h1
    exact item_listR pl.isList h0 (by omega) (by rw [hj]; simpa using ew) fin hs
  · have hj:(i+(its.toArray.size:Int)).toNat=j:=by
      rw [seqIndex_neg (by omega) h4] at h1
      rw [List.size_toArray,← hl]
      exact Option.some.inj h1
    exact subscriptTail_builtinR (x:=w) pl.isList.typeIs slot_list_getitem.lookup
      (wpAny_getItem_list_neg (Q:=fun r s'=>r=w∧EP X pins σ Q r s') pl.isList (by omega) (by rw [List.size_toArray] <;> omega) (by omega) (by rw [hj]; simpa using ew) ⟨rfl,fin⟩) hs
theorem ix_tup:IxR X (rIxT X.K):=by
  intro value slice pins s σ H x y v u Q I rx ry h hs
  obtain ⟨p,xs,i,z,rfl,rfl,hq,he,q⟩:=h
  cases rx
  obtain ⟨t,rfl⟩:=ry
  obtain ⟨its,r,pl,hz⟩:=I.tuple hq
  obtain ⟨j,h1,h2,h3,h4,h5⟩:=atI_get he
  obtain ⟨w,ew,rw'⟩:=r.get h2
  have hl:=r.length
  have hn:=line63
  have fin:EP X pins σ Q w s:=⟨z,H,I,rw',q⟩
  exact subscriptTail_builtinR (x:=w) pl.typeIs slot_tuple_getitem.lookup
    (getItem_tuple (j:=j) (Q:=fun r s'=>r=w∧EP X pins σ Q r s') pl (by omega) (by omega) (by rw [List.size_toArray,← hl]; exact h1) (by simpa using ew) ⟨rfl,fin⟩) hs
theorem mapSeq_set (its:List Value) (n j:Nat) (u:Value):Obj.mapSeq (·.setIfInBounds j u) { cls:=.type "list",data:=.seq its.toArray n } = { cls:=.type "list",data:=.seq (its.set j u).toArray n }:=by
  simp [Obj.mapSeq]
theorem Inv.lst {pins:List (Addr × Obj)} {σ:St} {H:Hp} {s:Shared} {p:Addr} {xs:List V} (I:Inv X pins σ H s) (h:H p=some (.lst xs)) :
    ∃ (its:List Value) (n:Nat),Vals xs its∧s.heap.get? p=some { cls:=.type "list",data:=.seq its.toArray n }∧xs.length≤sizeLine:=by
  obtain ⟨z,its,n,r,e⟩:=I.hok p _ h
  exact ⟨its,n,r,e,z⟩
theorem Inv.lstUpd {pins:List (Addr × Obj)} {σ:St} {H:Hp} {s:Shared} {p:Addr} {xs ys:List V} {its its':List Value} {n n':Nat} {f:Obj→Obj} (I:Inv X pins σ H s) (h:H p=some (.lst xs))
    (ho:s.heap.get? p=some { cls:=.type "list",data:=.seq its.toArray n }) (hf:f { cls:=.type "list",data:=.seq its.toArray n } = { cls:=.type "list",data:=.seq its'.toArray n' }) (r:Vals ys its') (hz:ys.length≤sizeLine) (t:Nat) :
    Inv X pins σ (upd H p (.lst ys)) { s with heap:=s.heap.update p f,toks:=t }:=by
  have e:(s.heap.update p f).get? p=some { cls:=.type "list",data:=.seq its'.toArray n' }:=by
    rw [Heap.get?_update_self f ho (by rw [hf] <;> rfl),hf]
  refine I.write (x:=p) (e:=p) (by rw [h]; trivial) (.inl rfl) (fun b u hb q=>(Heap.get?_update_other _ _ (Ne.symm hb)).trans q) ⟨_,e⟩ ?_
  exact ⟨hz,its',n',r,e⟩
def rSetL:V→V→V→Hp→(Hp→Prop)→Prop:=fun o i v H Q=>∃ p xs k j,o = .ref p∧i = .int k∧H p=some (.lst xs)∧ixN xs.length k=some j∧Q (upd H p (.lst (xs.set j v)))
theorem set_list:PSet X rSetL:=by
  intro pins s σ H o i v ov iv u Q I ro ri rv h
  obtain ⟨p,xs,k,j,rfl,rfl,hp,hj,q⟩:=h
  cases ro
  obtain ⟨t,rfl⟩:=ri
  obtain ⟨its,n,r,ho,hz⟩:=I.lst hp
  obtain ⟨h1,h2,h3,h4⟩:=ixN_seq hj
  have hl:=r.length
  have hn:=line63
  have I':Inv X pins σ (upd H p (.lst (xs.set j v))) { s with heap:=s.heap.update p (Obj.mapSeq (·.setIfInBounds j u)) } :=
    I.lstUpd hp ho (mapSeq_set its n j u) (r.set rv j) (by rw [List.length_set]; exact hz) s.toks
  by_cases h0:0≤k
  · have hk:k.toNat=j:=by
      rw [seqIndex_of h0 h4] at h1
      exact Option.some.inj h1
    exact PySem.W.ki_setAt ho h0 (by omega) (by rw [List.size_toArray,← hl]; exact h4) (by rw [hk]; exact ⟨_,I',q⟩)
  · have hk:(k+(its.toArray.size:Int)).toNat=j:=by
      rw [seqIndex_neg (by omega) h3] at h1
      rw [List.size_toArray,← hl]
      exact Option.some.inj h1
    exact PySem.W.ki_setBack ho (by omega) (by rw [List.size_toArray,← hl]; exact h3) (by omega) (by rw [hk]; exact ⟨_,I',q⟩)
theorem slice_bounds (lo hi:Option Int) (n:Nat):(sliceBounds lo hi none n).1=((HT.sIx n 0 lo:Nat):Int)∧(sliceBounds lo hi none n).2.1=((HT.sIx n n hi:Nat):Int)∧(sliceBounds lo hi none n).2.2=1:=by
  refine ⟨?_,?_,rfl⟩
  · cases lo with
    | none=>simp [sliceBounds,HT.sIx]
    | some i =>
      simp only [sliceBounds,HT.sIx,Option.getD_none,show (1:Int) > 0 by decide,if_true]
      by_cases h:i < 0
      · simp only [h,if_true] <;> omega
      · simp only [h,if_false] <;> omega
  · cases hi with
    | none=>simp [sliceBounds,HT.sIx]
    | some i =>
      simp only [sliceBounds,HT.sIx,Option.getD_none,show (1:Int) > 0 by decide,if_true]
      by_cases h:i < 0
      · simp only [h,if_true] <;> omega
      · simp only [h,if_false] <;> omega
theorem slicePick_cut (its:List Value) (lo hi:Option Int):slicePick its.toArray lo hi none=((its.drop (HT.sIx its.length 0 lo)).take (HT.sIx its.length its.length hi - HT.sIx its.length 0 lo)).toArray:=by
  obtain ⟨h1,h2,h3⟩:=slice_bounds lo hi its.toArray.size
  unfold slicePick
  rw [h1,h2,h3]
  simp only [sliceRange_one,pick_run,List.size_toArray] <;> rfl
def rSlL (K:PySem.W.Frag):V→Option Int→Option Int→Hp→VK→Prop:=fun x lo hi H Q=>∃ a xs,x = .ref a∧SqL K H a xs∧∀ p,H p=none→Q (.ref p) (upd H p (.lst (cutV xs lo hi)))
theorem sl_list:SlR X (rSlL X.K):=by
  intro pins s σ H x v vl vu lo hi sl Q I rx hs pl pu h
  obtain ⟨a,xs,rfl,hx,q⟩:=h
  cases rx
  obtain ⟨its,r,ht,hz⟩:=I.list hx
  have hlen:=r.length
  refine ⟨"list",_,slot_list_getitem.lookup,ht.isList.typeIs,?_⟩
  refine wpAny_getItem_list_slice ht.isList hs pl pu .none (by simp) ?_ (by rw [List.size_toArray] <;> omega)
  rw [slicePick_cut,← hlen]
  refine ⟨.ref s.heap.objs.size,_,I.laid (t':=s.toks) (o:=.lst (cutV xs lo hi)) (fun b ob q=>Heap.get?_push_of_some _ q) (Nat.le_refl _) ?_,rfl,q _ (I.hok.fresh (Nat.le_refl _))⟩
  exact ⟨Nat.le_trans (cutV_length xs lo hi) hz,_,0,(r.drop (HT.sIx xs.length 0 lo)).take (HT.sIx xs.length xs.length hi - HT.sIx xs.length 0 lo),Heap.get?_push_size _ rfl⟩
theorem call_len_seq:CallR X (.builtin "len") (fun xs H Q=>∃ p ys,xs=[.ref p]∧(SqL X.K H p ys∨SqT X.K H p ys)∧Q (.int ys.length) H):=by
  intro pins s σ H xs us Q I r h
  obtain ⟨p,ys,rfl,hq,q⟩:=h
  obtain ⟨u,rfl,rx⟩:=vals1 r
  cases rx
  have hn:=line63
  rcases hq with hq | hq
  · obtain ⟨its,r',pl,hz⟩:=I.list hq
    have hlen:=r'.length
    exact Calls.call_len_list pl.isList (by simp only [List.size_toArray] <;> omega) ⟨.int ys.length,H,I.tok _,⟨s.toks+1,by rw [List.size_toArray,hlen]⟩,q⟩
  · obtain ⟨its,r',pl,hz⟩:=I.tuple hq
    have hlen:=r'.length
    exact len_tuple pl (by simp only [List.size_toArray] <;> omega) ⟨.int ys.length,H,I.tok _,⟨s.toks+1,by rw [List.size_toArray,hlen]⟩,q⟩
theorem CallR.or {f:Value} {r r':List V→Hp→VK→Prop} (h:CallR X f r) (h':CallR X f r'):CallR X f (fun xs H Q=>r xs H Q∨r' xs H Q):=by
  intro pins s σ H xs us Q I rs q
  rcases q with q | q
  · exact h pins s σ H xs us Q I rs q
  · exact h' pins s σ H xs us Q I rs q
theorem call_list_of:CallR X (.type "list") (fun xs H Q=>∃ p ys,xs=[.ref p]∧(SqL X.K H p ys∨SqT X.K H p ys)∧∀ l,H l=none→Q (.ref l) (upd H l (.lst ys))):=by
  intro pins s σ H xs us Q I r h
  obtain ⟨p,ys,rfl,hq,q⟩:=h
  obtain ⟨u,rfl,rx⟩:=vals1 r
  cases rx
  have fin:∀ (its:List Value),Vals ys its→ys.length≤sizeLine→∀ (h':Heap) (c':Nat),(∀ b o',s.heap.get? b=some o'→h'.get? b=some o') →
      h'.get? s.heap.objs.size=some { cls:=.type "list",dict:=none,data:=.seq its.toArray c',slots:=#[] }→EP X pins σ Q (.ref s.heap.objs.size) { s with heap:=h' }:=fun its r' hz h' c' kp e =>
    ⟨.ref s.heap.objs.size,_,I.laid (t':=s.toks) kp (Nat.le_refl _) (show ObjOk X.prog X.w _ h' _ (.lst ys) from ⟨hz,its,c',r',e⟩),rfl,q _ (I.hok.fresh (Nat.le_refl _))⟩
  rcases hq with hq | hq
  · obtain ⟨its,r',pl,hz⟩:=I.list hq
    have hlen:=r'.length
    obtain ⟨o,ho,hc,n,hd⟩:=pl.isList
    exact call_list_seq p (.inl rfl) ho hc hd (fun h' c' kp e=>fin its r' hz h' c' kp e) (by simp only [List.size_toArray] <;> omega)
  · obtain ⟨its,r',pl,hz⟩:=I.tuple hq
    have hlen:=r'.length
    obtain ⟨o,ho,hc,n,hd⟩:=pl
    exact call_list_seq p (.inr rfl) ho hc hd (fun h' c' kp e=>fin its r' hz h' c' kp e) (by simp only [List.size_toArray] <;> omega)
def tyV (K:PySem.W.Frag) (T:String) (x:V) (H:Hp):Prop:=match x with
  | .str _=>T = "str"
  | .int _=>T = "int"
  | .ref p=>(T = "list"∧∃ xs,SqL K H p xs)∨(T = "tuple"∧∃ o,K.lookup p=some o∧o.cls = .type "tuple"∧o.dict=none) ∨
      (T = "dict"∧((∃ kvs,H p=some (.dK kvs))∨∃ kvs,H p=some (.dT kvs)))∨(T = "set"∧∃ S n,H p=some (.set S n))
  | _=>False
theorem tyV_is {pins : List (Addr × Obj)} {σ : St} {H : Hp} {s : Shared} {T : String} {x : V} {v : Value} (I : Inv X pins σ H s) (r : RelV x v) (ty : tyV X.K T x H) :
    s.TypeIs v T∧∀ a,v = .ref a→∃ ob,s.heap.get? a=some ob∧ob.dict=none:=by
  cases x with
  | str z =>
    obtain ⟨t,rfl⟩:=r
    cases (show T = "str" from ty)
    exact ⟨typeIs_str s z t,fun _ e=>nomatch e⟩
  | int i =>
    obtain ⟨t,rfl⟩:=r
    cases (show T = "int" from ty)
    exact ⟨typeIs_int s i t,fun _ e=>nomatch e⟩
  | ref p =>
    cases r
    rcases ty with ⟨rfl,xs,hq⟩ | ⟨rfl,o,hk,hc,hd⟩ | ⟨rfl,hk⟩ | ⟨rfl,S,n,hk⟩
    · obtain ⟨its,_,pl,_⟩:=I.list hq
      refine ⟨pl.isList.typeIs,fun a e=>?_⟩
      cases e
      obtain ⟨o,n,e,c,hd,_⟩:=pl
      exact ⟨o,e,hd⟩
    · refine ⟨⟨o,I.kIn p o hk,hc⟩,fun a e=>?_⟩
      cases e
      exact ⟨o,I.kIn _ o hk,hd⟩
    · have z:∃ o,s.heap.get? p=some o∧o.ExactDict:=by
        rcases hk with ⟨kvs,hk⟩ | ⟨kvs,hk⟩
        · obtain ⟨_,_,_,_,o,_,_,e,ex,_⟩:=I.hok p _ hk
          exact ⟨o,e,ex⟩
        · obtain ⟨_,_,_,_,o,_,_,e,ex,_⟩:=I.hok p _ hk
          exact ⟨o,e,ex⟩
      obtain ⟨o,e,ex⟩:=z
      refine ⟨⟨o,e,ex.1⟩,fun a e2=>?_⟩
      cases e2
      exact ⟨o,e,ex.2.1⟩
    · obtain ⟨o,_,_,_,e,ex,_⟩:=I.hok p _ hk
      refine ⟨⟨o,e,ex.1⟩,fun a e2=>?_⟩
      cases e2
      exact ⟨o,e,ex.2.1⟩
  | _=>exact False.elim ty
def tBM0 (K:PySem.W.Frag) (T:String) (r:V→List V→Hp→VK→Prop) (to:TE):TE:=fun σ H Q=>to σ H fun x H1=>tyV K T x H1∧r x [] H1 Q
def tBM (K:PySem.W.Frag) (T:String) (r:V→List V→Hp→VK→Prop) (to:TE) (t:TA):TE:=fun σ H Q=>to σ H fun x H1=>tyV K T x H1∧t σ H1 fun xs H2=>r x xs H2 Q
variable {o e:Expr} {es:List Expr} {to:TE} {t:TA} {name:Str} {apos cpos:Pos} {T id:String} {r:V→List V→Hp→VK→Prop}
theorem pe_bm0 (pa:PlainAttrs T) (slot:Slot T name id) (hty:typeOf (.builtin id)=pure (.type "method_descriptor")) (hm:MtR X id r) (ho:PE X o to)
    (hbase:attributeBase o name X.env (eval o X.env)=eval o X.env:=by rfl) (hline:(apos.endLine == cpos.line)=true:=by rfl):PE X (.Call (.Attribute o name apos) [] [] cpos) (tBM0 X.K T r to):=by
  intro pins s σ H Q I h
  refine wpAny_Call_method0_late hbase hline (thn (ho pins s σ H _ I h) fun v s1 ⟨x,H1,I1,r1,ty,q1⟩=>?_)
  obtain ⟨h1,h2⟩:=tyV_is I1 r1 ty
  exact ⟨T,id,pa,slot,hty,h1,h2,Calls.callWith_builtin rfl (PySem.evalArgs_none (hm pins s1 σ H1 x [] v [] Q I1 r1 .nil q1))⟩
theorem pe_bm (pa:PlainAttrs T) (slot:Slot T name id) (hty:typeOf (.builtin id)=pure (.type "method_descriptor")) (hm:MtR X id r) (ho:PE X o to) (ha:PA X (e :: es) t)
    (hbase:attributeBase o name X.env (eval o X.env)=eval o X.env:=by rfl)
    (hfew:((backTo cpos (starEach (e :: es) X.env)).all (fun x=>!x.1) && (backToKw cpos (keywordEach [] X.env)).all (fun x=>x.1.isSome)
      && decide ((e :: es).length+([]:List Keyword).length+(if ([]:List Keyword).isEmpty then 0 else 1) < 30))=true:=by rfl)
    (hline:(apos.endLine == cpos.line)=true:=by rfl) (hs:starEach (e :: es) X.env=(false,eval e X.env) :: starEach es X.env:=by rfl) (hplain:(backTo cpos (starEach es X.env)).any (·.1)=false:=by rfl) :
    PE X (.Call (.Attribute o name apos) (e :: es) [] cpos) (tBM X.K T r to t):=by
  intro pins s σ H Q I h
  refine wpAny_Call_method_late hbase hfew hline rfl (thn (ho pins s σ H _ I h) fun v s1 ⟨x,H1,I1,r1,ty,q1⟩=>?_)
  obtain ⟨h1,h2⟩:=tyV_is I1 r1 ty
  refine ⟨T,id,pa,slot,hty,h1,h2,?_⟩
  have hA:=ha cpos pins s1 σ H1 _ I1 q1
  rw [hs] at hA ⊢
  refine Calls.callWith_builtin (by show (false || (backTo cpos (starEach es X.env)).any (·.1))=false; rw [hplain] <;> rfl) (Calls.evalArgs_plain ?_)
  exact thn hA fun us s2 ⟨vs,H2,I2,r2,q2⟩=>hm pins s2 σ H2 x vs v us Q I2 r1 r2 q2
end
end L2
namespace L2
open PySem PySem.Spec PyProof.Rows
def MtM (X : Cx) (id : String) (r : V → List V → Hp → VK → Prop) : Prop :=
  ∀ (pins : List (Addr × Obj)) (s : Shared) (σ : St) (H : Hp) (x : V) (xs : List V) (v : Value) (us : List Value) (Q : VK), Inv X pins σ H s → RelV x v → Vals xs us → r x xs H Q →
    wpAny (model X.prog X.w) X.A (call (.builtin id) (v :: us)) (EP X pins σ Q) X.xe s
theorem Vals.one:∀ {x:V} {us:List Value},Vals [x] us→∃ u,us=[u]∧RelV x u
  | _,_,.cons r .nil=>⟨_,rfl,r⟩
theorem Vals.zero:∀ {us:List Value},Vals [] us→us=[]
  | _,.nil=>rfl
section
variable {X:Cx} {pins:List (Addr × Obj)} {σ:St} {H:Hp} {s:Shared} {l b:Addr} {xs ys zs:List V}
theorem Inv.lset {its its':List Value} {n:Nat} {f:Array Value→Array Value} {t':Nat} (I:Inv X pins σ H s) (hH:H l=some (.lst xs))
    (e:s.heap.get? l=some { cls:=.type "list",data:=.seq its.toArray n }) (hf:f its.toArray=its'.toArray) (hv:Vals ys its') (hz:ys.length≤sizeLine) :
    Inv X pins σ (upd H l (.lst ys)) { s with heap:=s.heap.update l (Obj.mapSeq f),toks:=t' }:=by
  have q:=PySem.IsL.update e f
  rw [hf] at q
  refine I.write (x:=l) (e:=l) (by rw [hH]; exact trivial) (.inl rfl) (fun b' u hb hu=>(Heap.get?_update_other s.heap (Obj.mapSeq f) (Ne.symm hb)).trans hu) ⟨_,q⟩ ?_
  exact ⟨hz,its',_,hv,q⟩
theorem Inv.lnew {its:List Value} {t':Nat} (I:Inv X pins σ H s) (hv:Vals ys its) (hz:ys.length≤sizeLine) :
    Inv X pins σ (upd H s.heap.objs.size (.lst ys)) { s with heap:=s.heap.push { cls:=.type "list",data:=.seq its.toArray },toks:=t' } :=
  I.laid (fun _ _ q=>Heap.get?_push_of_some _ q) (Nat.le_refl _) ⟨hz,its,0,hv,Heap.get?_push_size _ rfl⟩
theorem Inv.fresh (I:Inv X pins σ H s):H s.heap.objs.size=none:=I.hok.fresh (Nat.le_refl _)
theorem Inv.lstM (I:Inv X pins σ H s) (hH:H l=some (.lst xs)):xs.length≤sizeLine∧∃ (its:List Value) (n:Nat),Vals xs its∧xs.length=its.length∧s.heap.get? l=some { cls:=.type "list",data:=.seq its.toArray n }:=by
  obtain ⟨z,its,n,r,e⟩:=I.hok l _ hH
  exact ⟨z,its,n,r,r.length,e⟩
theorem notLongL {n:Nat} (h:n≤sizeLine):Builtin.List.listTooLong n=false:=by
  unfold Builtin.List.listTooLong
  exact decide_eq_false (by omega)
end
section
variable {X:Cx}
def rAppend:V→List V→Hp→VK→Prop:=fun x vs H Q=>∃ l xs y,x = .ref l∧vs=[y]∧H l=some (.lst xs)∧xs.length < sizeLine∧Q .non (upd H l (.lst (xs ++ [y])))
theorem mt_append:MtM X "list.append" rAppend:=by
  intro pins s σ H x vs v us Q I rx rv h
  obtain ⟨l,xs,y,rfl,rfl,hH,hz,q⟩:=h
  cases rx
  obtain ⟨u,rfl,ru⟩:=rv.one
  obtain ⟨z,its,n,r,hl,e⟩:=I.lstM hH
  refine call_meets F.slot_list_append ⟨_,e,rfl⟩ F.entry_list_append (F.args_list_append_2 _ _) (PySem.list_append l its.toArray n u (by rw [List.size_toArray]; omega)) ⟨e,?_⟩
  refine ⟨.non,_,I.lset (its':=its ++ [u]) hH e (by simp) (r.append (.cons ru .nil)) ?_,rfl,q⟩
  rw [List.length_append,List.length_singleton]
  omega
def rExtend:V→List V→Hp→VK→Prop:=fun x vs H Q=>∃ l b xs zs,x = .ref l∧vs=[.ref b]∧H l=some (.lst xs)∧H b=some (.lst zs)∧xs.length+zs.length≤sizeLine∧Q .non (upd H l (.lst (xs ++ zs)))
theorem mt_extend:MtM X "list.extend" rExtend:=by
  intro pins s σ H x vs v us Q I rx rv h
  obtain ⟨l,b,xs,zs,rfl,rfl,hH,hB,hz,q⟩:=h
  cases rx
  obtain ⟨u,rfl,ru⟩:=rv.one
  cases ru
  obtain ⟨z,its,n,r,hl,e⟩:=I.lstM hH
  obtain ⟨z2,its2,n2,r2,hl2,e2⟩:=I.lstM hB
  have hsz:its.toArray.size+its2.toArray.size≤sizeLine:=by rw [List.size_toArray,List.size_toArray]; omega
  have hlong:¬ (!its.toArray.isEmpty && Builtin.List.listTooLong (its.toArray.size+its2.toArray.size))=true:=by
    rw [notLongL hsz,Bool.and_false]
    exact Bool.false_ne_true
  refine call_meets F.slot_list_extend ⟨_,e,rfl⟩ F.entry_list_extend (F.args_list_extend_2 _ _)
    (AutoSeq1.list_extend_list_list_0 l its.toArray n b its2.toArray n2 hlong (by rw [List.size_toArray]; omega) (by omega)) ⟨e,e2,?_⟩
  refine ⟨.non,_,I.lset (its':=its ++ its2) hH e (by simp) (r.append r2) ?_,rfl,q⟩
  rw [List.length_append]
  omega
def rClear:V→List V→Hp→VK→Prop:=fun x vs H Q=>∃ l xs,x = .ref l∧vs=[]∧H l=some (.lst xs)∧Q .non (upd H l (.lst []))
theorem mt_clear:MtM X "list.clear" rClear:=by
  intro pins s σ H x vs v us Q I rx rv h
  obtain ⟨l,xs,rfl,rfl,hH,q⟩:=h
  cases rx
  have hus:=rv.zero
  subst hus
  obtain ⟨z,its,n,r,hl,e⟩:=I.lstM hH
  refine call_meets F.slot_list_clear ⟨_,e,rfl⟩ F.entry_list_clear (F.args_list_clear_1 _) (AutoSeq1.list_clear_list_0 l its.toArray n (by rw [List.size_toArray]; omega)) ⟨e,?_⟩
  exact ⟨.non,_,I.lset (its':=[]) (ys:=[]) hH e rfl .nil (Nat.zero_le _),rfl,q⟩
def rCat:R2:=fun x y H Q=>∃ l b xs zs,x = .ref l∧y = .ref b∧H l=some (.lst xs)∧H b=some (.lst zs)∧xs.length+zs.length≤sizeLine∧∀ p,H p=none→Q (.ref p) (upd H p (.lst (xs ++ zs)))
theorem op_cat:OpR X (binaryOp .Add) rCat:=by
  intro pins s σ H x y v u Q I rx ry h
  obtain ⟨l,b,xs,zs,rfl,rfl,hH,hB,hz,q⟩:=h
  cases rx
  cases ry
  obtain ⟨z,its,n,r,hl,e⟩:=I.lstM hH
  obtain ⟨z2,its2,n2,r2,hl2,e2⟩:=I.lstM hB
  refine PySem.P.add_list e e2 ?_ (by rw [List.size_toArray,List.size_toArray]; omega)
  have ea:its.toArray ++ its2.toArray=(its ++ its2).toArray:=by simp
  rw [ea]
  exact ⟨.ref _,_,I.lnew (t':=s.toks) (r.append r2) (by rw [List.length_append]; omega),rfl,q _ I.fresh⟩
end
section
variable {prog:Program} {w:World} {A:Around} {E:Value→Shared→Prop} {s:Shared}
end
section
variable {X:Cx}
end
end L2
namespace L2
open PySem PySem.Spec PyProof.Rows
section
variable {κ:Type} [DecidableEq κ]
def valV (kvs:List (κ × V)) (k:κ):Option V:=(kvs.find? fun kv=>decide (kv.1=k)).map (·.2)
def putK (kvs:List (κ × V)) (k:κ) (v:V):List (κ × V) :=
  if (kvs.any fun kv=>decide (kv.1=k))=true then kvs.map (fun kv=>if kv.1=k then (kv.1,v) else kv) else kvs ++ [(k,v)]
theorem valV_pos {p:κ × V} {r:List (κ × V)} {k:κ} (e:p.1=k):valV (p :: r) k=some p.2:=by simp [valV,List.find?_cons,e]
theorem valV_neg {p:κ × V} {r:List (κ × V)} {k:κ} (e:¬ p.1=k):valV (p :: r) k=valV r k:=by simp [valV,List.find?_cons,e]
theorem valV_any (k:κ):∀ kvs:List (κ × V),(kvs.any fun kv=>decide (kv.1=k))=(valV kvs k).isSome
  | []=>rfl
  | p :: r => by
    rw [List.any_cons]
    by_cases e:p.1=k
    · simp only [valV_pos e,decide_eq_true e,Bool.true_or,Option.isSome_some]
    · rw [valV_neg e,decide_eq_false e,Bool.false_or]; exact valV_any k r
theorem valV_snoc (k j:κ) (y:V):∀ kvs:List (κ × V),valV kvs k=none→valV (kvs ++ [(k,y)]) j=if j=k then some y else valV kvs j
  | [], _ => by
    by_cases e:k=j
    · rw [if_pos e.symm]; exact valV_pos (p:=(k,y)) e
    · rw [if_neg (fun z=>e z.symm)]; exact valV_neg (p:=(k,y)) e
  | p :: r, hn => by
    rw [List.cons_append]
    have hk:¬ p.1=k:=fun z=>by rw [valV_pos z] at hn; cases hn
    rw [valV_neg hk] at hn
    have ih:=valV_snoc k j y r hn
    by_cases e:p.1=j
    · rw [valV_pos e,valV_pos e,if_neg (fun z=>hk (e.trans z))]
    · rw [valV_neg e,valV_neg e,ih]
theorem length_putK (kvs:List (κ × V)) (k:κ) (v:V):(putK kvs k v).length≤kvs.length+1:=by
  unfold putK
  split
  · rw [List.length_map]; omega
  · rw [List.length_append,List.length_cons,List.length_nil]; omega
theorem putK_new {kvs:List (κ × V)} {k:κ} (v:V) (h:valV kvs k=none):putK kvs k v=kvs ++ [(k,v)]:=by
  unfold putK
  rw [valV_any,h]
  exact if_neg (by decide)
theorem RelO.isSome_eq {o:Option V} {u:Option Value} (r:RelO o u):o.isSome=u.isSome:=by
  cases o with
  | none => cases u with
    | none=>rfl
    | some _=>exact (show False from r).elim
  | some _ => cases u with
    | none=>exact (show False from r).elim
    | some _=>rfl
theorem KV.val {kvs:List (κ × V)} {vs:List (κ × Value)} (r:KV kvs vs) (k:κ):RelO (valV kvs k) (valueAt vs k):=by
  unfold KV at r
  induction r with
  | nil=>exact True.intro
  | @cons p q ps qs h t ih =>
    obtain ⟨h1,h2⟩:=h
    by_cases e:p.1=k
    · have e':q.1=k:=h1.symm.trans e
      have b:valueAt (q :: qs) k=some q.2:=by simp [valueAt,List.find?_cons,e']
      rw [valV_pos e,b]; exact h2
    · have e':¬ q.1=k:=fun z=>e (h1.trans z)
      have b:valueAt (q :: qs) k=valueAt qs k:=by simp [valueAt,List.find?_cons,e']
      rw [valV_neg e,b]; exact ih
theorem KV.any {kvs:List (κ × V)} {vs:List (κ × Value)} (r:KV kvs vs) (k:κ):(kvs.any fun kv=>decide (kv.1=k))=vs.any fun kv=>decide (kv.1=k):=by
  unfold KV at r
  induction r with
  | nil=>rfl
  | cons h t ih=>rw [List.any_cons,List.any_cons,ih,h.1]
theorem KV.repl {kvs:List (κ × V)} {vs:List (κ × Value)} (r:KV kvs vs) (k:κ) {y:V} {u:Value} (ry:RelV y u) :
    KV (kvs.map fun kv=>if kv.1=k then (kv.1,y) else kv) (vs.map fun kv=>if kv.1=k then (kv.1,u) else kv):=by
  unfold KV at r ⊢
  induction r with
  | nil=>exact .nil
  | @cons p q ps qs h t ih =>
    rw [List.map_cons,List.map_cons]
    refine .cons ?_ ih
    obtain ⟨h1,h2⟩:=h
    by_cases e:p.1=k
    · rw [if_pos e,if_pos (h1.symm.trans e)]; exact ⟨h1,ry⟩
    · rw [if_neg e,if_neg (fun z=>e (h1.trans z))]; exact ⟨h1,h2⟩
theorem KV.put {kvs:List (κ × V)} {vs:List (κ × Value)} (r:KV kvs vs) (k:κ) {y:V} {u:Value} (ry:RelV y u):KV (putK kvs k y) (stored vs k u):=by
  unfold putK stored
  rw [r.any k]
  by_cases e:(vs.any fun kv=>decide (kv.1=k))=true
  · rw [if_pos e,if_pos e]; exact r.repl k ry
  · rw [if_neg e,if_neg e]; exact Paired.snoc r ⟨rfl,ry⟩
theorem KV.length {kvs:List (κ × V)} {vs:List (κ × Value)} (r:KV kvs vs):kvs.length=vs.length:=Paired.length r
end
theorem kV_is {P:Program} {w:World} {k:Key} {u:Value} (r:RelV (kV k) u):(mixKind P w).is k u=true:=by
  cases k with
  | inl i=>obtain ⟨t,e⟩:=(show ∃ t,u=Value.int i t from r); subst e; exact mixKind_int P w i t
  | inr x=>obtain ⟨t,e⟩:=(show ∃ t,u=Value.str x t from r); subst e; exact mixKind_str P w x t
theorem items_are {P:Program} {w:World}:∀ {ks:List Key} {us:List Value},Vals (ks.map kV) us→ItemsAre (mixKind P w) ks us
  | [],_,r=>by rw [List.map_nil] at r; cases r; exact .nil
  | k :: ks, _, r => by
    rw [List.map_cons] at r
    cases r with
    | cons h t=>exact .cons (kV_is h) (items_are t)
abbrev KT (H:Hp):List (List Key × V)→List (List Key × Addr × Value)→Prop:=Paired fun p q=>p.1=q.1∧H q.2.1=some (.tup (p.1.map kV))∧RelV p.2 q.2.2
theorem KT.val {H:Hp} {kvs:List (List Key × V)} {xs:List (List Key × Addr × Value)} (r:KT H kvs xs) (k:List Key):RelO (valV kvs k) ((atKey xs k).map (·.2)):=by
  induction r with
  | nil=>exact True.intro
  | @cons p q ps qs h t ih =>
    obtain ⟨h1,_,h2⟩:=h
    by_cases e:p.1=k
    · have e':q.1=k:=h1.symm.trans e
      have b:atKey (q :: qs) k=some q.2:=by simp [atKey,List.find?_cons,e']
      rw [valV_pos e,b]; exact h2
    · have e':¬ q.1=k:=fun z=>e (h1.trans z)
      have b:atKey (q :: qs) k=atKey qs k:=by simp [atKey,List.find?_cons,e']
      rw [valV_neg e,b]; exact ih
theorem KT.repl {H:Hp} {kvs:List (List Key × V)} {xs:List (List Key × Addr × Value)} (r:KT H kvs xs) (k:List Key) {y:V} {u:Value} (ry:RelV y u) :
    KT H (kvs.map fun kv=>if kv.1=k then (kv.1,y) else kv) (xs.map (putAt k u)):=by
  induction r with
  | nil=>exact .nil
  | @cons p q ps qs h t ih =>
    rw [List.map_cons,List.map_cons]
    refine .cons ?_ ih
    obtain ⟨h1,h2,h3⟩:=h
    unfold putAt
    by_cases e:p.1=k
    · rw [if_pos e,if_pos (h1.symm.trans e)]; exact ⟨h1,h2,ry⟩
    · rw [if_neg e,if_neg (fun z=>e (h1.trans z))]; exact ⟨h1,h2,h3⟩
theorem KT.put {H:Hp} {kvs:List (List Key × V)} {xs:List (List Key × Addr × Value)} (r:KT H kvs xs) (k:List Key) {b:Addr} {y:V} {u:Value} (hb:H b=some (.tup (k.map kV))) (ry:RelV y u) :
    KT H (putK kvs k y) (storedH xs k b u):=by
  have e:(kvs.any fun kv=>decide (kv.1=k))=(atKey xs k).isSome:=by
    rw [valV_any,(r.val k).isSome_eq,Option.isSome_map]
  unfold putK storedH
  rw [e]
  by_cases q:(atKey xs k).isSome=true
  · rw [if_pos q,if_pos q]; exact r.repl k ry
  · rw [if_neg q,if_neg q]; exact Paired.snoc r ⟨rfl,hb,ry⟩
theorem KT.keeps {H H':Hp} {kvs:List (List Key × V)} {xs:List (List Key × Addr × Value)} (r:KT H kvs xs) (ht:∀ b ys,H b=some (.tup ys)→H' b=some (.tup ys)):KT H' kvs xs :=
  Paired.mapP r fun _ _ z=>⟨z.1,ht _ _ z.2.1,z.2.2⟩
section
variable {P:Program} {w:World} {H:Hp} {h:Heap} {a:Addr}
theorem rd_of {u:HO} (ok:HOk P w H h) (e:Rd H a u):ObjOk P w H h a u:=e.ok ok
theorem dk_rd {kvs:List (Key × V)} (ok:HOk P w H h) (e:Rd H a (.dK kvs)):kvs.length≤sizeLine∧(a == sysModules)=false∧∃ vs,KV kvs vs∧h.DictOf (mixKind P w) a vs :=
  show ObjOk P w H h a (.dK kvs) from rd_of ok e
theorem dk_of {kvs:List (Key × V)} (ok:HOk P w H h) (e:H a=some (.dK kvs)):kvs.length≤sizeLine∧(a == sysModules)=false∧∃ vs,KV kvs vs∧h.DictOf (mixKind P w) a vs:=dk_rd ok (.inl e)
theorem key_of {ks:List Key} (ok:HOk P w H h) (e:H a=some (.tup (ks.map kV))):(tupleKind (mixKind P w)).is h ks a:=by
  obtain ⟨_,its,r,o,h1,h2,n,h3⟩:=(show ObjOk P w H h a (.tup (ks.map kV)) from ok a _ e)
  exact ⟨o,its.toArray,n,h1,h2,h3,by simpa using items_are r⟩
theorem dt_rd {kvs : List (List Key × V)} (ok : HOk P w H h) (e : Rd H a (.dT kvs)) : kvs.length ≤ sizeLine ∧ (a == sysModules) = false ∧
    ∃ xs,KT H kvs xs∧h.DictOfH (tupleKind (mixKind P w)) a xs:=by
  obtain ⟨z,y,xs,r,o,es,ep,h1,h2,h3,h4,h5⟩:=(show ObjOk P w H h a (.dT kvs) from rd_of ok e)
  refine ⟨z,y,xs,r,o,es,ep,h1,h2,h3,h4,fun x hx=>?_,h5⟩
  have all:∀ {l:List (List Key × V)} {m:List (List Key × Addr × Value)},KT H l m→∀ x ∈ m,(tupleKind (mixKind P w)).is h x.1 x.2.1:=by
    intro l m q
    induction q with
    | nil=>intro x hx; exact nomatch hx
    | @cons p q ps qs hq t ih =>
      intro x hx
      rcases List.mem_cons.mp hx with e | hx
      · subst e
        exact key_of ok (by rw [← hq.1]; exact hq.2.1)
      · exact ih x hx
  exact all r x hx
theorem dt_of {kvs:List (List Key × V)} (ok:HOk P w H h) (e:H a=some (.dT kvs)):kvs.length≤sizeLine∧(a == sysModules)=false ∧
    ∃ xs,KT H kvs xs∧h.DictOfH (tupleKind (mixKind P w)) a xs:=dt_rd ok (.inl e)
end
def DGet (H:Hp) (a:Addr) (y:V) (r:Option V):Prop :=
  (∃ kvs k,Rd H a (.dK kvs)∧y=kV k∧r=valV kvs k)∨∃ kvs k b,Rd H a (.dT kvs)∧y = .ref b∧H b=some (.tup (k.map kV))∧r=valV kvs k
def DPut (H:Hp) (a:Addr) (y v:V) (H':Hp):Prop :=
  (∃ kvs k,H a=some (.dK kvs)∧y=kV k∧kvs.length < sizeLine∧H'=upd H a (.dK (putK kvs k v))) ∨
  ∃ kvs k b,H a=some (.dT kvs)∧y = .ref b∧H b=some (.tup (k.map kV))∧kvs.length < sizeLine∧H'=upd H a (.dT (putK kvs k v))
theorem DGet.t {H:Hp} {a b:Addr} {kvs:List (List Key × V)} {k:List Key} (e:H a=some (.dT kvs)) (eb:H b=some (.tup (k.map kV))):DGet H a (.ref b) (valV kvs k):=.inr ⟨kvs,k,b,.inl e,rfl,eb,rfl⟩
theorem DPut.t {H:Hp} {a b:Addr} {kvs:List (List Key × V)} {k:List Key} {v:V} (e:H a=some (.dT kvs)) (eb:H b=some (.tup (k.map kV))) (hl:kvs.length < sizeLine) :
    DPut H a (.ref b) v (upd H a (.dT (putK kvs k v))):=.inr ⟨kvs,k,b,e,rfl,eb,hl,rfl⟩
section
variable {X:Cx} {pins:List (Addr × Obj)} {σ:St} {H:Hp} {s:Shared} {a:Addr} {y v:V} {u r:Value} {o:Option V} {A:Around} {E:Value→Shared→Prop}
theorem Inv.big (I:Inv X pins σ H s):sysModules < s.heap.objs.size:=by
  have h:mainGlobals < s.heap.objs.size:=(I.mod.glob.keeps I.bk).lt
  exact Nat.lt_trans (by decide) h
theorem d_getItem {Q:Value→Shared→Prop} (hu:A.units+1 < cLine) (I:Inv X pins σ H s) (g:DGet H a y (some v)) (ry:RelV y u) (h:∀ w' s',Inv X pins σ H s'→RelV v w'→Q w' s') :
    wpAny (model X.prog X.w) A (getItem (.ref a) u) Q E s:=by
  rcases g with ⟨kvs,k,e,ey,l⟩ | ⟨kvs,k,b,e,ey,eb,l⟩
  · subst ey
    obtain ⟨z,hd,vs,rel,dd⟩:=dk_rd I.hok e
    obtain ⟨w',hw,rw'⟩:=RelO.some_of (v:=v) (o:=valueAt vs k) (by rw [l]; exact rel.val k)
    exact wpAny_getItem_of (kV_is ry) dd.mapOf hw (h w' _ (I.tok _) rw')
  · subst ey
    cases (show u=Value.ref b from ry)
    obtain ⟨z,hd,xs,rel,dd⟩:=dt_rd I.hok e
    obtain ⟨w',hw,rw'⟩:=RelO.some_of (v:=v) (o:=(atKey xs k).map (·.2)) (by rw [l]; exact rel.val k)
    obtain ⟨p,hp,hp2⟩:=Option.map_eq_some_iff.mp hw
    refine wpAny_getItem_heap (tupleKind_room_in1 hu) (key_of I.hok eb) dd hp ?_
    rw [hp2]
    exact h w' _ (I.tok _) rw'
theorem d_in {Q:Value→Shared→Prop} (hu:A.units+1 < cLine) (I:Inv X pins σ H s) (g:DGet H a y o) (ry:RelV y u) (h:∀ s',Inv X pins σ H s'→Q (.bool o.isSome) s') :
    wpAny (model X.prog X.w) A (compareOp .In u (.ref a)) Q E s:=by
  rcases g with ⟨kvs,k,e,ey,l⟩ | ⟨kvs,k,b,e,ey,eb,l⟩
  · subst ey
    obtain ⟨z,hd,vs,rel,dd⟩:=dk_rd I.hok e
    refine wpAny_in_of (kV_is ry) hd dd.mapOf ?_
    rw [← (rel.val k).isSome_eq,← l]
    exact h _ (I.tok _)
  · subst ey
    cases (show u=Value.ref b from ry)
    obtain ⟨z,hd,xs,rel,dd⟩:=dt_rd I.hok e
    refine wpAny_in_heap (tupleKind_room_in1 hu) (key_of I.hok eb) hd dd ?_
    have q:=(rel.val k).isSome_eq
    rw [Option.isSome_map] at q
    rw [← q,← l]
    exact h _ (I.tok _)
theorem d_notIn {Q:Value→Shared→Prop} (hu:A.units+1 < cLine) (I:Inv X pins σ H s) (g:DGet H a y o) (ry:RelV y u) (h:∀ s',Inv X pins σ H s'→Q (.bool (!o.isSome)) s') :
    wpAny (model X.prog X.w) A (compareOp .NotIn u (.ref a)) Q E s:=by
  rcases g with ⟨kvs,k,e,ey,l⟩ | ⟨kvs,k,b,e,ey,eb,l⟩
  · subst ey
    obtain ⟨z,hd,vs,rel,dd⟩:=dk_rd I.hok e
    refine wpAny_notIn_of (kV_is ry) hd dd.mapOf ?_
    rw [← (rel.val k).isSome_eq,← l]
    exact h _ (I.tok _)
  · subst ey
    cases (show u=Value.ref b from ry)
    obtain ⟨z,hd,xs,rel,dd⟩:=dt_rd I.hok e
    refine wpAny_notIn_heap (tupleKind_room_in1 hu) (key_of I.hok eb) hd dd ?_
    have q:=(rel.val k).isSome_eq
    rw [Option.isSome_map] at q
    rw [← q,← l]
    exact h _ (I.tok _)
theorem d_write {h':Heap} {t':Nat} {ob:HO} (I:Inv X pins σ H s) (mu:Mut (H a)) (hs:Heap.SameBut a s.heap h') (he:∃ q,h'.get? a=some q) (new:ObjOk X.prog X.w (upd H a ob) h' a ob) :
    Inv X pins σ (upd H a ob) { s with heap:=h',toks:=t' } :=
  I.write (x:=a) (e:=a) mu (.inl rfl) (fun b q hb z=>(hs.2 b hb).trans z) he new
theorem dk_new {P:Program} {w:World} {H':Hp} {h':Heap} {kvs:List (Key × V)} {vs:List (Key × Value)} (z:kvs.length≤sizeLine) (hd:(a == sysModules)=false) (rel:KV kvs vs) (dd:h'.DictOf (mixKind P w) a vs) :
    ObjOk P w H' h' a (.dK kvs):=⟨z,hd,vs,rel,dd⟩
theorem d_setItem {H':Hp} {Q:Unit→Shared→Prop} (hu:A.units+1 < cLine) (I:Inv X pins σ H s) (g:DPut H a y v H') (ry:RelV y u) (rv:RelV v r) (h:∀ s',Inv X pins σ H' s'→Q () s') :
    wpAny (model X.prog X.w) A (setItem (.ref a) u r) Q E s:=by
  rcases g with ⟨kvs,k,e,ey,l,eH⟩ | ⟨kvs,k,b,e,ey,eb,l,eH⟩
  · subst ey eH
    obtain ⟨z,hd,vs,rel,dd⟩:=dk_of I.hok e
    have hz:vs.length≤sizeLine:=by rw [← rel.length]; exact z
    have hl:(putK kvs k v).length≤sizeLine:=by have:=length_putK kvs k v; omega
    refine wpAny_setItem_pairs (hsz:=hz) (kV_is ry) dd fun h' dd' hs=>h _ ?_
    have he:∃ q,h'.get? a=some q:=let ⟨q,_,_,hq,_⟩:=dd'; ⟨q,hq⟩
    exact d_write I (by rw [e]; exact True.intro) hs he (dk_new hl hd (rel.put k rv) dd')
  · subst ey eH
    cases (show u=Value.ref b from ry)
    obtain ⟨z,hd,xs,rel,dd⟩:=dt_of I.hok e
    have hz:xs.length≤sizeLine:=by rw [← Paired.length rel]; exact z
    have hl:(putK kvs k v).length≤sizeLine:=by have:=length_putK kvs k v; omega
    refine wpAny_setItem_heap (hsz:=hz) (tupleKind_room_in1 hu) (key_of I.hok eb) dd fun h' dd' hs=>h _ ?_
    obtain ⟨q,es,ep,hq,h2,h3,h4,_,h5⟩:=dd'
    refine d_write I (by rw [e]; exact True.intro) hs ⟨q,hq⟩ ⟨hl,hd,_,(rel.put k eb rv).keeps fun c ys ec=>?_,q,es,ep,hq,h2,h3,h4,h5⟩
    rw [upd_ne (ne_of ec e (fun z=>nomatch z))]
    exact ec
end
section
variable {X:Cx} {pins:List (Addr × Obj)} {σ:St} {H:Hp} {s:Shared} {a:Addr} {kvs:List (Key × V)} {k:Key} {u:Value} {A:Around} {E:Value→Shared→Prop}
theorem d_len {Q:Value→Shared→Prop} (I:Inv X pins σ H s) (e:Rd H a (.dK kvs)) (h:∀ t s',Inv X pins σ H s'→Q (.int kvs.length t) s'):wpAny (model X.prog X.w) A (call (.builtin "len") [.ref a]) Q E s:=by
  obtain ⟨z,hd,vs,rel,dd⟩:=dk_rd I.hok e
  refine call_len_dict hd dd (by rw [← rel.length]; rw [sizeLine_eq] at z; omega) ?_
  rw [← rel.length]
  exact h _ _ (I.tok _)
end
theorem dict_typeIs {X:Cx} {pins:List (Addr × Obj)} {σ:St} {H:Hp} {s:Shared} {a:Addr} {y:V} {o:Option V} (I:Inv X pins σ H s) (g:DGet H a y o):s.TypeIs (.ref a) "dict":=by
  rcases g with ⟨kvs,k,e,_,_⟩ | ⟨kvs,k,b,e,_,_,_⟩
  · obtain ⟨_,_,vs,_,dd⟩:=dk_rd I.hok e
    exact dd.typeIs
  · obtain ⟨_,_,xs,_,dd⟩:=dt_rd I.hok e
    exact dd.typeIs
section
variable {X:Cx} {o i e value:Expr} {pos pos' tpos:Pos} {td ty tv:TE}
end
theorem dt_empty {P:Program} {w:World} {H:Hp} (h:Heap) (hb:sysModules < h.objs.size):ObjOk P w H (h.push { cls:=.type "dict",data:=.dict #[] }) h.objs.size (.dT []) :=
  ⟨Nat.zero_le _,beq_eq_false_iff_ne.mpr (Ne.symm (Nat.ne_of_lt hb)),[],.nil,_,#[],0,Heap.get?_push_size _ rfl,⟨rfl,rfl,rfl⟩,rfl,rfl,List.nodup_nil⟩
def tDNewT:TE:=fun _ H Q=>∀ p,H p=none→Q (.ref p) (upd H p (.dT []))
section
variable {X:Cx} {pos:Pos}
theorem pe_dnewT:PE X (.Dict [] [] pos) tDNewT:=fun pins s σ H Q I h =>
  wpAny_Dict_empty ⟨.ref s.heap.objs.size,_,I.laid (a:=s.heap.objs.size) (o:=.dT []) (t':=s.toks) (fun _ _ q=>Heap.get?_push_of_some _ q) (Nat.le_refl _) (dt_empty s.heap I.big),rfl,h _ (I.hok.fresh (Nat.le_refl _))⟩
end
section
variable {X:Cx} {pins:List (Addr × Obj)} {σ:St} {H:Hp} {s:Shared} {a:Addr} {y d:V} {u r:Value} {o:Option V} {A:Around} {E:Value→Shared→Prop}
end
section
variable {X:Cx} {o e f:Expr} {apos cpos:Pos} {td ty tx:TE}
end
section
variable {X:Cx} {pins:List (Addr × Obj)} {σ:St} {H:Hp} {s:Shared} {a:Addr} {kvs:List (Key × V)} {A:Around} {E:Value→Shared→Prop}
end
section
variable {X:Cx} {pins:List (Addr × Obj)} {σ:St} {H:Hp} {s:Shared} {a:Addr} {y:V} {u:Value} {A:Around} {E:Value→Shared→Prop}
end
end L2
namespace Att
open PySem PySem.W PySem.Calls PyProof.Rows
theorem ints_of_wellAll {P:Params} {h:Heap}:∀ (ns:List Int) (vs:List Value),WellAll P h vs (ns.map WData.int)→IntsAre vs ns:=by
  intro ns
  induction ns with
  | nil =>
    intro vs w
    rw [List.map_nil] at w
    cases w
    exact .nil
  | cons n ns ih =>
    intro vs w
    rw [List.map_cons] at w
    cases w with
    | cons a b =>
      cases a
      exact .cons _ _ (ih _ b)
theorem script_of {l:OpenLaw} {n:Nat} (hn:l.most=some n) {P:Params} {h:Heap} {args:List WData} {vals:List Value}
    (hpre:l.row.toRowW.claim.pre args=true) (hwl:WellAll P h vals args) :
    ∃ a vs ns,vals=[Value.ref a]∧args=[WData.list (ns.map WData.int)]∧h.get? a=some { cls:=.type "list",data:=.seq vs.toArray }∧IntsAre vs ns∧ns.length≤n:=by
  have hsh:WShape.hasAll [] args [.list .int]=true:=(pre_splitW hpre).1
  have hc:l.pre.holds [] { args:=args } = true:=(pre_splitW hpre).2
  obtain ⟨d,r,rfl,h1,h2⟩:=hasAllW_cons hsh
  obtain rfl:=hasAllW_nil h2
  obtain ⟨xs,rfl,h3⟩:=hasW_list h1
  obtain ⟨ns,rfl⟩:=items_int h3
  have hlen:ns.length≤n:=by
    unfold OpenLaw.pre at hc
    have h4:(WTm.not (.lt (.lit (.int (n:Int))) (.len (.arg 0)))).holds [] { args:=[.list (ns.map .int)] } = true:=by
      have h4:=(holds_andW hc).1
      rw [hn] at h4
      exact h4
    have h5:=condW_of h4 (w_not (w_lt w_lit (w_len_list (w_arg rfl))))
    rw [List.length_map] at h5
    refine Nat.le_of_not_lt fun q=>?_
    have q':(n:Int) < ((ns.length:Nat):Int):=by omega
    first
      | (rw [decide_eq_true q'] at h5; exact absurd h5 (by decide))
      | (simp at h5; omega)
  cases hwl with
  | cons w1 w2 =>
    cases w2
    cases w1 with
    | list ho hall=>exact ⟨_,_,ns,rfl,rfl,ho,ints_of_wellAll ns _ hall,hlen⟩
theorem post_true (l:OpenLaw) (args:List WData):l.row.toRowW.claim.post args (.bool true) args=true :=
  postW_of (r:=l.row.toRowW) (X:=(true == true))
    (show WShape.has [] (.bool true) .bool=true by first | rfl | decide | simp [WShape.has,WShape.arms,WShape.armsAll])
    (show (WTm.eq .res (.lit (.bool true))).value [] { args:=args,res:=some (.bool true),after:=args } = some (.bool (true == true)) from w_eq_bool (w_res rfl) w_lit) rfl
theorem attach_call {l:OpenLaw} {n:Nat} {q:Program} {loose:List Str} {XP:(Str→Option Value)→Heap→Prop} {YP:World→Heap→Prop} {d:DefRec}
    (hn:l.most=some n) (hdf:d.params.defaults=[])
    (call:∀ (w:World) (s₀ s₁:Shared) (mg mb:Str→Option Value) (fa:Addr) (o:Obj) (pm cd doc:Value) (a:Addr) (vs:List Value) (ns:List Int),
      Ground q loose [] XP w s₀ mg mb s₁.heap→YP w s₁.heap →
      s₁.heap.get? fa=some o→o.data = .func (docDef d.name d.params d.body d.scope pm cd doc)→s₁.heap.CodeRec cd d.name→mg d.name=some (.ref fa) →
      s₁.heap.get? a=some { cls:=.type "list",data:=.seq vs.toArray }→IntsAre vs ns→ns.length≤n→s₁.gens = #[] →
      codeAny (model l.prog w) callerA (.call (.ref fa) ⟨[.ref a],[]⟩) (fun r s'=>r = .ok (.ret (.bool true))∧OldK s₁.heap s'.heap∧s'.os=s₁.os∧AllBare s'.gens) s₁) :
    WalkO q loose XP YP l.row.toRowW d [] (fun f vs=>PySem.call f vs):=by
  intro w s₀ s₁ mg mb G Y fa o pm cd doc dV kV ho hd hcd hD hmg hg args vals as hpre hlay hrd hwl hlo
  obtain rfl:dV = .none:=Dflts.none hD hdf
  obtain rfl:kV = .none:=Dflts.noKw hD
  obtain ⟨a,vs,ns,rfl,rfl,hobj,hints,hlen⟩:=script_of hn hpre hwl
  refine enter_call (codeAny_mono (call w s₀ s₁ mg mb fa o pm cd doc a vs ns G Y ho (fd_plain hd) hcd hmg hobj hints hlen hg) fun r s' hq=>?_)
  obtain ⟨rfl,h2,h3,h4⟩:=hq
  exact ⟨.inl ⟨.bool true,.bool true,[],rfl,fun _=>rfl,.bool true,post_true l _,fun _=>⟨List.Pairwise.nil,fun _ hm=>(nomatch hm)⟩⟩,h2,h3,h4⟩
section
variable {prog:Program} {w:World} {A:Around} {E:Value→Shared→Prop} {s:Shared} {K:Frag}
end
end Att
namespace L2
open PySem PySem.Spec PyProof.Rows
theorem vals_ints:∀ {vs:List Value} {ns:List Int},IntsAre vs ns→Vals (ns.map V.int) vs
  | _,_,.nil=>.nil
  | _,_,.cons n t h=>.cons ⟨t,rfl⟩ (vals_ints h)
end L2
namespace L2
open PySem PySem.Spec PyProof.Rows
end L2
namespace L2
open PySem PySem.Spec PyProof.Rows
def inClass (s:Stmt) (j:Nat):Stmt:=match s with
  | .ClassDef _ _ _ body _ _ _ _ _ _ _=>body.getD j (.Pass ⟨0,0,0,0⟩)
  | _=>.Pass ⟨0,0,0,0⟩
def defArgs (s:Stmt):Arguments:=match s with
  | .FunctionDef _ a _ _ _ _ _ _ _ _=>a
  | _=>{ posonlyargs:=[],args:=[],vararg:=none,kwonlyargs:=[],kw_defaults:=[],kwarg:=none,defaults:=[] }
def defBody (s:Stmt):List Stmt:=match s with
  | .FunctionDef _ _ b _ _ _ _ _ _ _=>b
  | _=>[]
def defScope (s:Stmt):Scope:=match s with
  | .FunctionDef _ _ _ _ _ _ sc _ _ _=>sc
  | _=>{ kind:=.function,names:=[],isGenerator:=false,isCoroutine:=false }
abbrev CX0:CXT:=fun _ _ _ _ _ _=>False
abbrev E0:XK:=fun _ _ _=>False
theorem pass0 {X:Cx}:Passes CX0 X E0:=fun _ _ _ _ _ _ _ h=>h.elim
structure Fun (K:PySem.W.Frag) (x qual:Str) (st:Stmt) (f:Addr) (fd:FuncData):Prop where
  ex:∃ (oc:Value) (od:Option Addr) (kV doc pm:Value) (an:Option Addr) (cdv ct:Value) (osl:Array (Option Value)),
    fd=PySem.W.fnOf x qual (defArgs st) (defBody st) (defScope st) .none kV doc pm an cdv ct∧K.lookup f=some ⟨oc,od,.func fd,osl⟩∧PySem.W.codeIn K cdv qual=true
  kp:PySem.W.keepIn K (.ref f)=true
section
variable {P:Program} {w:World} {K:PySem.W.Frag} {mg:Str→Option Value} {base:Heap}
theorem Fun.ok {x qual:Str} {st:Stmt} {f:Addr} {fd:FuncData} {N ps:List Str} {k:Nat} {sp:Sp} (F:Fun K x qual st f fd) (S:FnScope N ps (defScope st)) (len:∀ vs H Q E,sp vs H Q E→vs.length=ps.length)
    (hbody:∀ (cdv:Value) (A:Around) (outer:List Env) (s:Shared) (H:Hp) (vs:List V) (Q:VK) (E:XK),Room k (A.deeper (envOfC qual (defScope st) s.heap.objs.size f cdv))→sp vs H Q E →
      ∃ t,PSs (cxOf CX0 P w K mg base N qual (defScope st) f cdv A outer s H E).nox (defBody st) t∧t { nx:=fun _ H'=>Q .non H',rt:=Q } (start N vs) H):FnOk P w K mg base CX0 (k+1) f fd ps sp:=by
  obtain ⟨oc,od,kV,doc,pm,an,cdv,ct,osl,rfl,lk,hcd⟩:=F.ex
  refine fn_of lk hcd S len fun A outer s H vs Q E hr hsp=>?_
  obtain ⟨t,h,q⟩:=hbody cdv A outer s H vs Q E hr hsp
  exact ⟨t,h.nox,q⟩
theorem Fun.binds {x qual:Str} {st:Stmt} {f:Addr} {fd:FuncData} {ps:List Str} (F:Fun K x qual st f fd)
    (h:∀ (kV doc pm:Value) (an:Option Addr) (cdv ct:Value) (us:List Value),us.length=ps.length→bindArgs (PySem.W.fnOf x qual (defArgs st) (defBody st) (defScope st) .none kV doc pm an cdv ct) ⟨us,[]⟩=pure (ps.zip us)):Binds K fd ps []:=by
  obtain ⟨oc,od,kV,doc,pm,an,cdv,ct,osl,rfl,lk,hcd⟩:=F.ex
  exact .all (h kV doc pm an cdv ct)
theorem fun_mk {x qual:Str} {st:Stmt} {f:Addr} {oc:Value} {od an:Option Addr} {osl:Array (Option Value)} {kV doc pm cdv ct:Value} (l:K.lookup f=some ⟨oc,od,.func (PySem.W.fnOf x qual (defArgs st) (defBody st) (defScope st) .none kV doc pm an cdv ct),osl⟩)
    (c:PySem.W.codeIn K cdv qual=true) (k:PySem.W.keepIn K (.ref f)=true):Fun K x qual st f (PySem.W.fnOf x qual (defArgs st) (defBody st) (defScope st) .none kV doc pm an cdv ct):=⟨⟨oc,od,kV,doc,pm,an,cdv,ct,osl,rfl,l,c⟩,k⟩
end
section
variable {X:Cx}
theorem pv (i:Nat) {x:Str} {pos:Pos} (hN:X.N[i]? = some x:=by rfl) (hv:Vis X.env.scope x:=by first | exact Or.inl rfl | exact Or.inr (Or.inl rfl) | exact Or.inr (Or.inr rfl)) (hd:(x == ("__debug__":Str))=false:=by decide)
    (hcd:(x == ("__classdict__":Str))=false:=by decide):PE X (.Name x pos) (tVar i):=pe_var hN hv hd hcd
end
theorem iteF {A B:Prop} (h:B):if false=true then A else B:=by
  rw [if_neg Bool.false_ne_true]
  exact h
theorem iteT {A B:Prop} (h:A):if true=true then A else B:=by
  rw [if_pos rfl]
  exact h
def Same (H H':Hp):Prop:=∀ b o,H b=some o→H' b=some o
theorem Same.trans {H H1 H2:Hp} (a:Same H H1) (b:Same H1 H2):Same H H2:=fun c o h=>b c o (a c o h)
theorem Same.free {H H':Hp} (e:Same H H') {l:Addr} (h:H' l=Option.none):H l=Option.none:=by
  cases q:H l with
  | none=>rfl
  | some o =>
    rw [e l o q] at h
    cases h
theorem Same.seq {K:PySem.W.Frag} {H H':Hp} {a:Addr} {xs:List V} (e:Same H H') (h:SqL K H a xs):SqL K H' a xs:=by
  rcases h with (h | ⟨o,h⟩) | h
  · exact .inl (.inl (e _ _ h))
  · exact .inl (.inr ⟨o,e _ _ h⟩)
  · exact .inr h
end L2
namespace L2
open PySem PySem.Spec PyProof.Rows
section
variable {X:Cx}
theorem call_lenD:CallR X (.builtin "len") (fun xs H Q=>∃ a kvs,xs=[V.ref a]∧H a=some (.dK kvs)∧Q (.int kvs.length) H):=by
  intro pins s σ H xs us Q I r h
  obtain ⟨a,kvs,rfl,ha,q⟩:=h
  obtain ⟨u,rfl,ru⟩:=vals1 r
  cases ru
  exact d_len I (.inl ha) fun t s' I'=>⟨.int kvs.length,H,I',⟨t,rfl⟩,q⟩
end
section
variable {κ:Type} [DecidableEq κ]
theorem valV_not {kvs:List (κ × V)} {k:κ} (h:valV kvs k=none):¬ k ∈ kvs.map (·.1):=by
  intro m
  obtain ⟨p,hp,e⟩:=List.mem_map.mp m
  have q:(kvs.any fun kv=>decide (kv.1=k))=true:=List.any_eq_true.mpr ⟨p,hp,decide_eq_true e⟩
  rw [valV_any,h] at q
  exact absurd q (by simp)
theorem valV_in {kvs:List (κ × V)} {k:κ} {v:V} (h:valV kvs k=some v):k ∈ kvs.map (·.1):=by
  have q:(kvs.any fun kv=>decide (kv.1=k))=true:=by
    rw [valV_any,h]
    all_goals rfl
  obtain ⟨p,hp,e⟩:=List.any_eq_true.mp q
  exact List.mem_map.mpr ⟨p,hp,of_decide_eq_true e⟩
theorem nd_snoc:∀ {l:List κ} {k:κ},l.Nodup→¬ k ∈ l→(l ++ [k]).Nodup
  | [],k,_,_=>by simp
  | a :: r, k, h, hk => by
    obtain ⟨h1,h2⟩:=List.nodup_cons.mp h
    show (a :: (r ++ [k])).Nodup
    refine List.nodup_cons.mpr ⟨fun m=>?_,nd_snoc h2 fun m=>hk (List.mem_cons.mpr (Or.inr m))⟩
    rcases List.mem_append.mp m with q | q
    · exact h1 q
    · exact hk (List.mem_cons.mpr (Or.inl (List.mem_singleton.mp q).symm))
end
end L2
namespace L2
open PySem PySem.Spec PyProof.Rows
def clGo (cells:List (Str × Addr)):List (Str × NameKind)→List (Str × Addr)→List (Str × Addr)
  | [],acc=>acc
  | (n,k) :: r,acc=>clGo cells r (if k == .free then (n,(cells.lookup n).getD 0) :: acc else acc)
theorem closure_go {env:Env}:∀ (names:List (Str × NameKind)) (acc:List (Str × Addr)),(∀ n,(n,NameKind.free) ∈ names→∃ c,env.cells.lookup n=some c) →
    (forIn names acc fun (x:Str × NameKind) (r:List (Str × Addr))=>(if x.2 == .free then (cellOf env x.1 >>= fun c=>pure (ForInStep.yield ((x.1,c) :: r))) else pure (ForInStep.yield r):Sem (ForInStep (List (Str × Addr)))))=pure (clGo env.cells names acc)
  | [],acc,_=>rfl
  | (n, k) :: r, acc, h => by
    rw [List.forIn_cons]
    have hr:∀ n,(n,NameKind.free) ∈ r→∃ c,env.cells.lookup n=some c:=fun n hn=>h n (List.mem_cons_of_mem _ hn)
    cases hk:k == NameKind.free with
    | false =>
      simp only [hk,Bool.false_eq_true,if_false,pure_bind]
      rw [closure_go r acc hr]
      show _=pure (clGo env.cells r (if k == NameKind.free then _ else acc))
      rw [hk]; rfl
    | true =>
      have e:k = .free:=by simpa using hk
      subst e
      obtain ⟨c,hc⟩:=h n List.mem_cons_self
      have e2:cellOf env n=pure c:=by unfold cellOf; rw [hc]
      simp only [hk,if_true,e2,pure_bind]
      rw [closure_go r _ hr]
      show _=pure (clGo env.cells r (if NameKind.free == NameKind.free then (n,(env.cells.lookup n).getD 0) :: acc else acc))
      rw [hc]; rfl
theorem closure_of {scope:Scope} {env:Env} (h:∀ n,(n,NameKind.free) ∈ scope.names→∃ c,env.cells.lookup n=some c):closureFor scope env=pure (clGo env.cells scope.names []):=by
  have e:=closure_go (env:=env) scope.names [] h
  unfold closureFor
  rw [← bind_pure (pure (clGo env.cells scope.names []):Sem _),← e]
theorem clGo_lookup {cells : List (Str × Addr)} {x : Str} {c : Addr} : ∀ (names : List (Str × NameKind)) (acc : List (Str × Addr)), (∀ n, (n, NameKind.free) ∈ names → ∃ c, cells.lookup n = some c) →
    (clGo cells names acc).lookup x=some c→cells.lookup x=some c∨acc.lookup x=some c
  | [],acc,_,h=>.inr h
  | (n, k) :: r, acc, hf, h => by
    have hr:∀ n,(n,NameKind.free) ∈ r→∃ c,cells.lookup n=some c:=fun n hn=>hf n (List.mem_cons_of_mem _ hn)
    unfold clGo at h
    rcases clGo_lookup r _ hr h with z | z
    · exact .inl z
    · cases hk:k == NameKind.free with
      | false=>rw [hk] at z; exact .inr z
      | true =>
        have e:k = .free:=by simpa using hk
        subst e
        obtain ⟨d,hd⟩:=hf n List.mem_cons_self
        rw [hk,if_pos rfl,hd] at z
        by_cases hx:x=n
        · subst hx
          rw [List.lookup_cons,beq_self_eq_true] at z
          exact .inl (by rw [hd]; exact z)
        · rw [List.lookup_cons,beq_false_of_ne hx] at z
          exact .inr z
theorem clGo_has {cells : List (Str × Addr)} {x : Str} : ∀ (names : List (Str × NameKind)) (acc : List (Str × Addr)), ((x, NameKind.free) ∈ names ∨ ∃ c, acc.lookup x = some c) → ∃ c, (clGo cells names acc).lookup x = some c
  | [],acc,h=>h.elim (fun z=>nomatch z) fun z=>z
  | (n, k) :: r, acc, h => by
    unfold clGo
    refine clGo_has r _ ?_
    rcases h with z | ⟨c,z⟩
    · rcases List.mem_cons.mp z with e | z
      · have e1:n=x:=(Prod.mk.inj e).1.symm
        have e2:k = .free:=(Prod.mk.inj e).2.symm
        subst e1 e2
        exact .inr ⟨_,by rw [if_pos (by rfl),List.lookup_cons,beq_self_eq_true]⟩
      · exact .inl z
    · refine .inr ?_
      split
      · rw [List.lookup_cons]
        cases x == n
        · exact ⟨c,z⟩
        · exact ⟨_,rfl⟩
      · exact ⟨c,z⟩
theorem relabel_back {env : Env} {x : Str} {k : NameKind} : ∀ {names : List (Str × NameKind)},
    (names.map fun (n,k)=>if (k == NameKind.free && env.scope.kind == .function && env.kindOf n == some .cell) then (n,NameKind.cell) else (n,k)).lookup x=some k →
      ∃ k0,names.lookup x=some k0∧(k=k0∨(k0 = .free∧k = .cell))
  | [],h=>by simp at h
  | (n, k1) :: r, h => by
    have ih:=@relabel_back env x k r
    have h:List.lookup x ((if (k1 == NameKind.free && env.scope.kind == .function && env.kindOf n == some .cell)=true then (n,NameKind.cell) else (n,k1)) :: r.map fun (n,k)=>if (k == NameKind.free && env.scope.kind == .function && env.kindOf n == some .cell) then (n,NameKind.cell) else (n,k))=some k:=h
    by_cases hc:(k1 == NameKind.free && env.scope.kind == .function && env.kindOf n == some .cell)=true
    · rw [if_pos hc,List.lookup_cons] at h
      rw [List.lookup_cons]
      have e:k1 = .free:=by
        rw [Bool.and_eq_true,Bool.and_eq_true] at hc
        simpa using hc.1.1
      cases hx:x == n with
      | true=>rw [hx] at h; exact ⟨k1,rfl,.inr ⟨e,(Option.some.inj h).symm⟩⟩
      | false=>rw [hx] at h; exact ih h
    · rw [if_neg hc,List.lookup_cons] at h
      rw [List.lookup_cons]
      cases hx:x == n with
      | true=>rw [hx] at h; exact ⟨k1,rfl,.inl (Option.some.inj h).symm⟩
      | false=>rw [hx] at h; exact ih h
theorem relabel_fwd {env:Env} {x:Str}:∀ {names:List (Str × NameKind)},names.lookup x=some .free →
    (names.map fun (n,k)=>if (k == NameKind.free && env.scope.kind == .function && env.kindOf n == some .cell) then (n,NameKind.cell) else (n,k)).lookup x=some .free ∨
    (names.map fun (n,k)=>if (k == NameKind.free && env.scope.kind == .function && env.kindOf n == some .cell) then (n,NameKind.cell) else (n,k)).lookup x=some .cell
  | [],h=>by simp at h
  | (n, k1) :: r, h => by
    have ih:=@relabel_fwd env x r
    show List.lookup x ((if (k1 == NameKind.free && env.scope.kind == .function && env.kindOf n == some .cell)=true then (n,NameKind.cell) else (n,k1)) :: r.map fun (n,k)=>if (k == NameKind.free && env.scope.kind == .function && env.kindOf n == some .cell) then (n,NameKind.cell) else (n,k))=some .free ∨
      List.lookup x ((if (k1 == NameKind.free && env.scope.kind == .function && env.kindOf n == some .cell)=true then (n,NameKind.cell) else (n,k1)) :: r.map fun (n,k)=>if (k == NameKind.free && env.scope.kind == .function && env.kindOf n == some .cell) then (n,NameKind.cell) else (n,k))=some .cell
    rw [List.lookup_cons] at h
    by_cases hc:(k1 == NameKind.free && env.scope.kind == .function && env.kindOf n == some .cell)=true
    · rw [if_pos hc,List.lookup_cons]
      cases hx:x == n with
      | true=>exact .inr rfl
      | false=>rw [hx] at h; exact ih h
    · rw [if_neg hc,List.lookup_cons]
      cases hx:x == n with
      | true=>rw [hx] at h; exact .inl h
      | false=>rw [hx] at h; exact ih h
theorem mem_of_lookup {x:Str} {k:NameKind}:∀ {names:List (Str × NameKind)},names.lookup x=some k→(x,k) ∈ names
  | [],h=>by simp at h
  | (n, k1) :: r, h => by
    rw [List.lookup_cons] at h
    cases hx:x == n with
    | true =>
      rw [hx] at h
      have e:x=n:=by simpa using hx
      rw [e,Option.some.inj h]; exact List.mem_cons_self
    | false=>rw [hx] at h; exact List.mem_cons_of_mem _ (mem_of_lookup h)
def cxC (X:Cx) (N:List Str) (scope:Scope) (s:Shared) (H:Hp) (fp:List Addr):Cx where
  prog:=X.prog
  w:=X.w
  K:=X.K
  mg:=X.mg
  base:=X.base
  A:=X.A
  N:=N
  s₀:=s
  H₀:=H
  env:=compEnvC scope (clGo X.env.cells scope.names []) s.heap.objs.size X.env
  outer:=X.stack
  stack:=X.stack
  ex:=fp
  fn:=fun _=>false
  calm:=X.calm
  pn:=[]
  xe:=fun _ _=>False
def Caps (X:Cx) (scope:Scope):List Nat→List Str→Prop
  | [],[]=>True
  | j :: js,y :: ys=>X.N[j]? = some y∧(X.env.kindOf y=some .cell∨X.env.kindOf y=some .free)∧scope.names.lookup y=some .free∧Caps X scope js ys
  | _,_=>False
def capV (σ:St) (js:List Nat):St:=js.map fun j=>(σ[j]?).join
theorem Caps.len {X:Cx} {scope:Scope}:∀ {js:List Nat} {ys:List Str},Caps X scope js ys→js.length=ys.length
  | [],[],_=>rfl
  | _ :: _,_ :: _,h=>by rw [List.length_cons,List.length_cons,Caps.len h.2.2.2]
  | [],_ :: _,h=>h.elim
  | _ :: _,[],h=>h.elim
theorem Caps.get {X:Cx} {scope:Scope} {σ:St} {y:Str} {v:V}:∀ {js:List Nat} {ys:List Str} {i:Nat},Caps X scope js ys→ys[i]? = some y→(capV σ js)[i]? = some (some v) →
    ∃ j:Nat,X.N[j]? = some y∧σ[j]? = some (some v)∧(X.env.kindOf y=some .cell∨X.env.kindOf y=some .free)∧scope.names.lookup y=some .free
  | [],[],i,_,e,_=>by simp at e
  | j :: js, z :: ys, 0, h, e, q => by
    simp only [List.getElem?_cons_zero,Option.some.injEq] at e
    subst e
    refine ⟨j,h.1,?_,h.2.1,h.2.2.1⟩
    have q':(σ[j]?).join=some v:=by simpa [capV] using q
    cases hj:σ[j]? with
    | none=>rw [hj] at q'; simp at q'
    | some o=>rw [hj] at q'; rw [← q']; rfl
  | j :: js,z :: ys,i+1,h,e,q=>Caps.get (i:=i) h.2.2.2 (by simpa using e) (by simpa [capV] using q)
  | [],_ :: _,_,h,_,_=>h.elim
  | _ :: _,[],_,h,_,_=>h.elim
section
variable {X:Cx} {pins:List (Addr × Obj)} {σ:St} {H:Hp} {s s':Shared} {scope:Scope} {fp:List Addr}
theorem cxC_ok {N : List Str} (I : Inv X pins σ H s) (hf : ∀ b ∈ fp, FpOk X pins H b) (hlt : ∀ b ∈ fp, b < s.heap.objs.size) (hkind : scope.kind = .function) (hcell : ∀ y ∈ scope.names, y.2 ≠ .cell)
    (hfr:∀ n,(n,NameKind.free) ∈ scope.names→∃ c,X.env.cells.lookup n=some c):(cxC X N scope s H fp).Ok where
  mod:=I.mod
  kind:=hkind
  glob:=I.ok.glob
  blt:=I.ok.blt
  above:=Nat.le_refl _
  inj:=fun x y c h1 h2=>I.ok.inj x y c ((clGo_lookup _ _ hfr h1).resolve_right (by simp)) ((clGo_lookup _ _ hfr h2).resolve_right (by simp))
  has := fun x hx => by
    refine clGo_has _ _ (.inl ?_)
    have key:∀ k,(k=NameKind.cell∨k=NameKind.free)→(relabel scope X.env).names.lookup x=some k→(x,NameKind.free) ∈ scope.names:=fun k hk e=>by
      obtain ⟨k0,e0,z⟩:=relabel_back e
      rcases z with z | ⟨z,_⟩
      · subst z
        rcases hk with hk | hk
        · subst hk; exact absurd rfl (hcell _ (mem_of_lookup e0))
        · subst hk; exact mem_of_lookup e0
      · subst z; exact mem_of_lookup e0
    rcases hx with hx | hx
    · exact key _ (.inl rfl) hx
    · exact key _ (.inr rfl) hx
  cab:=fun x c h=>by cases h
  hd:=I.ok.hd
  frames:=I.ok.frames
  stk:=.inl rfl
  exf:=fun b hb=>⟨Nat.ne_of_lt (hlt b hb),fun x c e=>(hf b hb).2.2.2.2.1 x c ((clGo_lookup _ _ hfr e).resolve_right (by simp))⟩
  bs:=I.bs
  bsz:=Nat.le_trans I.ok.bsz I.sz
  noex:=fun b o e hb=>by
    rcases (hf b hb).2.2.2.1 with z | z
    · exact I.ok.noex b o e z
    · exact absurd (Nat.lt_of_lt_of_le (Heap.lt_size e) (Nat.le_trans I.ok.bsz z)) (Nat.lt_irrefl _)
  exfs:=fun b hb hs=>by
    rcases List.mem_cons.mp (I.stkSub b hs) with z | z
    · exact (hf b hb).2.1 z
    · exact (hf b hb).2.2.1 z
  funs:=I.stack
  frf:=I.stkFree
theorem cxC_inv {own ys : List Str} {js : List Nat} {h1 : Heap} {tk : Nat} {m : Str → Option Value} (I : Inv X pins σ H s) (hf : ∀ b ∈ fp, FpOk X pins H b) (hlt : ∀ b ∈ fp, b < s.heap.objs.size) (hkind : scope.kind = .function)
    (hcell:∀ y ∈ scope.names,y.2≠.cell) (hfr:∀ n,(n,NameKind.free) ∈ scope.names→∃ c,X.env.cells.lookup n=some c) (hc:Caps X scope js ys)
    (hn:h1.Ns s.heap.objs.size m) (hk:∀ b o,s.heap.get? b=some o→h1.get? b=some o) :
    Inv (cxC X (own ++ ys) scope s H fp) [] (List.replicate own.length none ++ capV σ js) H { s with heap:=h1,toks:=tk }:=by
  have hcl:∀ x c,(clGo X.env.cells scope.names []).lookup x=some c→X.env.cells.lookup x=some c:=fun x c e=>(clGo_lookup _ _ hfr e).resolve_right (by simp)
  refine ⟨cxC_ok I hf hlt hkind hcell hfr,rfl,I.bare,Un.kept hk,⟨m,hn,fun i x v e1 e2 e3=>?_⟩,fun x c e=>?_,I.fresh,fun x c e=>I.freeC x c (hcl x c e),(fun p hp=>nomatch hp),I.hok.kept hk,?_⟩
  · have e1':(own ++ ys)[i]? = some x:=e1
    by_cases hi:i < own.length
    · rw [List.getElem?_append_left (by simpa using hi)] at e2
      rw [List.getElem?_replicate] at e2
      split at e2
      · cases Option.some.inj e2
      · cases e2
    · have hi':own.length≤i:=Nat.le_of_not_lt hi
      rw [List.getElem?_append_right hi'] at e1'
      rw [List.getElem?_append_right (by simpa using hi'),List.length_replicate] at e2
      obtain ⟨j,q1,q2,q3,q4⟩:=hc.get e1' e2
      obtain ⟨m0,_,hl⟩:=I.loc
      obtain ⟨u,r,l⟩:=hl j x v q1 q2 (by
        rcases q3 with q3 | q3
        · exact .inr (.inl q3)
        · exact .inr (.inr q3))
      refine ⟨u,r,.inr ⟨?_,?_⟩⟩
      · rcases relabel_fwd (env:=X.env) q4 with z | z
        · exact .inr z
        · exact .inl z
      · rcases l with ⟨k,_⟩ | ⟨_,c,hc1,hc2⟩
        · rcases q3 with q3 | q3 <;> rw [k] at q3 <;> cases Option.some.inj q3
        · obtain ⟨d,hd⟩:=clGo_has (cells:=X.env.cells) (x:=x) scope.names [] (.inl (mem_of_lookup q4))
          have hd':=hcl x d hd
          rw [hc1] at hd'
          cases Option.some.inj hd'
          obtain ⟨o,ho,hod⟩:=hc2
          exact ⟨c,hd,o,hk c o ho,hod⟩
  · obtain ⟨v,o,ho,hod⟩:=I.cell x c (hcl x c e)
    exact ⟨v,o,hk c o ho,hod⟩
  · show (List.replicate own.length none ++ capV σ js).length=(own ++ ys).length
    rw [List.length_append,List.length_append,List.length_replicate,capV,List.length_map,hc.len]
theorem cxC_back {N:List Str} {σ':St} {H':Hp} (I:Inv X pins σ H s) (hf:∀ b ∈ fp,FpOk X pins H b) (J:Inv (cxC X N scope s H fp) [] σ' H' s'):Inv X pins σ H' s' :=
  I.call' (ch:=fp) J.os J.base J.hok J.bare fun b hb=>⟨(hf b hb).2.2.2.1,(hf b hb).2.1,(hf b hb).2.2.2.2.1,(hf b hb).2.2.2.2.2⟩
end
section
variable {prog:Program} {w:World} {A:Around} {R:Result→Shared→Prop} {s:Shared}
theorem compLoop_any {elt target iter:Expr} {ifs:List Expr} {scope:Scope} {pos:Pos} {it acc:Value} {env:Env} (I:Nat→Shared→Prop)
    (turn : ∀ n s, I n s → wpAny (model prog w) A (pyNext it) (fun r s₁ => match r with
      | none=>R (.ok .next) s₁
      | some v=>wpAny (model prog w) A (letOwnedTupleGo target it v) (fun _ s₁'=>wpAny (model prog w) A (assign target env v) (fun _ s₂ =>
          wpAny (model prog w) A (forIn ifs true fun c r=>if r=true then do let ok ← isTrue c env (eval c env); pure (ForInStep.yield ok) else pure (ForInStep.yield r)) (fun ok s₃ =>
            if ok=true then wpAny (model prog w) A (eval elt env) (fun x s₄ =>
              wpAny (model prog w) A (call (.builtin "list.append") [acc,x]) (fun _ s₅=>∃ m,m < n∧I m s₅) (fun _ _=>False) s₄) (fun _ _=>False) s₃
            else ∃ m,m < n∧I m s₃) (fun _ _=>False) s₂) (fun _ _=>False) s₁') (fun _ _=>False) s₁) (fun _ _=>False) s)
    (n:Nat) (h:I n s) :
    codeAny (model prog w) A (.compLoop (.ListComp elt [⟨target,iter,ifs,0⟩] scope pos) 0 it acc env) R s:=by
  refine codeAny_loop rfl I (fun n s hI=>?_) n h
  show wpAny _ A ((compTurn (.ListComp elt [⟨target,iter,ifs,0⟩] scope pos) 0 it acc env).onRaise (fun x=>do noteFrame x env; theTreesLotGoes x)) _ _ s
  refine wpAny_noted ?_
  rw [compTurn_list]
  refine wpAny_bind (wpAny_standAt (wpAny_bind (wpAny_mono (turn n s hI) (fun r s₁ h₁=>?_) fun _ _ h'=>h'.elim)))
  cases r with
  | none=>exact wpAny_pure h₁
  | some v =>
    refine wpAny_bind (wpAny_mono h₁ (fun _ s₁' h₁'=>?_) fun _ _ h'=>h'.elim)
    refine wpAny_bind (wpAny_mono h₁' (fun _ s₂ h₂=>wpAny_bind (wpAny_mono h₂ (fun ok s₃ h₃=>?_) fun _ _ h'=>h'.elim)) fun _ _ h'=>h'.elim)
    cases ok with
    | false=>exact wpAny_pure ⟨rfl,h₃⟩
    | true =>
      exact wpAny_bind (wpAny_bind (wpAny_mono h₃ (fun x s₄ h₄=>wpAny_bind (wpAny_mono h₄ (fun _ s₅ h₅=>wpAny_pure (wpAny_pure ⟨rfl,h₅⟩)) fun _ _ h'=>h'.elim)) fun _ _ h'=>h'.elim))
end
def PIfs (X : Cx) (ifs : List Expr) (t : TT) : Prop :=
  ∀ (pins : List (Addr × Obj)) (s : Shared) (σ : St) (H : Hp) (Q : Bool → Hp → Prop), Inv X pins σ H s → t σ H Q →
    wpAny (model X.prog X.w) X.A (forIn ifs true fun c r=>if r=true then do let ok ← isTrue c X.env (eval c X.env); pure (ForInStep.yield ok) else pure (ForInStep.yield r)) (TP X pins σ Q) X.xe s
def tYes:TT:=fun _ H Q=>Q true H
theorem pifs_nil {X:Cx}:PIfs X [] tYes:=fun _ _ _ H _ I h=>wpAny_tests_nil ⟨H,I,h⟩
theorem pifs_one {X:Cx} {c:Expr} {t:TT} (h:PT X c t):PIfs X [c] t:=fun pins s σ H Q I q=>wpAny_tests_one (h pins s σ H Q I q)
def tComp (own : Nat) (js : List Nat) (wi : TI) (g : TG) (tt : TT) (te : TE) : TE := fun σ H Q => wi σ H fun J H1 => ∀ acc, H1 acc = none →
  ∃ W : Nat → Nat → List V → St → Hp → Prop, (∃ m, W 0 m [] (List.replicate own none ++ capV σ js) (upd H1 acc (.lst []))) ∧ ∀ i m ys σ' H', W i m ys σ' H' → H' acc = some (.lst ys) ∧
    ((J.stop i H'∧Q (.ref acc) H')∨(J.go i H'∧∀ x H2,J.yld i H' x H2→g x σ' H2 fun σ2 H3=>tt σ2 H3 fun b H4 =>
      if b=true then te σ2 H4 fun y H5=>H5 acc=some (.lst ys)∧ys.length < sizeLine∧∃ m',m' < m∧W (i+1) m' (ys ++ [y]) σ2 (upd H5 acc (.lst (ys ++ [y]))) else ∃ m',m' < m∧W (i+1) m' ys σ2 H4))
section
variable {X:Cx}
theorem comp_run {elt tg iter : Expr} {ifs : List Expr} {scope : Scope} {pos : Pos} {own ys : List Str} {js : List Nat} {wi : TI} {g : TG} {tt : TT} {te : TE} {pins : List (Addr × Obj)} {s : Shared} {σ : St} {H : Hp} {Q : VK}
    {use:Option (Value→Sem Unit)} {Q':Value→Shared→Prop} {p:Pos} (hcalm:X.calm=true)
    (hi:PI X tg iter wi) (hkind:scope.kind = .function) (hcell:∀ y ∈ scope.names,y.2≠.cell) (hnames:∀ y ∈ scope.names,y.2 = .local→scope.names.lookup y.1=some .local)
    (hfr:∀ n,(n,NameKind.free) ∈ scope.names→∃ c,X.env.cells.lookup n=some c) (hc:Caps X scope js ys)
    (hg:∀ s0 H0 fp,PG (cxC X (own ++ ys) scope s0 H0 fp) tg g) (ht:∀ s0 H0 fp,PIfs (cxC X (own ++ ys) scope s0 H0 fp) ifs tt) (he:∀ s0 H0 fp,PE (cxC X (own ++ ys) scope s0 H0 fp) elt te)
    (I:Inv X pins σ H s) (h:tComp own.length js wi g tt te σ H Q)
    (hu:∀ (D C:Addr) (H':Hp) (s':Shared),Inv X pins σ H' s'→Q (.ref D) H'→FpOk X pins H' C→(∃ m,s'.heap.Ns C m)→compPost (model X.prog X.w) X.A X.xe use Q' (.ref D) C (.ok .next) s')
    (hs:∀ x,foldedSetIterable iter X.env x=pure x) :
    wpAny (model X.prog X.w) X.A (comprehension (.ListComp elt [⟨tg,iter,ifs,0⟩] scope pos) scope X.env p (newList []) false (eval iter X.env) use) Q' X.xe s:=by
  refine wpAny_comprehension_free (g:=⟨tg,iter,ifs,0⟩) (gs:=[]) rfl hs (closure_of hfr) hkind hnames (thn (hi pins s σ H _ I h) fun v s1 h1=>thn h1 fun itv s2 h2=>?_)
  obtain ⟨it,fp,tn,J,H2,e,I2,T,st2,f2,q⟩:=h2
  subst e
  refine wpAny_newObj_type (wpAny_newFunctionEnv hcell (by intro y hy; simp at hy) (fun h₁ hns₁ hsb₁=>?_) hkind)
  dsimp only at hns₁ hsb₁ ⊢
  have nD:H2 s2.heap.objs.size=none:=I2.fresh
  have I3:Inv X pins σ (upd H2 s2.heap.objs.size (.lst [])) { s2 with heap:=s2.heap.push { cls:=.type "list",data:=.seq ([]:List Value).toArray },toks:=s2.toks }:=I2.lnew (its:=[]) .nil (Nat.zero_le _)
  have hlt2:∀ b ∈ fp,b < s2.heap.objs.size:=fun b hb=>let ⟨o,e,_⟩:=T.obj _ _ st2 b hb; Heap.lt_size e
  obtain ⟨W,⟨m0,w0⟩,turn⟩:=q _ nD
  generalize hs3:({ s2 with heap:=s2.heap.push { cls:=.type "list",data:=.seq ([]:List Value).toArray },toks:=s2.toks }:Shared)=s3 at I3
  have hh3:s2.heap.push { cls:=.type "list",dict:=none,data:=.seq ([]:List Value).toArray } = s3.heap:=by rw [← hs3]
  have hsz3:s3.heap.objs.size=s2.heap.objs.size+1:=by rw [← hh3,Heap.size_push]
  have hlt3:∀ b ∈ fp,b < s3.heap.objs.size:=fun b hb=>by rw [hsz3]; exact Nat.lt_succ_of_lt (hlt2 b hb)
  have f3:∀ b ∈ fp,FpOk X pins (upd H2 s2.heap.objs.size (.lst [])) b:=fun b hb=>⟨by rw [upd_ne (Nat.ne_of_lt (hlt2 b hb))]; exact (f2 b hb).1,(f2 b hb).2⟩
  have fC:FpOk X pins (upd H2 s2.heap.objs.size (.lst [])) s3.heap.objs.size:=I3.fpOk (Nat.le_refl _) I3.fresh
  rw [hh3] at hns₁ hsb₁ ⊢
  have hk3:∀ b o,s3.heap.get? b=some o→h₁.get? b=some o:=fun b o e=>hsb₁.extBut b o (Nat.ne_of_lt (Heap.lt_size e)) (Heap.get?_push_of_some _ e)
  have es4:({ s2 with heap:=h₁,toks:=s2.toks+([]:List (Str × Value)).length }:Shared) = { s3 with heap:=h₁,toks:=s2.toks+([]:List (Str × Value)).length }:=by rw [← hs3]
  have I4:=cxC_inv (own:=own) (h1:=h₁) (tk:=s2.toks+([]:List (Str × Value)).length) I3 f3 hlt3 hkind hcell hfr hc hns₁ hk3
  have st4:tn 0 h₁:=T.keep _ _ _ st2 fun b hb o e=>hk3 b o (by rw [← hh3]; exact Heap.get?_push_of_some _ e)
  have stat:∀ {H':Hp},(∀ b ∈ fp,H' b=none)→∀ b ∈ fp,FpOk (cxC X (own ++ ys) scope s3 (upd H2 s2.heap.objs.size (.lst [])) fp) [] H' b:=fun hn b hb =>
    ⟨hn b hb,Nat.ne_of_lt (hlt3 b hb),(cxC_ok (N:=own ++ ys) I3 f3 hlt3 hkind hcell hfr).exfs b hb,.inl hb,fun x c e=>((cxC_ok (N:=own ++ ys) I3 f3 hlt3 hkind hcell hfr).exf b hb).2 x c e,fun p hp=>nomatch hp⟩
  have loop:∀ s4:Shared,s4 = { s3 with heap:=h₁,toks:=s2.toks+([]:List (Str × Value)).length } →
      codeAny (model X.prog X.w) X.A (.compLoop (.ListComp elt [⟨tg,iter,ifs,0⟩] scope pos) 0 (.ref it) (.ref s2.heap.objs.size) (compEnvC scope (clGo X.env.cells scope.names []) s3.heap.objs.size X.env))
        (compPost (model X.prog X.w) X.A X.xe use Q' (.ref s2.heap.objs.size) s3.heap.objs.size) s4:=by
    rintro s4 rfl
    refine compLoop_any (fun n s'=>∃ i ys' σ' H',Inv (cxC X (own ++ ys) scope s3 (upd H2 s2.heap.objs.size (.lst [])) fp) [] σ' H' s'∧tn i s'.heap∧(∀ b ∈ fp,H' b=none)∧W i n ys' σ' H') ?_ m0
      ⟨0,[],_,_,I4,st4,fun b hb=>(f3 b hb).1,w0⟩
    rintro n s5 ⟨i,ys',σ5,H5,I5,st5,fr5,w5⟩
    obtain ⟨hacc,rest⟩:=turn i n ys' σ5 H5 w5
    rcases rest with ⟨stop,qn⟩ | ⟨go,step⟩
    · refine thn (T.done (cxC X (own ++ ys) scope s3 (upd H2 s2.heap.objs.size (.lst [])) fp) rfl rfl rfl hcalm i [] s5 σ5 H5 _ I5 (stat fr5) st5 stop) fun r s6 ⟨hr,I6⟩=>?_
      subst hr
      exact hu _ _ H5 s6 (cxC_back I3 f3 I6) qn ⟨I6.free,fC.2⟩ (let ⟨m,hn,_⟩:=I6.loc; ⟨m,hn⟩)
    · refine thn (T.item (cxC X (own ++ ys) scope s3 (upd H2 s2.heap.objs.size (.lst [])) fp) rfl rfl rfl hcalm i [] s5 σ5 H5 _ I5 (stat fr5) st5 go) fun r s6 ⟨u,hr,h6⟩=>?_
      subst hr
      refine thn h6 fun _ s7 ⟨x,H7,I7,r7,y7,st7,fr7⟩=>?_
      have I7':=I7.pinned (stat fr7) (T.obj _ _ st7)
      refine thn (hg _ _ _ _ s7 σ5 H7 x u _ I7' r7 (step x H7 y7)) fun _ s8 ⟨σ8,H8,I8,q8⟩=>?_
      refine thn (ht _ _ _ _ s8 σ8 H8 _ I8 q8) fun ok s9 ⟨H9,I9,q9⟩=>?_
      have kept:∀ {s10:Shared} {σ10:St} {H10:Hp},Inv (cxC X (own ++ ys) scope s3 (upd H2 s2.heap.objs.size (.lst [])) fp) ([] ++ pinsAt fp s7.heap) σ10 H10 s10 →
          Inv (cxC X (own ++ ys) scope s3 (upd H2 s2.heap.objs.size (.lst [])) fp) [] σ10 H10 s10∧tn (i+1) s10.heap∧∀ b ∈ fp,H10 b=none:=fun {s10 σ10 H10} I10=>by
        refine ⟨I10.unpinned,T.keep _ _ _ st7 fun b hb o e=>(I10.pin (b,o) (List.mem_append_right _ (List.mem_append_right _ (mem_pinsAt hb e)))).1,fun b hb=>?_⟩
        obtain ⟨o,e,d⟩:=T.obj _ _ st7 b hb
        exact (I10.pin (b,o) (List.mem_append_right _ (List.mem_append_right _ (mem_pinsAt hb e)))).2.1
      cases ok with
      | false =>
        simp only [Bool.false_eq_true,if_false] at q9 ⊢
        obtain ⟨m',hm,w9⟩:=q9
        obtain ⟨k1,k2,k3⟩:=kept I9
        exact ⟨m',hm,i+1,ys',σ8,H9,k1,k2,k3,w9⟩
      | true =>
        simp only [if_true] at q9 ⊢
        refine thn (he _ _ _ _ s9 σ8 H9 _ I9 q9) fun yv s10 ⟨y,H10,I10,r10,a10,l10,m',hm,w10⟩=>?_
        refine thn (mt_append (X:=cxC X (own ++ ys) scope s3 (upd H2 s2.heap.objs.size (.lst [])) fp) _ s10 σ8 H10 (.ref s2.heap.objs.size) [y] (.ref s2.heap.objs.size) [yv] (fun v H'=>v = .non∧H'=upd H10 s2.heap.objs.size (.lst (ys' ++ [y]))) I10 rfl (.cons r10 .nil) ⟨_,_,_,rfl,rfl,a10,l10,rfl,rfl⟩) fun _ s11 ⟨_,H11,I11,_,_,e11⟩=>?_
        subst e11
        obtain ⟨k1,k2,k3⟩:=kept I11
        exact ⟨m',hm,i+1,_,σ8,_,k1,k2,k3,w10⟩
  have fin:=codeAny_compStart_list (R:=compPost (model X.prog X.w) X.A X.xe use Q' (.ref s2.heap.objs.size) s3.heap.objs.size) (loop _ rfl) (T.self X.A 0 { s3 with heap:=h₁,toks:=s2.toks+([]:List (Str × Value)).length } _ _ st4 (loop _ rfl))
  rw [← hs3] at fin ⊢
  exact fin
theorem frees_of {pins:List (Addr × Obj)} {σ:St} {H:Hp} {s:Shared} {scope:Scope} (I:Inv X pins σ H s) (h:(scope.names.all fun y=>y.2 != .free || X.env.kindOf y.1 == some .cell || X.env.kindOf y.1 == some .free)=true) :
    ∀ n,(n,NameKind.free) ∈ scope.names→∃ c,X.env.cells.lookup n=some c:=fun n hn=>by
  have q:=List.all_eq_true.mp h _ hn
  simp only [bne_self_eq_false,Bool.false_or,Bool.or_eq_true,beq_iff_eq] at q
  exact I.ok.has n q
theorem pe_comp {elt tg iter:Expr} {ifs:List Expr} {scope:Scope} {pos:Pos} (own:List Str) {ys:List Str} (js:List Nat) {wi:TI} {g:TG} {tt:TT} {te:TE} (hcalm:X.calm=true)
    (hi:PI X tg iter wi) (hc:Caps X scope js ys)
    (hg:∀ s0 H0 fp,PG (cxC X (own ++ ys) scope s0 H0 fp) tg g) (ht:∀ s0 H0 fp,PIfs (cxC X (own ++ ys) scope s0 H0 fp) ifs tt) (he:∀ s0 H0 fp,PE (cxC X (own ++ ys) scope s0 H0 fp) elt te)
    (hfr:(scope.names.all fun y=>y.2 != .free || X.env.kindOf y.1 == some .cell || X.env.kindOf y.1 == some .free)=true:=by rfl)
    (hkind:scope.kind = .function:=by rfl) (hcell:∀ y ∈ scope.names,y.2≠.cell:=by decide +kernel) (hnames:∀ y ∈ scope.names,y.2 = .local→scope.names.lookup y.1=some .local:=by decide +kernel)
    (hs:∀ x,foldedSetIterable iter X.env x=pure x:=by intro _; rfl):PE X (.ListComp elt [⟨tg,iter,ifs,0⟩] scope pos) (tComp own.length js wi g tt te):=by
  intro pins s σ H Q I h
  rw [eval_ListComp]
  refine comp_run (use:=none) hcalm hi hkind hcell hnames (frees_of I hfr) hc hg ht he I h (fun D C H' s' I' q fC ⟨m,hn⟩=>⟨m,hn,fun h' hs'=>⟨.ref D,H',?_,rfl,q⟩⟩) hs
  exact I'.turned (t':=s'.toks) (fun b o hb e=>(hs'.2 b hb).trans e) fC.1 fC.2.1 fC.2.2.2.1 fC.2.2.2.2.1 fC.2.2.2.2.2
theorem ps_comp {elt tg iter:Expr} {ifs:List Expr} {scope:Scope} {pos spos py:Pos} {i:Nat} {y:Str} (own:List Str) {ys:List Str} (js:List Nat) {wi:TI} {g:TG} {tt:TT} {te:TE} (hcalm:X.calm=true)
    (hN:X.N.Nodup) (hy:X.N[i]? = some y) (hl:X.env.scope.names.lookup y=some .local)
    (hi:PI X tg iter wi) (hc:Caps X scope js ys)
    (hg:∀ s0 H0 fp,PG (cxC X (own ++ ys) scope s0 H0 fp) tg g) (ht:∀ s0 H0 fp,PIfs (cxC X (own ++ ys) scope s0 H0 fp) ifs tt) (he:∀ s0 H0 fp,PE (cxC X (own ++ ys) scope s0 H0 fp) elt te)
    (hfr:(scope.names.all fun y=>y.2 != .free || X.env.kindOf y.1 == some .cell || X.env.kindOf y.1 == some .free)=true:=by rfl)
    (hsw:swapsWith (.ListComp elt [⟨tg,iter,ifs,0⟩] scope pos) (some (.Name y py)) spos.line X.env=pure true:=by rfl)
    (hkind:scope.kind = .function:=by rfl) (hcell:∀ y ∈ scope.names,y.2≠.cell:=by decide +kernel) (hnames:∀ y ∈ scope.names,y.2 = .local→scope.names.lookup y.1=some .local:=by decide +kernel)
    (hs:∀ x,foldedSetIterable iter X.env x=pure x:=by intro _; rfl) :
    PS X (.Assign [.Name y py] (.ListComp elt [⟨tg,iter,ifs,0⟩] scope pos) spos) (tAsg (tComp own.length js wi g tt te) (gName i)):=by
  intro pins s σ H D I h
  rw [exec_Assign_Name_used _ _ _ _ hsw]
  refine wpAny_bind (wpAny_standAt (wpAny_bind ?_))
  show wpAny _ X.A (do let _ ← comprehension (.ListComp elt [⟨tg,iter,ifs,0⟩] scope pos) scope X.env _ (newList []) false (eval iter X.env) (some (assign (.Name y py) X.env))) _ _ s
  refine wpAny_bind (wpAny_mono (comp_run (Q:=fun x H1=>gName i x σ H1 D.nx) (Q':=fun _ s'=>SP X pins D .next s') (use:=some (assign (.Name y py) X.env)) hcalm hi hkind hcell hnames (frees_of I hfr) hc hg ht he I h (fun Dd C H' s' I' q fC ⟨m,hn⟩=>?_) hs) (fun _ s' hq=>wpAny_pure (wpAny_pure hq)) fun _ _ e=>e)
  show wpAny _ X.A (assign (.Name y py) X.env (.ref Dd)) _ _ _
  refine wpAny_assign_Name (store_ok2 (v:=.ref Dd) I' hN hy (.inl hl) rfl (fun s'' I'' ⟨a,sb,ha⟩=>?_) (.inr hl))
  have hCa:C≠a:=by
    rcases ha with z | z
    · rw [z]; exact fC.2.1
    · exact Ne.symm (fC.2.2.2.2.1 _ _ z)
  refine ⟨m,hn.sameBut sb hCa,fun h' hs'=>?_⟩
  exact ⟨_,H',I''.turned (t':=s''.toks) (fun b o hb e=>(hs'.2 b hb).trans e) fC.1 fC.2.1 fC.2.2.2.1 fC.2.2.2.2.1 fC.2.2.2.2.2,q⟩
end
end L2
namespace L2
open PySem PySem.Spec PyProof.Rows
mutual
def Rep (K:PySem.W.Frag) (H:Hp):PyData→V→Prop
  | .none,v=>v = .non
  | .bool b,v=>v = .bl b
  | .int i,v=>v = .int i
  | .str x,v=>v = .str x
  | .list ds,v=>∃ a xs,v = .ref a∧SqL K H a xs∧RepAll K H ds xs
  | .tuple ds,v=>∃ a xs,v = .ref a∧SqT K H a xs∧RepAll K H ds xs
  | .dict _,_=>False
def RepAll (K:PySem.W.Frag) (H:Hp):List PyData→List V→Prop
  | [],vs=>vs=[]
  | d :: ds,vs=>∃ v r,vs=v :: r∧Rep K H d v∧RepAll K H ds r
end
section
variable {X:Cx} {pins:List (Addr × Obj)} {σ:St} {H:Hp} {s:Shared}
mutual
theorem Rep.reads (I:Inv X pins σ H s):∀ (d:PyData) (v:V) (u:Value),Rep X.K H d v→RelV v u→∃ as,Reads s.heap u d as
  | .none, v, u, h, r => by
    cases (show v = .non by simpa only [Rep] using h)
    cases (show u=Value.none from r); exact ⟨_,.none⟩
  | .bool b, v, u, h, r => by
    cases (show v = .bl b by simpa only [Rep] using h)
    cases (show u=Value.bool b from r); exact ⟨_,.bool b⟩
  | .int i, v, u, h, r => by
    cases (show v = .int i by simpa only [Rep] using h)
    obtain ⟨t,rfl⟩:=(show ∃ t,u=Value.int i t from r); exact ⟨_,.int i t⟩
  | .str x, v, u, h, r => by
    cases (show v = .str x by simpa only [Rep] using h)
    obtain ⟨t,rfl⟩:=(show ∃ t,u=Value.str x t from r); exact ⟨_,.str x t⟩
  | .list ds, v, u, h, r => by
    obtain ⟨a,xs,rfl,hq,ha⟩:=(show ∃ a xs,v = .ref a∧SqL X.K H a xs∧RepAll X.K H ds xs by simpa only [Rep] using h)
    cases (show u=Value.ref a from r)
    obtain ⟨its,rv,⟨o,n,e1,e2,_,e3⟩,_⟩:=I.list hq
    obtain ⟨as,ra⟩:=RepAll.reads I ds xs its ha rv
    exact ⟨_,.list e1 e2 e3 (by simpa using ra)⟩
  | .tuple ds, v, u, h, r => by
    obtain ⟨a,xs,rfl,hq,ha⟩:=(show ∃ a xs,v = .ref a∧SqT X.K H a xs∧RepAll X.K H ds xs by simpa only [Rep] using h)
    cases (show u=Value.ref a from r)
    obtain ⟨its,rv,⟨o,e1,e2,n,e3⟩,_⟩:=I.tuple hq
    obtain ⟨as,ra⟩:=RepAll.reads I ds xs its ha rv
    exact ⟨_,.tuple e1 e2 e3 (by simpa using ra)⟩
  | .dict _,v,u,h,r=>absurd h (by simp only [Rep]; exact fun z=>z)
theorem RepAll.reads (I:Inv X pins σ H s):∀ (ds:List PyData) (vs:List V) (us:List Value),RepAll X.K H ds vs→Vals vs us→∃ as,ReadsAll s.heap us ds as
  | [], vs, us, h, r => by
    cases (show vs=[] by simpa only [RepAll] using h)
    cases r; exact ⟨_,.nil⟩
  | d :: ds, vs, us, h, r => by
    obtain ⟨v,rr,rfl,h1,h2⟩:=(show ∃ v r,vs=v :: r∧Rep X.K H d v∧RepAll X.K H ds r by simpa only [RepAll] using h)
    cases r with
    | cons ru rs =>
      obtain ⟨as,r1⟩:=Rep.reads I d v _ h1 ru
      obtain ⟨bs,r2⟩:=RepAll.reads I ds rr _ h2 rs
      exact ⟨_,.cons r1 r2⟩
end
end
theorem RepAll.cons {K:PySem.W.Frag} {H:Hp} {d:PyData} {v:V} {ds:List PyData} {vs:List V} (h1:Rep K H d v) (h2:RepAll K H ds vs):RepAll K H (d :: ds) (v :: vs):=by
  simp only [RepAll]; exact ⟨v,vs,rfl,h1,h2⟩
theorem RepAll.nil {K:PySem.W.Frag} {H:Hp}:RepAll K H [] []:=by simp only [RepAll]
theorem Rep.int {K:PySem.W.Frag} {H:Hp} (i:Int):Rep K H (.int i) (.int i):=by simp only [Rep]
theorem Rep.lst {K:PySem.W.Frag} {H:Hp} {a:Addr} {xs:List V} {ds:List PyData} (h:SqL K H a xs) (r:RepAll K H ds xs):Rep K H (.list ds) (.ref a):=by
  simp only [Rep]; exact ⟨a,xs,rfl,h,r⟩
theorem Rep.tup {K:PySem.W.Frag} {H:Hp} {a:Addr} {xs:List V} {ds:List PyData} (h:SqT K H a xs) (r:RepAll K H ds xs):Rep K H (.tuple ds) (.ref a):=by
  simp only [Rep]; exact ⟨a,xs,rfl,h,r⟩
theorem RepAll.ints {K:PySem.W.Frag} {H:Hp}:∀ (ns:List Int),RepAll K H (ns.map .int) (ns.map V.int)
  | []=>RepAll.nil
  | n :: ns=>RepAll.cons (Rep.int n) (RepAll.ints ns)
section
variable {X:Cx}
structure Fine (d:PyData):Prop where
  lay:d.canLay0=true
  dep:d.depth≤60
def rEqD (K:PySem.W.Frag) (neg:Bool):R2:=fun x y H Q=>∃ dx dy,Rep K H dx x∧Rep K H dy y∧Fine dx∧Fine dy∧Q (.bl (if neg then !PyData.eqv dx dy else PyData.eqv dx dy)) H
theorem op_eqD (hu:X.A.units+64 < cLine):OpR X (compareOp .Eq) (rEqD X.K false):=by
  intro pins s σ H x y v u Q I rx ry h
  obtain ⟨dx,dy,h1,h2,f1,f2,q⟩:=h
  obtain ⟨as,r1⟩:=Rep.reads I dx x v h1 rx
  obtain ⟨bs,r2⟩:=Rep.reads I dy y u h2 ry
  have:=f1.dep
  exact SeqAt.compareEq_reads r1 r2 f1.lay f2.lay (Nat.lt_of_le_of_lt (Nat.add_le_add_left (Nat.le_trans (Nat.min_le_left _ _) (Nat.le_trans f1.dep (by decide))) _) hu) ⟨.bl _,H,I,rfl,q⟩
theorem op_neD (hu:X.A.units+64 < cLine):OpR X (compareOp .NotEq) (rEqD X.K true):=by
  intro pins s σ H x y v u Q I rx ry h
  obtain ⟨dx,dy,h1,h2,f1,f2,q⟩:=h
  obtain ⟨as,r1⟩:=Rep.reads I dx x v h1 rx
  obtain ⟨bs,r2⟩:=Rep.reads I dy y u h2 ry
  exact SeqAt.compareNe_reads r1 r2 f1.lay f2.lay (Nat.lt_of_le_of_lt (Nat.add_le_add_left (Nat.le_trans (Nat.min_le_left _ _) (Nat.le_trans f1.dep (by decide))) _) hu) ⟨.bl _,H,I,rfl,q⟩
def rEqG (K:PySem.W.Frag):R2:=fun x y H Q=>rEq x y H Q∨rEqD K false x y H Q
def rNeG (K:PySem.W.Frag):R2:=fun x y H Q=>rNe x y H Q∨rEqD K true x y H Q
theorem op_eqG (hu:X.A.units+64 < cLine):OpR X (compareOp .Eq) (rEqG X.K):=op_eq.or (op_eqD hu)
theorem op_neG (hu:X.A.units+64 < cLine):OpR X (compareOp .NotEq) (rNeG X.K):=op_ne.or (op_neD hu)
def rInD (K:PySem.W.Frag) (neg:Bool):R2:=fun x y H Q=>∃ d ds,Rep K H d x∧(Rep K H (.list ds) y∨Rep K H (.tuple ds) y)∧Fine d∧PyData.canLayAll0 ds=true∧Q (.bl (if neg then !(ds.any fun e=>PyData.eqv e d) else ds.any fun e=>PyData.eqv e d)) H
theorem op_inD (hu:X.A.units+64 < cLine):OpR X (compareOp .In) (rInD X.K false):=by
  intro pins s σ H x y v u Q I rx ry h
  obtain ⟨d,ds,h1,h2,f1,f2,q⟩:=h
  obtain ⟨as,r1⟩:=Rep.reads I d x v h1 rx
  have hb:X.A.units+1+min (PyData.depthAll ds) d.depth < cLine:=Nat.lt_of_le_of_lt (by have:=f1.dep; omega) hu
  rcases h2 with h2 | h2
  · obtain ⟨bs,r2⟩:=Rep.reads I _ y u h2 ry
    exact SeqAt.in_list_reads r2 r1 f2 f1.lay hb ⟨.bl _,H,I,rfl,q⟩
  · obtain ⟨bs,r2⟩:=Rep.reads I _ y u h2 ry
    exact SeqAt.in_tuple_reads r2 r1 f2 f1.lay hb ⟨.bl _,H,I,rfl,q⟩
theorem op_notInD (hu:X.A.units+64 < cLine):OpR X (compareOp .NotIn) (rInD X.K true):=by
  intro pins s σ H x y v u Q I rx ry h
  obtain ⟨d,ds,h1,h2,f1,f2,q⟩:=h
  obtain ⟨as,r1⟩:=Rep.reads I d x v h1 rx
  have hb:X.A.units+1+min (PyData.depthAll ds) d.depth < cLine:=Nat.lt_of_le_of_lt (by have:=f1.dep; omega) hu
  rcases h2 with h2 | h2
  · obtain ⟨bs,r2⟩:=Rep.reads I _ y u h2 ry
    exact SeqAt.notIn_list_reads r2 r1 f2 f1.lay hb ⟨.bl _,H,I,rfl,q⟩
  · obtain ⟨bs,r2⟩:=Rep.reads I _ y u h2 ry
    exact SeqAt.notIn_tuple_reads r2 r1 f2 f1.lay hb ⟨.bl _,H,I,rfl,q⟩
def rInK (neg:Bool):R2:=fun y x H Q=>∃ a o,x = .ref a∧DGet H a y o∧Q (.bl (if neg then !o.isSome else o.isSome)) H
theorem op_inK (hu:X.A.units+64 < cLine):OpR X (compareOp .In) (rInK false):=by
  intro pins s σ H y x iv u Q I ry rx h
  obtain ⟨a,o,rfl,g,q⟩:=h
  cases rx
  exact d_in (Nat.lt_of_le_of_lt (by omega) hu) I g ry fun s' I'=>⟨.bl _,H,I',rfl,q⟩
theorem op_notInK (hu:X.A.units+64 < cLine):OpR X (compareOp .NotIn) (rInK true):=by
  intro pins s σ H y x iv u Q I ry rx h
  obtain ⟨a,o,rfl,g,q⟩:=h
  cases rx
  exact d_notIn (Nat.lt_of_le_of_lt (by omega) hu) I g ry fun s' I'=>⟨.bl _,H,I',rfl,q⟩
def rInG (K:PySem.W.Frag) (neg:Bool):R2:=fun x y H Q=>rInD K neg x y H Q∨rInK neg x y H Q
theorem op_inG (hu:X.A.units+64 < cLine):OpR X (compareOp .In) (rInG X.K false):=(op_inD hu).or (op_inK hu)
theorem op_notInG (hu:X.A.units+64 < cLine):OpR X (compareOp .NotIn) (rInG X.K true):=(op_notInD hu).or (op_notInK hu)
def rAddG:R2:=fun x y H Q=>rI0 (fun i j=>.int (i+j)) x y H Q∨rCat x y H Q
theorem op_addG:OpR X (binaryOp .Add) rAddG:=op_add.or op_cat
def rIxD:R2:=fun x y H Q=>∃ a v,x = .ref a∧DGet H a y (some v)∧Q v H
theorem ix_dict (hu:X.A.units+64 < cLine):IxR X rIxD:=by
  intro value slice pins s σ H x y v u Q I rx ry h hs
  obtain ⟨a,z,rfl,g,q⟩:=h
  cases rx
  exact tail_any (dict_typeIs I g) PySem.F.slot_dict_getitem.lookup (d_getItem (Nat.lt_of_le_of_lt (by omega) hu) I g ry fun w' s' I' r'=>⟨z,H,I',r',q⟩) hs
def rIxG (K:PySem.W.Frag):R2:=fun x y H Q=>(rIxL K x y H Q∨rIxT K x y H Q)∨rIxD x y H Q
theorem ix_G (hu:X.A.units+64 < cLine):IxR X (rIxG X.K):=(ix_list.or ix_tup).or (ix_dict hu)
def rSetD:V→V→V→Hp→(Hp→Prop)→Prop:=fun o i v H Q=>∃ a H',o = .ref a∧DPut H a i v H'∧Q H'
theorem set_dict (hu:X.A.units+64 < cLine):PSet X rSetD:=by
  intro pins s σ H o i v ov iv u Q I ro ri rv h
  obtain ⟨a,H',rfl,g,q⟩:=h
  cases ro
  exact d_setItem (Nat.lt_of_le_of_lt (by omega) hu) I g ri rv fun s' I'=>⟨H',I',q⟩
def rSetG:V→V→V→Hp→(Hp→Prop)→Prop:=fun o i v H Q=>rSetL o i v H Q∨rSetD o i v H Q
theorem set_G (hu:X.A.units+64 < cLine):PSet X rSetG:=by
  intro pins s σ H o i v ov iv u Q I ro ri rv h
  rcases h with h | h
  · exact set_list pins s σ H o i v ov iv u Q I ro ri rv h
  · exact set_dict hu pins s σ H o i v ov iv u Q I ro ri rv h
def rLen (K:PySem.W.Frag):List V→Hp→VK→Prop:=fun xs H Q=>(∃ p ys,xs=[.ref p]∧(SqL K H p ys∨SqT K H p ys)∧Q (.int ys.length) H)∨(∃ a kvs,xs=[V.ref a]∧H a=some (.dK kvs)∧Q (.int kvs.length) H)
theorem call_lenG:CallR X (.builtin "len") (rLen X.K):=call_len_seq.or call_lenD
def rIsi (K:PySem.W.Frag):List V→Hp→VK→Prop:=fun xs H Q=>∃ x T t b,xs=[x,.ty T]∧TyOf K H x t∧PySem.W.kitOne K t (.type T)=some b∧Q (.bl b) H
theorem call_isi:CallR X (.builtin "isinstance") (rIsi X.K):=by
  intro pins s σ H xs us Q I r h
  obtain ⟨x,T,t,b,rfl,ty,e,q⟩:=h
  obtain ⟨u,w',rfl,ru,rw'⟩:=vals2 r
  cases (show w'=Value.type T from rw')
  exact isinst_ok I ru ty e fun tk=>⟨.bl b,H,I.tok tk,rfl,q⟩
theorem Inv.frs {pins:List (Addr × Obj)} {σ:St} {H:Hp} {s:Shared} (I:Inv X pins σ H s):∃ m,Fr X.base X.env.locals s.heap m∧News X.base X.env.locals s.heap (allNews X.base s.heap X.env.locals) :=
  let ⟨m,F⟩:=I.fr
  ⟨m,F,news_all⟩
end
end L2
namespace L2
open PySem PySem.Spec PyProof.Rows
section
variable {σ:St} {H:Hp} {Q:VK} {D:Ends} {ta tb te:TE} {t u:TS} {c c':TT} {tA:TA} {QT:Bool→Hp→Prop} {QA:List V→Hp→Prop}
theorem x_seq (h:t { D with nx:=u D } σ H):tSeq t u D σ H:=h
theorem x_asg {g:TG} (h:te σ H fun x H1=>g x σ H1 D.nx):tAsg te g D σ H:=h
theorem x_gname {i:Nat} {v:V} {R:St→Hp→Prop} (h:R (σ.set i (some v)) H):gName i v σ H R:=h
theorem x_gsub {to ti:TE} {ts:TSet} {v:V} {R:St→Hp→Prop} (h:to σ H fun o H1=>ti σ H1 fun i H2=>ts o i v H2 fun H3=>R σ H3):gSub to ti ts v σ H R:=h
theorem x_var {i:Nat} {v:V} (h:σ[i]? = some (some v)) (k:Q v H):tVar i σ H Q:=⟨v,h,k⟩
theorem x_c {v:V} (k:Q v H):tC v σ H Q:=k
theorem x_op {r:R2} (h:ta σ H fun x H1=>tb σ H1 fun y H2=>r x y H2 Q):tOp r ta tb σ H Q:=h
theorem x_ret (h:te σ H D.rt):tRet te D σ H:=h
theorem x_drop (h:te σ H fun _ H1=>D.nx σ H1):tDrop te D σ H:=h
theorem x_next (h:D.nx σ H):tNext D σ H:=h
theorem x_ifS (h:c σ H fun b H1=>if b=true then t D σ H1 else u D σ H1):tIfS c t u D σ H:=h
theorem x_if (h:c σ H fun b H1=>if b=true then ta σ H1 Q else tb σ H1 Q):tIf c ta tb σ H Q:=h
theorem x_test (h:te σ H fun x H'=>∃ k,x = .bl k∧QT k H'):tTest te σ H QT:=h
theorem x_and (h:c σ H fun b H1=>if b=true then c' σ H1 QT else QT false H1):tAnd c c' σ H QT:=h
theorem x_or (h:c σ H fun b H1=>if b=true then QT true H1 else c' σ H1 QT):tOr c c' σ H QT:=h
theorem x_not (h:c σ H fun b H1=>QT (!b) H1):tNot c σ H QT:=h
theorem x_andV (h:ta σ H fun x H1=>∃ c,x = .bl c∧if c=true then tb σ H1 Q else Q (.bl false) H1):tAndV ta tb σ H Q:=h
theorem x_notV (h:ta σ H fun x H1=>∃ c,x = .bl c∧Q (.bl (!c)) H1):tNotV ta σ H Q:=h
theorem x_yes (h:QT true H):tYes σ H QT:=h
theorem x_nil (h:QA [] H):tNil σ H QA:=h
theorem x_cons (h:te σ H fun x H1=>tA σ H1 fun xs H2=>QA (x :: xs) H2):tCons te tA σ H QA:=h
theorem x_tup (h:tA σ H fun xs H1=>xs.length≤sizeLine∧∀ p,H1 p=none→Q (.ref p) (upd H1 p (.tup xs))):tTup tA σ H Q:=h
theorem x_lst (h:tA σ H fun xs H1=>xs.length≤sizeLine∧∀ p,H1 p=none→Q (.ref p) (upd H1 p (.lst xs))):tLst tA σ H Q:=h
theorem x_call {sp:Sp} {dvs:List V} {E:XK} (h:tA σ H fun vs H1=>sp (vs ++ dvs) H1 Q E):tCall sp dvs E tA σ H Q:=h
theorem x_cb {r:List V→Hp→VK→Prop} (h:tA σ H fun vs H1=>r vs H1 Q):tCB r tA σ H Q:=h
theorem x_bm {K:PySem.W.Frag} {T:String} {r:V→List V→Hp→VK→Prop} {to:TE} (h:to σ H fun x H1=>tyV K T x H1∧tA σ H1 fun xs H2=>r x xs H2 Q):tBM K T r to tA σ H Q:=h
theorem x_sl {r:V→Option Int→Option Int→Hp→VK→Prop} {tl th:TO} (h:te σ H fun x H1=>tl σ H1 fun l H2=>th σ H2 fun u H3=>r x l u H3 Q):tSl r te tl th σ H Q:=h
theorem x_nopart {R:Option Int→Hp→Prop} (h:R none H):tNoPart σ H R:=h
theorem x_part {R:Option Int→Hp→Prop} (h:te σ H fun x H1=>∃ i,x = .int i∧R (some i) H1):tPart te σ H R:=h
theorem x_rI0 {g:Int→Int→V} {i j:Int} (h:Q (g i j) H):rI0 g (.int i) (.int j) H Q:=⟨i,j,rfl,rfl,h⟩
theorem x_rI {C:Int→Int→Prop} {g:Int→Int→V} {i j:Int} (hc:C i j) (h:Q (g i j) H):rI C g (.int i) (.int j) H Q:=⟨i,j,rfl,rfl,hc,h⟩
theorem x_addI {i j:Int} (h:Q (.int (i+j)) H):rAddG (.int i) (.int j) H Q:=.inl ⟨i,j,rfl,rfl,h⟩
theorem x_eqI {K:PySem.W.Frag} {i j:Int} (h:Q (.bl (decide (V.int i=V.int j))) H):rEqG K (.int i) (.int j) H Q:=.inl ⟨rfl,h⟩
theorem x_neI {K:PySem.W.Frag} {i j:Int} (h:Q (.bl (!decide (V.int i=V.int j))) H):rNeG K (.int i) (.int j) H Q:=.inl ⟨rfl,h⟩
theorem x_ixL {K:PySem.W.Frag} {p:Addr} {xs:List V} {i:Int} {v:V} (h:SqL K H p xs) (e:atI xs i=some v) (k:Q v H):rIxG K (.ref p) (.int i) H Q:=.inl (.inl ⟨p,xs,i,v,rfl,rfl,h,e,k⟩)
theorem x_ixT {K:PySem.W.Frag} {p:Addr} {xs:List V} {i:Int} {v:V} (h:SqT K H p xs) (e:atI xs i=some v) (k:Q v H):rIxG K (.ref p) (.int i) H Q:=.inl (.inr ⟨p,xs,i,v,rfl,rfl,h,e,k⟩)
theorem x_lenL {K:PySem.W.Frag} {p:Addr} {xs:List V} (h:SqL K H p xs) (k:Q (.int xs.length) H):rLen K [.ref p] H Q:=.inl ⟨p,xs,rfl,.inl h,k⟩
theorem x_lenT {K:PySem.W.Frag} {p:Addr} {xs:List V} (h:SqT K H p xs) (k:Q (.int xs.length) H):rLen K [.ref p] H Q:=.inl ⟨p,xs,rfl,.inr h,k⟩
theorem x_append {l:Addr} {xs:List V} {y:V} (h:H l=some (.lst xs)) (hl:xs.length < sizeLine) (k:Q .non (upd H l (.lst (xs ++ [y])))):rAppend (.ref l) [y] H Q:=⟨l,xs,y,rfl,rfl,h,hl,k⟩
theorem x_setL {p:Addr} {xs:List V} {k:Int} {j:Nat} {v:V} {R:Hp→Prop} (h:H p=some (.lst xs)) (e:ixN xs.length k=some j) (q:R (upd H p (.lst (xs.set j v)))):rSetG (.ref p) (.int k) v H R:=.inl ⟨p,xs,k,j,rfl,rfl,h,e,q⟩
theorem ifd {p A B:Prop} [Decidable p] (h1:p→A) (h2:¬ p→B):if decide p=true then A else B:=by
  by_cases h:p
  · rw [if_pos (decide_eq_true h)]; exact h1 h
  · rw [if_neg (by rw [decide_eq_false h]; decide)]; exact h2 h
theorem ifV {p A B:Prop} {b:Bool} (hb:b=true↔p) (h1:p→A) (h2:¬ p→B):if b=true then A else B:=by
  by_cases h:b=true
  · rw [if_pos h]; exact h1 (hb.mp h)
  · rw [if_neg h]; exact h2 fun z=>h (hb.mpr z)
theorem eq_int_iff {i j:Int}:(V.int i=V.int j)↔i=j:=⟨fun h=>by injection h,fun h=>by rw [h]⟩
end
end L2
namespace BootT
open PySem
theorem len:bootBuiltins "len" = some (.builtin "len"):=by decide +kernel
theorem isinstance:bootBuiltins "isinstance" = some (.builtin "isinstance"):=by decide +kernel
theorem sorted:bootBuiltins "sorted" = some (.builtin "sorted"):=by decide +kernel
theorem min:bootBuiltins "min" = some (.builtin "min"):=by decide +kernel
theorem max:bootBuiltins "max" = some (.builtin "max"):=by decide +kernel
theorem int:bootBuiltins "int" = some (.type "int"):=by decide +kernel
theorem bool:bootBuiltins "bool" = some (.type "bool"):=by decide +kernel
theorem list:bootBuiltins "list" = some (.type "list"):=by decide +kernel
theorem tuple:bootBuiltins "tuple" = some (.type "tuple"):=by decide +kernel
end BootT
namespace L2
open PySem PySem.Spec PyProof.Rows
def rMin2:List V→Hp→VK→Prop:=fun xs H Q=>∃ i j,xs=[.int i,.int j]∧Q (.int (if j < i then j else i)) H
def rMax2:List V→Hp→VK→Prop:=fun xs H Q=>∃ i j,xs=[.int i,.int j]∧Q (.int (if j > i then j else i)) H
def rList (K:PySem.W.Frag):List V→Hp→VK→Prop:=fun xs H Q=>∃ p ys,xs=[.ref p]∧(SqL K H p ys∨SqT K H p ys)∧∀ l,H l=none→Q (.ref l) (upd H l (.lst ys))
def tTru (K:PySem.W.Frag) (ta:TE):TT:=fun σ H Q=>ta σ H fun x H'=>∃ k,TruV K x H' k∧Q k H'
theorem x_tru {K:PySem.W.Frag} {ta:TE} {σ:St} {H:Hp} {Q:Bool→Hp→Prop} (h:ta σ H fun x H'=>∃ k,TruV K x H' k∧Q k H'):tTru K ta σ H Q:=h
section
variable {X:Cx} {a:Expr} {ta:TE}
theorem pt_tru (ha:PE X a ta) (he:∀ whole,isTrue a X.env whole=(do let v ← whole; standAt a.pos; holding [v] (truthy v))):PT X a (tTru X.K ta):=pt_truth ha he
end
def Itd (a:Addr) (kvs:List (Key × V)) (o:Obj):It :=
  ⟨fun i H=>i < kvs.length∧H a=some (.frz o (.dK kvs)),fun i H x H'=>H'=H∧∃ k v,kvs[i]? = some (k,v)∧x=kV k,fun i H=>kvs.length≤i∧H a=some (.frz o (.dK kvs))⟩
theorem kV_rel {k:Key} {u:Value} (h:keyIs k u=true):RelV (kV k) u:=by
  rcases keyIs_shape h with ⟨i,t,rfl,rfl⟩ | ⟨x,t,rfl,rfl⟩
  · exact ⟨t,rfl⟩
  · exact ⟨t,rfl⟩
theorem KV.get {kvs:List (Key × V)} {vs:List (Key × Value)} (r:KV kvs vs) {i:Nat} {k:Key} {v:V} (e:kvs[i]? = some (k,v)):∃ u,vs[i]? = some (k,u)∧RelV v u:=by
  unfold KV at r
  induction r generalizing i with
  | nil=>simp at e
  | @cons p q ps qs h t ih =>
    cases i with
    | zero =>
      simp at e
      subst e
      obtain ⟨q1,q2⟩:=q
      obtain ⟨h1,h2⟩:=h
      simp only at h1 h2
      subst h1
      exact ⟨q2,rfl,h2⟩
    | succ i =>
      obtain ⟨u,e1,e2⟩:=ih (by simpa using e)
      exact ⟨u,by simpa using e1,e2⟩
theorem turn_dict {P:Program} {w:World} {K:PySem.W.Frag} {tg:Expr} (a it:Addr) (o:Obj) (kvs:List (Key × V)) (vs:List (Key × Value)) (ep:Nat) (rel:KV kvs vs)
    (od:∀ h:Heap,h.get? a=some o→h.DictAt (mixKind P w) a vs ep):Turn P w K tg (Itd a kvs o) [it] it (fun i h=>h.IsKeyIter it a i vs.length ep) where
  mem:=by simp
  obj:=fun i h st b hb=>by
    have e:b=it:=by simpa using hb
    subst e
    obtain ⟨o,e,c,d⟩:=st
    exact ⟨o,e,fun v z=>by rw [d] at z; cases z⟩
  keep:=fun i h h' st k=>st.at fun o e=>k it (by simp) o e
  item:=by
    intro X hP hw hK hc i pins s σ H E I hf st hg
    subst hP hw hK
    obtain ⟨hlt,hq⟩:=hg
    obtain ⟨e0,_⟩:=(show ObjOk X.prog X.w H s.heap a (.frz o (.dK kvs)) from I.hok a _ hq)
    obtain ⟨⟨k,v⟩,hx⟩:∃ p,kvs[i]? = some p:=⟨kvs[i],by simp [hlt]⟩
    obtain ⟨u,hu,ru⟩:=rel.get hx
    obtain ⟨f0,f1,f2,f3,f4,f5⟩:=hf it (by simp)
    refine wpAny_pyNext_dict_item st (od _ e0) hu fun key h' hkey st' sb=>?_
    have I1:Inv X pins σ H { s with heap:=h' }:=I.turned (t':=s.toks) (fun b o hb e=>(sb.2 b hb).trans e) f0 f1 f3 f4 f5
    obtain ⟨o',e,c,d⟩:=id st'
    exact ⟨key,rfl,go_of (s:={ s with heap:=h' }) e c d (by decide) ⟨kV k,H,I1,kV_rel hkey,⟨rfl,k,v,hx,rfl⟩,st',fun b hb=>(hf b hb).1⟩⟩
  done:=by
    intro X hP hw hK hc i pins s σ H E I hf st hg
    subst hP hw hK
    obtain ⟨hle,hq⟩:=hg
    obtain ⟨e0,_⟩:=(show ObjOk X.prog X.w H s.heap a (.frz o (.dK kvs)) from I.hok a _ hq)
    obtain ⟨f0,f1,f2,f3,f4,f5⟩:=hf it (by simp)
    have hl:=rel.length
    exact wpAny_pyNext_dict_end (I.ok.hd hc) st (od _ e0) (by simp; omega) fun h' eb=>⟨rfl,I.turned (t':=s.toks) (fun b o hb e=>eb b o hb e) f0 f1 f3 f4 f5⟩
  self:=fun _ _ _ _ _ st h=>wpAny_pyIter_keyiter st h
def iSeq (K:PySem.W.Frag) (tl:TE):TI:=fun σ H R=>tl σ H fun x H1=>∃ a,x = .ref a∧(((∃ xs,SqL K H1 a xs)∧R (Itl K a) H1)∨((∃ xs,SqT K H1 a xs)∧R (Itt K a) H1) ∨
  ∃ kvs,H1 a=some (.dK kvs)∧∀ o,R (Itd a kvs o) (upd H1 a (.frz o (.dK kvs))))
theorem x_iSeq {K:PySem.W.Frag} {tl:TE} {σ:St} {H:Hp} {R:It→Hp→Prop} (h:tl σ H fun x H1=>∃ a,x = .ref a∧(((∃ xs,SqL K H1 a xs)∧R (Itl K a) H1)∨((∃ xs,SqT K H1 a xs)∧R (Itt K a) H1) ∨
  ∃ kvs,H1 a=some (.dK kvs)∧∀ o,R (Itd a kvs o) (upd H1 a (.frz o (.dK kvs))))):iSeq K tl σ H R:=h
section
variable {X:Cx} {tg:Expr}
theorem pi_seq {l : Expr} {tl : TE} (hl : PE X l tl) : PI X tg l (iSeq X.K tl) := by
  intro pins s σ H R I h
  refine thn (hl pins s σ H _ I h) fun v s1 ⟨x,H1,I1,r1,q1⟩=>?_
  obtain ⟨a,e,q1⟩:=q1
  subst e
  cases r1
  rcases q1 with ⟨⟨xs,hq⟩,q⟩ | ⟨⟨xs,hq⟩,q⟩ | ⟨kvs,hq,q⟩
  · obtain ⟨its,rv,p,hz⟩:=I1.list hq
    refine wpAny_pyIter_list p.isList ?_
    refine ⟨s1.heap.objs.size,[s1.heap.objs.size],_,_,H1,rfl,I1.kept (t':=s1.toks) fun b o e=>Heap.get?_push_of_some _ e,turn_list a _,⟨_,Heap.get?_push_size _ rfl,rfl,rfl⟩,fun b hb=>?_,q⟩
    have e:b=s1.heap.objs.size:=by simpa using hb
    subst e
    exact I1.fpOk (Nat.le_refl _) (I1.hok.fresh (Nat.le_refl _))
  · obtain ⟨its,rv,p,hz⟩:=I1.tuple hq
    refine wpAny_pyIter_tuple (show s1.heap.IsTuple a its.toArray from p) ?_
    refine ⟨s1.heap.objs.size,[s1.heap.objs.size],_,_,H1,rfl,I1.kept (t':=s1.toks) fun b o e=>Heap.get?_push_of_some _ e,turn_tuple a _,⟨_,Heap.get?_push_size _ rfl,rfl,rfl⟩,fun b hb=>?_,q⟩
    have e:b=s1.heap.objs.size:=by simpa using hb
    subst e
    exact I1.fpOk (Nat.le_refl _) (I1.hok.fresh (Nat.le_refl _))
  · obtain ⟨hz,hsys,vs,rel,dd⟩:=dk_of I1.hok hq
    obtain ⟨ep,da⟩:=dd.dictAt
    obtain ⟨ob,es,ho,rr⟩:=id da
    have od:∀ h:Heap,h.get? a=some ob→h.DictAt (mixKind X.prog X.w) a vs ep:=fun h e=>⟨ob,es,e,rr⟩
    have un:Un X.fs [] H1 (upd H1 a (.frz ob (.dK kvs))) s1.heap s1.heap:=by
      have hne:∀ b u,H1 b=some u→u≠.dK kvs→b≠a:=fun b u e n z=>by subst z; rw [hq] at e; exact n (Option.some.inj e).symm
      refine ⟨fun b o e _ _ _=>e,fun b o e _ _ _=>⟨o.slots,e⟩,fun b o e n _=>?_,fun b o e _=>⟨o,e⟩,fun b ys e=>?_,fun b o u e=>?_,fun b ps e=>?_⟩
      · rw [upd_ne (fun z=>by subst z; rw [hq] at n; cases n)]; exact n
      · rw [upd_ne (hne b _ e (by intro z; cases z))]; exact e
      · rw [upd_ne (hne b _ e (by intro z; cases z))]; exact e
      · exact ⟨#[],by rw [upd_ne (hne b _ e (by intro z; cases z)),e]; simp⟩
    have hok:HOk X.prog X.w (upd H1 a (.frz ob (.dK kvs))) s1.heap:=fun b u e=>by
      by_cases hb:b=a
      · subst hb
        rw [upd_same] at e
        cases e
        exact ⟨ho,hz,hsys,vs,rel,dd⟩
      · rw [upd_ne hb] at e
        refine (I1.hok b u e).stay (fun c v _ q=>q) (fun c q0=>?_) fun c ys q0=>?_
        · rw [upd_ne (fun z=>by rw [z,hq] at q0; cases q0)]; exact q0
        · rw [upd_ne (fun z=>by rw [z,hq] at q0; cases q0)]; exact q0
    have I2:Inv X pins σ (upd H1 a (.frz ob (.dK kvs))) { s1 with heap:=s1.heap,toks:=s1.toks }:=I1.un un hok
    refine wpAny_pyIter_dict hsys da ?_
    refine ⟨s1.heap.objs.size,[s1.heap.objs.size],_,_,_,rfl,I2.kept (t':=s1.toks) fun b o e=>Heap.get?_push_of_some _ e,turn_dict a _ ob kvs vs ep rel od,⟨_,Heap.get?_push_size _ rfl,rfl,rfl⟩,fun b hb=>?_,q ob⟩
    have e:b=s1.heap.objs.size:=by simpa using hb
    subst e
    exact I2.fpOk (Nat.le_refl _) (I2.hok.fresh (Nat.le_refl _))
end
section
variable {K:PySem.W.Frag} {σ:St} {H:Hp} {Q:VK}
structure CNext (n i:Nat) (S:St→Prop) (Pv:List V→Hp→Prop) (m:Nat) (ys:List V) (σ:St) (H:Hp):Prop where
  m:m=n - i
  le:i≤n
  s:S σ
  p:Pv ys H
theorem CNext.mk' {n i:Nat} {S:St→Prop} {Pv:List V→Hp→Prop} {ys:List V} {σ:St} {H:Hp} (hi:i < n) (s:S σ) (p:Pv ys H):∃ m',m' < n - i∧CNext n (i+1) S Pv m' ys σ H:=⟨n - (i+1),by omega,rfl,hi,s,p⟩
theorem comp_by {σ0:St} {g:TG} {tt:TT} {te:TE} {J:It} {n:Nat} {acc:Addr} {R:Hp→Prop} (Pv:Nat→List V→Hp→Prop) (S:St→Prop) (h0:Pv 0 [] (upd H acc (.lst []))) (s0:S σ0)
    (ha:∀ i ys H,Pv i ys H→H acc=some (.lst ys)) (hst:∀ ys H,Pv n ys H→J.stop n H∧R H) (hgo:∀ i ys H,i < n→Pv i ys H→J.go i H)
    (hs:∀ i ys σ' H x H2,i < n→Pv i ys H→S σ'→J.yld i H x H2→g x σ' H2 fun σ2 H3=>tt σ2 H3 fun b H4=>if b=true then te σ2 H4 fun y H5=>H5 acc=some (.lst ys)∧ys.length < sizeLine∧∃ m',m' < n - i∧CNext n (i+1) S (Pv (i+1)) m' (ys ++ [y]) σ2 (upd H5 acc (.lst (ys ++ [y]))) else ∃ m',m' < n - i∧CNext n (i+1) S (Pv (i+1)) m' ys σ2 H4) :
    ∃ W:Nat→Nat→List V→St→Hp→Prop,(∃ m,W 0 m [] σ0 (upd H acc (.lst [])))∧∀ i m ys σ' H',W i m ys σ' H'→H' acc=some (.lst ys) ∧
    ((J.stop i H'∧R H')∨(J.go i H'∧∀ x H2,J.yld i H' x H2→g x σ' H2 fun σ2 H3=>tt σ2 H3 fun b H4 =>
      if b=true then te σ2 H4 fun y H5=>H5 acc=some (.lst ys)∧ys.length < sizeLine∧∃ m',m' < m∧W (i+1) m' (ys ++ [y]) σ2 (upd H5 acc (.lst (ys ++ [y]))) else ∃ m',m' < m∧W (i+1) m' ys σ2 H4)):=by
  refine ⟨fun i m ys σ' H'=>CNext n i S (Pv i) m ys σ' H',⟨n,by simp,Nat.zero_le _,s0,h0⟩,?_⟩
  rintro i m ys σ' H' ⟨rfl,hi,hS,p⟩
  refine ⟨ha i ys H' p,?_⟩
  by_cases hlt:i < n
  · exact .inr ⟨hgo i ys H' hlt p,fun x H2 y=>hs i ys σ' H' x H2 hlt p hS y⟩
  · have e:i=n:=by omega
    subst e
    exact .inl (hst ys H' p)
structure WNext (Pv:St→Hp→Prop) (μ:St→Hp→Nat) (m:Nat) (σ:St) (H:Hp):Prop where
  m:m = μ σ H
  p:Pv σ H
theorem while_on {c:TT} {tb:TS} {D:Ends} (Pv:St→Hp→Prop) (μ:St→Hp→Nat) (h0:Pv σ H)
    (hs:∀ σ H,Pv σ H→c σ H fun b H1=>if b=true then ∃ N:St→Hp→Prop,(∀ σ' H',N σ' H'→∃ m',m' < μ σ H∧WNext Pv μ m' σ' H')∧tb { D with nx:=N,ct:=N,bk:=D.nx } σ H1 else D.nx σ H1):tWhile c tb D σ H:=by
  refine ⟨WNext Pv μ,⟨_,rfl,h0⟩,?_⟩
  rintro m σ H ⟨rfl,p⟩
  exact hs σ H p
def wN (Pv:St→Hp→Prop) (μ:St→Hp→Nat) (b:Nat):St→Hp→Prop:=fun σ H=>Pv σ H∧μ σ H < b
theorem wN_ok {Pv:St→Hp→Prop} {μ:St→Hp→Nat} {b:Nat}:∀ σ' H',wN Pv μ b σ' H'→∃ m',m' < b∧WNext Pv μ m' σ' H':=fun σ' H' ⟨p,l⟩=>⟨_,l,rfl,p⟩
end
end L2
namespace L2
open PySem PySem.Spec PyProof.Rows
section
variable {σ:St} {H:Hp} {Q:VK} {D:Ends} {ta tb te:TE} {t u:TS} {tA:TA} {QT:Bool→Hp→Prop} {QA:List V→Hp→Prop} {K:PySem.W.Frag}
theorem x_chain {r r':R2} {tc:TE} (h:ta σ H fun x H1=>tb σ H1 fun y H2=>r x y H2 fun z H3=>∃ k,z = .bl k∧(if k=true then tc σ H3 fun w' H4=>r' y w' H4 Q else Q (.bl false) H3)):tChain r r' ta tb tc σ H Q:=h
theorem x_rng1 {R:It→Hp→Prop} (h:tA σ H fun vs H1=>∃ j:Int,vs=[.int j]∧-(2 ^ 62)≤j∧j < 2 ^ 62∧R (Itr 0 j.toNat) H1):iRng1 tA σ H R:=h
theorem x_for {wi:TI} {g:TG} {tb:TS} (h:wi σ H fun J H1=>∃ W:Nat→Nat→St→Hp→Prop,(∃ m,W 0 m σ H1)∧∀ i m σ H,W i m σ H →
  (J.stop i H∧D.nx σ H)∨(J.go i H∧∃ N:St→Hp→Prop,(∀ σ' H',N σ' H'→∃ m',m' < m∧W (i+1) m' σ' H')∧∀ x H',J.yld i H x H'→g x σ H' fun σ2 H2=>tb { D with nx:=N,ct:=N,bk:=D.nx } σ2 H2)):tFor wi g tb D σ H:=h
theorem x_comp {own:Nat} {js:List Nat} {wi:TI} {g:TG} {tt:TT} (h:wi σ H fun J H1=>∀ acc,H1 acc=none →
  ∃ W : Nat → Nat → List V → St → Hp → Prop, (∃ m, W 0 m [] (List.replicate own none ++ capV σ js) (upd H1 acc (.lst []))) ∧ ∀ i m ys σ' H', W i m ys σ' H' → H' acc = some (.lst ys) ∧
    ((J.stop i H'∧Q (.ref acc) H')∨(J.go i H'∧∀ x H2,J.yld i H' x H2→g x σ' H2 fun σ2 H3=>tt σ2 H3 fun b H4 =>
      if b=true then te σ2 H4 fun y H5=>H5 acc=some (.lst ys)∧ys.length < sizeLine∧∃ m',m' < m∧W (i+1) m' (ys ++ [y]) σ2 (upd H5 acc (.lst (ys ++ [y]))) else ∃ m',m' < m∧W (i+1) m' ys σ2 H4))):tComp own js wi g tt te σ H Q:=h
theorem x_aug {i:Nat} {ti:TIp} {x:V} (hx:σ[i]? = some (some x)) (h:te σ H fun y H1=>ti x y H1 fun z H2=>D.nx (σ.set i (some z)) H2):tAug i te ti D σ H:=⟨x,hx,h⟩
theorem x_tupG {n:Nat} {ts:TGs} {a:Addr} {xs:List V} {R:St→Hp→Prop} (h:SqT K H a xs) (hn:xs.length=n) (k:ts xs σ H R):gTup K n ts (.ref a) σ H R:=⟨a,xs,rfl,h,hn,k⟩
theorem x_gcons {g:TG} {gs:TGs} {v:V} {r:List V} {R:St→Hp→Prop} (h:g v σ H fun σ' H'=>gs r σ' H' R):gCons g gs (v :: r) σ H R:=⟨v,r,rfl,h⟩
theorem x_gnil {R:St→Hp→Prop} (h:R σ H):gNil [] σ H R:=⟨rfl,h⟩
theorem x_ext {l b:Addr} {xs zs:List V} (h:H l=some (.lst xs)) (h':H b=some (.lst zs)) (hl:xs.length+zs.length≤sizeLine) (k:Q .non (upd H l (.lst (xs ++ zs)))):rExtend (.ref l) [.ref b] H Q:=⟨l,b,xs,zs,rfl,rfl,h,h',hl,k⟩
theorem x_cat {l b:Addr} {xs zs:List V} (h:H l=some (.lst xs)) (h':H b=some (.lst zs)) (hl:xs.length+zs.length≤sizeLine) (k:∀ p,H p=none→Q (.ref p) (upd H p (.lst (xs ++ zs)))):rAddG (.ref l) (.ref b) H Q:=.inr ⟨l,b,xs,zs,rfl,rfl,h,h',hl,k⟩
theorem x_min {i j:Int} (k:Q (.int (if j < i then j else i)) H):rMin2 [.int i,.int j] H Q:=⟨i,j,rfl,k⟩
theorem x_max {i j:Int} (k:Q (.int (if j > i then j else i)) H):rMax2 [.int i,.int j] H Q:=⟨i,j,rfl,k⟩
theorem x_isi {x:V} {T:String} {t:Value} {b:Bool} (ty:TyOf K H x t) (e:PySem.W.kitOne K t (.type T)=some b) (k:Q (.bl b) H):rIsi K [x,.ty T] H Q:=⟨x,T,t,b,rfl,ty,e,k⟩
theorem x_slL {a:Addr} {xs:List V} {lo hi:Option Int} (h:SqL K H a xs) (k:∀ p,H p=none→Q (.ref p) (upd H p (.lst (cutV xs lo hi)))):rSlL K (.ref a) lo hi H Q:=⟨a,xs,rfl,h,k⟩
theorem x_list {p:Addr} {ys:List V} (h:SqL K H p ys) (k:∀ l,H l=none→Q (.ref l) (upd H l (.lst ys))):rList K [.ref p] H Q:=⟨p,ys,rfl,.inl h,k⟩
theorem x_neD {x y:V} {dx dy:PyData} (h1:Rep K H dx x) (h2:Rep K H dy y) (f1:Fine dx) (f2:Fine dy) (k:Q (.bl (!PyData.eqv dx dy)) H):rNeG K x y H Q:=.inr ⟨dx,dy,h1,h2,f1,f2,k⟩
end
section
variable {K:PySem.W.Frag}
theorem kit_ii:PySem.W.kitOne K (.type "int") (.type "int")=some true:=by rfl
theorem kit_ib:PySem.W.kitOne K (.type "int") (.type "bool")=some false:=by rfl
theorem kit_bb:PySem.W.kitOne K (.type "bool") (.type "bool")=some true:=by rfl
theorem kit_ll:PySem.W.kitOne K (.type "list") (.type "list")=some true:=by rfl
theorem kit_tt:PySem.W.kitOne K (.type "tuple") (.type "tuple")=some true:=by rfl
end
theorem Same.upd_new {H:Hp} {l:Addr} {o:HO} (h:H l=none):Same H (upd H l o):=fun b u e=>by rw [upd_ne (ne_of_none e h)]; exact e
def SameBut1 (c:Addr) (H H':Hp):Prop:=∀ b o,H b=some o→b≠c→H' b=some o
theorem SameBut1.refl (c:Addr) (H:Hp):SameBut1 c H H:=fun _ _ h _=>h
theorem SameBut1.trans {c:Addr} {H H1 H2:Hp} (a:SameBut1 c H H1) (b:SameBut1 c H1 H2):SameBut1 c H H2:=fun x o h n=>b x o (a x o h n) n
theorem SameBut1.same {c:Addr} {H H':Hp} (e:Same H H'):SameBut1 c H H':=fun b o h _=>e b o h
theorem SameBut1.upd {c:Addr} {H:Hp} {o:HO}:SameBut1 c H (upd H c o):=fun b u e n=>by rw [upd_ne n]; exact e
theorem atI_of {α:Type} {xs:List α} {j:Nat} {i:Int} {v:α} (hi:i=(j:Int)) (h:xs[j]? = some v):atI xs i=some v:=by subst hi; exact atI_nat h
theorem ixN_of {n j:Nat} {i:Int} (hi:i=(j:Int)) (h:j < n):ixN n i=some j:=by
  subst hi
  unfold ixN
  rw [if_pos (by omega),if_pos (by omega)]
  rfl
theorem small_le {n m:Nat} (h:n≤m) (hm:m≤100000:=by decide):n≤sizeLine:=Nat.le_trans h (Nat.le_trans hm (by rw [sizeLine_eq]; decide))
theorem small_lt {n m:Nat} (h:n < m) (hm:m≤100000:=by decide):n < sizeLine:=Nat.lt_of_lt_of_le h (Nat.le_trans hm (by rw [sizeLine_eq]; decide))
mutual
def plainD:PyData→Bool
  | .int _=>true
  | .list xs=>plainAll xs
  | .tuple xs=>plainAll xs
  | _=>false
def plainAll:List PyData→Bool
  | []=>true
  | x :: xs=>plainD x && plainAll xs
end
mutual
theorem plain_lay:∀ d:PyData,plainD d=true→d.canLay0=true
  | .int _,_=>by simp [PyData.canLay0]
  | .list xs,h=>by simp only [plainD] at h; simp only [PyData.canLay0]; exact plainAll_lay xs h
  | .tuple xs,h=>by simp only [plainD] at h; simp only [PyData.canLay0]; exact plainAll_lay xs h
  | .none,h=>by simp [plainD] at h
  | .bool _,h=>by simp [plainD] at h
  | .str _,h=>by simp [plainD] at h
  | .dict _,h=>by simp [plainD] at h
theorem plainAll_lay:∀ ds:List PyData,plainAll ds=true→PyData.canLayAll0 ds=true
  | [],_=>by simp [PyData.canLayAll0]
  | d :: ds, h => by
    simp only [plainAll,Bool.and_eq_true] at h
    simp only [PyData.canLayAll0,Bool.and_eq_true]
    exact ⟨plain_lay d h.1,plainAll_lay ds h.2⟩
end
end L2
namespace L2
open PySem PySem.Spec PyProof.Rows
section
variable {σ:St} {H:Hp} {Q:VK} {K:PySem.W.Frag}
end
end L2
namespace L2
open PySem PySem.Spec PySem.Calls PyProof.Rows
open PySem.W (kla_fn kla_obj tabObj CodeHd)
theorem ns_eq {h:Heap} {a:Addr} {m m':Str→Option Value} (x:h.Ns a m) (y:h.Ns a m'):m=m':=by
  obtain ⟨o,es,ep,e,d,_,r⟩:=x
  obtain ⟨o',es',ep',e',d',_,r'⟩:=y
  rw [e] at e'; cases e'
  rw [d] at d'; cases d'
  funext n
  rw [← r n,← r' n]
theorem Inv.news {X:Cx} {pins:List (Addr × Obj)} {σ:St} {H:Hp} {s:Shared} {h':Heap} {m:Str→Option Value} {t':Nat} (I:Inv X pins σ H s) (hm:s.heap.Ns X.env.locals m) (F:Fr X.base X.env.locals h' m)
    (N:News X.base X.env.locals h' (allNews X.base s.heap X.env.locals)):Inv X pins σ H { s with heap:=h',toks:=t' }:=by
  have k:∀ b o,b≠X.env.locals→s.heap.get? b=some o→h'.get? b=some o:=fun b o h1 e=>by
    cases q:X.base.get? b with
    | some u =>
      have:=I.bk b u q
      rw [e] at this; cases this
      exact F.keep b _ q
    | none=>exact (N (b,o) (mem_allNews h1 q e)).1
  refine I.step (g':=s.gens) (d':=s.drawn) (ch:=[]) (fun _ z=>nomatch z) (fun b o h1 _ _ e _=>k b o h1 e) (fun b o h1 _ _ e _=>⟨o.slots,k b o h1 e⟩) (fun _ _ _ _ n=>n) (fun b o _ e=>?_) (fun _ _ e=>e) (fun _ _ _ e=>e)
    (fun b ps e=>⟨#[],by rw [e]; simp⟩) (fun m' hm'=>by rw [← ns_eq hm hm']; exact F.ns) (fun b u e=>?_) I.bare
  · by_cases hb:b=X.env.locals
    · subst hb
      obtain ⟨o',_,_,e',_⟩:=F.ns
      exact ⟨o',e'⟩
    · exact ⟨o,k b o hb e⟩
  · refine (I.hok b u e).stay (fun c v hc q=>k c v ?_ q) (fun _ q=>q) fun _ _ q=>q
    rintro rfl
    rcases hc with hc | hc
    · rw [← hc,I.free] at e; cases e
    · rw [I.free] at hc; cases hc
def SameT (Pt:Addr) (H H':Hp):Prop:=∀ b o,b≠Pt→H b=some o→H' b=some o
def LamT (Pt:Addr) (pos:Pos) (qual:Str) (H:Hp):Prop :=
  H Pt=some (.tbl #[])∨∃ c' oc vs t,H Pt=some (.tbl #[rawInt pos.line,rawInt pos.col,.ref c'])∧H c'=some (.frz oc (.ext fun _=>True))∧oc.data = .fields vs∧vs[1]? = some (Value.str qual t)
theorem LamT.tbl {Pt:Addr} {pos:Pos} {qual:Str} {H:Hp} (h:LamT Pt pos qual H):∃ ps,H Pt=some (.tbl ps):=by
  rcases h with h | ⟨_,_,_,_,h,_⟩
  · exact ⟨_,h⟩
  · exact ⟨_,h⟩
section
variable {X:Cx} {pins:List (Addr × Obj)} {σ:St} {H:Hp} {s:Shared} {c Pt:Addr}
theorem lam_make {E : Value → Shared → Prop} {Q : Value → Shared → Prop} {params : Arguments} {body : Expr} {scope : Scope} {pos : Pos} (I : Inv X pins σ H s) (hcode : X.env.code = .ref c) (C : CodeHd X.base c Pt) (B : X.base.BuiltinsAt X.mg Pt)
    (hdef:defaultsOf params X.env=([],[])) (hfr:∀ n,(n,NameKind.free) ∈ scope.names→∃ c,X.env.cells.lookup n=some c) (hT:LamT Pt pos (X.env.qual ++ "<lambda>") H)
    (h:∀ f c' ctv h' tk H2,Inv X pins σ H2 { s with heap:=h',toks:=tk }→h'.get? f=some (kla_obj "<lambda>" (X.env.qual ++ "<lambda>") params body scope (clGo X.env.cells scope.names []) ((X.mg "__name__").getD .none) c' ctv)→h'.CodeRec (.ref c') (X.env.qual ++ "<lambda>") →
      SameT Pt H H2→LamT Pt pos (X.env.qual ++ "<lambda>") H2→(∀ b o,b≠Pt→s.heap.get? b=some o→h'.get? b=some o)→Q (.ref f) { s with heap:=h',toks:=tk }) :
    wpAny (model X.prog X.w) X.A (eval (.Lambda params body scope pos) X.env) Q E s:=by
  have hg:s.heap.Ns mainGlobals X.mg:=I.mod.glob.keeps I.bk
  have C1:=C.keeps I.bk
  have B1:s.heap.BuiltinsAt X.mg Pt:=let ⟨bm,o,b1,b2,b3,b4,b5,b6⟩:=B; ⟨bm,o,b1,b2,b3,b4,I.bk _ _ b5,b6⟩
  refine PySem.W.kla_eval hdef ?_
  rcases hT with hT | ⟨c',oc,vs,t,hT,hc',hd,hv⟩
  · have hP:s.heap.get? Pt=some (tabObj #[]):=I.hok Pt _ hT
    have hgP:mainGlobals≠Pt:=fun q=>by
      obtain ⟨o,es,ep,e,hd,_⟩:=hg
      rw [q,hP] at e; cases e; cases hd
    refine PySem.W.kla_makeFunction (mg:=X.mg) (closure_of hfr) I.ok.glob hg hcode C1 hP trivial rfl hgP B1 fun c' ctv h' tk hx hge hlt hrec htb=>?_
    obtain ⟨c₂,oc,vs,t,e2,hoc,hd,hv⟩:=id hrec
    cases e2
    have hn:H c'=none:=I.hok.fresh hge
    have ncP:c'≠Pt:=fun q=>by rw [q,hT] at hn; cases hn
    have hL:X.env.locals≠Pt:=fun q=>by have:=I.free; rw [q,hT] at this; cases this
    have k:∀ b o,b≠Pt→s.heap.get? b=some o→(h'.push (kla_obj "<lambda>" (X.env.qual ++ "<lambda>") params body scope (clGo X.env.cells scope.names []) ((X.mg "__name__").getD .none) c' ctv)).get? b=some o:=fun b o hb e=>Heap.get?_push_of_some _ (hx b o hb e)
    have hP':(h'.push (kla_obj "<lambda>" (X.env.qual ++ "<lambda>") params body scope (clGo X.env.cells scope.names []) ((X.mg "__name__").getD .none) c' ctv)).get? Pt=some (tabObj #[rawInt pos.line,rawInt pos.col,.ref c']):=Heap.get?_push_of_some _ htb
    have hoc':(h'.push (kla_obj "<lambda>" (X.env.qual ++ "<lambda>") params body scope (clGo X.env.cells scope.names []) ((X.mg "__name__").getD .none) c' ctv)).get? c'=some oc:=Heap.get?_push_of_some _ hoc
    have hf:(h'.push (kla_obj "<lambda>" (X.env.qual ++ "<lambda>") params body scope (clGo X.env.cells scope.names []) ((X.mg "__name__").getD .none) c' ctv)).get? h'.objs.size=some (kla_obj "<lambda>" (X.env.qual ++ "<lambda>") params body scope (clGo X.env.cells scope.names []) ((X.mg "__name__").getD .none) c' ctv):=Heap.get?_push_size _ rfl
    generalize h'.push (kla_obj "<lambda>" (X.env.qual ++ "<lambda>") params body scope (clGo X.env.cells scope.names []) ((X.mg "__name__").getD .none) c' ctv)=h2 at k hP' hoc' hf
    have st:∀ b o,b≠Pt→H b=some o→upd (upd H Pt (.tbl #[rawInt pos.line,rawInt pos.col,.ref c'])) c' (.frz oc (.ext fun _=>True)) b=some o:=fun b o hb e=>by
      rw [upd_ne (ne_of_none e hn),upd_ne hb]; exact e
    refine h _ c' ctv h2 tk (upd (upd H Pt (.tbl #[rawInt pos.line,rawInt pos.col,.ref c'])) c' (.frz oc (.ext fun _=>True))) ?_ hf ⟨c',oc,vs,t,rfl,hoc',hd,hv⟩ st (.inr ⟨c',oc,vs,t,by rw [upd_ne (Ne.symm ncP)]; exact upd_same,upd_same,hd,hv⟩) k
    have nP:∀ b,H b=none→b≠Pt:=fun b e q=>by rw [q,hT] at e; cases e
    refine I.step (g':=s.gens) (d':=s.drawn) (ch:=[]) (fun _ z=>nomatch z) (fun b o _ _ _ e n=>k b o (nP b n) e) (fun b o _ _ _ e n=>⟨o.slots,k b o (nP b n) e⟩) (fun b o _ e n=>?_) (fun b o _ e=>?_) (fun b xs e=>?_) (fun b o u e=>?_)
      (fun b ps e=>?_) (fun m' hm'=>?_) (fun b u e=>?_) I.bare
    · rw [upd_ne (Nat.ne_of_lt (Nat.lt_of_lt_of_le (Heap.lt_size e) hge)),upd_ne (nP b n)]; exact n
    · by_cases hb:b=Pt
      · exact ⟨_,hb ▸ hP'⟩
      · exact ⟨o,k b o hb e⟩
    · exact st b _ (fun q=>by rw [q,hT] at e; cases e) e
    · exact st b _ (fun q=>by rw [q,hT] at e; cases e) e
    · by_cases hb:b=Pt
      · subst hb
        rw [hT] at e; cases e
        exact ⟨#[rawInt pos.line,rawInt pos.col,.ref c'],by rw [upd_ne (Ne.symm ncP),upd_same]; simp⟩
      · exact ⟨#[],by rw [st b _ hb e]; simp⟩
    · obtain ⟨o,es,ep,e,r⟩:=hm'
      exact ⟨o,es,ep,k _ o hL e,r⟩
    · by_cases hb:b=c'
      · subst hb
        rw [upd_same] at e; cases e
        exact ⟨hoc',trivial,⟨oc,hoc'⟩,fun _ _ _ _=>trivial⟩
      · rw [upd_ne hb] at e
        by_cases hb2:b=Pt
        · subst hb2
          rw [upd_same] at e; cases e
          exact hP'
        · rw [upd_ne hb2] at e
          refine (I.hok b u e).stay (fun d v hc q=>k d v ?_ q) (fun d q=>st d _ (fun z=>by rw [z,hT] at q; cases q) q) fun d xs q=>st d _ (fun z=>by rw [z,hT] at q; cases q) q
          rintro rfl
          rcases hc with hc | hc
          · exact hb2 hc.symm
          · rw [hT] at hc; cases hc
  · have hP:s.heap.get? Pt=some (tabObj #[rawInt pos.line,rawInt pos.col,.ref c']):=I.hok Pt _ hT
    refine PySem.W.kla_makeFunctionHit (mg:=X.mg) (cv:=.ref c') (closure_of hfr) I.ok.glob hg hcode C1 hP (by simp [TriplesOk,rawInt]) (by simp [codeAmong,rawInt]) B1 fun ctv h' tk hk hsz=>?_
    have k:∀ b o,s.heap.get? b=some o→(h'.push (kla_obj "<lambda>" (X.env.qual ++ "<lambda>") params body scope (clGo X.env.cells scope.names []) ((X.mg "__name__").getD .none) c' ctv)).get? b=some o:=fun b o e=>Heap.get?_push_of_some _ (hk b o e)
    refine h h'.objs.size c' ctv _ tk H (I.kept k) (Heap.get?_push_size _ rfl) ⟨c',oc,vs,t,rfl,k _ _ (I.hok c' _ hc').1,hd,hv⟩ (fun _ _ _ e=>e) (.inr ⟨c',oc,vs,t,hT,hc',hd,hv⟩) fun b o _ e=>k b o e
end
end L2
namespace L2
open PySem PySem.Spec PySem.Calls PyProof.Rows
open PySem.W (kla_fn kla_obj tabObj CodeHd)
section
variable {X:Cx} {c Pt:Addr} {e:Expr} {tx:TA} {x y:Str} {j:Nat} {params:Arguments} {scope:Scope} {p0 p1 p2 p3 lpos kpos pos:Pos}
end
end L2
namespace L2
open PySem PySem.Spec PySem.Calls PyProof.Rows
open PySem.W (tabObj CodeHd noTabs tabIn)
end L2
namespace L2
open PySem PySem.Spec PyProof.Rows
theorem Fun.okC {P:Program} {w:World} {K:PySem.W.Frag} {mg:Str→Option Value} {base:Heap} {x qual:Str} {st:Stmt} {f:Addr} {fd:FuncData} {N ps:List Str} {k:Nat} {sp:Sp} {cdv:Value} (F:Fun K x qual st f fd) (hc:fd.code=cdv) (S:FnScope N ps (defScope st)) (len:∀ vs H Q E,sp vs H Q E→vs.length=ps.length)
    (hbody:∀ (A:Around) (outer:List Env) (s:Shared) (H:Hp) (vs:List V) (Q:VK) (E:XK),Room k (A.deeper (envOfC qual (defScope st) s.heap.objs.size f cdv))→sp vs H Q E →
      ∃ t,PSs (cxOf CX0 P w K mg base N qual (defScope st) f cdv A outer s H E).nox (defBody st) t∧t { nx:=fun _ H'=>Q .non H',rt:=Q } (start N vs) H):FnOk P w K mg base CX0 (k+1) f fd ps sp:=by
  obtain ⟨oc,od,kV,doc,pm,an,cdv',ct,osl,rfl,lk,hcd⟩:=F.ex
  have e:cdv'=cdv:=hc
  subst e
  refine fn_of lk hcd S len fun A outer s H vs Q E hr hsp=>?_
  obtain ⟨t,h,q⟩:=hbody A outer s H vs Q E hr hsp
  exact ⟨t,h.nox,q⟩
end L2
namespace L2
open PySem PySem.Spec PyProof.Rows
end L2
namespace L2
open PySem PySem.Spec PyProof.Rows
theorem LamT.same {Pt:Addr} {p:Pos} {q:Str} {H H':Hp} (h:LamT Pt p q H) (e:Same H H'):LamT Pt p q H':=by
  rcases h with h | ⟨c',oc,vs,t,h1,h2,h3,h4⟩
  · exact .inl (e _ _ h)
  · exact .inr ⟨c',oc,vs,t,e _ _ h1,e _ _ h2,h3,h4⟩
end L2
namespace L2
open PySem PySem.Spec PyProof.Rows
section
variable {K:PySem.W.Frag} {σ:St} {H:Hp} {Q:VK}
theorem plain_ints:∀ ns:List Int,plainAll (ns.map .int)=true
  | []=>rfl
  | n :: ns=>by simp only [List.map_cons,plainAll,Bool.and_eq_true]; exact ⟨by simp [plainD],plain_ints ns⟩
theorem depth_ints:∀ ns:List Int,PyData.depthAll (ns.map .int)≤1
  | []=>by simp [PyData.depthAll]
  | n :: ns => by
    have:=depth_ints ns
    simp only [List.map_cons,PyData.depthAll]
    have e:(PyData.int n).depth≤1:=by simp [PyData.depth]
    omega
theorem fine_ints (ns:List Int):Fine (.list (ns.map .int)):=⟨plain_lay _ (by simp only [plainD]; exact plain_ints ns),by have:=depth_ints ns; simp only [PyData.depth]; omega⟩
theorem eqvAll_ints:∀ ns ms:List Int,PyData.eqvAll (ns.map .int) (ms.map .int)=decide (ns=ms)
  | [],[]=>by simp [PyData.eqvAll]
  | [],_ :: _=>by simp [PyData.eqvAll]
  | _ :: _,[]=>by simp [PyData.eqvAll]
  | n :: ns, m :: ms => by
    simp only [List.map_cons,PyData.eqvAll,eqvAll_ints ns ms,List.cons.injEq]
    rw [Bool.eq_iff_iff]
    simp [PyData.eqv]
theorem eqv_ints (ns ms:List Int):PyData.eqv (.list (ns.map .int)) (.list (ms.map .int))=decide (ns=ms):=by
  simp only [PyData.eqv]; exact eqvAll_ints ns ms
theorem rep_ints {H:Hp} {a:Addr} {ns:List Int} (h:SqL K H a (ns.map V.int)):Rep K H (.list (ns.map .int)) (.ref a):=.lst h (RepAll.ints ns)
end
end L2
namespace BootT
open PySem
theorem sum:bootBuiltins "sum" = some (.builtin "sum"):=by decide +kernel
theorem zip:bootBuiltins "zip" = some (.type "zip"):=by decide +kernel
theorem set:bootBuiltins "set" = some (.type "set"):=by decide +kernel
theorem enumerate:bootBuiltins "enumerate" = some (.type "enumerate"):=by decide +kernel
end BootT
namespace L2
open PySem PySem.Spec PyProof.Rows PySem.SeqAt
section
variable {X:Cx}
def rIndex (K:PySem.W.Frag):V→List V→Hp→VK→Prop:=fun x vs H Q=>∃ (l:Addr) (ns:List Int) (k:Int),x = .ref l∧vs=[.int k]∧SqL K H l (ns.map V.int)∧k ∈ ns∧Q (.int (ns.idxOf k:Nat)) H
theorem mt_index:MtM X "list.index" (rIndex X.K):=by
  intro pins s σ H x vs v us Q I rx rv h
  obtain ⟨l,ns,k,rfl,rfl,hq,hk,q⟩:=h
  cases rx
  obtain ⟨u,rfl,t,rfl⟩:=rv.one
  obtain ⟨its,r,pl,hz⟩:=I.list hq
  have hi:IntsAre its ns:=intsAre_of r
  have hlen:=hi.length
  have hl2:=r.length
  have hj:ns.idxOf k < ns.length:=List.idxOf_lt_length_iff.mpr hk
  have h63:=line63
  rw [List.length_map] at hz hl2
  obtain ⟨⟨cls,dd,data,sl⟩,ho,hc,n,hd⟩:=pl.isList
  simp only at hc hd
  subst hc hd
  refine call_meets PySem.F.slot_list_index ⟨_,ho,rfl⟩ PySem.F.entry_list_index (PySem.F.args_list_index_2 _ _)
    (list_indexAt l its.toArray n dd sl (.int k t) (isInt k) (ns.idxOf k) (by rw [List.size_toArray]; omega) (by omega) ?_ ?_) ⟨ho,fun y hy=>(eq_isInt k t hi y (by simpa using hy)).at _ _,⟨.int _,H,I.tok _,⟨_,rfl⟩,q⟩⟩
  · show isInt k its[ns.idxOf k]=true
    rw [isInt_at k hi _ (by omega) hj]
    simpa using List.getElem_idxOf hj
  · intro j hjs hlt
    show isInt k its[j]=false
    rw [isInt_at k hi j (by simpa using hjs) (by omega)]
    exact ne_of_lt_idxOf hlt _
def rIndexD (K:PySem.W.Frag):V→List V→Hp→VK→Prop:=fun x vs H Q=>∃ (l:Addr) (y:V) (ds:List PyData) (d:PyData) (j:Nat) (ej:PyData),x = .ref l∧vs=[y]∧Rep K H (.list ds) (.ref l)∧Rep K H d y∧Fine d∧PyData.canLayAll0 ds=true ∧
  ds.length≤sizeLine∧ds[j]? = some ej∧PyData.eqv ej d=true∧(∀ m e,m < j→ds[m]? = some e→PyData.eqv e d=false)∧Q (.int (j:Nat)) H
theorem mt_indexD (hu:X.A.units+64 < cLine):MtM X "list.index" (rIndexD X.K):=by
  intro pins s σ H x vs v us Q I rx rv h
  obtain ⟨l,y,ds,d,j,ej,rfl,rfl,hR,hd,hf,hc,hz,hj,he,hno,q⟩:=h
  cases rx
  obtain ⟨u,rfl,ru⟩:=rv.one
  obtain ⟨as,r1⟩:=Rep.reads I _ _ _ hR rfl
  obtain ⟨bs,r2⟩:=Rep.reads I d y u hd ru
  have h63:=line63
  have hdep:=hf.dep
  have hjl:j < ds.length:=(List.getElem?_eq_some_iff.mp hj).1
  cases r1 with
  | @list _ o items n _ as2 h1 h2 h3 h4 =>
    obtain ⟨cls,dd,data,sl⟩:=o
    have h2':cls=_:=h2
    have h3':data=_:=h3
    subst h2' h3'
    have hm:=readsAll_map _ _ _ hc h4
    have hsz:items.size=ds.length:=by rw [← hm,List.length_map,Array.length_toList]
    have at_:∀ (m:Nat) (hm':m < items.size) (e:PyData),ds[m]? = some e→readOf s.heap items[m]=e:=fun m hm' e z=>by
      rw [← hm,List.getElem?_map,Array.getElem?_toList,Array.getElem?_eq_getElem hm'] at z
      exact Option.some.inj z
    refine call_meets PySem.F.slot_list_index ⟨_,h1,rfl⟩ PySem.F.entry_list_index (PySem.F.args_list_index_2 _ _)
      (list_indexAt l items n dd sl u (fun y=>PyData.eqv (readOf s.heap y) d) j (by omega) (by omega) ?_ ?_) ⟨h1,items_eqAt h4 r2 hc hf.lay (by omega),⟨.int _,H,I.tok _,⟨_,rfl⟩,q⟩⟩
    · show PyData.eqv (readOf s.heap items[j]) d=true
      rw [at_ j (by omega) _ hj]; exact he
    · intro m hm' hlt
      obtain ⟨e,z⟩:∃ e,ds[m]? = some e:=⟨_,List.getElem?_eq_getElem (by omega)⟩
      show PyData.eqv (readOf s.heap items[m]) d=false
      rw [at_ m hm' e z]
      exact hno m e hlt z
theorem MtM.or {id:String} {r r':V→List V→Hp→VK→Prop} (h:MtM X id r) (h':MtM X id r'):MtM X id (fun x vs H Q=>r x vs H Q∨r' x vs H Q):=by
  intro pins s σ H x vs v us Q I rx rv z
  rcases z with z | z
  · exact h pins s σ H x vs v us Q I rx rv z
  · exact h' pins s σ H x vs v us Q I rx rv z
def rIndexG (K:PySem.W.Frag):V→List V→Hp→VK→Prop:=fun x vs H Q=>rIndex K x vs H Q∨rIndexD K x vs H Q
theorem mt_indexG (hu:X.A.units+64 < cLine):MtM X "list.index" (rIndexG X.K):=mt_index.or (mt_indexD hu)
def rng3 (i j c:Int):Nat:=if i < j then ((j - i - 1) / c+1).toNat else 0
theorem rangeSize3 {i j c:Int} (hc:0 < c):Builtin.Range.rangeSize i j c=(rng3 i j c:Int):=by
  unfold Builtin.Range.rangeSize rng3
  rw [if_pos hc]
  split
  · have:0≤(j - i - 1) / c:=Int.ediv_nonneg (by omega) (by omega)
    omega
  · rfl
theorem small3 {i j c:Int} (h:-(2 ^ 40)≤i∧i < 2 ^ 40∧-(2 ^ 40)≤j∧j < 2 ^ 40∧0 < c∧c < 2 ^ 20):Builtin.Range.small i j c=true:=by
  have hr:=rangeSize3 (i:=i) (j:=j) h.2.2.2.2.1
  have hb:(rng3 i j c:Int)≤2 ^ 42:=by
    unfold rng3
    split
    · have:(j - i - 1) / c≤j - i - 1:=Int.ediv_le_self _ (by omega)
      omega
    · decide
  unfold Builtin.Range.small
  rw [hr,if_pos h.2.2.2.2.1]
  have fit:∀ x:Int,-(2 ^ 43)≤x→x≤2 ^ 43→Builtin.Range.rangeFitsLong x=true:=fun x h1 h2=>by
    unfold Builtin.Range.rangeFitsLong
    simp only [Bool.and_eq_true,decide_eq_true_eq]
    omega
  rw [fit i (by omega) (by omega),fit j (by omega) (by omega),fit c (by omega) (by omega),fit _ (by omega) (by omega),fit (j+(c - 1)) (by omega) (by omega)]
  simp
variable {tg:Expr}
theorem x_bm0 {K:PySem.W.Frag} {T:String} {r:V→List V→Hp→VK→Prop} {to:TE} {σ:St} {H:Hp} {Q:VK} (h:to σ H fun x H1=>tyV K T x H1∧r x [] H1 Q):tBM0 K T r to σ H Q:=h
theorem x_index {K:PySem.W.Frag} {l:Addr} {ns:List Int} {k:Int} {H:Hp} {Q:VK} (h:SqL K H l (ns.map V.int)) (hk:k ∈ ns) (q:Q (.int (ns.idxOf k:Nat)) H):rIndexG K (.ref l) [.int k] H Q:=.inl ⟨l,ns,k,rfl,rfl,h,hk,q⟩
end
end L2
namespace L2
end L2
namespace L2
open PySem PySem.Spec PyProof.Rows
section
variable {K:PySem.W.Frag} {H:Hp} {Q:VK} {a:Addr} {xs:List V} {ns:List Int} {i i':Int} {j j':Nat}
theorem sIx_of {n d:Nat} (h:i=(j:Int)):HT.sIx n d (some i)=min j n:=by subst h; exact HT.sIx_nat n d j
theorem cut_from (h:i=(j:Int)):cutV xs (some i) none=xs.drop j:=by
  unfold cutV
  rw [sIx_of h,HT.sIx_none]
  by_cases e:j≤xs.length
  · rw [Nat.min_eq_left e,List.take_of_length_le (by rw [List.length_drop]; omega)]
  · rw [Nat.min_eq_right (by omega),List.drop_of_length_le (Nat.le_refl _),List.drop_of_length_le (by omega)]; simp
theorem cut_to (h:i=(j:Int)):cutV xs none (some i)=xs.take j:=by
  unfold cutV
  rw [sIx_of h,HT.sIx_none,List.drop_zero,Nat.sub_zero]
  by_cases e:j≤xs.length
  · rw [Nat.min_eq_left e]
  · rw [Nat.min_eq_right (by omega),List.take_of_length_le (Nat.le_refl _),List.take_of_length_le (by omega)]
theorem cut_mid (h:i=(j:Int)) (h':i'=(j':Int)):cutV xs (some i) (some i')=(xs.drop j).take (j' - j):=by
  unfold cutV
  rw [sIx_of h,sIx_of h']
  by_cases e:j≤xs.length
  · rw [Nat.min_eq_left e]
    by_cases e':j'≤xs.length
    · rw [Nat.min_eq_left e']
    · rw [Nat.min_eq_right (by omega),List.take_of_length_le (by rw [List.length_drop]; omega),List.take_of_length_le (by rw [List.length_drop]; omega)]
  · rw [List.drop_of_length_le (show xs.length≤min j xs.length by omega),List.drop_of_length_le (show xs.length≤j by omega)]; simp
theorem x_slFrom (h:SqL K H a (ns.map V.int)) (e:i=(j:Int)) (k:∀ p,H p=none→Q (.ref p) (upd H p (.lst ((ns.drop j).map V.int)))):rSlL K (.ref a) (some i) none H Q :=
  x_slL h fun p hp=>by rw [cut_from e,← List.map_drop]; exact k p hp
theorem x_slTo (h:SqL K H a (ns.map V.int)) (e:i=(j:Int)) (k:∀ p,H p=none→Q (.ref p) (upd H p (.lst ((ns.take j).map V.int)))):rSlL K (.ref a) none (some i) H Q :=
  x_slL h fun p hp=>by rw [cut_to e,← List.map_take]; exact k p hp
theorem x_slMid (h:SqL K H a (ns.map V.int)) (e:i=(j:Int)) (e':i'=(j':Int)) (k:∀ p,H p=none→Q (.ref p) (upd H p (.lst (((ns.drop j).take (j' - j)).map V.int)))):rSlL K (.ref a) (some i) (some i') H Q :=
  x_slL h fun p hp=>by rw [cut_mid e e',← List.map_drop,← List.map_take]; exact k p hp
theorem x_catI {l b:Addr} {ms:List Int} (h:H l=some (.lst (ns.map V.int))) (h':H b=some (.lst (ms.map V.int))) (hl:ns.length+ms.length≤100000) (k:∀ p,H p=none→Q (.ref p) (upd H p (.lst ((ns ++ ms).map V.int)))):rAddG (.ref l) (.ref b) H Q :=
  x_cat h h' (by rw [List.length_map,List.length_map]; exact small_le hl) fun p hp=>by rw [← List.map_append]; exact k p hp
theorem get_int {j:Nat} {v:Int} (h:ns[j]? = some v):(ns.map V.int)[j]? = some (.int v):=by rw [List.getElem?_map,h]; rfl
theorem x_ixI {v:Int} (h:SqL K H a (ns.map V.int)) (e:i=(j:Int)) (g:ns[j]? = some v) (k:Q (.int v) H):rIxG K (.ref a) (.int i) H Q:=x_ixL h (atI_of e (get_int g)) k
theorem x_lenI (h:SqL K H a (ns.map V.int)) (k:Q (.int ns.length) H):rLen K [.ref a] H Q:=x_lenL h (by rw [List.length_map]; exact k)
end
end L2
namespace L2
open PySem PySem.Spec PyProof.Rows
section
variable {K:PySem.W.Frag} {σ:St} {H:Hp} {Q:VK}
theorem comp_rel {σ0 : St} {g : TG} {te : TE} {J : It} {n : Nat} {acc : Addr} {R : Hp → Prop} (E : Nat → V → Hp → Prop) (X : Nat → V → Prop) (S : St → Prop) (ha : H acc = none) (s0 : S σ0) (hn : n ≤ 100000)
    (hgo:∀ i H',Same H H'→i < n→J.go i H') (hstop:∀ H',Same H H'→J.stop n H') (hy:∀ i H' x H2,Same H H'→i < n→J.yld i H' x H2→H2=H'∧X i x)
    (st:∀ i y H1 H2 zs,H1 acc=some (.lst zs)→SameBut1 acc H1 H2→E i y H1→E i y H2)
    (turn:∀ (i:Nat) (x:V) (σ':St) (H':Hp) (G:V→St→Hp→Prop),i < n→X i x→Same H H'→S σ'→(∀ y σ2 H5,S σ2→Same H' H5→E i y H5→G y σ2 H5)→g x σ' H' fun σ2 H3=>te σ2 H3 fun y H5=>G y σ2 H5)
    (fin:∀ ys H',ys.length=n→H' acc=some (.lst ys)→Same H H'→(∀ i y,ys[i]? = some y→E i y H')→R H') :
    ∃ W:Nat→Nat→List V→St→Hp→Prop,(∃ m,W 0 m [] σ0 (upd H acc (.lst [])))∧∀ i m ys σ' H',W i m ys σ' H'→H' acc=some (.lst ys) ∧
    ((J.stop i H'∧R H')∨(J.go i H'∧∀ x H2,J.yld i H' x H2→g x σ' H2 fun σ2 H3=>tYes σ2 H3 fun b H4 =>
      if b=true then te σ2 H4 fun y H5=>H5 acc=some (.lst ys)∧ys.length < sizeLine∧∃ m',m' < m∧W (i+1) m' (ys ++ [y]) σ2 (upd H5 acc (.lst (ys ++ [y]))) else ∃ m',m' < m∧W (i+1) m' ys σ2 H4)):=by
  refine comp_by (n:=n) (tt:=tYes) (fun i ys H'=>ys.length=i∧H' acc=some (.lst ys)∧Same H H'∧∀ j y,ys[j]? = some y→E j y H') S ⟨rfl,upd_same,Same.upd_new ha,fun j y e=>by simp at e⟩ s0 ?_ ?_ ?_ ?_
  · rintro i ys H' ⟨_,h,_⟩; exact h
  · rintro ys H' ⟨e,h,S',hE⟩
    exact ⟨hstop H' S',fin ys H' e h S' hE⟩
  · rintro i ys H' hi ⟨e,h,S',hE⟩
    exact hgo i H' S' hi
  · rintro i ys σ' H' x H2 hi ⟨e,h,S',hE⟩ hσ hyl
    obtain ⟨rfl,hX⟩:=hy i H' x H2 S' hi hyl
    have z:=turn i x σ' H2 (fun y σ2 H5=>H5 acc=some (.lst ys)∧ys.length < sizeLine∧∃ m',m' < n - i∧CNext n (i+1) S (fun ys H'=>ys.length=i+1∧H' acc=some (.lst ys)∧Same H H'∧∀ j y,ys[j]? = some y→E j y H') m' (ys ++ [y]) σ2 (upd H5 acc (.lst (ys ++ [y])))) hi hX S' hσ ?_
    · exact z
    · intro y σ2 H5 h2 S5 hE5
      refine ⟨S5 _ _ h,small_lt (m:=100000) (by omega),CNext.mk' hi h2 ⟨by rw [List.length_append,e]; rfl,upd_same,fun b o q=>by rw [upd_ne (ne_of_none q ha)]; exact S5 _ _ (S' _ _ q),fun j v hv=>?_⟩⟩
      have hb:SameBut1 acc H5 (upd H5 acc (.lst (ys ++ [y]))):=SameBut1.upd
      by_cases hj:j < ys.length
      · rw [List.getElem?_append_left hj] at hv
        exact st j v _ _ _ (S5 _ _ h) hb (st j v _ _ _ h (SameBut1.same S5) (hE j v hv))
      · rw [List.getElem?_append_right (by omega)] at hv
        have ej:j=i:=by
          by_cases z:j - ys.length=0
          · omega
          · rw [List.getElem?_eq_none (by simp; omega)] at hv; cases hv
        subst ej
        rw [e,Nat.sub_self] at hv
        have ev:y=v:=by simpa using hv
        subst ev
        exact st j y _ _ _ (S5 _ _ h) hb hE5
theorem comp_rng {σ0:St} {g:TG} {te:TE} {lo:Int} {n:Nat} {acc:Addr} {R:Hp→Prop} (E:Nat→V→Hp→Prop) (S:St→Prop) (ha:H acc=none) (s0:S σ0) (hn:n≤100000)
    (st:∀ i y H1 H2 zs,H1 acc=some (.lst zs)→SameBut1 acc H1 H2→E i y H1→E i y H2)
    (turn:∀ (i:Nat) (σ':St) (H':Hp) (G:V→St→Hp→Prop),i < n→Same H H'→S σ'→(∀ y σ2 H5,S σ2→Same H' H5→E i y H5→G y σ2 H5)→g (.int (lo+i)) σ' H' fun σ2 H3=>te σ2 H3 fun y H5=>G y σ2 H5)
    (fin:∀ ys H',ys.length=n→H' acc=some (.lst ys)→Same H H'→(∀ i y,ys[i]? = some y→E i y H')→R H') :
    ∃ W:Nat→Nat→List V→St→Hp→Prop,(∃ m,W 0 m [] σ0 (upd H acc (.lst [])))∧∀ i m ys σ' H',W i m ys σ' H'→H' acc=some (.lst ys) ∧
    (((Itr lo n).stop i H'∧R H')∨((Itr lo n).go i H'∧∀ x H2,(Itr lo n).yld i H' x H2→g x σ' H2 fun σ2 H3=>tYes σ2 H3 fun b H4 =>
      if b=true then te σ2 H4 fun y H5=>H5 acc=some (.lst ys)∧ys.length < sizeLine∧∃ m',m' < m∧W (i+1) m' (ys ++ [y]) σ2 (upd H5 acc (.lst (ys ++ [y]))) else ∃ m',m' < m∧W (i+1) m' ys σ2 H4)) :=
  comp_rel E (fun i x=>x = .int (lo+i)) S ha s0 hn (fun i H' _ h=>h) (fun H' _=>Nat.le_refl n) (fun i H' x H2 _ _ h=>h) st (fun i x σ' H' G hi hX S' hσ k=>by subst hX; exact turn i σ' H' G hi S' hσ k) fin
theorem comp_lst {σ0:St} {g:TG} {te:TE} {z acc:Addr} {xs:List V} {R:Hp→Prop} (E:Nat→V→Hp→Prop) (S:St→Prop) (hz:SqL K H z xs) (ha:H acc=none) (s0:S σ0) (hn:xs.length≤100000)
    (st:∀ i y H1 H2 zs,H1 acc=some (.lst zs)→SameBut1 acc H1 H2→E i y H1→E i y H2)
    (turn:∀ (i:Nat) (x:V) (σ':St) (H':Hp) (G:V→St→Hp→Prop),i < xs.length→xs[i]? = some x→Same H H'→S σ'→(∀ y σ2 H5,S σ2→Same H' H5→E i y H5→G y σ2 H5)→g x σ' H' fun σ2 H3=>te σ2 H3 fun y H5=>G y σ2 H5)
    (fin:∀ ys H',ys.length=xs.length→H' acc=some (.lst ys)→Same H H'→(∀ i y,ys[i]? = some y→E i y H')→R H') :
    ∃ W:Nat→Nat→List V→St→Hp→Prop,(∃ m,W 0 m [] σ0 (upd H acc (.lst [])))∧∀ i m ys σ' H',W i m ys σ' H'→H' acc=some (.lst ys) ∧
    (((Itl K z).stop i H'∧R H')∨((Itl K z).go i H'∧∀ x H2,(Itl K z).yld i H' x H2→g x σ' H2 fun σ2 H3=>tYes σ2 H3 fun b H4 =>
      if b=true then te σ2 H4 fun y H5=>H5 acc=some (.lst ys)∧ys.length < sizeLine∧∃ m',m' < m∧W (i+1) m' (ys ++ [y]) σ2 (upd H5 acc (.lst (ys ++ [y]))) else ∃ m',m' < m∧W (i+1) m' ys σ2 H4)) :=
  comp_rel E (fun i x=>xs[i]? = some x) S ha s0 hn (fun i H' S' h=>⟨xs,_,S'.seq hz,List.getElem?_eq_getElem h⟩) (fun H' S'=>⟨xs,S'.seq hz,Nat.le_refl _⟩) (fun i H' x H2 S' _ h=>⟨h.1,h.2 xs (S'.seq hz)⟩) st turn fin
end
end L2
namespace Sx
open PySem PySem.W PyProof.Rows
variable {n:Nat} {k:Nat→Int}
def Sat (n:Nat) (k:Nat→Int) {α:Type}:KasT α→(α→Prop)→Prop
  | .ret a,Q=>Q a
  | .ask i j f,Q=>i < n∧j < n∧Sat n k (f (decide (k i < k j))) Q
theorem Sat.bind {α β:Type} {f:α→KasT β} {Q:β→Prop}:∀ {t:KasT α},Sat n k t (fun a=>Sat n k (f a) Q)→Sat n k (t.bind f) Q
  | .ret _,h=>h
  | .ask _ _ _,h=>⟨h.1,h.2.1,Sat.bind h.2.2⟩
theorem Sat.mono {α:Type} {Q Q':α→Prop} (hq:∀ a,Q a→Q' a):∀ {t:KasT α},Sat n k t Q→Sat n k t Q'
  | .ret _,h=>hq _ h
  | .ask _ _ _,h=>⟨h.1,h.2.1,Sat.mono hq h.2.2⟩
def Pm (n:Nat) (p:Array Nat):Prop:=p.toList.Perm (List.range n)
theorem Pm.size {p:Array Nat} (h:Pm n p):p.size=n:=by have:=h.length_eq; simpa using this
theorem Pm.lt {p:Array Nat} (h:Pm n p) (hn:0 < n) (i:Nat):p.getD i 0 < n:=by
  by_cases hi:i < p.size
  · have e:p.getD i 0=p[i]:=by simp [Array.getD,hi]
    rw [e]
    have:p[i] ∈ List.range n:=h.mem_iff.mp (by simp)
    simpa using this
  · have e:p.getD i 0=0:=by simp [Array.getD,hi]
    omega
def Ky (k:Nat→Int) (p:Array Nat) (i:Nat):Int:=k (p.getD i 0)
theorem Ky.congr {p q:Array Nat} {i j:Nat} (h:p[i]? = q[j]?):Ky k p i=Ky k q j:=by
  unfold Ky
  have e:∀ (r:Array Nat) (a:Nat),r.getD a 0=(r[a]?).getD 0:=fun r a=>by by_cases h:a < r.size <;> simp [Array.getD,h]
  rw [e,e,h]
theorem Pm.rev {p:Array Nat} (h:Pm n p) (i j:Nat):Pm n (kas_rev p i j):=(Array.perm_iff_toList_perm.mp (mirror_perm p i j _)).trans h
theorem Pm.bub {p:Array Nat} (h:Pm n p) (i j:Nat):Pm n (bubble p i j):=(Array.perm_iff_toList_perm.mp (bubble_perm p i j)).trans h
theorem ky_rev {p:Array Nat} {a b:Nat} (hb:b≤p.size) (i:Nat):Ky k (kas_rev p a b) i=if a≤i∧i < b then Ky k p (a+b - 1 - i) else Ky k p i:=by
  have e:=getElem?_mirror_all (i:=a) hb i
  split
  · rename_i h; rw [if_pos h] at e; exact Ky.congr e
  · rename_i h; rw [if_neg h] at e; exact Ky.congr e
theorem ky_same {p:Array Nat} {a b:Nat} (hb:b≤p.size) (h:∀ i,a≤i→i+1 < b→Ky k p i=Ky k p (i+1)) (i:Nat):Ky k (kas_rev p a b) i=Ky k p i:=by
  have all:∀ d i,a≤i→i+d < b→Ky k p i=Ky k p (i+d):=fun d=>by
    induction d with
    | zero=>intro i _ _; rfl
    | succ d ih=>intro i h1 h2; rw [ih i h1 (by omega),h (i+d) (by omega) (by omega)]; rfl
  rw [ky_rev hb]
  split
  · rename_i z
    by_cases c:a+b - 1 - i≤i
    · have:=all (i - (a+b - 1 - i)) (a+b - 1 - i) (by omega) (by omega)
      rw [this]; congr 1; omega
    · have:=all (a+b - 1 - i - i) i (by omega) (by omega)
      rw [this]; congr 1; omega
  · rfl
def Up (k:Nat→Int) (p:Array Nat) (m:Nat):Prop:=∀ i,i+1 < m→Ky k p i≤Ky k p (i+1)
def Dn (k:Nat→Int) (p:Array Nat) (m:Nat):Prop:=∀ i,i+1 < m→Ky k p (i+1)≤Ky k p i
theorem Up.le {p:Array Nat} {m:Nat} (h:Up k p m) {i j:Nat} (hij:i≤j) (hj:j < m):Ky k p i≤Ky k p j:=by
  induction j with
  | zero => have : i = 0 := by omega
            subst this; exact Int.le_refl _
  | succ j ih =>
    by_cases e:i=j+1
    · subst e; exact Int.le_refl _
    · exact Int.le_trans (ih (by omega) (by omega)) (h j hj)
theorem Up.one {p:Array Nat} {m:Nat} (hm:m≤1):Up k p m:=fun i hi=>absurd hi (by omega)
theorem sat_asc {p : Array Nat} (hp : Pm n p) (hn : 0 < n) : ∀ (f m : Nat), 1 ≤ m → m + f ≤ n → Up k p m → Sat n k (kas_asc p f m) fun m' => m ≤ m' ∧ m' ≤ m + f ∧ Up k p m' ∧ (m' < m + f → Ky k p m' < Ky k p (m' - 1))
  | 0,m,_,_,h=>⟨Nat.le_refl _,Nat.le_refl _,h,fun z=>absurd z (by omega)⟩
  | f + 1, m, h1, h2, h => by
    refine ⟨hp.lt hn _,hp.lt hn _,?_⟩
    by_cases c:k (p.getD m 0) < k (p.getD (m - 1) 0)
    · rw [decide_eq_true c]
      exact ⟨Nat.le_refl _,by omega,h,fun _=>c⟩
    · rw [decide_eq_false c]
      refine Sat.mono (fun m' z=>⟨by omega,by omega,z.2.2.1,fun w=>z.2.2.2 (by omega)⟩) (sat_asc hp hn f (m+1) (by omega) (by omega) fun i hi=>?_)
      by_cases e:i+1=m
      · subst e
        have:Ky k p i=k (p.getD (i+1 - 1) 0):=rfl
        have:Ky k p (i+1)=k (p.getD (i+1) 0):=rfl
        omega
      · exact h i (by omega)
structure Fall (n:Nat) (k:Nat→Int) (p:Array Nat) (m q:Nat):Prop where
  pm:Pm n p
  dn:Dn k p m
  le:q+1≤m
  eq:∀ i,m - (q+1)≤i→i+1 < m→Ky k p i=Ky k p (i+1)
theorem sat_desc (hn : 0 < n) : ∀ (f : Nat) (p : Array Nat) (m q : Nat), 1 ≤ m → m + f ≤ n → Fall n k p m q → Sat n k (kas_desc f p m q) fun r => m ≤ r.2.1 ∧ r.2.1 ≤ m + f ∧ Fall n k r.1 r.2.1 r.2.2
  | 0,p,m,q,_,_,h=>⟨Nat.le_refl _,Nat.le_refl _,h⟩
  | f + 1, p, m, q, h1, h2, h => by
    refine ⟨h.pm.lt hn _,h.pm.lt hn _,?_⟩
    by_cases c:k (p.getD m 0) < k (p.getD (m - 1) 0)
    · rw [decide_eq_true c]
      show Sat n k (if q > 0 then _ else _) _
      have hc:Ky k p m≤Ky k p (m - 1):=Int.le_of_lt c
      by_cases hq:q > 0
      · rw [if_pos hq]
        have sm:∀ i,Ky k (kas_rev p (m - (q+1)) m) i=Ky k p i:=ky_same (by rw [h.pm.size]; omega) h.eq
        refine Sat.mono (fun r z=>⟨by omega,by omega,z.2.2⟩) (sat_desc hn f _ (m+1) 0 (by omega) (by omega) ⟨h.pm.rev _ _,fun i hi=>?_,by omega,fun i h3 h4=>absurd h4 (by omega)⟩)
        rw [sm,sm]
        by_cases e:i+1=m
        · subst e; exact hc
        · exact h.dn i (by omega)
      · rw [if_neg hq]
        refine Sat.mono (fun r z=>⟨by omega,by omega,z.2.2⟩) (sat_desc hn f _ (m+1) 0 (by omega) (by omega) ⟨h.pm,fun i hi=>?_,by omega,fun i h3 h4=>absurd h4 (by omega)⟩)
        by_cases e:i+1=m
        · subst e; exact hc
        · exact h.dn i (by omega)
    · rw [decide_eq_false c]
      refine ⟨h.pm.lt hn _,h.pm.lt hn _,?_⟩
      by_cases d:k (p.getD (m - 1) 0) < k (p.getD m 0)
      · rw [decide_eq_true d]
        exact ⟨Nat.le_refl _,Nat.le_add_right m (f+1),h⟩
      · rw [decide_eq_false d]
        have he:Ky k p m=Ky k p (m - 1):=by
          have e1:Ky k p m=k (p.getD m 0):=rfl
          have e2:Ky k p (m - 1)=k (p.getD (m - 1) 0):=rfl
          omega
        have hle:=h.le
        refine Sat.mono (fun r z=>⟨by omega,by omega,z.2.2⟩) (sat_desc hn f p (m+1) (q+1) (by omega) (by omega) ⟨h.pm,fun i hi=>?_,by omega,fun i h3 h4=>?_⟩)
        · by_cases e:i+1=m
          · subst e; exact Int.le_of_eq he
          · exact h.dn i (by omega)
        · by_cases e:i+1=m
          · subst e; exact he.symm
          · exact h.eq i (by omega) (by omega)
theorem sat_tail {p:Array Nat} {m:Nat} (hn:0 < n) (hp:Pm n p) (h1:1≤m) (hm:m≤n) (h:Dn k p m):Sat n k (kas_tail3 m n p) fun r=>Pm n r.2∧1≤r.1∧r.1≤n∧Up k r.2 r.1:=by
  refine Sat.bind (Sat.mono (fun m' z=>⟨hp.rev _ _,by omega,by omega,z.2.2.1⟩) (sat_asc (hp.rev 0 m) hn (n - m) m h1 (by omega) fun i hi=>?_))
  rw [ky_rev (by rw [hp.size]; exact hm),ky_rev (by rw [hp.size]; exact hm),if_pos (by omega),if_pos (by omega)]
  have:=h (0+m - 1 - (i+1)) (by omega)
  have e:0+m - 1 - (i+1)+1=0+m - 1 - i:=by omega
  rw [e] at this; exact this
theorem sat_descPart {p:Array Nat} {m:Nat} (hn:0 < n) (hp:Pm n p) (h1:1≤m) (hm:m+1≤n) (h:Dn k p (m+1)):Sat n k (kas_descPart m n p) fun r=>Pm n r.2∧1≤r.1∧r.1≤n∧Up k r.2 r.1:=by
  refine Sat.bind (Sat.mono ?_ (sat_desc hn (n - (m+1)) p (m+1) 0 (by omega) (by omega) ⟨hp,h,by omega,fun i h3 h4=>absurd h4 (by omega)⟩))
  rintro ⟨p',m',q'⟩ ⟨a1,a2,a3⟩
  show Sat n k (if q' > 0 then _ else _) _
  have a1:m+1≤m':=a1
  have a2:m'≤m+1+(n - (m+1)):=a2
  have a3:Fall n k p' m' q':=a3
  by_cases hq:q' > 0
  · rw [if_pos hq]
    refine sat_tail hn (a3.pm.rev _ _) (by omega) (by omega) fun i hi=>?_
    have sm:∀ i,Ky k (kas_rev p' (m' - (q'+1)) m') i=Ky k p' i:=ky_same (by rw [a3.pm.size]; omega) a3.eq
    rw [sm,sm]; exact a3.dn i hi
  · rw [if_neg hq]
    exact sat_tail hn a3.pm (by omega) (by omega) a3.dn
theorem sat_count {p : Array Nat} (hn : 0 < n) (hp : Pm n p) : Sat n k (kas_count n p) fun r => Pm n r.2 ∧ 1 ≤ r.1 ∧ r.1 ≤ n ∧ Up k r.2 r.1 := by
  refine Sat.bind (Sat.mono ?_ (sat_asc hp hn (n - 1) 1 (Nat.le_refl _) (by omega) (Up.one (Nat.le_refl _))))
  rintro m ⟨a1,a2,a3,a4⟩
  show Sat n k (if (m == n)=true then _ else _) _
  by_cases e:m=n
  · subst e
    rw [if_pos (by simp)]
    exact ⟨hp,a1,Nat.le_refl _,a3⟩
  · rw [if_neg (by simpa using e)]
    have a4:=a4 (by omega)
    by_cases h1:m > 1
    · rw [if_pos h1]
      refine ⟨hp.lt hn _,hp.lt hn _,?_⟩
      by_cases c:k (p.getD 0 0) < k (p.getD (m - 1) 0)
      · rw [decide_eq_true c]
        exact ⟨hp,a1,by omega,a3⟩
      · rw [decide_eq_false c]
        have eqs:∀ i,i+1 < m→Ky k p i=Ky k p (i+1):=fun i hi=>by
          have b1:=a3.le (Nat.zero_le i) (show i < m by omega)
          have b2:=a3 i hi
          have b3:=a3.le (show i+1≤m - 1 by omega) (by omega)
          have e1:Ky k p 0=k (p.getD 0 0):=rfl
          have e2:Ky k p (m - 1)=k (p.getD (m - 1) 0):=rfl
          omega
        have sm:∀ i,Ky k (kas_rev p 0 m) i=Ky k p i:=ky_same (by rw [hp.size]; omega) fun i _ hi=>eqs i hi
        refine sat_descPart hn (hp.rev _ _) a1 (by omega) fun i hi=>?_
        rw [sm,sm]
        by_cases e3:i+1=m
        · subst e3; exact Int.le_of_lt a4
        · exact Int.le_of_eq (eqs i (by omega)).symm
    · rw [if_neg h1]
      have e1:m=1:=by omega
      subst e1
      refine sat_descPart hn hp (Nat.le_refl _) (by omega) fun i hi=>?_
      have e2:i=0:=by omega
      subst e2
      exact Int.le_of_lt a4
theorem sat_place {p : Array Nat} {x : Nat} (hn : 0 < n) (hp : Pm n p) (hx : Up k p x) : ∀ (f l r : Nat), r - l ≤ f → l ≤ r → r ≤ x → (∀ i, i < l → Ky k p i ≤ Ky k p x) → (∀ i, r ≤ i → i < x → Ky k p x < Ky k p i) →
    Sat n k (kas_place p x f l r) fun l'=>l'≤x∧(∀ i,i < l'→Ky k p i≤Ky k p x)∧∀ i,l'≤i→i < x→Ky k p x < Ky k p i
  | 0,l,r,h1,h2,h3,h4,h5=>⟨by omega,h4,fun i z1 z2=>h5 i (by omega) z2⟩
  | f + 1, l, r, h1, h2, h3, h4, h5 => by
    show Sat n k (if l ≥ r then _ else _) _
    by_cases c:l ≥ r
    · rw [if_pos c]
      exact ⟨by omega,h4,fun i z1 z2=>h5 i (by omega) z2⟩
    · rw [if_neg c]
      refine ⟨hp.lt hn _,hp.lt hn _,?_⟩
      by_cases d:k (p.getD x 0) < k (p.getD ((l+r) / 2) 0)
      · rw [decide_eq_true d]
        refine sat_place hn hp hx f l ((l+r) / 2) (by omega) (by omega) (by omega) h4 fun i z1 z2=>?_
        have b:=hx.le z1 z2
        have d:Ky k p x < Ky k p ((l+r) / 2):=d
        omega
      · rw [decide_eq_false d]
        refine sat_place hn hp hx f ((l+r) / 2+1) r (by omega) (by omega) h3 (fun i z1=>?_) h5
        have b:=hx.le (show i≤(l+r) / 2 by omega) (by omega)
        have d:¬ Ky k p x < Ky k p ((l+r) / 2):=d
        omega
theorem ky_bub {p:Array Nat} {x l:Nat} (hx:x < p.size) (hl:l≤x) (i:Nat):Ky k (bubble p x (x - l)) i=if i=l then Ky k p x else if l < i∧i≤x then Ky k p (i - 1) else Ky k p i:=by
  have e:=getElem?_bubble hx (x - l) (by omega) i
  have e2:x - (x - l)=l:=by omega
  rw [e2] at e
  by_cases h1:i=l
  · rw [if_pos h1] at e ⊢; exact Ky.congr e
  · rw [if_neg h1] at e ⊢
    by_cases h2:l < i∧i≤x
    · rw [if_pos h2] at e ⊢; exact Ky.congr e
    · rw [if_neg h2] at e ⊢; exact Ky.congr e
theorem sat_bin (hn : 0 < n) : ∀ (f : Nat) (p : Array Nat) (x : Nat), x + f = n → Pm n p → Up k p x → Sat n k (kas_bin f p x) fun p' => Pm n p' ∧ Up k p' n
  | 0,p,x,h1,hp,h=>⟨hp,by rw [← h1]; exact h⟩
  | f + 1, p, x, h1, hp, h => by
    refine Sat.bind (Sat.mono ?_ (sat_place hn hp h x 0 x (by omega) (Nat.zero_le _) (Nat.le_refl _) (fun i z=>absurd z (by omega)) (fun i z1 z2=>absurd z2 (by omega))))
    rintro l ⟨a1,a2,a3⟩
    refine sat_bin hn f _ (x+1) (by omega) (hp.bub _ _) fun i hi=>?_
    have hs:x < p.size:=by rw [hp.size]; omega
    rw [ky_bub hs a1,ky_bub hs a1]
    by_cases c1:i+1 < l
    · rw [if_neg (by omega),if_neg (by omega),if_neg (by omega),if_neg (by omega)]
      exact h i (by omega)
    · by_cases c2:i+1=l
      · rw [if_neg (by omega),if_neg (by omega),if_pos c2]
        exact a2 i (by omega)
      · by_cases c3:i=l
        · rw [if_pos c3,if_neg (by omega),if_pos (by omega)]
          have:=a3 i (by omega) (by omega)
          have e:i+1 - 1=i:=by omega
          rw [e]; omega
        · rw [if_neg c3,if_pos (by omega),if_neg (by omega),if_pos (by omega)]
          have:=h (i - 1) (by omega)
          have e:i - 1+1=i+1 - 1:=by omega
          rw [e] at this; exact this
theorem pm_range:Pm n (List.toArray (List.range n)):=by unfold Pm; simp
theorem sat_sort (hn:0 < n):Sat n k (kas_sort n) fun p=>Pm n p∧Up k p n:=by
  refine Sat.bind (Sat.mono ?_ (sat_count hn pm_range))
  rintro ⟨m,p⟩ ⟨a1,a2,a3,a4⟩
  show Sat n k (if m < n then _ else _) _
  have a2:1≤m:=a2
  have a3:m≤n:=a3
  have a4:Up k p m:=a4
  by_cases c:m < n
  · rw [if_pos c]
    have e:max m 1=m:=by omega
    show Sat n k (kas_bin (n - max m 1) p (max m 1)) _
    rw [e]
    exact sat_bin hn (n - m) p m (by omega) a1 a4
  · rw [if_neg c]
    have:m=n:=by omega
    subst this
    exact ⟨a1,a4⟩
theorem Sat.ask {cmp:Nat→Nat→(Bool→Shared→Prop)→Shared→Prop} {s:Shared} (hc:∀ i j C,i < n→j < n→C (decide (k i < k j)) s→cmp i j C s) {α:Type} {Q:α→Prop} {G:α→Shared→Prop} (hG:∀ a,Q a→G a s):∀ {t:KasT α},Sat n k t Q→t.kasWp cmp G s
  | .ret _,h=>hG _ h
  | .ask i j f,h=>hc i j _ h.1 h.2.1 (Sat.ask hc hG h.2.2)
end Sx
namespace L2
open PySem PySem.Spec PyProof.Rows PySem.W
theorem ns_one {h:Heap} {a:Addr} {m m':Str→Option Value} (x:h.Ns a m) (y:h.Ns a m'):m=m':=by
  obtain ⟨o,es,ep,e,d,_,r⟩:=x
  obtain ⟨o',es',ep',e',d',_,r'⟩:=y
  rw [e] at e'; cases e'
  rw [d] at d'; cases d'
  funext n
  rw [← r n,← r' n]
theorem ObjOk.obj {P:Program} {w:World} {H:Hp} {h:Heap} {a:Addr} {o:HO} (x:ObjOk P w H h a o):∃ ob,h.get? a=some ob:=by
  cases o with
  | lst xs=>obtain ⟨_,_,_,_,e⟩:=x; exact ⟨_,e⟩
  | tup xs=>obtain ⟨_,_,_,ob,e,_⟩:=x; exact ⟨_,e⟩
  | dK kvs=>obtain ⟨_,_,_,_,ob,_,_,e,_⟩:=x; exact ⟨_,e⟩
  | dT kvs=>obtain ⟨_,_,_,_,ob,_,_,e,_⟩:=x; exact ⟨_,e⟩
  | set S n=>obtain ⟨ob,_,_,_,e,_⟩:=x; exact ⟨_,e⟩
  | ins C dx fs=>obtain ⟨_,_,_,e,_⟩:=x; exact ⟨_,e⟩
  | own y=>exact x
  | xd fs=>obtain ⟨_,⟨ob,_,_,e,_⟩,_⟩:=x; exact ⟨_,e⟩
  | rng lo hi=>obtain ⟨_,_,_,e⟩:=x; exact ⟨_,e⟩
  | frz ob u=>exact ⟨_,x.1⟩
  | tbl ps=>exact ⟨_,x⟩
  | met f y=>exact ⟨_,x⟩
  | ext φ=>exact x.2.1
section
variable {X:Cx} {pins:List (Addr × Obj)} {σ:St} {H:Hp} {s:Shared}
theorem Inv.newsLaid {h':Heap} {m:Str→Option Value} {t':Nat} {D:Addr} {ob:Obj} {o:HO} (I:Inv X pins σ H s) (hm:s.heap.Ns X.env.locals m) (F:Fr X.base X.env.locals h' m)
    (N:News X.base X.env.locals h' ((D,ob) :: allNews X.base s.heap X.env.locals)) (hD:∀ q ∈ allNews X.base s.heap X.env.locals,q.1 < D) (new:ObjOk X.prog X.w (upd H D o) h' D o):H D=none∧Inv X pins σ (upd H D o) { s with heap:=h',toks:=t' }:=by
  have nd:=N (D,ob) List.mem_cons_self
  have gD:s.heap.get? D=none:=by
    cases q:s.heap.get? D with
    | none=>rfl
    | some u=>exact absurd (hD (D,u) (mem_allNews nd.2.1 nd.2.2 q)) (Nat.lt_irrefl _)
  have hn:H D=none:=by
    cases q:H D with
    | none=>rfl
    | some u =>
      obtain ⟨w,e⟩:∃ w,s.heap.get? D=some w:=(I.hok D u q).obj
      rw [gD] at e; cases e
  have k:∀ b o,b≠X.env.locals→s.heap.get? b=some o→h'.get? b=some o:=fun b o h1 e=>by
    cases q:X.base.get? b with
    | some u =>
      have z:=I.bk b u q
      rw [e] at z
      cases z
      exact F.keep b _ q
    | none=>exact (N (b,o) (List.mem_cons_of_mem _ (mem_allNews h1 q e))).1
  have nD:∀ b o,s.heap.get? b=some o→b≠D:=fun b o e z=>by rw [z,gD] at e; cases e
  have hH:∀ b u,H b=some u→b≠D:=fun b u e=>ne_of_none e hn
  refine ⟨hn,I.step (g':=s.gens) (d':=s.drawn) (ch:=[]) (fun _ z=>nomatch z) (fun b o h1 _ _ e _=>k b o h1 e) (fun b o h1 _ _ e _=>⟨o.slots,k b o h1 e⟩) (fun b o _ e n=>by rw [upd_ne (nD b o e)]; exact n) (fun b o _ e=>?_)
    (fun b _ e=>by rw [upd_ne (hH b _ e)]; exact e) (fun b _ _ e=>by rw [upd_ne (hH b _ e)]; exact e) (fun b ps e=>⟨#[],by rw [upd_ne (hH b _ e),e]; simp⟩) (fun m' hm'=>by rw [← ns_one hm hm']; exact F.ns) (fun b u e=>?_) I.bare⟩
  · by_cases hb:b=X.env.locals
    · subst hb
      obtain ⟨o',_,_,e',_⟩:=F.ns
      exact ⟨o',e'⟩
    · exact ⟨o,k b o hb e⟩
  · by_cases hb:b=D
    · subst hb
      rw [upd_same] at e
      cases e
      exact new
    · rw [upd_ne hb] at e
      refine (I.hok b u e).stay (fun c v hc q=>k c v ?_ q) (fun c q=>by rw [upd_ne (hH c _ q)]; exact q) fun c _ q=>by rw [upd_ne (hH c _ q)]; exact q
      rintro rfl
      rcases hc with hc | hc
      · rw [← hc,I.free] at e; cases e
      · rw [I.free] at hc; cases hc
end
def lexLt (z w:Int × Int):Bool:=decide (z.1 < w.1) || (z.1 == w.1 && decide (z.2 < w.2))
theorem lexLt_iff {z w:Int × Int}:lexLt z w=true↔z.1 < w.1∨(z.1=w.1∧z.2 < w.2):=by simp [lexLt]
def lexLe (z w:Int × Int):Prop:=z.1 < w.1∨(z.1=w.1∧z.2≤w.2)
theorem lexLe_of {z w:Int × Int} (h:lexLt w z=false):lexLe z w:=by
  have:¬ (w.1 < z.1∨(w.1=z.1∧w.2 < z.2)):=fun q=>by rw [lexLt_iff.mpr q] at h; cases h
  unfold lexLe
  omega
def rank (ts:List (Int × Int)) (t:Int × Int):Int:=(ts.countP fun u=>lexLt u t:Nat)
theorem count_lt {α:Type} {p q:α→Bool}:∀ {l:List α} {x:α},(∀ y ∈ l,p y=true→q y=true)→x ∈ l→p x=false→q x=true→l.countP p < l.countP q
  | y :: l, x, h, hx, h1, h2 => by
    have hl:∀ y ∈ l,p y=true→q y=true:=fun y hy=>h y (List.mem_cons_of_mem _ hy)
    have hle:l.countP p≤l.countP q:=List.countP_mono_left hl
    rw [List.countP_cons,List.countP_cons]
    rcases List.mem_cons.mp hx with e | hx
    · subst e
      rw [h1,h2]
      simp
      omega
    · have hlt:=count_lt hl hx h1 h2
      by_cases hp:p y=true
      · rw [if_pos hp,if_pos (h y List.mem_cons_self hp)]; omega
      · rw [if_neg hp]; omega
theorem rank_lt {ts : List (Int × Int)} {t u : Int × Int} (ht : t ∈ ts) (hu : u ∈ ts) : decide (rank ts t < rank ts u) = lexLt t u := by
  rw [Bool.eq_iff_iff,decide_eq_true_iff]
  constructor
  · intro h
    cases q:lexLt t u with
    | true=>rfl
    | false =>
      have hle:=lexLe_of q
      have:ts.countP (fun w=>lexLt w u)≤ts.countP (fun w=>lexLt w t):=List.countP_mono_left fun w _ hw=>by
        rw [lexLt_iff] at hw ⊢
        unfold lexLe at hle
        omega
      unfold rank at h
      omega
  · intro h
    have hlt:ts.countP (fun w=>lexLt w t) < ts.countP (fun w=>lexLt w u):=count_lt (x:=t) (fun w _ hw=>by rw [lexLt_iff] at hw h ⊢; omega) ht (by
      cases q:lexLt t t with
      | false=>rfl
      | true=>rw [lexLt_iff] at q; omega) h
    unfold rank
    omega
abbrev Zt:=Int × Int × Addr
def zP (z:Zt):Int × Int:=(z.1,z.2.1)
def refZ (z:Zt):V:=.ref z.2.2
def PairAt (H:Hp) (z:Zt):Prop:=H z.2.2=some (.tup [.int z.1,.int z.2.1])
section
variable {prog:Program} {w:World} {A:Around} {s:Shared}
theorem lt_pairs {x y : Addr} {a1 a2 b1 b2 : Int} {t1 t2 u1 u2 : Tok} {E : Value → Shared → Prop} {Q : Bool → Shared → Prop} (hx : IsTup s.heap x #[.int a1 t1, .int a2 t2]) (hy : IsTup s.heap y #[.int b1 u1, .int b2 u2]) (h : Q (lexLt (a1, a2) (b1, b2)) s) :
    wpAny (model prog w) A (keyLt' (tuples' true) (.ref x) (.ref y)) Q E s:=by
  obtain ⟨ox,ex,cx,nx,dx⟩:=hx
  obtain ⟨oy,ey,cy,ny,dy⟩:=hy
  refine kat_lt ex dx ey dy ?_
  have ez:(#[Value.int a1 t1,Value.int a2 t2].toList.zip #[Value.int b1 u1,Value.int b2 u2].toList)=[(.int a1 t1,.int b1 u1),(.int a2 t2,.int b2 u2)]:=rfl
  rw [ez]
  refine kat_cons (SeqAt.EqAt.int_int a1 t1 b1 u1 _ _ _ _ ?_)
  by_cases e:a1=b1
  · have e1:(a1 == b1)=true:=by simpa using e
    rw [e1]
    refine kat_yes (kat_cons (SeqAt.EqAt.int_int a2 t2 b2 u2 _ _ _ _ ?_))
    by_cases f:a2=b2
    · have f1:(a2 == b2)=true:=by simpa using f
      rw [f1]
      refine kat_yes (kat_nil ?_)
      have:lexLt (a1,a2) (b1,b2)=false:=by
        cases q:lexLt (a1,a2) (b1,b2) with
        | false=>rfl
        | true=>rw [lexLt_iff] at q; simp only at q; omega
      rw [this] at h
      exact h
    · have f1:(a2 == b2)=false:=by simpa using f
      rw [f1]
      refine kat_no (kat_one _ _ (lt_int ?_))
      have:lexLt (a1,a2) (b1,b2)=decide (a2 < b2):=by
        rw [Bool.eq_iff_iff,lexLt_iff,decide_eq_true_iff]
        simp only
        omega
      rw [this] at h
      exact h
  · have e1:(a1 == b1)=false:=by simpa using e
    rw [e1]
    refine kat_no (oneLt_int ?_)
    have:lexLt (a1,a2) (b1,b2)=decide (a1 < b1):=by
      rw [Bool.eq_iff_iff,lexLt_iff,decide_eq_true_iff]
      simp only
      omega
    rw [this] at h
    exact h
end
end L2
namespace L2
open PySem PySem.Spec PyProof.Rows PySem.W
def rSortedT (K:PySem.W.Frag):List V→Hp→VK→Prop:=fun xs H Q=>∃ (p:Addr) (zs:List Zt),xs=[.ref p]∧SqL K H p (zs.map refZ)∧(∀ z ∈ zs,PairAt H z)∧zs.length < 64 ∧
  ∀ (l:Addr) (zs':List Zt),H l=none→zs'.Perm zs→zs'.Pairwise (fun z w=>lexLe (zP z) (zP w))→Q (.ref l) (upd H l (.lst (zs'.map refZ)))
theorem refs_of:∀ {zs:List Zt} {us:List Value},Vals (zs.map refZ) us→us=zs.map fun z=>Value.ref z.2.2
  | [],_,r=>by cases r; rfl
  | z :: zs, _, r => by
    rw [List.map_cons] at r
    cases r with
    | cons h t =>
      cases (show _=Value.ref z.2.2 from h)
      rw [refs_of t]; rfl
theorem vals_refs:∀ zs:List Zt,Vals (zs.map refZ) (zs.map fun z=>Value.ref z.2.2)
  | []=>.nil
  | z :: zs=>.cons rfl (vals_refs zs)
theorem firsts_of {h:Heap}:∀ {zs:List Zt},(∀ z ∈ zs,∃ t u,IsTup h z.2.2 #[.int z.1 t,.int z.2.1 u])→∃ fs,KatTups h (zs.map fun z=>Value.ref z.2.2) fs∧fs.length=zs.length∧∀ v ∈ fs,∃ i t,v=Value.int i t
  | [],_=>⟨[],.nil,rfl,fun v hv=>nomatch hv⟩
  | z :: zs, hz => by
    obtain ⟨fs,h1,h2,h3⟩:=firsts_of (zs:=zs) fun y hy=>hz y (List.mem_cons_of_mem _ hy)
    obtain ⟨t,u,o,e,c,n,d⟩:=hz z List.mem_cons_self
    refine ⟨.int z.1 t :: fs,KatTups.cons e c d rfl h1,by simp [h2],fun v hv=>?_⟩
    rcases List.mem_cons.mp hv with rfl | hv
    · exact ⟨_,_,rfl⟩
    · exact h3 v hv
theorem getD_range {α:Type} (l:List α) (d:α):(List.range l.length).map (fun i=>l.getD i d)=l:=by
  apply List.ext_getElem?
  intro i
  rw [List.getElem?_map]
  by_cases h:i < l.length
  · rw [List.getElem?_range h,List.getElem?_eq_getElem h]; simp [h]
  · rw [List.getElem?_eq_none (by simp; omega),List.getElem?_eq_none (by omega)]; rfl
section
variable {X:Cx}
theorem sorted_short {prog:Program} {w:World} {A:Around} {E:Value→Shared→Prop} {s:Shared} {l:Addr} {vs:List Value} {Q:Value→Shared→Prop} (hl:s.heap.IsList l vs.toArray) (h2:vs.length < 2)
    (h:Q (.ref (s.heap.objs.size+1)) { s with heap:=sortedAll s.heap vs vs.toArray }):wpAny (model prog w) A (call (.builtin "sorted") [.ref l]) Q E s:=by
  have hz:vs.length≤sizeLine:=small_le (m:=2) (by omega)
  refine Calls.call_function_entry kind_sorted plain_sorted entry_sorted (args_sorted1 _) (wpAny_bind (m:=checkCount "sorted" 1 1 _) (wpAny_pure (wpAny_bind (collect_list hl (wpAny_bind (wpAny_newList ?_ hz)) hz))))
  have e1:((s.heap.push (seqObj "list" #[] 0)).update s.heap.objs.size (Obj.mapSeq (· ++ vs.toArray))).objs.size=s.heap.objs.size+1:=(Heap.size_update ..).trans (size_push' ..)
  have g1:(((s.heap.push (seqObj "list" #[] 0)).update s.heap.objs.size (Obj.mapSeq (· ++ vs.toArray))).push (seqObj "list" vs.toArray 0)).get? (s.heap.objs.size+1)=some (seqObj "list" vs.toArray 0):=e1 ▸ Heap.get?_push_size _ rfl
  have e0:(seqObj "list" vs.toArray 0:Obj) = { cls:=.type "list",data:=.seq vs.toArray }:=rfl
  have hlt:s.heap.objs.size+1 < (((s.heap.push (seqObj "list" #[] 0)).update s.heap.objs.size (Obj.mapSeq (· ++ vs.toArray))).push (seqObj "list" vs.toArray 0)).objs.size:=Heap.lt_size g1
  show wpAny (model prog w) A.in1 (do let _ ← holding [Value.ref ((s.heap.push (seqObj "list" #[] 0)).update s.heap.objs.size (Obj.mapSeq (· ++ vs.toArray))).objs.size] (call (.builtin "list.sort") [Value.ref ((s.heap.push (seqObj "list" #[] 0)).update s.heap.objs.size (Obj.mapSeq (· ++ vs.toArray))).objs.size]); ret (Value.ref ((s.heap.push (seqObj "list" #[] 0)).update s.heap.objs.size (Obj.mapSeq (· ++ vs.toArray))).objs.size)) _ _ { s with heap:=((s.heap.push (seqObj "list" #[] 0)).update s.heap.objs.size (Obj.mapSeq (· ++ vs.toArray))).push (seqObj "list" vs.toArray 0) }
  rw [e1]
  generalize hh:((s.heap.push (seqObj "list" #[] 0)).update s.heap.objs.size (Obj.mapSeq (· ++ vs.toArray))).push (seqObj "list" vs.toArray 0)=hp at g1 hlt
  unfold sortedAll at h
  rw [hh] at h
  refine wpAny_bind (wpAny_holding (wpAny_call_entry slot_list_sort ⟨_,g1,rfl⟩ entry_list_sort ?_ (args_list_sort _)))
  rw [list_sort_plain]
  obtain ⟨c1,g2⟩:∃ c1,(hp.update (s.heap.objs.size+1) (Obj.mapSeq fun _=>#[])).get? (s.heap.objs.size+1)=some (seqObj "list" #[] c1):=⟨_,get?_update_seq g1 fun _=>#[]⟩
  refine wpAny_bind (listItems_at g1 rfl (wpAny_bind (listUpdate_at g1 rfl (wpAny_bind (seqEpoch_at g2 rfl (wpAny_bind (wpAny_newTuple (wpAny_bind (wpAny_newList (wpAny_holding ?_) (Nat.zero_le _))) hz)))) (by rw [List.size_toArray]; exact hz) (Nat.zero_le _))))
  have g6:(((hp.update (s.heap.objs.size+1) (Obj.mapSeq fun _=>#[])).push (seqObj "tuple" vs.toArray 0)).push (seqObj "list" #[] 0)).get? (s.heap.objs.size+1)=some (seqObj "list" #[] c1):=Heap.get?_push_of_some _ (Heap.get?_push_of_some _ g2)
  have hn:vs.toArray.size < 2:=by rw [List.size_toArray]; exact h2
  show wpAny (model prog w) A.in1.in1 _ _ _ { s with heap:=((hp.update (s.heap.objs.size+1) (Obj.mapSeq fun _=>#[])).push (seqObj "tuple" vs.toArray 0)).push (seqObj "list" #[] 0) }
  dsimp only
  rw [if_pos hn,if_pos hn]
  refine wpAny_bind (wpAny_pure ?_)
  rw [StateT.run_pure]
  refine wpAny_bind (wpAny_pure ?_)
  dsimp only
  have es:(arrOf (SortSt.mk' general' (vs.toArray.zip vs.toArray) #[] 7 none)).map (·.2)=vs.toArray:=by
    show (vs.toArray.zip vs.toArray).map (·.2)=vs.toArray
    apply Array.toList_inj.mp
    simp
    exact List.map_snd_zip (Nat.le_refl _)
  rw [es]
  refine wpAny_bind (seqEpoch_at g6 rfl (wpAny_bind (listUpdate_at g6 rfl ?_ (Nat.zero_le _) (by rw [List.size_toArray]; exact Nat.le_succ_of_le hz))))
  simp only [bne_self_eq_false,Bool.false_eq_true,if_false]
  exact wpAny_pure ⟨_,rfl,wpAny_pure ⟨_,rfl,h⟩⟩
theorem call_sortedT : CallR X (.builtin "sorted") (rSortedT X.K) := by
  intro pins s σ H xs us Q I r h
  obtain ⟨p,zs,rfl,hq,hz,h64,q⟩:=h
  obtain ⟨u,rfl,ru⟩:=vals1 r
  cases ru
  obtain ⟨its,rv,pl,hsz⟩:=I.list hq
  have ei:=refs_of rv
  subst ei
  have tup0:∀ z ∈ zs,∃ t u,IsTup s.heap z.2.2 #[.int z.1 t,.int z.2.1 u]:=fun z hz'=>by
    obtain ⟨ts,r,it,_⟩:=I.tuple (.of (hz z hz'))
    cases r with
    | cons h1 r =>
      cases r with
      | cons h2 r =>
        cases r
        obtain ⟨t,rfl⟩:=h1
        obtain ⟨u,rfl⟩:=h2
        exact ⟨t,u,it⟩
  by_cases h2:2≤zs.length
  · obtain ⟨m,F,N⟩:=I.frs
    refine kat_sorted F N pl.isList (by rw [List.length_map]; exact h2) (by rw [List.length_map]; exact h64) fun D e1 h' F' N' hD=>?_
    have kept:∀ b o,b≠X.env.locals→s.heap.get? b=some o→h'.get? b=some o:=fun b o h1 e=>by
      cases w:X.base.get? b with
      | some u =>
        have z:=I.bk b u w
        rw [e] at z
        cases z
        exact F'.keep b _ w
      | none=>exact (N' (b,o) (List.mem_cons_of_mem _ (mem_allNews h1 w e))).1
    have tup:∀ z ∈ zs,∃ t u,IsTup h' z.2.2 #[.int z.1 t,.int z.2.1 u]:=fun z hz'=>by
      obtain ⟨t,u,o,e,rest⟩:=tup0 z hz'
      refine ⟨t,u,o,kept _ o (fun w=>?_) e,rest⟩
      have e2:=hz z hz'
      unfold PairAt at e2
      rw [w,I.free] at e2
      cases e2
    obtain ⟨fs,k1,k2,k3⟩:=firsts_of tup
    refine kat_kind (T:=.type "int") k1 (by omega) (fun v hv=>?_) rfl ?_
    · obtain ⟨i,t,rfl⟩:=k3 v hv
      exact Looks.now
    have et:(Value.type "int" != Value.type "tuple")=true:=by decide
    rw [et,List.length_map]
    have gz:∀ i,i < zs.length→(zs.map fun z=>Value.ref z.2.2).getD i Value.none=Value.ref (zs.getD i (0,0,0)).2.2:=fun i hi=>by simp [hi]
    have mz:∀ i,i < zs.length→zs.getD i (0,0,0) ∈ zs:=fun i hi=>by
      have:zs.getD i (0,0,0)=zs[i]:=by simp [hi]
      rw [this]; exact List.getElem_mem hi
    refine Sx.Sat.ask (n:=zs.length) (k:=fun i=>rank (zs.map zP) (zP (zs.getD i (0,0,0)))) (fun i j C hi hj hC=>?_) (fun pr hp=>?_) (Sx.sat_sort (by omega))
    · unfold kas_ask
      rw [gz i hi,gz j hj]
      obtain ⟨t,u,i1⟩:=tup _ (mz i hi)
      obtain ⟨t',u',i2⟩:=tup _ (mz j hj)
      refine lt_pairs (s:={ s with heap:=h' }) i1 i2 ?_
      rw [rank_lt (List.mem_map_of_mem (mz i hi)) (List.mem_map_of_mem (mz j hj))] at hC
      exact hC
    · obtain ⟨hp1,hp2⟩:=hp
      have plt:∀ i ∈ pr.toList,i < zs.length:=fun i hi=>by simpa using hp1.mem_iff.mp hi
      have eo:(pr.toList.map fun i=>(zs.map fun z=>Value.ref z.2.2).getD i Value.none)=(pr.toList.map fun i=>zs.getD i (0,0,0)).map fun z=>Value.ref z.2.2:=by
        rw [List.map_map]
        exact List.map_congr_left fun i hi=>gz i (plt i hi)
      rw [eo]
      have hperm:(pr.toList.map fun i=>zs.getD i (0,0,0)).Perm zs:=by
        have:=hp1.map fun i=>zs.getD i (0,0,0)
        rwa [getD_range] at this
      have hsort:(pr.toList.map fun i=>zs.getD i (0,0,0)).Pairwise fun z w=>lexLe (zP z) (zP w):=by
        rw [List.pairwise_iff_getElem]
        intro i j hi hj hij
        rw [List.length_map] at hi hj
        simp only [List.getElem_map]
        have hsz:pr.size=zs.length:=hp1.size
        have hj':j < zs.length:=by rw [← hsz]; simpa using hj
        have hle:=hp2.le (Nat.le_of_lt hij) hj'
        unfold Sx.Ky at hle
        have gi:∀ i (h:i < pr.toList.length),pr.getD i 0=pr.toList[i]:=fun i h=>by
          have h':i < pr.size:=by simpa using h
          simp [Array.getD,h']
        rw [gi i hi,gi j hj] at hle
        have hle:rank (zs.map zP) (zP (zs.getD pr.toList[i] (0,0,0)))≤rank (zs.map zP) (zP (zs.getD pr.toList[j] (0,0,0))):=hle
        refine lexLe_of ?_
        cases w:lexLt (zP (zs.getD pr.toList[j] (0,0,0))) (zP (zs.getD pr.toList[i] (0,0,0))) with
        | false=>rfl
        | true =>
          rw [← rank_lt (List.mem_map_of_mem (mz _ (plt _ (List.getElem_mem hj)))) (List.mem_map_of_mem (mz _ (plt _ (List.getElem_mem hi)))),decide_eq_true_iff] at w
          omega
      generalize (pr.toList.map fun i=>zs.getD i (0,0,0))=zs' at hperm hsort
      have hlen:zs'.length≤sizeLine:=small_le (m:=64) (by rw [hperm.length_eq]; omega)
      refine KasFin.intro F' N' (UpdF.head fun q hq=>Nat.ne_of_lt (hD q hq)) fun h'' c F'' N''=>?_
      obtain ⟨hn,I2⟩:=I.newsLaid (t':=s.toks) (o:=.lst (zs'.map refZ)) F.ns F'' N'' hD ⟨by rw [List.length_map]; exact hlen,_,c,vals_refs zs',(N'' _ List.mem_cons_self).1⟩
      exact ⟨.ref D,_,I2,rfl,q D zs' hn hperm hsort⟩
  · have hs:(zs.map fun z=>Value.ref z.2.2).length < 2:=by rw [List.length_map]; omega
    refine sorted_short pl.isList hs ?_
    obtain ⟨e,he⟩:=sortedAll_at s.heap (zs.map fun z=>Value.ref z.2.2) (zs.map fun z=>Value.ref z.2.2).toArray
    refine ⟨.ref (s.heap.objs.size+1),_,I.laid (t':=s.toks) (o:=.lst (zs.map refZ)) (fun b o e=>sortedAll_old e) (Nat.le_succ _) ⟨by rw [List.length_map]; exact small_le (m:=64) (by omega),_,e,vals_refs zs,by simpa [seqObj] using he⟩,rfl,q _ zs (I.hok.fresh (Nat.le_succ _)) (List.Perm.refl _) ?_⟩
    match zs,h2 with
    | [],_=>exact .nil
    | [z],_=>exact List.pairwise_singleton _ _
    | z :: w :: r,h2=>simp at h2
end
section
variable {X:Cx}
end
end L2
namespace Zl
open PySem PySem.W PyProof.Rows
section
variable {prog:Program} {w:World} {A:Around} {E:Value→Shared→Prop} {s:Shared} {z TI TO i1 i2 l1 l2:Addr} {xs ys:Array Value} {k:Nat}
abbrev IsOut (h:Heap) (z TI TO T:Addr) (f:Bool):Prop:=h.get? z=some { cls:=.type "zip",dict:=none,data:=.fields #[rawInt T,.bool f,.bool false,.ref TI,.ref TO],slots:=#[] }
theorem out_free {T:Addr} {f:Bool} {oT:Obj} {Q:Bool→Shared→Prop} (hz:IsOut s.heap z TI TO T f) (hT:s.heap.get? T=some oT)
    (hQ:∀ h',IsOut h' z TI TO T true→Heap.SameBut z s.heap h'→Q false { s with heap:=h' }):wpAny (model prog w) A (Builtin.SmallTypes.ownedTupleIsFree (.ref z)) Q E s:=by
  unfold Builtin.SmallTypes.ownedTupleIsFree
  refine wpAny_bind (wpAny_field hz rfl (x:=rawInt T) rfl ?_)
  unfold rawInt
  dsimp only
  refine wpAny_bind (kdx_alive (a:=T) hT ?_)
  simp only [Option.isNone_some,Bool.false_eq_true,if_false]
  refine wpAny_bind (wpAny_field hz rfl (x:=.bool f) rfl ?_)
  cases f with
  | true =>
    rw [if_neg (by decide)]
    exact wpAny_pure (hQ s.heap hz ⟨rfl,fun b hb=>rfl⟩)
  | false =>
    rw [if_pos (by decide)]
    exact wpAny_bind (wpAny_setField_rec hz (by simp) fun h' hz' hs'=>wpAny_pure (hQ h' hz' hs'))
theorem out_item {T:Addr} {f:Bool} {oT:Obj} {x y:Value} {Q:Value→Shared→Prop} (D:ZipApart z TI TO i1 i2 l1 l2) (hz:IsOut s.heap z TI TO T f) (hT:s.heap.get? T=some oT) (hTI:IsPair s.heap TI (.ref i1) (.ref i2))
    (h1:s.heap.IsListIter i1 l1 k) (h2:s.heap.IsListIter i2 l2 k) (hl1:s.heap.IsList l1 xs) (hl2:s.heap.IsList l2 ys) (hx:xs[k]? = some x) (hy:ys[k]? = some y)
    (hQ:∀ h',IsOut h' z TI TO T true→h'.IsListIter i1 l1 (k+1)→h'.IsListIter i2 l2 (k+1)→IsPair h' s.heap.objs.size x y →
      (∀ c o,c≠z→c≠i1→c≠i2→s.heap.get? c=some o→h'.get? c=some o)→Q (.ref s.heap.objs.size) { s with heap:=h' }) :
    wpAny (model prog w) A (Builtin.«zip.__next__» ⟨[.ref z],[]⟩) (fun fin s'=>∃ v,fin = .done (.ret v)∧Q v s') E s:=by
  show wpAny _ _ (field (.ref z) 2 >>= _) _ _ _
  refine wpAny_bind (wpAny_field hz rfl (x:=.bool false) rfl ?_)
  show wpAny _ _ (field (.ref z) 3 >>= _) _ _ _
  refine wpAny_bind (wpAny_field hz rfl (x:=.ref TI) rfl (wpAny_bind (wpAny_seqItems hTI rfl ?_)))
  show wpAny _ _ (Builtin.SmallTypes.ownedTupleIsFree (.ref z) >>= _) _ _ _
  refine wpAny_bind (out_free hz hT fun h₀ z₀ s₀=>?_)
  simp only [Bool.false_eq_true,if_false]
  refine wpAny_bind ?_
  rw [← Array.forIn_toList]
  simp only [List.forIn_cons,List.forIn_nil]
  refine wpAny_bind (wpAny_bind (wpAny_holding ?_))
  show wpAny _ _ (Builtin.SmallTypes.nextOf (.ref i1) >>= _) _ _ _
  refine wpAny_bind (wpAny_nextOf_list_item (s:={ s with heap:=h₀ }) (h1.extBut s₀.extBut D.i1z) (hl1.extBut s₀.extBut D.l1z) hx fun h₁ j₁ s₁=>wpAny_pure (wpAny_pure ?_))
  refine wpAny_bind (wpAny_bind (wpAny_holding ?_))
  show wpAny _ _ (Builtin.SmallTypes.nextOf (.ref i2) >>= _) _ _ _
  refine wpAny_bind (wpAny_nextOf_list_item (s:={ s with heap:=h₁ }) ((h2.extBut s₀.extBut D.i2z).extBut s₁.extBut D.i12.symm) ((hl2.extBut s₀.extBut D.l2z).extBut s₁.extBut D.l2i1) hy fun h₂ j₂ s₂=>wpAny_pure (wpAny_pure (wpAny_pure ?_)))
  have sz:h₂.objs.size=s.heap.objs.size:=by rw [s₂.1,s₁.1,s₀.1]
  have zz:IsOut h₂ z TI TO T true:=s₂.extBut _ _ D.i2z.symm (s₁.extBut _ _ D.i1z.symm z₀)
  have kp:∀ c o,c≠z→c≠i1→c≠i2→s.heap.get? c=some o→h₂.get? c=some o:=fun c o c1 c2 c3 e=>s₂.extBut _ _ c3 (s₁.extBut _ _ c2 (s₀.extBut _ _ c1 e))
  refine wpAny_bind (wpAny_newTuple ?_ (by show 2≤sizeLine; exact L2.small_le (m:=2) (Nat.le_refl 2)))
  refine wpAny_pure ⟨_,rfl,?_⟩
  show Q (.ref h₂.objs.size) { s with heap:=h₂.push { cls:=.type "tuple",data:=.seq #[x,y] } }
  rw [sz]
  refine hQ _ (Heap.get?_push_of_some _ zz) ((Heap.IsListIter.extBut j₁ s₂.extBut D.i12).at fun o e=>Heap.get?_push_of_some _ e) (j₂.at fun o e=>Heap.get?_push_of_some _ e) (by rw [← sz]; exact Heap.get?_push_size _ rfl) fun c o c1 c2 c3 e=>Heap.get?_push_of_some _ (kp c o c1 c2 c3 e)
theorem out_end {T:Addr} {f:Bool} {oT:Obj} {Q:PySem.Fin→Shared→Prop} (hh:A.handled=none) (D:ZipApart z TI TO i1 i2 l1 l2) (hz:IsOut s.heap z TI TO T f) (hT:s.heap.get? T=some oT) (hTI:IsPair s.heap TI (.ref i1) (.ref i2))
    (h1:s.heap.IsListIter i1 l1 k) (h2:s.heap.IsListIter i2 l2 k) (hl1:s.heap.IsList l1 xs) (hl2:s.heap.IsList l2 ys) (hend:xs[k]? = none∨ys[k]? = none)
    (hE:∀ h' e,(∀ c o,c≠z→c≠i1→c≠i2→s.heap.get? c=some o→h'.get? c=some o)→(∃ o,h'.get? e=some o∧o.cls = .type "StopIteration")→E (.ref e) { s with heap:=h' }) :
    wpAny (model prog w) A (Builtin.«zip.__next__» ⟨[.ref z],[]⟩) Q E s:=by
  show wpAny _ _ (field (.ref z) 2 >>= _) _ _ _
  refine wpAny_bind (wpAny_field hz rfl (x:=.bool false) rfl ?_)
  show wpAny _ _ (field (.ref z) 3 >>= _) _ _ _
  refine wpAny_bind (wpAny_field hz rfl (x:=.ref TI) rfl (wpAny_bind (wpAny_seqItems hTI rfl ?_)))
  show wpAny _ _ (Builtin.SmallTypes.ownedTupleIsFree (.ref z) >>= _) _ _ _
  refine wpAny_bind (out_free hz hT fun h₀ z₀ s₀=>?_)
  simp only [Bool.false_eq_true,if_false]
  refine wpAny_bind ?_
  rw [← Array.forIn_toList]
  simp only [List.forIn_cons,List.forIn_nil]
  refine wpAny_bind (wpAny_bind (wpAny_holding ?_))
  show wpAny _ _ (Builtin.SmallTypes.nextOf (.ref i1) >>= _) _ _ _
  cases hx:xs[k]? with
  | none=>exact wpAny_bind (wpAny_nextOf_list_end (s:={ s with heap:=h₀ }) hh (h1.extBut s₀.extBut D.i1z) (hl1.extBut s₀.extBut D.l1z) hx fun h₁ e s₁ he=>hE h₁ e (fun c o c1 c2 c3 q=>s₁ _ _ c2 (s₀.extBut _ _ c1 q)) he)
  | some x =>
    have hy:ys[k]? = none:=by rcases hend with q | q; rw [hx] at q; cases q; exact q
    refine wpAny_bind (wpAny_nextOf_list_item (s:={ s with heap:=h₀ }) (h1.extBut s₀.extBut D.i1z) (hl1.extBut s₀.extBut D.l1z) hx fun h₁ j₁ s₁=>wpAny_pure (wpAny_pure ?_))
    refine wpAny_bind (wpAny_bind (wpAny_holding ?_))
    show wpAny _ _ (Builtin.SmallTypes.nextOf (.ref i2) >>= _) _ _ _
    exact wpAny_bind (wpAny_nextOf_list_end (s:={ s with heap:=h₁ }) hh ((h2.extBut s₀.extBut D.i2z).extBut s₁.extBut D.i12.symm) ((hl2.extBut s₀.extBut D.l2z).extBut s₁.extBut D.l2i1) hy fun h₂ e s₂ he =>
      hE h₂ e (fun c o c1 c2 c3 q=>s₂ _ _ c3 (s₁.extBut _ _ c2 (s₀.extBut _ _ c1 q))) he)
structure ZS (h:Heap) (z TI TO i1 i2 l1 l2 S:Addr) (xs ys:Array Value) (k:Nat):Prop where
  zz:(k=0∧IsZip h z TI TO .none∧∃ a b,IsPair h TO a b)∨∃ T f oT,IsOut h z TI TO T f∧h.get? T=some oT∧T≠z∧T≠i1∧T≠i2∧T≠S
  ti:IsPair h TI (.ref i1) (.ref i2)
  a1:h.IsListIter i1 l1 k
  a2:h.IsListIter i2 l2 k
  b1:h.IsList l1 xs
  b2:h.IsList l2 ys
structure Off (z TI TO i1 i2 l1 l2 S:Addr):Prop where
  z:z≠S
  ti:TI≠S
  to:TO≠S
  i1:i1≠S
  i2:i2≠S
  l1:l1≠S
  l2:l2≠S
theorem ZS.keep {h h':Heap} {S:Addr} (x:ZS h z TI TO i1 i2 l1 l2 S xs ys k) (O:Off z TI TO i1 i2 l1 l2 S) (hk:∀ b o,b≠S→h.get? b=some o→h'.get? b=some o):ZS h' z TI TO i1 i2 l1 l2 S xs ys k where
  zz:=by
    rcases x.zz with ⟨e,hz,a,b,hp⟩ | ⟨T,f,oT,hz,hT,n1,n2,n3,n4⟩
    · exact .inl ⟨e,hk _ _ O.z hz,a,b,hk _ _ O.to hp⟩
    · exact .inr ⟨T,f,oT,hk _ _ O.z hz,hk _ _ n4 hT,n1,n2,n3,n4⟩
  ti:=hk _ _ O.ti x.ti
  a1:=x.a1.at fun o e=>hk _ o O.i1 e
  a2:=x.a2.at fun o e=>hk _ o O.i2 e
  b1:=x.b1.at fun o e=>hk _ o O.l1 e
  b2:=x.b2.at fun o e=>hk _ o O.l2 e
theorem ZS.item {S:Addr} {x y:Value} {Q:Option Value→Shared→Prop} (D:ZipApart z TI TO i1 i2 l1 l2) (st:ZS s.heap z TI TO i1 i2 l1 l2 S xs ys k) (hS:S < s.heap.objs.size) (hx:xs[k]? = some x) (hy:ys[k]? = some y)
    (hQ:∀ h',ZS h' z TI TO i1 i2 l1 l2 S xs ys (k+1)→IsPair h' s.heap.objs.size x y→(∀ c o,c≠z→c≠TO→c≠i1→c≠i2→s.heap.get? c=some o→h'.get? c=some o)→Q (some (.ref s.heap.objs.size)) { s with heap:=h' }) :
    wpAny (model prog w) A (pyNext (.ref z)) Q E s:=by
  have lt1:i1 < s.heap.objs.size:=by obtain ⟨_,e,_⟩:=st.a1; exact Heap.lt_size e
  have lt2:i2 < s.heap.objs.size:=by obtain ⟨_,e,_⟩:=st.a2; exact Heap.lt_size e
  rcases st.zz with ⟨e,hz,a,b,hp⟩ | ⟨T,f,oT,hz,hT,n1,n2,n3,n4⟩
  · refine wpAny_pyNext_zip_item D hz st.ti hp st.a1 st.a2 st.b1 st.b2 hx hy fun h' q1 q2 q3 q4 q5 q6 q7=>?_
    refine hQ h' ⟨.inr ⟨_,false,_,q1,q5,Nat.ne_of_gt (Heap.lt_size hz),Nat.ne_of_gt lt1,Nat.ne_of_gt lt2,Nat.ne_of_gt hS⟩,q7 _ _ D.TIz D.TITO D.TIi1 D.TIi2 st.ti,q3,q4,st.b1.at fun o e=>q7 _ o D.l1z D.l1TO D.l1i1 D.l1i2 e,st.b2.at fun o e=>q7 _ o D.l2z D.l2TO D.l2i1 D.l2i2 e⟩ q5 q7
  · have ty:s.TypeIs (.ref z) "zip":=⟨_,hz,rfl⟩
    unfold pyNext
    refine wpAny_bind (wpAny_attempt (wpAny_callSpecial?_slot (name:=Str.ofString "__next__") ty F.slot_zip_next (wpAny_call_entry F.slot_zip_next ty F.entry_zip_next
      (out_item D hz hT st.ti st.a1 st.a2 st.b1 st.b2 hx hy fun h' q1 q3 q4 q5 q7=>wpAny_pure ?_) (F.args_zip_next_1 _))))
    refine hQ h' ⟨.inr ⟨T,true,oT,q1,q7 _ _ n1 n2 n3 hT,n1,n2,n3,n4⟩,q7 _ _ D.TIz D.TIi1 D.TIi2 st.ti,q3,q4,st.b1.at fun o e=>q7 _ o D.l1z D.l1i1 D.l1i2 e,st.b2.at fun o e=>q7 _ o D.l2z D.l2i1 D.l2i2 e⟩ q5 fun c o c1 _ c3 c4 e=>q7 c o c1 c3 c4 e
theorem ZS.done {S:Addr} {Q:Option Value→Shared→Prop} (hh:A.handled=none) (D:ZipApart z TI TO i1 i2 l1 l2) (st:ZS s.heap z TI TO i1 i2 l1 l2 S xs ys k) (hend:xs[k]? = none∨ys[k]? = none)
    (hQ:∀ h',(∀ c o,c≠z→c≠TO→c≠i1→c≠i2→s.heap.get? c=some o→h'.get? c=some o)→Q none { s with heap:=h' }):wpAny (model prog w) A (pyNext (.ref z)) Q E s:=by
  rcases st.zz with ⟨e,hz,a,b,hp⟩ | ⟨T,f,oT,hz,hT,n1,n2,n3,n4⟩
  · exact wpAny_pyNext_zip_end hh D hz st.ti hp st.a1 st.a2 st.b1 st.b2 hend hQ
  · have ty:s.TypeIs (.ref z) "zip":=⟨_,hz,rfl⟩
    unfold pyNext
    refine wpAny_bind (wpAny_attempt (wpAny_callSpecial?_slot (name:=Str.ofString "__next__") ty F.slot_zip_next (wpAny_call_entry F.slot_zip_next ty F.entry_zip_next
      (out_end hh D hz hT st.ti st.a1 st.a2 st.b1 st.b2 hend fun h' e hk he=>?_) (F.args_zip_next_1 _))))
    obtain ⟨o,ho,hc⟩:=he
    exact wpAny_bind (wpAny_isInstance (T:="StopIteration") (b:=true) ⟨o,ho,hc⟩ isSubtype_stop (wpAny_pure (hQ _ fun c o c1 _ c3 c4 q=>hk c o c1 c3 c4 q)))
structure Made (h:Heap) (lo:Addr) (xs ys:Array Value) (as:List Addr):Prop where
  up:as.Pairwise (· < ·)
  lo:∀ a ∈ as,lo < a
  pr:∀ (j:Nat) (a:Addr),as[j]? = some a→∃ x y,xs[j]? = some x∧ys[j]? = some y∧IsPair h a x y
theorem loop {S n : Nat} {R : Result → Shared → Prop} (hh : A.handled = none) (D : ZipApart z TI TO i1 i2 l1 l2) (O : Off z TI TO i1 i2 l1 l2 S) (hn : min xs.size ys.size = n) (hn2 : n ≤ 100000) (res : Value) (lo : Addr) (hlo : z ≤ lo ∧ TO ≤ lo ∧ i1 ≤ lo ∧ i2 ≤ lo ∧ S ≤ lo) {h₀ : Heap}
    (hR:∀ h' tk acc c as,(∀ b o,b≠S→b≠z→b≠TO→b≠i1→b≠i2→h₀.get? b=some o→h'.get? b=some o)→h'.get? S=some { cls:=.type "list",dict:=none,data:=.seq acc c,slots:=#[] }→acc.toList=as.map Value.ref→as.length=n→Made h' lo xs ys as→R (.ok (.ret res)) { s with heap:=h',toks:=tk }) :
    ∀ (m i : Nat) (h : Heap) (tk c : Nat) (acc : Array Value) (as : List Addr), n - i = m → i ≤ n → ZS h z TI TO i1 i2 l1 l2 S xs ys i → (∀ b o, b ≠ S → b ≠ z → b ≠ TO → b ≠ i1 → b ≠ i2 → h₀.get? b = some o → h.get? b = some o) →
      h.get? S=some { cls:=.type "list",dict:=none,data:=.seq acc c,slots:=#[] }→acc.toList=as.map Value.ref→as.length=i→Made h lo xs ys as→lo < h.objs.size →
      codeAny (model prog w) A (.builtin "list.extend.loop" ⟨[.ref S,.ref z,res],[]⟩) R { s with heap:=h,toks:=tk }:=by
  intro m
  induction m with
  | zero =>
    intro i h tk c acc as hm hi st kp hS hacc hal hM hlh
    have ei:i=n:=by omega
    subst ei
    refine codeAny_builtin PySem.F.entry_extend_loop ?_
    rw [Around.under_plainId PySem.F.plain_extend_loop _]
    show wpAny _ A.in1 (pyNext (.ref z) >>= _) _ _ _
    have hend:xs[i]? = none∨ys[i]? = none:=by
      by_cases q:xs.size≤i
      · exact .inl (Array.getElem?_eq_none q)
      · exact .inr (Array.getElem?_eq_none (by omega))
    refine wpAny_bind (ZS.done (s:={ s with heap:=h,toks:=tk }) (A:=A.in1) hh D st hend fun h' he=>?_)
    refine wpAny_pure (hR h' tk acc c as (fun b o b1 b2 b3 b4 b5 e=>he b o b2 b3 b4 b5 (kp b o b1 b2 b3 b4 b5 e)) (he S _ (Ne.symm O.z) (Ne.symm O.to) (Ne.symm O.i1) (Ne.symm O.i2) hS) hacc hal ⟨hM.up,hM.lo,fun j a hj=>?_⟩)
    obtain ⟨x,y,q1,q2,q3⟩:=hM.pr j a hj
    have far:∀ {b:Addr},b≤lo→a≠b:=fun hb=>Nat.ne_of_gt (Nat.lt_of_le_of_lt hb (hM.lo a (List.mem_of_getElem? hj)))
    exact ⟨x,y,q1,q2,he a _ (far hlo.1) (far hlo.2.1) (far hlo.2.2.1) (far hlo.2.2.2.1) q3⟩
  | succ m ih =>
    intro i h tk c acc as hm hi st kp hS hacc hal hM hlh
    have hlt:i < n:=by omega
    obtain ⟨x,hx⟩:∃ x,xs[i]? = some x:=⟨_,Array.getElem?_eq_getElem (by omega)⟩
    obtain ⟨y,hy⟩:∃ y,ys[i]? = some y:=⟨_,Array.getElem?_eq_getElem (by omega)⟩
    refine codeAny_builtin PySem.F.entry_extend_loop ?_
    rw [Around.under_plainId PySem.F.plain_extend_loop _]
    show wpAny _ A.in1 (pyNext (.ref z) >>= _) _ _ _
    refine wpAny_bind (ZS.item (s:={ s with heap:=h,toks:=tk }) (A:=A.in1) D st (Heap.lt_size hS) hx hy fun h' st' hp kk=>?_)
    have hS':=kk S _ (Ne.symm O.z) (Ne.symm O.to) (Ne.symm O.i1) (Ne.symm O.i2) hS
    have hsz:acc.size=i:=by rw [← Array.length_toList,hacc,List.length_map,hal]
    show wpAny _ A.in1 (updateSeq S (·.push (Value.ref h.objs.size)) >>= _) _ _ _
    refine wpAny_bind (wpAny_updateSeq hS' rfl (wpAny_pure ⟨plainId_quiet PySem.F.plain_extend_loop _,?_⟩) (by rw [hsz]; exact L2.small_le (m:=100000) (by omega)) (by rw [Array.size_push,hsz]; exact Nat.le_succ_of_le (L2.small_le (m:=100000) (by omega))))
    have oth:∀ b o,b≠S→h'.get? b=some o→(h'.update S (Obj.mapSeq (·.push (Value.ref h.objs.size)))).get? b=some o:=fun b o hb e=>(Heap.get?_update_other _ _ (Ne.symm hb)).trans e
    have hnS:h.objs.size≠S:=Nat.ne_of_gt (Heap.lt_size hS)
    refine ih (i+1) _ tk _ (acc.push (Value.ref h.objs.size)) (as ++ [h.objs.size]) (by omega) hlt (st'.keep O oth) (fun b o b1 b2 b3 b4 b5 e=>oth b o b1 (kk b o b2 b3 b4 b5 (kp b o b1 b2 b3 b4 b5 e))) (Heap.get?_update_self _ hS' rfl) (by rw [Array.toList_push,hacc,List.map_append]; rfl) (by rw [List.length_append,hal]; rfl) ⟨?_,fun a ha=>?_,fun j a hj=>?_⟩ ?_
    · refine List.pairwise_append.mpr ⟨hM.up,List.pairwise_singleton _ _,fun a ha b hb=>?_⟩
      rw [List.mem_singleton.mp hb]
      obtain ⟨j,hj⟩:=List.mem_iff_getElem?.mp ha
      obtain ⟨_,_,_,_,q⟩:=hM.pr j a hj
      exact Heap.lt_size q
    · rcases List.mem_append.mp ha with q | q
      · exact hM.lo a q
      · rw [List.mem_singleton.mp q]; exact hlh
    · by_cases q:j < as.length
      · rw [List.getElem?_append_left q] at hj
        obtain ⟨x',y',q1,q2,q3⟩:=hM.pr j a hj
        have far:∀ {b:Addr},b≤lo→a≠b:=fun hb=>Nat.ne_of_gt (Nat.lt_of_le_of_lt hb (hM.lo a (List.mem_of_getElem? hj)))
        exact ⟨x',y',q1,q2,oth a _ (far hlo.2.2.2.2) (kk a _ (far hlo.1) (far hlo.2.1) (far hlo.2.2.1) (far hlo.2.2.2.1) q3)⟩
      · rw [List.getElem?_append_right (by omega)] at hj
        have ej:j - as.length=0:=by
          by_cases w:j - as.length=0
          · exact w
          · rw [List.getElem?_eq_none (by simp; omega)] at hj; cases hj
        rw [ej] at hj
        have ea:h.objs.size=a:=by simpa using hj
        have ej':j=i:=by omega
        subst ea ej'
        exact ⟨x,y,hx,hy,oth _ _ hnS hp⟩
    · rw [Heap.size_update]
      exact Nat.lt_of_lt_of_le hlh (Nat.le_of_lt (Heap.lt_size hp))
theorem no_len:typeLookup (.type "zip") "__len__" = pure none:=by rw [typeLookup_type,builtinLookup_eq_fast]; kernel_rfl
theorem no_hint:typeLookup (.type "zip") "__length_hint__" = pure none:=by rw [typeLookup_type,builtinLookup_eq_fast]; kernel_rfl
theorem hint {Q:Bool→Shared→Prop} (ty:s.TypeIs (.ref z) "zip") (h:Q true s):wpAny (model prog w) A (Builtin.List.listLengthHint (.ref z)) Q E s:=by
  unfold Builtin.List.listLengthHint
  refine wpAny_bind (wpAny_specialOf ty no_len ?_)
  refine wpAny_bind (wpAny_specialOf ty no_hint ?_)
  exact wpAny_pure h
theorem extend {S c₀ n:Nat} {R:Result→Shared→Prop} {va vb:Value} (hh:A.handled=none) (D:ZipApart z TI TO i1 i2 l1 l2) (O:Off z TI TO i1 i2 l1 l2 S) (hn:min xs.size ys.size=n) (hn2:n≤100000) (res:Value) (hz:IsZip s.heap z TI TO .none) (hTO:IsPair s.heap TO va vb)
    (st:ZS s.heap z TI TO i1 i2 l1 l2 S xs ys 0) (hS:s.heap.get? S=some { cls:=.type "list",data:=.seq #[] c₀ })
    (hR:∀ h' tk acc c as,(∀ b o,b≠S→b≠z→b≠TO→b≠i1→b≠i2→s.heap.get? b=some o→h'.get? b=some o)→h'.get? S=some { cls:=.type "list",dict:=none,data:=.seq acc c,slots:=#[] }→acc.toList=as.map Value.ref→as.length=n→Made h' (s.heap.objs.size - 1) xs ys as→R (.ok (.ret res)) { s with heap:=h',toks:=tk }) :
    wpAny (model prog w) A.in1 (Builtin.List.listExtendWith (.ref S) (.ref z) res) (fun fin s'=>match fin with | .done f=>R (.ok f) s' | .again c'=>c'.quiet=true∧codeAny (model prog w) A c' R s') (fun e s'=>R (.error e) s') s:=by
  have ty:s.TypeIs (.ref z) "zip":=⟨_,hz,rfl⟩
  have lts:∀ {b:Addr} {o:Obj},s.heap.get? b=some o→b≤s.heap.objs.size - 1:=fun e=>Nat.le_sub_one_of_lt (Heap.lt_size e)
  have lt1:i1≤s.heap.objs.size - 1:=by obtain ⟨_,e,_⟩:=st.a1; exact lts e
  have lt2:i2≤s.heap.objs.size - 1:=by obtain ⟨_,e,_⟩:=st.a2; exact lts e
  have pos:0 < s.heap.objs.size:=Nat.lt_of_le_of_lt (Nat.zero_le _) (Heap.lt_size hz)
  have key:∀ (h:Heap) (c₁ tk:Nat),h.objs.size=s.heap.objs.size→(∀ b o,b≠S→s.heap.get? b=some o→h.get? b=some o)→h.get? S=some { cls:=.type "list",data:=.seq #[] c₁ } →
      codeAny (model prog w) A (.builtin "list.extend.loop" ⟨[.ref S,.ref z,res],[]⟩) R { s with heap:=h,toks:=tk }:=fun h c₁ tk hsz kp hS₁ =>
    loop (h₀:=s.heap) hh D O hn hn2 res (s.heap.objs.size - 1) ⟨lts hz,lts hTO,lt1,lt2,lts hS⟩ hR n 0 h tk c₁ #[] [] rfl (Nat.zero_le _) (st.keep O kp) (fun b o b1 _ _ _ _ e=>kp b o b1 e) hS₁ rfl rfl ⟨List.Pairwise.nil,(fun a ha=>nomatch ha),fun j a hj=>by simp at hj⟩ (by rw [hsz]; exact Nat.sub_lt pos (by decide))
  unfold Builtin.List.listExtendWith
  refine wpAny_bind (wpAny_typeOf (T:="zip") ty ?_)
  have e1:Builtin.List.listSameRef (.ref S) (.ref z)=false:=by simp [Builtin.List.listSameRef,Ne.symm O.z]
  have e2:(Value.type "zip" == Value.type "list")=false:=by decide
  have e3:(Value.type "zip" == Value.type "tuple")=false:=by decide
  simp only [e1,e2,e3,Bool.or_false,Bool.false_eq_true,if_false]
  refine wpAny_bind (wpAny_pyIter_zip hz (wpAny_bind (wpAny_holding (hint ty ?_))))
  refine wpAny_ite_split (fun _=>wpAny_bind (wpAny_rule (wpAny_bind ?_))) (fun _=>wpAny_pure ⟨plainId_quiet PySem.F.plain_extend_loop _,key _ c₀ _ rfl (fun b o _ e=>e) hS⟩)
  show wpAny _ _ (updateSeq S (·.push .none) >>= fun _=>updateSeq S (·.pop)) _ _ _
  have g₂:=Heap.get?_update_self (Obj.mapSeq (·.push Value.none)) hS rfl
  have g₃:=Heap.get?_update_self (Obj.mapSeq (·.pop)) g₂ rfl
  refine wpAny_bind (wpAny_updateSeq hS rfl (wpAny_updateSeq (hz:=by seq_fits) g₂ rfl (wpAny_pure ⟨plainId_quiet PySem.F.plain_extend_loop _,key _ _ _ ?_ (fun b o hb e=>?_) g₃⟩)))
  · rw [Heap.size_update,Heap.size_update]
  · exact (Heap.get?_update_other _ _ (Ne.symm hb)).trans ((Heap.get?_update_other _ _ (Ne.symm hb)).trans e)
theorem call_list {n:Nat} {Q:Value→Shared→Prop} {va vb:Value} (hh:A.handled=none) (D:ZipApart z TI TO i1 i2 l1 l2) (hn:min xs.size ys.size=n) (hn2:n≤100000) (hz:IsZip s.heap z TI TO .none) (hTO:IsPair s.heap TO va vb) (hTI:IsPair s.heap TI (.ref i1) (.ref i2))
    (a1:s.heap.IsListIter i1 l1 0) (a2:s.heap.IsListIter i2 l2 0) (b1:s.heap.IsList l1 xs) (b2:s.heap.IsList l2 ys)
    (hQ:∀ h' tk acc c as,(∀ b o,b≠z→b≠TO→b≠i1→b≠i2→s.heap.get? b=some o→h'.get? b=some o)→h'.get? s.heap.objs.size=some { cls:=.type "list",dict:=none,data:=.seq acc c,slots:=#[] }→acc.toList=as.map Value.ref→as.length=n→Made h' s.heap.objs.size xs ys as→Q (.ref s.heap.objs.size) { s with heap:=h',toks:=tk }) :
    wpAny (model prog w) A (call (.type "list") [.ref z]) Q E s:=by
  refine callType_codes (Q₁:=fun obj s₁=>obj = .ref s.heap.objs.size∧s₁ = { s with heap:=s.heap.push { cls:=.type "list",data:=.seq #[] } }) PySem.F.called_list (PySem.F.typeCall_list_1 _) PySem.F.entry_list_init (code_list_new _ ⟨rfl,rfl⟩) ?_
  rintro obj s₁ ⟨rfl,rfl⟩
  have hS:(s.heap.push { cls:=.type "list",data:=.seq #[] }).get? s.heap.objs.size=some { cls:=.type "list",data:=.seq #[] }:=Heap.get?_push_size _ rfl
  refine ⟨⟨_,hS,rfl⟩,PySem.F.args_list_init_2 _ _,?_⟩
  have ne:∀ {b:Addr} {o:Obj},s.heap.get? b=some o→b≠s.heap.objs.size:=fun e=>Nat.ne_of_lt (Heap.lt_size e)
  have O:Off z TI TO i1 i2 l1 l2 s.heap.objs.size:=⟨ne hz,ne hTI,ne hTO,by obtain ⟨_,e,_⟩:=a1; exact ne e,by obtain ⟨_,e,_⟩:=a2; exact ne e,by obtain ⟨_,e,_⟩:=b1; exact ne e,by obtain ⟨_,e,_⟩:=b2; exact ne e⟩
  show wpAny _ _ (do let old ← Builtin.List.listItems (.ref s.heap.objs.size); Builtin.List.listUpdate (.ref s.heap.objs.size) (fun _=>#[]); letGo old.toList.reverse; Builtin.List.listExtendWith (.ref s.heap.objs.size) (.ref z) .none) _ _ _
  refine wpAny_bind (listItems_at hS rfl (wpAny_bind (listUpdate_at hS rfl (wpAny_bind (wpAny_letGo ?_)) (Nat.zero_le _) (Nat.zero_le _))))
  have g₂:=Heap.get?_update_self (Obj.mapSeq (fun _=>(#[]:Array Value))) hS rfl
  have kp:∀ b o,s.heap.get? b=some o→((s.heap.push { cls:=.type "list",data:=.seq #[] }).update s.heap.objs.size (Obj.mapSeq (fun _=>(#[]:Array Value)))).get? b=some o:=fun b o e=>(Heap.get?_update_other _ _ (Ne.symm (ne e))).trans (Heap.get?_push_of_some _ e)
  have sz:((s.heap.push { cls:=.type "list",data:=.seq #[] }).update s.heap.objs.size (Obj.mapSeq (fun _=>(#[]:Array Value)))).objs.size - 1=s.heap.objs.size:=by rw [Heap.size_update,Heap.size_push]; rfl
  refine extend (s:={ s with heap:=(s.heap.push { cls:=.type "list",data:=.seq #[] }).update s.heap.objs.size (Obj.mapSeq (fun _=>(#[]:Array Value))) }) (A:=A.in1) hh D O hn hn2 .none (kp _ _ hz) (kp _ _ hTO) ⟨.inl ⟨rfl,kp _ _ hz,_,_,kp _ _ hTO⟩,kp _ _ hTI,a1.at fun o e=>kp _ o e,a2.at fun o e=>kp _ o e,b1.at fun o e=>kp _ o e,b2.at fun o e=>kp _ o e⟩ g₂ fun h' tk acc c as k1 k2 k3 k4 k5=>?_
  have k5':Made h' s.heap.objs.size xs ys as:=sz ▸ k5
  exact ⟨rfl,hQ h' tk acc c as (fun b o c1 c2 c3 c4 e=>k1 b o (ne e) c1 c2 c3 c4 (kp b o e)) k2 k3 k4 k5'⟩
end
end Zl
namespace L2
open PySem PySem.Spec PyProof.Rows PySem.W
section
variable {X:Cx} {pins:List (Addr × Obj)} {σ:St} {H H':Hp} {s:Shared}
theorem Inv.grow {h':Heap} {t':Nat} (I:Inv X pins σ H s) (k:∀ b u,s.heap.get? b=some u→h'.get? b=some u) (sub:Same H H') (new:∀ b,b < s.heap.objs.size→H b=none→H' b=none) (ok:HOk X.prog X.w H' h'):Inv X pins σ H' { s with heap:=h',toks:=t' } :=
  I.un ⟨fun b o e _ _ _=>k b o e,fun b o e _ _ _=>⟨o.slots,k b o e⟩,fun b o e n _=>new b (Heap.lt_size e) n,fun b o e _=>⟨o,k b o e⟩,fun b _ e=>sub _ _ e,fun b _ _ e=>sub _ _ e,fun b ps e=>⟨#[],by rw [sub _ _ e]; simp⟩⟩ ok
end
def updZ (H:Hp) (zs:List Zt):Hp:=fun b=>match zs.find? (fun z=>z.2.2 == b) with | some z=>some (.tup [.int z.1,.int z.2.1]) | none=>H b
theorem updZ_old {H:Hp} {zs:List Zt} {b:Addr} (h:∀ z ∈ zs,z.2.2≠b):updZ H zs b=H b:=by
  unfold updZ
  rw [List.find?_eq_none.mpr fun z hz=>by simpa using h z hz]
theorem updZ_new {H : Hp} : ∀ {zs : List Zt} {z : Zt}, (zs.map fun z => z.2.2).Nodup → z ∈ zs → updZ H zs z.2.2 = some (.tup [.int z.1, .int z.2.1])
  | y :: zs, z, hn, hz => by
    unfold updZ
    rw [List.map_cons,List.nodup_cons] at hn
    rcases List.mem_cons.mp hz with e | hz
    · subst e
      rw [List.find?_cons_of_pos (by simp)]
    · have hne:¬ (y.2.2 == z.2.2)=true:=fun q=>hn.1 (by
        have e:y.2.2=z.2.2:=by simpa using q
        rw [e]; exact List.mem_map_of_mem hz)
      rw [List.find?_cons_of_neg (p:=fun w:Zt=>w.2.2 == z.2.2) hne]
      exact updZ_new hn.2 hz
def tZipL (K:PySem.W.Frag) (t:TA):TE:=fun σ H Q=>t σ H fun vs H1=>∃ (a b:Addr) (ns ms:List Int),vs=[.ref a,.ref b]∧SqL K H1 a (ns.map V.int)∧SqL K H1 b (ms.map V.int)∧ns.length≤100000 ∧
  ∀ (l:Addr) (zs:List Zt) (H2:Hp),Same H1 H2→H1 l=none→H2 l=some (.lst (zs.map refZ))→(∀ z ∈ zs,PairAt H2 z)→zs.map zP=ns.zip ms→Q (.ref l) H2
theorem ints_at:∀ {vs:List Value} {ns:List Int} {j:Nat} {v:Value},IntsAre vs ns→vs[j]? = some v→∃ i t,ns[j]? = some i∧v = .int i t
  | _,_,0,v,.cons n t r,e=>by simp at e; exact ⟨n,t,rfl,e.symm⟩
  | _,_,j+1,v,.cons n t r,e=>ints_at (j:=j) r (by simpa using e)
  | _,_,j,v,.nil,e=>by simp at e
theorem pairs_of {h:Heap} {lo:Addr} {xs ys:List Value} {ns ms:List Int} (hx:IntsAre xs ns) (hy:IntsAre ys ms):∀ {as:List Addr},(∀ (j:Nat) (a:Addr),as[j]? = some a→∃ x y,xs.toArray[j]? = some x∧ys.toArray[j]? = some y∧IsPair h a x y)→as.length=min ns.length ms.length →
    ∃ zs:List Zt,zs.map (fun z=>z.2.2)=as∧zs.map zP=ns.zip ms∧∀ z ∈ zs,∃ t u,IsPair h z.2.2 (.int z.1 t) (.int z.2.1 u):=by
  intro as hp hl
  have hlx:=hx.length
  have hly:=hy.length
  refine ⟨(ns.zip ms).zipWith (fun t a=>(t.1,t.2,a)) as,?_,?_,fun z hz=>?_⟩
  · apply List.ext_getElem?
    intro j
    rw [List.getElem?_map,List.getElem?_zipWith]
    by_cases hj:j < as.length
    · rw [List.getElem?_eq_getElem hj,List.getElem?_eq_getElem (by rw [List.length_zip]; omega)]; rfl
    · rw [List.getElem?_eq_none (Nat.le_of_not_lt hj)]
      cases (ns.zip ms)[j]? <;> rfl
  · apply List.ext_getElem?
    intro j
    rw [List.getElem?_map,List.getElem?_zipWith]
    by_cases hj:j < as.length
    · rw [List.getElem?_eq_getElem hj,List.getElem?_eq_getElem (by rw [List.length_zip]; omega)]; rfl
    · rw [List.getElem?_eq_none (Nat.le_of_not_lt hj),List.getElem?_eq_none (by rw [List.length_zip]; omega)]; rfl
  · obtain ⟨j,hj⟩:=List.mem_iff_getElem?.mp hz
    rw [List.getElem?_zipWith] at hj
    cases ea:as[j]? with
    | none =>
      rw [ea] at hj
      cases ew:(ns.zip ms)[j]? with
      | none=>rw [ew] at hj; cases hj
      | some w=>rw [ew] at hj; cases hj
    | some a =>
      obtain ⟨x,y,q1,q2,q3⟩:=hp j a ea
      obtain ⟨i,t,e1,rfl⟩:=ints_at (j:=j) hx (by simpa using q1)
      obtain ⟨i',u,e2,rfl⟩:=ints_at (j:=j) hy (by simpa using q2)
      have ez:(ns.zip ms)[j]? = some (i,i'):=by rw [List.getElem?_zip_eq_some]; exact ⟨e1,e2⟩
      rw [ea,ez] at hj
      have:z=(i,i',a):=(Option.some.inj hj).symm
      subst this
      exact ⟨t,u,q3⟩
section
variable {X:Cx} {x y:Expr} {t:TA} {p1 p2 q1 q2:Pos}
theorem pe_zipL (hc : X.calm = true) (hgl : Gl X "list") (hml : X.mg "list" = none) (hgz : Gl X "zip") (hmz : X.mg "zip" = none) (ha : PA X [x, y] t)
    (he:starEach [.Call (.Name "zip" p1) [x,y] [] p2] X.env=[(false,eval (.Call (.Name "zip" p1) [x,y] [] p2) X.env)]:=by rfl) (he2:starEach [x,y] X.env=(false,eval x X.env) :: starEach [y] X.env:=by rfl) (hpl:(backTo p2 (starEach [y] X.env)).any (·.1)=false:=by rfl) :
    PE X (.Call (.Name "list" q1) [.Call (.Name "zip" p1) [x,y] [] p2] [] q2) (tZipL X.K t):=by
  intro pins s σ H Q I h
  refine wpAny_Call_Name_kw (ld_blt I hgl hml BootT.list (PyProof.Rows.callWith_type1 ?_ he rfl))
  rw [he]
  show wpAny _ _ (spliced ((false,eval (.Call (.Name "zip" p1) [x,y] [] p2) X.env) :: backTo q2 (starEach [] X.env))) _ _ s
  refine Calls.spliced_cons (wpAny_Call_Name_kw (ld_blt I hgz hmz BootT.zip (PyProof.Rows.callWith_type1 (thn (ha p2 pins s σ H _ I h) fun us s1 ⟨vs,H1,I1,r1,q⟩=>?_) he2 hpl)))
  obtain ⟨a,b,ns,ms,rfl,hA,hB,hle,k⟩:=q
  obtain ⟨u,v,rfl,ru,rv⟩:=vals2 r1
  cases ru
  cases rv
  obtain ⟨xs,vx,px,_⟩:=I1.list hA
  obtain ⟨ys,vy,py,_⟩:=I1.list hB
  have ix:=intsAre_of vx
  have iy:=intsAre_of vy
  have lx:=ix.length
  have ly:=iy.length
  have al:a < s1.heap.objs.size:=by obtain ⟨_,e,_⟩:=px.isList; exact Heap.lt_size e
  have bl:b < s1.heap.objs.size:=by obtain ⟨_,e,_⟩:=py.isList; exact Heap.lt_size e
  refine call_zip_2 px.isList py.isList fun h' hz hTI hTO j1 j2 hsz hk=>Calls.spliced_nil ?_
  refine Zl.call_list (s:={ s1 with heap:=h' }) (n:=min ns.length ms.length) (I1.ok.hd hc) (zipApart_new al bl) (by rw [List.size_toArray,List.size_toArray,lx,ly]) (by omega) hz hTO hTI j1 j2 (px.isList.at fun o e=>hk _ o e) (py.isList.at fun o e=>hk _ o e) fun h2 tk acc c as k1 k2 k3 k4 k5=>?_
  obtain ⟨zs,e1,e2,e3⟩:=pairs_of (lo:=0) ix iy k5.pr k4
  have old:∀ b o,s1.heap.get? b=some o→h2.get? b=some o:=fun b o e=>by
    have hb:=Heap.lt_size e
    refine k1 b o (Nat.ne_of_lt (Nat.lt_of_lt_of_le hb (Nat.le_add_right _ _))) (Nat.ne_of_lt (Nat.lt_of_lt_of_le hb (Nat.le_add_right _ _))) (Nat.ne_of_lt hb) (Nat.ne_of_lt (Nat.lt_of_lt_of_le hb (Nat.le_add_right _ _))) (hk b o e)
  have up:∀ z ∈ zs,h'.objs.size < z.2.2:=fun z hz=>k5.lo _ (by rw [← e1]; exact List.mem_map_of_mem hz)
  have hs5:h'.objs.size=s1.heap.objs.size+5:=hsz
  have nd:(zs.map fun z=>z.2.2).Nodup:=by rw [e1]; exact k5.up.imp fun q=>Nat.ne_of_lt q
  have far:∀ z ∈ zs,∀ b:Addr,b < s1.heap.objs.size→z.2.2≠b:=fun z hz b hb=>Nat.ne_of_gt (Nat.lt_trans (Nat.lt_of_lt_of_le hb (by rw [hs5]; exact Nat.le_add_right _ _)) (up z hz))
  have lf:∀ b:Addr,b < s1.heap.objs.size→b≠h'.objs.size:=fun b hb=>Nat.ne_of_lt (Nat.lt_of_lt_of_le hb (by rw [hs5]; exact Nat.le_add_right _ _))
  have hold:∀ b:Addr,b < s1.heap.objs.size→upd (updZ H1 zs) h'.objs.size (.lst (zs.map refZ)) b=H1 b:=fun b hb=>by rw [upd_ne (lf b hb),updZ_old fun z hz=>far z hz b hb]
  have S:Same H1 (upd (updZ H1 zs) h'.objs.size (.lst (zs.map refZ))):=fun b o e=>by rw [hold b (I1.hok.lt e)]; exact e
  have hpair:∀ z ∈ zs,PairAt (upd (updZ H1 zs) h'.objs.size (.lst (zs.map refZ))) z:=fun z hz=>by
    show upd (updZ H1 zs) h'.objs.size (.lst (zs.map refZ)) z.2.2=_
    rw [upd_ne (Nat.ne_of_gt (up z hz))]
    exact updZ_new nd hz
  have hlz:zs.length≤100000:=by
    have:=congrArg List.length e2
    rw [List.length_map,List.length_zip] at this
    omega
  have I2 : Inv X pins σ (upd (updZ H1 zs) h'.objs.size (.lst (zs.map refZ))) { s1 with heap := h2, toks := tk } := I1.grow old S (fun b hb n => by rw [hold b hb]; exact n) fun b o e => by
    by_cases hb:b < s1.heap.objs.size
    · rw [hold b hb] at e
      exact (I1.hok b o e).stay (fun c v _ q=>old c v q) (fun c q=>S _ _ q) fun c _ q=>S _ _ q
    · by_cases hl:b=h'.objs.size
      · subst hl
        rw [upd_same] at e
        cases e
        refine ⟨by rw [List.length_map]; exact small_le hlz,acc.toList,c,?_,by rw [Array.toArray_toList]; exact k2⟩
        rw [k3,← e1,List.map_map]
        exact vals_refs zs
      · rw [upd_ne hl] at e
        unfold updZ at e
        cases w:zs.find? (fun z=>z.2.2 == b) with
        | none =>
          rw [w] at e
          have e:H1 b=some o:=e
          rw [I1.hok.fresh (Nat.le_of_not_lt hb)] at e
          cases e
        | some z =>
          rw [w] at e
          cases e
          have hz':=List.mem_of_find?_eq_some w
          have eb:z.2.2=b:=by simpa using List.find?_some w
          subst eb
          obtain ⟨t,u,hp⟩:=e3 z hz'
          exact ⟨small_le (m:=2) (Nat.le_refl 2),[.int z.1 t,.int z.2.1 u],.cons ⟨t,rfl⟩ (.cons ⟨u,rfl⟩ .nil),⟨_,hp,rfl,_,rfl⟩⟩
  exact ⟨.ref h'.objs.size,_,I2,rfl,k _ zs _ S (I1.hok.fresh (by rw [hs5]; exact Nat.le_add_right _ _)) upd_same hpair e2⟩
theorem x_zipL {K:PySem.W.Frag} {t:TA} {σ:St} {H:Hp} {Q:VK} (h:t σ H fun vs H1=>∃ (a b:Addr) (ns ms:List Int),vs=[.ref a,.ref b]∧SqL K H1 a (ns.map V.int)∧SqL K H1 b (ms.map V.int)∧ns.length≤100000 ∧
  ∀ (l:Addr) (zs:List Zt) (H2:Hp),Same H1 H2→H1 l=none→H2 l=some (.lst (zs.map refZ))→(∀ z ∈ zs,PairAt H2 z)→zs.map zP=ns.zip ms→Q (.ref l) H2):tZipL K t σ H Q:=h
end
end L2
namespace L2
open PySem PySem.Spec PyProof.Rows PySem.W
def RawD (h:Heap) (d:Addr) (ks:List Value) (ep:Nat):Prop:=∃ o es,h.get? d=some o∧o.ExactDict∧o.data = .dict es ep∧es.toList.map (·.key)=ks
theorem RawD.at {h h':Heap} {d:Addr} {ks:List Value} {ep:Nat} (x:RawD h d ks ep) (k:∀ o,h.get? d=some o→h'.get? d=some o):RawD h' d ks ep :=
  let ⟨o,es,e,r⟩:=x; ⟨o,es,k o e,r⟩
theorem RawD.lt {h:Heap} {d:Addr} {ks:List Value} {ep:Nat} (x:RawD h d ks ep):d < h.objs.size:=let ⟨_,_,e,_⟩:=x; Heap.lt_size e
section
variable {prog:Program} {w:World} {A:Around} {E:Value→Shared→Prop} {s:Shared} {d it:Addr} {ks:List Value} {ep i:Nat}
theorem RawD.typeIs (x:RawD s.heap d ks ep):s.TypeIs (.ref d) "dict":=let ⟨o,_,e,c,_⟩:=x; ⟨o,e,c.1⟩
theorem raw_iter {Q:Value→Shared→Prop} (hd:(d == sysModules)=false) (x:RawD s.heap d ks ep)
    (q:Q (.ref s.heap.objs.size) { s with heap:=s.heap.push { cls:=.type "dict_keyiterator",data:=.fields #[.ref d,.int 0 0,.int ks.length 0,.int ep 0] } }):wpAny (model prog w) A (pyIter (.ref d)) Q E s:=by
  have hT:=x.typeIs
  obtain ⟨o,es,e,c,da,hk⟩:=x
  have hs:es.size=ks.length:=by rw [← hk,List.length_map,Array.length_toList]
  refine wpAny_pyIter_slot hT F.slot_dict_iter (wpAny_call_entry F.slot_dict_iter hT F.entry_dict_iter ?_ (F.args_dict_iter_1 _))
  unfold Builtin.«dict.__iter__» Builtin.Dict.dictSlotNone
  refine wpAny_bind (wpAny_bind (wpAny_notOrdered_dict hT ?_))
  show wpAny _ _ (pure (Value.ref d)) _ _ s
  refine wpAny_pure ?_
  show wpAny _ _ (Builtin.Dict.showsAll d >>= _) _ _ s
  unfold Builtin.Dict.showsAll
  rw [if_neg (by rw [hd]; exact Bool.false_ne_true)]
  refine wpAny_bind (wpAny_pure (wpAny_bind (wpAny_dictEntries e da (wpAny_bind (wpAny_dictEpoch e da ?_)))))
  refine wpAny_bind (wpAny_newObj_type (wpAny_pure ⟨_,rfl,"dict_keyiterator",_,⟨_,Heap.get?_push_size _ rfl,rfl⟩,F.slot_dict_keyiterator_next.lookup,?_⟩))
  simpa [rawInt,hs] using q
theorem raw_next {Q:Option Value→Shared→Prop} {v:Value} (t:s.heap.IsKeyIter it d i ks.length ep) (x:RawD s.heap d ks ep) (hv:ks[i]? = some v)
    (q:∀ h',h'.IsKeyIter it d (i+1) ks.length ep→Heap.SameBut it s.heap h'→Q (some v) { s with heap:=h' }):wpAny (model prog w) A (pyNext (.ref it)) Q E s:=by
  have tt:=t.typeIs
  obtain ⟨ob,g,gc,gd⟩:=id t
  obtain ⟨o,es,e,c,da,hk⟩:=x
  have hs:es.size=ks.length:=by rw [← hk,List.length_map,Array.length_toList]
  have hi:i < es.size:=by rw [hs]; exact (List.getElem?_eq_some_iff.mp hv).1
  have ev:es[i].key=v:=by
    rw [← hk,List.getElem?_map] at hv
    simpa [hi] using hv
  unfold pyNext
  refine wpAny_bind (wpAny_attempt (wpAny_callSpecial?_slot (name:=Str.ofString "__next__") tt F.slot_dict_keyiterator_next (wpAny_call_entry F.slot_dict_keyiterator_next tt F.entry_dict_keyiterator_next ?_ (F.args_dict_keyiterator_next_1 _))))
  refine wpAny_bind (wpAny_pure (wpAny_bind (wpAny_bind ?_)))
  first | refine wpAny_bind (wpAny_typeNameOfWhole_keyiter tt (wpAny_pure ?_)) | refine wpAny_bind (wpAny_typeNameOf_keyiter tt (wpAny_pure ?_))
  refine wpAny_bind (wpAny_fieldsOf g gd ?_)
  simp only [show Builtin.Dict_items.ownsTuple "dict_keyiterator" = false by decide,Bool.false_eq_true,if_false]
  show wpAny _ _ (if (Value.ref d == Value.none)=true then _ else _) _ _ s
  rw [if_neg (show ¬ ((Value.ref d == Value.none)=true) from Bool.false_ne_true)]
  refine wpAny_bind (wpAny_pure (wpAny_bind (wpAny_dictEntries e da ?_)))
  rw [if_neg (by rw [hs]; simp)]
  refine wpAny_bind (wpAny_pure (wpAny_bind (wpAny_dictEpoch e da ?_)))
  rw [if_neg (by simp)]
  refine wpAny_pure ?_
  simp only [show ¬ ((i:Int) < 0) from by omega,if_false,Int.toNat_natCast,Array.getElem?_eq_getElem hi]
  refine wpAny_bind ?_
  first | refine wpAny_bind (wpAny_typeNameOfWhole_keyiter tt (wpAny_pure ?_)) | refine wpAny_bind (wpAny_typeNameOf_keyiter tt (wpAny_pure ?_))
  refine wpAny_bind (wpAny_isOneOf_keyiter tt ?_)
  show wpAny _ _ (setField (.ref it) 1 (rawInt ((i:Int)+1)) >>= _) _ _ s
  refine wpAny_bind (wpAny_setField g gd (by simp) ?_)
  have t':(s.heap.update it (Obj.mapFields (·.setIfInBounds 1 (rawInt ((i:Int)+1))))).IsKeyIter it d (i+1) ks.length ep :=
    ⟨_,Heap.get?_update_self _ g (Obj.isFreed_of_fields (Obj.data_mapFields gd _)),(Obj.cls_mapFields ..).trans gc,by rw [Obj.data_mapFields gd]; simp [rawInt]⟩
  refine wpAny_bind (wpAny_holding ?_)
  refine wpAny_bind (wpAny_isOneOf_keyiter (s:={ s with heap:=s.heap.update it (Obj.mapFields (·.setIfInBounds 1 (rawInt ((i:Int)+1)))) }) t'.typeIs ?_)
  show wpAny _ _ (pure es[i].key) _ _ _
  rw [ev]
  exact wpAny_pure (wpAny_pure ⟨_,rfl,wpAny_pure (q _ t' (Heap.SameBut.update ..))⟩)
theorem raw_end {Q:Option Value→Shared→Prop} (hh:A.handled=none) (hi:ks.length≤i) (t:s.heap.IsKeyIter it d i ks.length ep) (x:RawD s.heap d ks ep) (q:∀ h',Heap.ExtBut it s.heap h'→Q none { s with heap:=h' }):wpAny (model prog w) A (pyNext (.ref it)) Q E s:=by
  have tt:=t.typeIs
  obtain ⟨ob,g,gc,gd⟩:=id t
  obtain ⟨o,es,e,c,da,hk⟩:=x
  have hs:es.size=ks.length:=by rw [← hk,List.length_map,Array.length_toList]
  unfold pyNext
  refine wpAny_bind (wpAny_attempt (wpAny_callSpecial?_slot (name:=Str.ofString "__next__") tt F.slot_dict_keyiterator_next (wpAny_call_entry F.slot_dict_keyiterator_next tt F.entry_dict_keyiterator_next ?_ (F.args_dict_keyiterator_next_1 _))))
  refine wpAny_bind (wpAny_pure (wpAny_bind (wpAny_bind ?_)))
  first | refine wpAny_bind (wpAny_typeNameOfWhole_keyiter tt (wpAny_pure ?_)) | refine wpAny_bind (wpAny_typeNameOf_keyiter tt (wpAny_pure ?_))
  refine wpAny_bind (wpAny_fieldsOf g gd ?_)
  simp only [show Builtin.Dict_items.ownsTuple "dict_keyiterator" = false by decide,Bool.false_eq_true,if_false]
  show wpAny _ _ (if (Value.ref d == Value.none)=true then _ else _) _ _ s
  rw [if_neg (show ¬ ((Value.ref d == Value.none)=true) from Bool.false_ne_true)]
  refine wpAny_bind (wpAny_pure (wpAny_bind (wpAny_dictEntries e da ?_)))
  rw [if_neg (by rw [hs]; simp)]
  refine wpAny_bind (wpAny_pure (wpAny_bind (wpAny_dictEpoch e da ?_)))
  rw [if_neg (by simp)]
  refine wpAny_pure ?_
  simp only [show ¬ ((i:Int) < 0) from by omega,if_false,Int.toNat_natCast,Array.getElem?_eq_none (Nat.le_trans (Nat.le_of_eq hs) hi)]
  refine wpAny_bind ?_
  first | refine wpAny_bind (wpAny_typeNameOfWhole_keyiter tt (wpAny_pure ?_)) | refine wpAny_bind (wpAny_typeNameOf_keyiter tt (wpAny_pure ?_))
  show wpAny _ _ (setField (.ref it) 0 .none >>= _) _ _ s
  refine wpAny_bind (wpAny_setField g gd (by simp) ?_)
  show wpAny _ _ (newExc (.type "StopIteration") [] >>= _) _ _ _
  refine wpAny_bind ?_
  simp only [newExc,newTuple]
  refine wpAny_bind (wpAny_newObj_type ?_ (by size_fits))
  refine wpAny_bind (m:=firstArgMember _ _) (wpAny_of_eq (a:=Value.none) (by first | rfl | (simp only [firstArgMember]; rfl)) ?_)
  refine wpAny_newObj_type ?_ (by size_fits)
  simp only [raiseNew]
  refine wpAny_bind (wpAny_handled ?_)
  rw [show A.in1.handled=none from hh]
  refine wpAny_bind (wpAny_pure (wpAny_throw ?_))
  refine wpAny_bind (wpAny_isInstance (T:="StopIteration") (b:=true) ⟨_,Heap.get?_push_size _ rfl,rfl⟩ isSubtype_stop ?_)
  exact wpAny_pure (q _ (((Heap.SameBut.update ..).extBut.push _).push _))
theorem raw_walks (hh:A.handled=none) (I d:Addr) (hne:d≠I) (ks:List Value) (ep:Nat):Walks prog w A I [I,d] [I] ks.length (fun i v=>ks[i]? = some v) (fun i h=>h.IsKeyIter I d i ks.length ep∧RawD h d ks ep) where
  sub:=fun b hb=>by simp at hb; simp [hb]
  frame:=fun _ _ _ st hk=>⟨st.1.at fun o e=>hk I (by simp) o e,st.2.at fun o e=>hk d (by simp) o e⟩
  item:=fun i s Q E hi st hQ=>by
    have hv:ks[i]? = some ks[i]:=List.getElem?_eq_getElem hi
    refine raw_next st.1 st.2 hv fun h' t' hs'=>hQ _ h' s.toks hv ⟨t',st.2.at fun o e=>hs'.extBut d o hne e⟩ fun b o hb e=>hs'.extBut b o (fun h=>hb (by simp [h])) e
  done:=fun s Q E st hQ=>raw_end hh (Nat.le_refl _) st.1 st.2 fun h' he=>hQ h' s.toks fun b o hb e=>he b o (fun h=>hb (by simp [h])) e
  self:=fun _ _ _ _ st hQ=>wpAny_pyIter_keyiter st.1 hQ
theorem raw_src (lo:(d == sysModules)=false):KdlSrc prog w "dict" d d ks.length (fun i v=>ks[i]? = some v) (fun h=>RawD h d ks ep) where
  type:=fun _ x=>x.typeIs
  there:=fun _ x=>⟨x.lt,x.lt⟩
  keep:=fun _ _ x hk=>x.at fun o e=>hk d (.inl rfl) o e
  notList:=by decide
  notTuple:=by decide
  hint:=fun _ _ _ _ x hq=>kdl_hint_dict x.typeIs hq
  iter:=fun _ _ hh x=>⟨_,_,(fun _ _ hq=>raw_iter lo x hq),raw_walks hh _ d (Nat.ne_of_lt x.lt) ks ep,⟨⟨_,Heap.get?_push_size _ rfl,rfl,rfl⟩,x.at fun o e=>Heap.get?_push_of_some _ e⟩⟩
theorem iadd_src {T:String} {r S:Addr} {n:Nat} {P:Nat→Value→Prop} {OK:Heap→Prop} {R:Result→Shared→Prop} (K:KdlSrc prog w T r d n P OK) (hh:A.handled=none) (ok:OK s.heap) (h1:S≠r) (h2:S≠d) (hn:n≤sizeLine) (g:s.heap.get? S=some { cls:=.type "list",data:=.seq #[] 0 })
    (q:∀ h' tk acc' c',(∀ b o,b≠S→s.heap.get? b=some o→h'.get? b=some o)→h'.get? S=some { cls:=.type "list",dict:=none,data:=.seq acc' c',slots:=#[] }→ItemsOf P acc' n→R (.ok (.ret (.ref S))) { s with heap:=h',toks:=tk }) :
    codeAny (model prog w) A (.builtin "list.__iadd__" ⟨[.ref S,.ref r],[]⟩) R s:=by
  refine codeAny_builtin F.entry_list_iadd ?_
  rw [Around.under_plainId F.plain_list_iadd _]
  exact kdl_extend K hh ok S h1 h2 (.ref S) 0 g q hn
theorem collect_src {T:String} {r:Addr} {n:Nat} {P:Nat→Value→Prop} {OK:Heap→Prop} {Q:List Value→Shared→Prop} (K:KdlSrc prog w T r d n P OK) (hh:A.handled=none) (ok:OK s.heap) (hn:n≤sizeLine)
    (q:∀ h' tk acc,(∀ b o,s.heap.get? b=some o→h'.get? b=some o)→ItemsOf P acc n→Q acc.toList { s with heap:=h',toks:=tk }):wpAny (model prog w) A (collect (.ref r)) Q E s:=by
  have th:=K.there _ ok
  unfold collect
  refine wpAny_bind (wpAny_runValue (codeAny_builtin F.entry_proto_collect ?_))
  rw [Around.under_plainId F.plain_proto_collect _]
  show wpAny _ A.in1 (newList [] >>= fun l=>again (.builtin "list.__iadd__" ⟨[l,.ref r],[]⟩)) _ _ s
  have g:(s.heap.push { cls:=.type "list",data:=.seq ([]:List Value).toArray }).get? s.heap.objs.size=some { cls:=.type "list",data:=.seq #[] 0 }:=Heap.get?_push_size _ rfl
  refine wpAny_bind (wpAny_newObj_type (wpAny_pure ⟨plainId_quiet F.plain_list_iadd _,iadd_src (s:={ s with heap:=s.heap.push { cls:=.type "list",data:=.seq ([]:List Value).toArray } }) K hh (K.keep _ _ ok fun b _ o e=>Heap.get?_push_of_some _ e) (Nat.ne_of_gt th.1) (Nat.ne_of_gt th.2) hn g fun h' tk acc' c' hk hS hacc=>?_⟩))
  show wpAny _ A (load s.heap.objs.size >>= _) _ _ { s with heap:=h',toks:=tk }
  refine wpAny_bind (wpAny_load hS (wpAny_pure (q h' tk acc' (fun b o e=>hk b o (Nat.ne_of_lt (Heap.lt_size e)) (Heap.get?_push_of_some _ e)) hacc)))
theorem items_eq {acc:Array Value} (h:ItemsOf (fun i v=>ks[i]? = some v) acc ks.length):acc.toList=ks:=by
  apply List.ext_getElem?
  intro j
  cases e:acc.toList[j]? with
  | some v=>exact (h.2 j v (by rw [← Array.getElem?_toList]; exact e)).symm
  | none =>
    have:ks.length≤j:=by have:=List.getElem?_eq_none_iff.mp e; rw [Array.length_toList,h.1] at this; exact this
    exact (List.getElem?_eq_none this).symm
end
section
variable {X:Cx}
end
end L2
namespace L2
open PySem PySem.Spec PyProof.Rows PySem.W
theorem Paired.at {α β:Type} {F:α→β→Prop} {l₁:List α} {l₂:List β} (r:Paired F l₁ l₂):∀ {i:Nat} {a:α},l₁[i]? = some a→∃ b,l₂[i]? = some b∧F a b:=by
  induction r with
  | nil=>intro i a e; simp at e
  | cons h t ih =>
    intro i a e
    cases i with
    | zero =>
      simp only [List.getElem?_cons_zero,Option.some.injEq] at e
      subst e
      exact ⟨_,rfl,h⟩
    | succ i=>exact ih (by simpa using e)
theorem Paired.len {α β:Type} {F:α→β→Prop} {l₁:List α} {l₂:List β} (r:Paired F l₁ l₂):l₁.length=l₂.length:=by
  induction r with
  | nil=>rfl
  | cons h t ih=>simp [ih]
def ItT (a:Addr) (kvs:List (List Key × V)) (o:Obj):It :=
  ⟨fun i H=>i < kvs.length∧H a=some (.frz o (.dT kvs)),fun i H x H'=>H'=H∧∃ k v b,kvs[i]? = some (k,v)∧x = .ref b∧H b=some (.tup (k.map kV)),fun i H=>kvs.length≤i∧H a=some (.frz o (.dT kvs))⟩
theorem turn_dT {P:Program} {w:World} {K:PySem.W.Frag} {tg:Expr} (a it:Addr) (o:Obj) (kvs:List (List Key × V)) (es:Array DictEntry) (ep:Nat) (hx:o.ExactDict) (hd:o.data = .dict es ep) (hl:es.size=kvs.length) :
    Turn P w K tg (ItT a kvs o) [it] it (fun i h=>h.IsKeyIter it a i (es.toList.map (·.key)).length ep) where
  mem:=by simp
  obj:=fun i h st b hb=>by
    have e:b=it:=by simpa using hb
    subst e
    obtain ⟨o,e,c,d⟩:=st
    exact ⟨o,e,fun v z=>by rw [d] at z; cases z⟩
  keep:=fun i h h' st k=>st.at fun o e=>k it (by simp) o e
  item:=by
    intro X hP hw hK hc i pins s σ H E I hf st hg
    subst hP hw hK
    obtain ⟨hlt,hq⟩:=hg
    obtain ⟨e0,_,_,xs,rel,o',es',ep',e1,e2,e3,e4,e5⟩:=(show ObjOk X.prog X.w H s.heap a (.frz o (.dT kvs)) from I.hok a _ hq)
    rw [e0] at e1
    cases e1
    rw [hd] at e3
    injection e3 with e3 e3'
    subst e3 e3'
    obtain ⟨⟨k,v⟩,hkv⟩:∃ p,kvs[i]? = some p:=⟨kvs[i],by simp [hlt]⟩
    obtain ⟨q,hq2,rq⟩:=L2.Paired.at rel hkv
    have hkey:(es.toList.map (·.key))[i]? = some (.ref q.2.1):=by rw [e4,List.map_map,List.getElem?_map,hq2]; rfl
    obtain ⟨f0,f1,f2,f3,f4,f5⟩:=hf it (by simp)
    refine raw_next st ⟨o,es,e0,hx,hd,rfl⟩ hkey fun h' st' sb=>?_
    have I1:Inv X pins σ H { s with heap:=h' }:=I.turned (t':=s.toks) (fun b o hb e=>(sb.2 b hb).trans e) f0 f1 f3 f4 f5
    obtain ⟨o',e,c,d⟩:=id st'
    exact ⟨_,rfl,go_of (s:={ s with heap:=h' }) e c d (by decide) ⟨.ref q.2.1,H,I1,rfl,⟨rfl,k,v,q.2.1,hkv,rfl,rq.2.1⟩,st',fun b hb=>(hf b hb).1⟩⟩
  done:=by
    intro X hP hw hK hc i pins s σ H E I hf st hg
    subst hP hw hK
    obtain ⟨hle,hq⟩:=hg
    obtain ⟨e0,_⟩:=(show ObjOk X.prog X.w H s.heap a (.frz o (.dT kvs)) from I.hok a _ hq)
    obtain ⟨f0,f1,f2,f3,f4,f5⟩:=hf it (by simp)
    have hn:(es.toList.map (·.key)).length=kvs.length:=by rw [List.length_map,Array.length_toList,hl]
    exact raw_end (I.ok.hd hc) (by omega) st ⟨o,es,e0,hx,hd,rfl⟩ fun h' eb=>⟨rfl,I.turned (t':=s.toks) (fun b o hb e=>eb b o hb e) f0 f1 f3 f4 f5⟩
  self:=fun _ _ _ _ _ st h=>wpAny_pyIter_keyiter st h
def iDT (tl:TE):TI:=fun σ H R=>tl σ H fun x H1=>∃ a kvs,x = .ref a∧((H1 a=some (.dT kvs)∧∀ o,R (ItT a kvs o) (upd H1 a (.frz o (.dT kvs))))∨∃ o,H1 a=some (.frz o (.dT kvs))∧R (ItT a kvs o) H1)
theorem x_iDT {tl:TE} {σ:St} {H:Hp} {R:It→Hp→Prop} (h:tl σ H fun x H1=>∃ a kvs,x = .ref a∧((H1 a=some (.dT kvs)∧∀ o,R (ItT a kvs o) (upd H1 a (.frz o (.dT kvs))))∨∃ o,H1 a=some (.frz o (.dT kvs))∧R (ItT a kvs o) H1)):iDT tl σ H R:=h
section
variable {X:Cx} {tg:Expr}
theorem pi_dT {l:Expr} {tl:TE} (hl:PE X l tl):PI X tg l (iDT tl):=by
  intro pins s σ H R I h
  refine thn (hl pins s σ H _ I h) fun v s1 ⟨x,H1,I1,r1,q1⟩=>?_
  obtain ⟨a,kvs,e,q1⟩:=q1
  subst e
  cases r1
  rcases q1 with ⟨hq,q⟩ | ⟨ob,hq,q⟩
  rotate_left
  · obtain ⟨ho,hz,hsys,xs,rel,ob',es,ep,ho',hx,hd,he,hn⟩:=(show ObjOk X.prog X.w H1 s1.heap a (.frz ob (.dT kvs)) from I1.hok a _ hq)
    rw [ho] at ho'
    cases ho'
    have hl:es.size=kvs.length:=by rw [← Array.length_toList,he,List.length_map,Paired.len rel]
    refine raw_iter hsys ⟨ob,es,ho,hx,hd,rfl⟩ ?_
    refine ⟨s1.heap.objs.size,[s1.heap.objs.size],_,_,_,rfl,I1.kept (t':=s1.toks) fun b o e=>Heap.get?_push_of_some _ e,turn_dT a _ ob kvs es ep hx hd hl,⟨_,Heap.get?_push_size _ rfl,rfl,rfl⟩,fun b hb=>?_,q⟩
    have e:b=s1.heap.objs.size:=by simpa using hb
    subst e
    exact I1.fpOk (Nat.le_refl _) (I1.hok.fresh (Nat.le_refl _))
  obtain ⟨hz,hsys,xs,rel,ob,es,ep,ho,hx,hd,he,hn⟩:=(show ObjOk X.prog X.w H1 s1.heap a (.dT kvs) from I1.hok a _ hq)
  have un:Un X.fs [] H1 (upd H1 a (.frz ob (.dT kvs))) s1.heap s1.heap:=by
    have hne:∀ b u,H1 b=some u→u≠.dT kvs→b≠a:=fun b u e n z=>by subst z; rw [hq] at e; exact n (Option.some.inj e).symm
    refine ⟨fun b o e _ _ _=>e,fun b o e _ _ _=>⟨o.slots,e⟩,fun b o e n _=>?_,fun b o e _=>⟨o,e⟩,fun b ys e=>?_,fun b o u e=>?_,fun b ps e=>?_⟩
    · rw [upd_ne (fun z=>by subst z; rw [hq] at n; cases n)]; exact n
    · rw [upd_ne (hne b _ e (by intro z; cases z))]; exact e
    · rw [upd_ne (hne b _ e (by intro z; cases z))]; exact e
    · exact ⟨#[],by rw [upd_ne (hne b _ e (by intro z; cases z)),e]; simp⟩
  have nt:∀ c ys,H1 c=some (.tup ys)→(upd H1 a (.frz ob (.dT kvs))) c=some (.tup ys):=fun c ys q0=>by
    rw [upd_ne (fun z=>by rw [z,hq] at q0; cases q0)]; exact q0
  have hok:HOk X.prog X.w (upd H1 a (.frz ob (.dT kvs))) s1.heap:=fun b u e=>by
    by_cases hb:b=a
    · subst hb
      rw [upd_same] at e
      cases e
      exact ⟨ho,hz,hsys,xs,Paired.mapP rel fun p q z=>⟨z.1,nt _ _ z.2.1,z.2.2⟩,ob,es,ep,ho,hx,hd,he,hn⟩
    · rw [upd_ne hb] at e
      refine (I1.hok b u e).stay (fun c v _ q=>q) (fun c q0=>?_) nt
      rw [upd_ne (fun z=>by rw [z,hq] at q0; cases q0)]; exact q0
  have I2:Inv X pins σ (upd H1 a (.frz ob (.dT kvs))) { s1 with heap:=s1.heap,toks:=s1.toks }:=I1.un un hok
  have hl:es.size=kvs.length:=by rw [← Array.length_toList,he,List.length_map,Paired.len rel]
  refine raw_iter hsys ⟨ob,es,ho,hx,hd,rfl⟩ ?_
  refine ⟨s1.heap.objs.size,[s1.heap.objs.size],_,_,_,rfl,I2.kept (t':=s1.toks) fun b o e=>Heap.get?_push_of_some _ e,turn_dT a _ ob kvs es ep hx hd hl,⟨_,Heap.get?_push_size _ rfl,rfl,rfl⟩,fun b hb=>?_,q ob⟩
  have e:b=s1.heap.objs.size:=by simpa using hb
  subst e
  exact I2.fpOk (Nat.le_refl _) (I2.hok.fresh (Nat.le_refl _))
end
def Thaw (H:Hp) (Q:VK):VK:=fun x H'=>Q x H'∨∃ a o kvs,(∀ o' u',H a≠some (.frz o' u'))∧H' a=some (.frz o (.dT kvs))∧Q x (upd H' a (.dT kvs))
theorem Un.thaw {fs ex:List Addr} {H H':Hp} {h h':Heap} {a:Addr} {o:Obj} {kvs:List (List Key × V)} (u:Un fs ex H H' h h') (hn:∀ o' u',H a≠some (.frz o' u')) (ha:H' a=some (.frz o (.dT kvs))):Un fs ex H (upd H' a (.dT kvs)) h h' where
  keep:=u.keep
  slot:=u.slot
  free:=fun b ob e n hx=>by
    have q:=u.free b ob e n hx
    rw [upd_ne (fun z=>by rw [z,ha] at q; cases q)]; exact q
  there:=u.there
  tups:=fun b xs e=>by
    have q:=u.tups b xs e
    rw [upd_ne (fun z=>by rw [z,ha] at q; cases q)]; exact q
  frzs:=fun b ob w e=>by
    have q:=u.frzs b ob w e
    rw [upd_ne (fun z=>hn ob w (by rw [← z]; exact e))]; exact q
  tbls:=fun b ps e=>by
    obtain ⟨more,q⟩:=u.tbls b ps e
    exact ⟨more,by rw [upd_ne (fun z=>by rw [z,ha] at q; cases q)]; exact q⟩
theorem HOk.thaw {P:Program} {w:World} {H:Hp} {h:Heap} {a:Addr} {o:Obj} {kvs:List (List Key × V)} (k:HOk P w H h) (ha:H a=some (.frz o (.dT kvs))):HOk P w (upd H a (.dT kvs)) h:=by
  have nt:∀ c ys,H c=some (.tup ys)→(upd H a (.dT kvs)) c=some (.tup ys):=fun c ys q0=>by
    rw [upd_ne (fun z=>by rw [z,ha] at q0; cases q0)]; exact q0
  intro b u e
  by_cases hb:b=a
  · subst hb
    rw [upd_same] at e
    cases e
    obtain ⟨_,hz,hsys,xs,rel,ob,es,ep,r⟩:=(show ObjOk P w H h b (.frz o (.dT kvs)) from k b _ ha)
    exact ⟨hz,hsys,xs,Paired.mapP rel fun p q z=>⟨z.1,nt _ _ z.2.1,z.2.2⟩,ob,es,ep,r⟩
  · rw [upd_ne hb] at e
    refine (k b u e).stay (fun c v _ q=>q) (fun c q0=>?_) nt
    rw [upd_ne (fun z=>by rw [z,ha] at q0; cases q0)]; exact q0
end L2
namespace BootT
end BootT
namespace L2
open PySem PySem.Spec PyProof.Rows PySem.W
theorem FnOk.thaw {P:Program} {w:World} {K:PySem.W.Frag} {mg:Str→Option Value} {base:Heap} {CX:CXT} {k:Nat} {f:Addr} {fd:FuncData} {ps:List Str} {sp sp':Sp} (F:FnOk P w K mg base CX k f fd ps sp')
    (h:∀ vs H Q E,sp vs H Q E→sp' vs H (Thaw H Q) E):FnOk P w K mg base CX k f fd ps sp:=by
  refine ⟨fun vs H Q E q=>F.len vs H _ E (h _ _ _ _ q),fun A outer s H args us vs Q E hr he hb hv hs=>?_⟩
  refine codeAny_mono (F.run A outer s H args us vs _ E hr he hb hv (h _ _ _ _ hs)) fun r s' q=>?_
  cases r with
  | error e=>exact q
  | ok fl =>
    cases fl with
    | ret u =>
      obtain ⟨v,H',h1,h2,h3,h4,h5,q⟩:=(show CE outer P w H s (Thaw H Q) u s' from q)
      rcases q with q | ⟨a,o,kvs,hn,ha,q⟩
      · exact (show CE outer P w H s Q u s' from ⟨v,H',h1,h2,h3,h4,h5,q⟩)
      · exact (show CE outer P w H s Q u s' from ⟨v,_,h1,h2,h3.thaw hn ha,h4.thaw ha,h5,q⟩)
    | _=>exact q
theorem valV_of_get {κ:Type} [DecidableEq κ] {k:κ} {v:V}:∀ {kvs:List (κ × V)} {j:Nat},(kvs.map (·.1)).Nodup→kvs[j]? = some (k,v)→valV kvs k=some v
  | [],j,_,e=>by simp at e
  | p :: r, 0, hn, e => by
    simp only [List.getElem?_cons_zero,Option.some.injEq] at e
    subst e
    exact valV_pos rfl
  | p :: r, j + 1, hn, e => by
    simp only [List.getElem?_cons_succ] at e
    have h1:=(List.nodup_cons.mp hn).1
    have hm:k ∈ r.map (·.1):=List.mem_map.mpr ⟨_,List.mem_of_getElem? e,rfl⟩
    have hne:¬ p.1=k:=fun z=>h1 (by rw [show (fun x:κ × V=>x.1) p=k from z]; exact hm)
    rw [valV_neg hne]
    exact valV_of_get (List.nodup_cons.mp hn).2 e
section
variable {X:Cx}
end
end L2
namespace L2
open PySem PySem.Spec PyProof.Rows PySem.W
namespace Rv
section
variable {prog:Program} {w:World} {A:Around} {E:Value→Shared→Prop} {s:Shared} {I l:Addr}
end
end Rv
section
variable {X:Cx} {x:Expr} {t:TA} {p1 p2 q1 q2:Pos}
end
end L2
namespace Sw
open PySem
def Rise (xs:Array Nat):Prop:=xs.toList.Pairwise (· < ·)
theorem Rise.lt {xs:Array Nat} (h:Rise xs) {i j a b:Nat} (hij:i < j) (h1:xs[i]? = some a) (h2:xs[j]? = some b):a < b:=by
  rw [← Array.getElem?_toList] at h1 h2
  obtain ⟨hi,e1⟩:=List.getElem?_eq_some_iff.mp h1
  obtain ⟨hj,e2⟩:=List.getElem?_eq_some_iff.mp h2
  have:=List.pairwise_iff_getElem.mp h i j hi hj hij
  rw [e1,e2] at this; exact this
theorem below_go {xs : Array Nat} {j : Nat} (h : Rise xs) : ∀ (fuel lo hi : Nat), lo ≤ hi → hi ≤ xs.size → hi - lo ≤ fuel → (∀ i a, i < lo → xs[i]? = some a → a < j) → (∀ i a, hi ≤ i → xs[i]? = some a → j ≤ a) →
    (SetTable.below.go xs j fuel lo hi≤xs.size∧(∀ i a,i < SetTable.below.go xs j fuel lo hi→xs[i]? = some a→a < j)∧∀ i a,SetTable.below.go xs j fuel lo hi≤i→xs[i]? = some a→j≤a)
  | 0, lo, hi, h1, h2, h3, h4, h5 => by
    have:lo=hi:=by omega
    subst this
    exact ⟨h2,h4,h5⟩
  | fuel + 1, lo, hi, h1, h2, h3, h4, h5 => by
    unfold SetTable.below.go
    by_cases c:lo < hi
    · rw [if_pos c]
      have hm:(lo+hi) / 2 < xs.size:=by omega
      have em:xs[(lo+hi) / 2]? = some xs[(lo+hi) / 2]:=Array.getElem?_eq_getElem hm
      have eg:xs.getD ((lo+hi) / 2) j=xs[(lo+hi) / 2]:=by simp [Array.getD,hm]
      simp only [eg]
      by_cases c2:xs[(lo+hi) / 2] < j
      · rw [if_pos c2]
        refine below_go h fuel _ _ (by omega) h2 (by omega) (fun i a hi' ha=>?_) h5
        by_cases e:i=(lo+hi) / 2
        · subst e; rw [em] at ha; cases ha; exact c2
        · exact Nat.lt_trans (h.lt (show i < (lo+hi) / 2 by omega) ha em) c2
      · rw [if_neg c2]
        refine below_go h fuel _ _ (by omega) (by omega) (by omega) h4 (fun i a hi' ha=>?_)
        by_cases e:i=(lo+hi) / 2
        · subst e; rw [em] at ha; cases ha; omega
        · have:=h.lt (show (lo+hi) / 2 < i by omega) em ha; omega
    · rw [if_neg c]
      have:lo=hi:=by omega
      subst this
      exact ⟨h2,h4,h5⟩
theorem below_spec {xs:Array Nat} (h:Rise xs) (j:Nat):SetTable.below xs j≤xs.size∧(∀ i a,i < SetTable.below xs j→xs[i]? = some a→a < j)∧∀ i a,SetTable.below xs j≤i→xs[i]? = some a→j≤a :=
  below_go h _ _ _ (Nat.zero_le _) (Nat.le_refl _) (by omega) (fun i a hi=>absurd hi (by omega)) fun i a hi ha=>by
    have:=(Array.getElem?_eq_some_iff.mp ha).1; omega
theorem below_at {xs:Array Nat} (h:Rise xs) {k p:Nat} (hk:k=0∧p=0∨∃ k',k=k'+1∧∃ a,xs[k']? = some a∧p=a+1):SetTable.below xs p=k:=by
  obtain ⟨h1,h2,h3⟩:=below_spec h p
  rcases hk with ⟨rfl,rfl⟩ | ⟨k',rfl,a,ha,rfl⟩
  · by_cases e:SetTable.below xs 0=0
    · exact e
    · have:xs[0]? = some xs[0]:=Array.getElem?_eq_getElem (by omega)
      have:=h2 0 _ (by omega) this; omega
  · have hk:=(Array.getElem?_eq_some_iff.mp ha).1
    rcases Nat.lt_trichotomy (SetTable.below xs (a+1)) (k'+1) with c | c | c
    · have:=h3 k' a (by omega) ha; omega
    · exact c
    · have e:xs[k'+1]? = some (xs[k'+1]'(by omega)):=Array.getElem?_eq_getElem (by omega)
      have q1:=h2 (k'+1) _ c e
      have q2:=h.lt (show k' < k'+1 by omega) ha e
      omega
theorem Rise.insert {xs : Array Nat} (h : Rise xs) {j : Nat} (hj : xs[SetTable.below xs j]? ≠ some j) : Rise (SetTable.insertAt xs (SetTable.below xs j) j) := by
  obtain ⟨h1,h2,h3⟩:=below_spec h j
  generalize SetTable.below xs j=p at h1 h2 h3 hj
  unfold Rise
  rw [SetTable.toList_insertAt]
  have e:xs.toList=xs.toList.take p ++ xs.toList.drop p:=(List.take_append_drop _ _).symm
  have hp:(xs.toList.take p ++ xs.toList.drop p).Pairwise (· < ·):=by rw [← e]; exact h
  rw [List.pairwise_append] at hp
  obtain ⟨p1,p2,p3⟩:=hp
  have m1:∀ a ∈ xs.toList.take p,a < j:=fun a ha=>by
    obtain ⟨i,hi⟩:=List.mem_iff_getElem?.mp ha
    rw [List.getElem?_take] at hi
    split at hi
    · exact h2 i a (by assumption) (by rw [← Array.getElem?_toList]; exact hi)
    · cases hi
  have m2:∀ a ∈ xs.toList.drop p,j < a:=fun a ha=>by
    obtain ⟨i,hi⟩:=List.mem_iff_getElem?.mp ha
    rw [List.getElem?_drop,Array.getElem?_toList] at hi
    have q:=h3 (p+i) a (by omega) hi
    rcases Nat.lt_or_eq_of_le q with q | q
    · exact q
    · subst q
      cases i with
      | zero=>exact absurd hi hj
      | succ i =>
        have e0:xs[p]? = some (xs[p]'(by have:=(Array.getElem?_eq_some_iff.mp hi).1; omega)):=Array.getElem?_eq_getElem _
        have q1:=h3 p _ (Nat.le_refl _) e0
        have q2:=h.lt (show p < p+(i+1) by omega) e0 hi
        omega
  rw [List.pairwise_append]
  refine ⟨p1,List.pairwise_cons.mpr ⟨m2,p2⟩,fun a ha b hb=>?_⟩
  rcases List.mem_cons.mp hb with rfl | hb
  · exact m1 a ha
  · exact p3 a ha b hb
structure TI (t:SetTable):Prop where
  rise:Rise t.place
  nod:t.dummies = #[]
theorem has_nil (j:Nat):SetTable.has #[] j=false:=by simp [SetTable.has]
theorem probe_go {t:SetTable} (h:TI t) {hashAt:Nat→Int} {hh:Int}:∀ (fuel:Nat) (p:SetTable.Probe) {j:Nat} {d:Option Nat},SetTable.probe.go t hashAt hh fuel p=some (.empty j d)→p.dummy=none→d=none∧t.place[SetTable.below t.place j]?≠some j
  | 0,p,j,d,e,_=>by simp [SetTable.probe.go] at e
  | fuel + 1, p, j, d, e, hd => by
    unfold SetTable.probe.go at e
    have adv:(t.advance p).dummy=none:=by unfold SetTable.advance; split <;> exact hd
    cases hs:t.slot p.j with
    | empty =>
      rw [hs] at e
      simp only [Option.some.injEq,SetTable.Met.empty.injEq] at e
      obtain ⟨rfl,rfl⟩:=e
      refine ⟨hd,fun z=>?_⟩
      unfold SetTable.slot at hs
      simp [z] at hs
    | dummy =>
      unfold SetTable.slot at hs
      rw [h.nod] at hs
      simp only [has_nil] at hs
      split at hs <;> simp at hs
    | live i =>
      rw [hs] at e
      simp only at e
      split at e
      · simp at e
      · exact probe_go h fuel _ e adv
theorem free_slot {t:SetTable} (h:TI t) {hh:Int} {j:Nat} {b:Bool} (e:t.freeSlot hh=some (j,b)):t.place[SetTable.below t.place j]?≠some j:=by
  unfold SetTable.freeSlot at e
  split at e
  · rename_i j' d he
    obtain ⟨e1,e2⟩:=probe_go h _ _ he rfl
    subst e1
    simp at e
    rw [← e.1]; exact e2
  · cases e
theorem TI.standIn (t:SetTable) (n:Nat):TI (t.standIn n):=⟨by unfold Rise SetTable.standIn; simp only [Array.toList_range]; exact List.pairwise_lt_range,rfl⟩
theorem TI.orStandIn {t:SetTable} (h:TI t) (n:Nat):TI (t.orStandIn n):=by
  unfold SetTable.orStandIn
  split
  · exact h
  · exact TI.standIn t n
theorem TI.put {t:SetTable} (h:TI t) {j:Nat} (hj:t.place[SetTable.below t.place j]?≠some j):TI (t.put j).1:=by
  refine ⟨h.rise.insert hj,?_⟩
  show (if SetTable.has t.dummies j then _ else t.dummies) = #[]
  rw [h.nod,has_nil,if_neg (by decide)]
theorem TI.layNew {t:SetTable} (h:TI t) (es:Array (Int × Value)) (hh:Int) (x:Value):TI (PySem.layNew t es hh x).2.1:=by
  unfold PySem.layNew
  split
  · rename_i slot wd he
    exact (h.put (free_slot h he)).orStandIn _
  · exact TI.standIn t _
theorem TI.relayAll {t:SetTable} (es:Array (Int × Value)) (wanted:Nat):TI (PySem.relayAll t es wanted).2.1:=by
  unfold PySem.relayAll
  split
  · rename_i t' order he
    dsimp only
    split
    · unfold SetTable.relaid SetTable.laid at he
      simp only [Option.bind_eq_bind,Option.bind_eq_some_iff,Option.pure_def,Option.some.injEq] at he
      obtain ⟨owner,_,he⟩:=he
      have:=(Prod.mk.inj he).1
      subst this
      refine ⟨?_,rfl⟩
      show ((List.range _).filterMap _ |>.map _).toArray.toList.Pairwise _
      rw [List.toList_toArray,List.map_filterMap]
      have:(fun x=>Option.map (fun y:Nat × Nat=>y.1) (Option.map (fun y=>(x,y)) (owner.getD x none)))=fun x=>Option.map (fun _=>x) (owner.getD x none):=by funext x; cases owner.getD x none <;> rfl
      refine List.Pairwise.filterMap _ (fun a b hab c hc d hd=>?_) List.pairwise_lt_range
      cases ha:owner.getD a none <;> rw [ha] at hc <;> simp at hc
      cases hb:owner.getD b none <;> rw [hb] at hd <;> simp at hd
      omega
    · exact TI.standIn t _
  · exact TI.standIn t _
theorem TI.off {t:SetTable} (h:TI t):TI { t with plain:=false }:=⟨h.rise,h.nod⟩
theorem TI.fresh (a b:Nat) (c:Bool):TI (SetTable.fresh a b c):=⟨by simp [Rise,SetTable.fresh],rfl⟩
theorem led_layNew (t:SetTable) (es:Array (Int × Value)) (hh:Int) (x:Value):(PySem.layNew t es hh x).2.1.led=t.led:=by
  unfold PySem.layNew
  split
  · simp only [SetTable.orStandIn]; split <;> rfl
  · rfl
theorem led_relayAll (t:SetTable) (es:Array (Int × Value)) (wanted:Nat):(PySem.relayAll t es wanted).2.1.led=t.led:=by
  unfold PySem.relayAll
  split
  · rename_i t' order he
    dsimp only
    split
    · unfold SetTable.relaid SetTable.laid at he
      simp only [Option.bind_eq_bind,Option.bind_eq_some_iff,Option.pure_def,Option.some.injEq] at he
      obtain ⟨owner,_,he⟩:=he
      have:=(Prod.mk.inj he).1
      subst this
      rfl
    · rfl
  · rfl
end Sw
namespace Sw
open PySem PySem.Spec PyProof.Rows
def key (e:Int × Value):Int:=match e.2 with | .int i _=>i | _=>0
section
variable {prog:Program} {w:World}
def SO (prog:Program) (w:World) (bt:Bool) (h:Heap) (a:Addr) (ks:List Int):Prop :=
  ∃ o es ep t,h.get? a=some o∧o.ExactSet∧o.data = .set es ep t∧ElemsOf (intKind prog w) es.toList∧(∀ e ∈ es.toList,∃ u,e.2 = .int (key e) u)∧es.size < scanBound∧t.fits es.size=true∧TI t∧t.led = !bt∧ks=es.toList.map key∧ks.Nodup
theorem SO.keep {bt:Bool} {h h':Heap} {a:Addr} {ks:List Int} (x:SO prog w bt h a ks) (k:∀ o,h.get? a=some o→h'.get? a=some o):SO prog w bt h' a ks :=
  let ⟨o,es,ep,t,e,r⟩:=x; ⟨o,es,ep,t,k o e,r⟩
theorem SO.lt {bt:Bool} {h:Heap} {a:Addr} {ks:List Int} (x:SO prog w bt h a ks):a < h.objs.size:=let ⟨_,_,_,_,e,_⟩:=x; Heap.lt_size e
variable {A:Around} {E:Value→Shared→Prop} {s:Shared}
theorem add_tail {g : Bool → Sem Unit} (hg : ∀ (b : Bool) (s₁ : Shared) (Q' : Unit → Shared → Prop), Q' () s₁ → wpAny (model prog w) A (g b) Q' E s₁)
    {a:Addr} {o:Obj} {es:Array (Int × Value)} {ep:Nat} {t:SetTable} (ho:s.heap.get? a=some o) (hd:o.data = .set es ep t)
    {es1:Array (Int × Value)} {t2:SetTable} (hb1:es1.size < scanBound) (hf2:t2.fits es1.size=true) (ti:TI t2) {wasDummy:Bool} {R:Option Bool→Shared→Prop}
    (h:∀ h' es2 ep2 t3,Heap.SameBut a s.heap h'→h'.get? a=some { o with data:=.set es2 ep2 t3 }→es2.toList.Perm es1.toList→t3.fits es2.size=true→TI t3→t3.led=t2.led→R (some true) { s with heap:=h' }) :
    wpAny (model prog w) A (do
        storeSet a es1 t2
        if (!wasDummy && t2.tooFull)=true then do
            g (relayAll t2 es1 (SetTable.grown es1.size)).2.2
            storeSet a (relayAll t2 es1 (SetTable.grown es1.size)).1 (relayAll t2 es1 (SetTable.grown es1.size)).2.1
            pure (some true)
          else pure (some true)) R E s:=by
  refine wpAny_bind (wpAny_storeSet_of ho hd ?_ (fits_of_scanBound hb1))
  have g1:(s.heap.update a (Obj.putSet es1 t2)).get? a=some { o with data:=.set es1 (ep+1) t2 }:=by
    have:=Heap.get?_update_self (Obj.putSet es1 t2) ho (by rw [putSet_of es1 t2 hd]; rfl)
    rw [putSet_of es1 t2 hd] at this; exact this
  have b1:=Heap.SameBut.update s.heap a (Obj.putSet es1 t2)
  split
  · have hp:=relayAll_perm t2 es1 (SetTable.grown es1.size)
    have hfr:=relayAll_fits t2 es1 (SetTable.grown es1.size)
    have tir:=TI.relayAll (t:=t2) es1 (SetTable.grown es1.size)
    have lr:=led_relayAll t2 es1 (SetTable.grown es1.size)
    generalize relayAll t2 es1 (SetTable.grown es1.size)=Rl at hp hfr tir lr ⊢
    obtain ⟨es2,t3,gave2⟩:=Rl
    dsimp only at hp hfr tir lr ⊢
    have hsz:es2.size=es1.size:=by rw [← Array.length_toList,hp.length_eq,Array.length_toList]
    refine wpAny_bind (hg _ _ _ (wpAny_bind (wpAny_storeSet_of g1 rfl ?_ (fits_of_scanBound (by rw [hsz]; exact hb1)))))
    have g2:((s.heap.update a (Obj.putSet es1 t2)).update a (Obj.putSet es2 t3)).get? a=some { o with data:=.set es2 (ep+1+1) t3 }:=Heap.get?_update_self (Obj.putSet es2 t3) g1 rfl
    exact wpAny_pure (h _ es2 _ t3 (b1.trans (Heap.SameBut.update _ a _)) g2 hp hfr tir lr)
  · exact wpAny_pure (h _ es1 _ t2 b1 g1 (List.Perm.refl _) hf2 ti rfl)
theorem so_add {bt : Bool} {a : Addr} {ks : List Int} {k : Int} {u : Tok} {Q : Bool → Shared → Prop} (hS : SO prog w bt s.heap a ks) (hroom : ks.length + 1 < scanBound)
    (h:∀ h' ks' b,Heap.SameBut a s.heap h'→SO prog w bt h' a ks'→(∀ x,x ∈ ks'↔x ∈ ks∨x=k)→ks'.length≤ks.length+1→Q b { s with heap:=h' }) :
    wpAny (model prog w) A (setAddHashed a (.int k u) ((intKind prog w).hash k)) Q E s:=by
  obtain ⟨o,es,ep,t,ho,hex,hd,hel,hin,hb,hf,ti,hled,rfl,hnd⟩:=hS
  have hsc:(Value.int k u).scannable=true:=rfl
  have hkey:(intKind prog w).is k (.int k u)=true:=intKind_is _ _ _ _
  have hisk:∀ e ∈ es.toList,((intKind prog w).is k e.2=true↔key e=k):=fun e he=>by
    obtain ⟨v,hv⟩:=hin e he
    rw [hv,KeyKind.is_eq_decide (intKind_is prog w (key e) v) k,decide_eq_true_iff]
    exact eq_comm
  unfold setAddHashed setAddHashedIn
  refine wpAny_holding (wpAny_bind (wpAny_setState_of ho hd hf ?_))
  dsimp only
  rw [byScan_of hsc hb hel]
  simp only [↓reduceIte]
  unfold setAddByScan
  refine wpAny_bind (wpAny_bind (wpAny_rule (wpAny_bind (wpAny_setScan_of hkey ho hd hf hel ?_))))
  cases hr:List.findIdx? (fun e=>(intKind prog w).is k e.2) es.toList with
  | some j =>
    dsimp only
    obtain ⟨hj,hpj,_⟩:=List.findIdx?_eq_some_iff_getElem.mp hr
    have hm:k ∈ es.toList.map key:=List.mem_map.mpr ⟨es.toList[j],List.getElem_mem hj,(hisk _ (List.getElem_mem hj)).mp hpj⟩
    refine wpAny_pure (wpAny_pure ?_)
    have e:s = { s with heap:=s.heap }:=by cases s; rfl
    rw [e]
    exact h s.heap _ _ (Heap.SameBut.refl a s.heap) ⟨o,es,ep,t,ho,hex,hd,hel,hin,hb,hf,ti,hled,rfl,hnd⟩ (fun x=>⟨.inl,fun q=>q.elim id fun e=>e ▸ hm⟩) (Nat.le_succ _)
  | none =>
    dsimp only
    have hnm:k ∉ es.toList.map key:=fun hm=>by
      obtain ⟨e,he,ek⟩:=List.mem_map.mp hm
      have:=List.findIdx?_eq_none_iff.mp hr e he
      rw [(hisk e he).mpr ek] at this; exact Bool.noConfusion this
    have hgw:∀ (b:Bool) {s₁:Shared} {Q':Unit→Shared→Prop},Q' () s₁→wpAny (model prog w) A (match b with | true=>rule "set.scan.the-table-gave-way" | false=>pure ()) Q' E s₁ :=
      fun b s₁ Q' hq=>by cases b <;> first | exact wpAny_pure hq | exact wpAny_rule hq
    have hperm:=layNew_perm t es ((intKind prog w).hash k) (.int k u)
    have hfits:=layNew_fits t es ((intKind prog w).hash k) (.int k u)
    have tin:=ti.layNew es ((intKind prog w).hash k) (.int k u)
    have ledn:=led_layNew t es ((intKind prog w).hash k) (.int k u)
    generalize layNew t es ((intKind prog w).hash k) (.int k u)=L at hperm hfits tin ledn ⊢
    obtain ⟨es1,t1,wasDummy,gave⟩:=L
    dsimp only at hperm hfits tin ledn ⊢
    rw [Array.toList_push] at hperm
    have hsz1:es1.size=es.size+1:=by rw [← Array.length_toList,hperm.length_eq,List.length_append,Array.length_toList]; rfl
    rw [List.length_map,Array.length_toList] at hroom
    have hb1:es1.size < scanBound:=by omega
    refine wpAny_bind (hgw _ ?_)
    have hend:∀ (h':Heap) (es2:Array (Int × Value)) (ep2:Nat) (t2 t3:SetTable),t2.led=t1.led→Heap.SameBut a s.heap h'→h'.get? a=some { o with data:=.set es2 ep2 t3 }→es2.toList.Perm es1.toList→t3.fits es2.size=true→TI t3→t3.led=t2.led→Q true { s with heap:=h' }:=by
      intro h' es2 ep2 t2 t3 l2 sb g2 hp2 hf3 ti3 l3
      have hpp:=hp2.trans hperm
      have hpk:=hpp.map key
      rw [List.map_append] at hpk
      have ek:[((intKind prog w).hash k,Value.int k u)].map key=[k]:=rfl
      rw [ek] at hpk
      have hs2:es2.size=es.size+1:=by rw [← Array.length_toList,hp2.length_eq,Array.length_toList]; exact hsz1
      refine h h' (es2.toList.map key) true sb ⟨_,es2,ep2,t3,g2,hex,rfl,(hel.push hkey hsc).perm hpp,fun e he=>?_,by omega,hf3,ti3,by rw [l3,l2,ledn,hled],rfl,?_⟩ (fun x=>?_) (by rw [List.length_map,List.length_map,Array.length_toList,Array.length_toList]; omega)
      · rcases List.mem_append.mp (hpp.mem_iff.mp he) with he | he
        · exact hin e he
        · rw [List.mem_singleton.mp he]; exact ⟨u,rfl⟩
      · exact hpk.nodup_iff.mpr (L2.nd_snoc hnd hnm)
      · rw [hpk.mem_iff,List.mem_append,List.mem_singleton]
    split
    · refine wpAny_bind ?_
      rw [hashByValue_scannable 8 hsc]
      refine wpAny_pure ?_
      refine add_tail (fun b s₁ Q' hq=>by cases b <;> first | exact wpAny_pure hq | exact wpAny_rule hq) ho hd hb1 ?_ ?_ ?_
      · split
        · exact hfits
        · exact SetTable.fits_plain_off hfits
      · split
        · exact tin
        · exact tin.off
      · intro h' es2 ep2 t3 q1 q2 q3 q4 q5 q6
        dsimp only
        refine wpAny_pure (hend h' es2 ep2 _ t3 ?_ q1 q2 q3 q4 q5 q6)
        split <;> rfl
    · refine wpAny_bind (wpAny_pure ?_)
      simp only [↓reduceIte]
      refine add_tail (fun b s₁ Q' hq=>by cases b <;> first | exact wpAny_pure hq | exact wpAny_rule hq) ho hd hb1 hfits tin ?_
      intro h' es2 ep2 t3 q1 q2 q3 q4 q5 q6
      dsimp only
      exact wpAny_pure (hend h' es2 ep2 _ t3 rfl q1 q2 q3 q4 q5 q6)
end
end Sw
namespace Sw
open PySem PySem.Spec PyProof.Rows
abbrev bt (w:World):Bool:=w.params.followText "set-order"
section
variable {prog:Program} {w:World} {A:Around} {E:Value→Shared→Prop} {s:Shared}
theorem set_new1 (a:Value) {Q₁:Value→Shared→Prop} (h:Q₁ (.ref s.heap.objs.size) { s with heap:=s.heap.push { cls:=.type "set",dict:=none,data:=.set #[] 0 (.fresh 0 0 (!bt w)) } }) :
    codeAny (model prog w) A (.call (.builtin "set.__new__") ⟨[.type "set",a],[]⟩) (wants Q₁ E) s:=by
  refine codeAny_of_tree ?_
  show wpAny _ A.in1 (do checkBuiltinCall "set.__new__" ⟨[.type "set",a],[]⟩; again (.builtin "set.__new__" ⟨[.type "set",a],[]⟩)) _ _ s
  refine wpAny_bind (wpAny_of_eq (F.newCall_set_1 a) (wpAny_pure ⟨plainId_quiet F.plain_set_new _,codeAny_builtin F.entry_set_new ?_⟩))
  rw [Around.under_plainId F.plain_set_new _]
  unfold Builtin.«set.__new__» Builtin.Frozenset.newClass
  have hsub:=sub_set_self
  obtain ⟨hp,g,d,tk,os⟩:=s
  dsimp only
  wp_walk
  refine wpAny_askSetting (wpAny_pure ?_)
  dsimp only
  simp only [newObj]
  refine wpAny_bind (wpAny_alloc (wpAny_pure ?_))
  exact wpAny_pure h
theorem so_loop {R:Result→Shared→Prop} {I:Addr} {fp wr:List Addr} {G:Array GenState→Array GenState→Prop} {n:Nat} {P:Nat→Value→Prop} {St:Nat→Shared→Prop} (W:WalksS prog w A.in1 I fp wr G n P St) (S:Addr) (hSf:S ∉ fp) (ns:List Int) (hl:ns.length=n) (hval:∀ i v,P i v→∃ k t,ns[i]? = some k∧v = .int k t) (hb:n+1 < scanBound) :
    ∀ (k i : Nat) (s : Shared) (ks : List Int), n - i = k → i ≤ n → St i s → SO prog w (bt w) s.heap S ks → (∀ x, x ∈ ks ↔ x ∈ ns.take i) → ks.length ≤ i →
      (∀ s' ks',Moved (S :: wr) G s s'→SO prog w (bt w) s'.heap S ks'→(∀ x,x ∈ ks'↔x ∈ ns)→ks'.length≤n→R (.ok (.ret .none)) s') →
      codeAny (model prog w) A (.builtin "set.update.loop" ⟨[.ref S,.ref I],[]⟩) R s:=by
  have hSw:S ∉ wr:=fun h=>hSf (W.sub _ h)
  have hsub:∀ b ∈ wr,b ∈ S :: wr:=fun b hb=>List.mem_cons_of_mem _ hb
  intro k
  induction k with
  | zero =>
    intro i s ks hk hi hst hS hm0 hle hR
    have hin:i=n:=by omega
    subst hin
    refine codeAny_builtin F.entry_set_update_loop ?_
    rw [Around.under_plainId F.plain_set_update_loop _]
    show wpAny _ A.in1 (pyNext (.ref I) >>= _) _ _ s
    refine wpAny_bind (W.done s _ _ hst fun s' hm=>?_)
    show wpAny _ A.in1 (ret Value.none) _ _ s'
    exact wpAny_pure (hR s' ks (hm.mono hsub) (hS.keep fun o e=>hm.heap S o hSw e) (fun x=>by rw [hm0,← hl,List.take_length]) hle)
  | succ k ih =>
    intro i s ks hk hi hst hS hm0 hle hR
    have hlt:i < n:=by omega
    refine codeAny_builtin F.entry_set_update_loop ?_
    rw [Around.under_plainId F.plain_set_update_loop _]
    show wpAny _ A.in1 (pyNext (.ref I) >>= _) _ _ s
    refine wpAny_bind (W.item i s _ _ hlt hst fun v s' hP hst' hm=>?_)
    obtain ⟨c,t,hc,rfl⟩:=hval i v hP
    show wpAny _ A.in1 (holding [Value.int c t] (setAdd S (.int c t)) >>= _) _ _ s'
    refine wpAny_bind (wpAny_holding ?_)
    unfold setAdd
    refine wpAny_holding ?_
    refine wpAny_bind ((intKind prog w).pyHash (k:=c) (intKind_is _ _ _ _) ?_)
    refine so_add (s:={ s' with toks:=s'.toks+1 }) (hS.keep fun o e=>hm.heap S o hSw e) (by omega) fun h' ks' b hsb hS2 hmem hlen=>?_
    refine wpAny_pure ⟨plainId_quiet F.plain_set_update_loop _,ih (i+1) _ ks' (by omega) hlt (W.frame _ s' _ _ hst' (Nat.le_succ _) fun b hb o e=>?_) hS2 (fun x=>?_) (by omega) fun s'' ks'' hm'' hS'' hmem'' hlen''=>?_⟩
    · rw [hsb.2 b (fun h:b=S=>hSf (by rw [← h]; exact hb))]; exact e
    · rw [hmem,hm0,List.take_succ,hc,List.mem_append]; simp
    · refine hR s'' ks'' (Moved.trans W.gtrans ((hm.mono hsub).then_heap (Nat.le_succ _) fun b o hb e=>?_) hm'') hS'' hmem'' hlen''
      rw [hsb.2 b (fun h:b=S=>hb (by rw [h]; exact List.mem_cons_self))]; exact e
theorem call_set {l : Addr} {items : Array Value} {ns : List Int} {Q : Value → Shared → Prop} (hh : A.handled = none) (hl : s.heap.IsList l items) (hi : IntsAre items.toList ns) (hb : items.size + 1 < scanBound)
    (h:∀ (h':Heap) (tk:Nat) (ks:List Int),SO prog w (bt w) h' s.heap.objs.size ks→(∀ x,x ∈ ks↔x ∈ ns)→ks.length≤items.size→(∀ b o,s.heap.get? b=some o→h'.get? b=some o)→Q (.ref s.heap.objs.size) { s with heap:=h',toks:=tk }) :
    wpAny (model prog w) A (call (.type "set") [.ref l]) Q E s:=by
  obtain ⟨c,tl,hmro⟩:=F.called_set.mro
  have hmade:=F.called_set.made
  have hsub:=F.called_set.sub
  refine wpAny_call (codeAny_of_tree ?_)
  show wpAny _ _ (callAny (.type "set") _) _ _ _
  refine wpAny_pure ⟨Code.quiet_builtin _ (by decide +kernel),codeAny_builtin F.entry_type_call ?_⟩
  rw [Around.under_plain (weight_type_call_type "set" [.ref l] []) rfl]
  have h1:=F.called_set.notType
  have h2:=F.called_set.canCreate
  have hct:=F.typeCall_set_1 (.ref l)
  repeat (any_goals (first | assumption | wp_step))
  refine codeAny_mono (set_new1 (.ref l) (E:=E) (Q₁:=fun obj s₁=>obj = .ref s.heap.objs.size∧s₁ = { s with heap:=s.heap.push { cls:=.type "set",dict:=none,data:=.set #[] 0 (.fresh 0 0 (!bt w)) } }) ⟨rfl,rfl⟩) fun r s₁ hr=>?_
  cases r with
  | error e=>exact hr
  | ok fl =>
    cases fl with
    | ret obj =>
      obtain ⟨rfl,rfl⟩:=hr
      have hS:(s.heap.push { cls:=.type "set",dict:=none,data:=.set #[] 0 (.fresh 0 0 (!bt w)) }).get? s.heap.objs.size=some { cls:=.type "set",dict:=none,data:=.set #[] 0 (.fresh 0 0 (!bt w)) }:=Heap.get?_push_size _ rfl
      have hT:Shared.TypeIs { s with heap:=s.heap.push { cls:=.type "set",dict:=none,data:=.set #[] 0 (.fresh 0 0 (!bt w)) } } (.ref s.heap.objs.size) "set":=⟨_,hS,rfl⟩
      have hli:=F.called_set.init.lookup
      have hbi:=F.called_set.init.bind (.ref s.heap.objs.size)
      repeat (any_goals (first | assumption | wp_step))
      refine codeAny_mono (codeAny_call_builtin (R:=wants (fun r s₂=>r = .none∧∃ h' tk ks,s₂ = { s with heap:=h',toks:=tk }∧SO prog w (bt w) h' s.heap.objs.size ks∧(∀ x,x ∈ ks↔x ∈ ns)∧ks.length≤items.size∧(∀ b o,s.heap.get? b=some o→h'.get? b=some o)) E) F.called_set.init.plain F.entry_set_init (check_set_init_1 hT ?_)) fun r₂ s₂ hr₂=>?_
      · obtain ⟨ol,hol,hcl,nl,hdl⟩:=hl
        obtain ⟨ocls,odict,odata,oslots⟩:=ol
        simp only at hcl hdl
        subst hcl; subst hdl
        have hol':(s.heap.push { cls:=.type "set",dict:=none,data:=.set #[] 0 (.fresh 0 0 (!bt w)) }).get? l=some { cls:=.type "list",dict:=odict,data:=.seq items nl,slots:=oslots }:=Heap.get?_push_of_some _ hol
        have hsls:=F.sub_list_set
        have hslf:=F.sub_list_frozenset
        have hne:(Value.type "list" == Value.type "dict")=false:=by decide
        have hl1:(s.heap.push { cls:=.type "set",dict:=none,data:=.set #[] 0 (.fresh 0 0 (!bt w)) }).IsList l items:=⟨_,hol',rfl,nl,rfl⟩
        unfold Builtin.«set.__init__» noKeywords Builtin.Frozenset.updateFrom
        generalize hPI:pyIter=PI
        wp_walk
        subst hPI
        refine wpAny_pyIter_list hl1 ?_
        refine wpAny_bind (wpAny_runValue ?_)
        have hlS:l < s.heap.objs.size:=Heap.lt_size hol
        have hh3:A.in1.in1.in1.handled=none:=by simp [hh]
        have hneI:l≠(s.heap.push { cls:=.type "set",dict:=none,data:=.set #[] 0 (.fresh 0 0 (!bt w)) }).objs.size:=by
          rw [Heap.size_push]; exact Nat.ne_of_lt (Nat.lt_succ_of_lt hlS)
        have hSf:s.heap.objs.size ∉ [(s.heap.push { cls:=.type "set",dict:=none,data:=.set #[] 0 (.fresh 0 0 (!bt w)) }).objs.size,l]:=by
          rw [Heap.size_push]; simp only [List.mem_cons,List.mem_singleton,List.not_mem_nil,or_false,not_or]
          exact ⟨Nat.ne_of_lt (Nat.lt_succ_self _),Nat.ne_of_gt hlS⟩
        have hlen:=hi.length
        rw [Array.length_toList] at hlen
        have hval:∀ (i:Nat) (v:Value),items[i]? = some v→∃ k t,ns[i]? = some k∧v = .int k t:=fun i v hv=>by
          obtain ⟨t,e⟩:=PyProof.Rows.IntsAre.int_at hi i v (by rw [Array.getElem?_toList]; exact hv)
          have hlt:=(Array.getElem?_eq_some_iff.mp hv).1
          have:ns[i]? = some (ns.getD i 0):=by rw [List.getD_eq_getElem?_getD,List.getElem?_eq_getElem (by omega)]; rfl
          exact ⟨_,t,this,e⟩
        refine so_loop ((Walks.list hh3 _ l hneI items).toS) s.heap.objs.size hSf ns hlen.symm hval hb (items.size - 0) 0 _ [] (by omega) (Nat.zero_le _)
          ⟨⟨_,Heap.get?_push_size _ rfl,rfl,rfl⟩,(hl1.push _)⟩ ?hS0 (fun x=>by simp) (Nat.le_refl _) ?hR
        case hS0 =>
          have hget:((s.heap.push { cls:=.type "set",dict:=none,data:=.set #[] 0 (.fresh 0 0 (!bt w)) }).push { cls:=.type "list_iterator",data:=.fields #[.ref l,.int 0 0] }).get? s.heap.objs.size
              = some { cls:=.type "set",dict:=none,data:=.set #[] 0 (.fresh 0 0 (!bt w)) }:=Heap.get?_push_of_some _ hS
          exact ⟨_,#[],0,_,hget,⟨rfl,rfl,rfl⟩,rfl,(fun e he=>by simp at he),(fun e he=>by simp at he),by decide,rfl,TI.fresh _ _ _,rfl,rfl,List.nodup_nil⟩
        case hR =>
          intro s' ks' hm hS' hmem hlen'
          obtain ⟨h',g',d',tk',os'⟩:=s'
          have eg:g'=s.gens:=hm.gens
          have ed:d'=s.drawn:=hm.drawn
          have eo:os'=s.os:=hm.os
          subst eg; subst ed; subst eo
          show wpAny _ _ _ _ _ _
          refine wpAny_pure ?_
          show wpAny _ _ (ret Value.none) _ _ _
          refine wpAny_pure ⟨rfl,h',tk',ks',rfl,hS',hmem,hlen',fun b o e=>?_⟩
          have hb:=Heap.lt_size e
          have hb1:b≠s.heap.objs.size:=Nat.ne_of_lt hb
          have hb2:b≠(s.heap.push { cls:=.type "set",dict:=none,data:=.set #[] 0 (.fresh 0 0 (!bt w)) }).objs.size:=by
            rw [Heap.size_push]; exact Nat.ne_of_lt (Nat.lt_succ_of_lt hb)
          exact hm.heap b o (by simp only [List.mem_cons,List.mem_singleton,List.not_mem_nil,or_false,not_or]; exact ⟨hb1,hb2⟩) (Heap.get?_push_of_some _ (Heap.get?_push_of_some _ e))
      · cases r₂ with
        | error e=>exact hr₂
        | ok fl₂ =>
          cases fl₂ with
          | ret r =>
            obtain ⟨rfl,h',tk,ks,rfl,hS',hm',hl',hk'⟩:=hr₂
            repeat (any_goals (first | assumption | wp_step))
            exact h _ _ _ hS' hm' hl' hk'
          | _=>exact hr₂.elim
    | _=>exact hr.elim
end
end Sw
namespace Sw
open PySem PySem.Spec PyProof.Rows
theorem owner_si:Manifest.owners.lookup (String.ofList ['r','o','t','a','r','e','t','i','_','t','e','s'].reverse)=some Manifest.sig_set_iterator:=by kernel_rfl
theorem slot_si_next:Slot "set_iterator" "__next__" "set_iterator.__next__" :=
  .of (owner:="set_iterator") (n:="__next__") (by rw [typeLookup_type,builtinLookup_eq_fast]; kernel_rfl) (by decide +kernel) (by decide +kernel) (by decide +kernel)
    (by first | exact .inl (by decide +kernel) | exact .inr (by decide +kernel)) (by rw [isSubtype_type]; kernel_rfl)
theorem entry_si_next:entryFor table "set_iterator.__next__" = some Builtin.«set_iterator.__next__»:=entryFor_of_tree (by kernel_rfl)
theorem args_si_next (a:Value):argsOk "set_iterator.__next__" ⟨[a],[]⟩:=by
  unfold argsOk; rw [signature?_of (id:="set_iterator.__next__") (n:=['_','_','t','x','e','n','_','_']) (o:=['r','o','t','a','r','e','t','i','_','t','e','s']) (by kernel_rfl) owner_si]; kernel_rfl
theorem slot_si_iter:Slot "set_iterator" "__iter__" "set_iterator.__iter__" :=
  .of (owner:="set_iterator") (n:="__iter__") (by rw [typeLookup_type,builtinLookup_eq_fast]; kernel_rfl) (by decide +kernel) (by decide +kernel) (by decide +kernel)
    (by first | exact .inl (by decide +kernel) | exact .inr (by decide +kernel)) (by rw [isSubtype_type]; kernel_rfl)
theorem args_si_iter (a:Value):argsOk "set_iterator.__iter__" ⟨[a],[]⟩:=by
  unfold argsOk; rw [signature?_of (id:="set_iterator.__iter__") (n:=['_','_','r','e','t','i','_','_']) (o:=['r','o','t','a','r','e','t','i','_','t','e','s']) (by kernel_rfl) owner_si]; kernel_rfl
theorem entry_si_iter:entryFor table "set_iterator.__iter__" = some Builtin.«dict_keyiterator.__iter__» :=
  entryFor_alias (id':="dict_keyiterator.__iter__") (by kernel_rfl) rfl (by decide +kernel) (by kernel_rfl)
theorem entry_set_iter:entryFor table "set.__iter__" = some Builtin.«frozenset.__iter__» :=
  entryFor_alias (id':="frozenset.__iter__") (by kernel_rfl) rfl (by decide +kernel) (by kernel_rfl)
theorem erase_perm {α:Type} {l:List α} {i:Nat} (h:i < l.length):(l[i] :: l.eraseIdx i).Perm l:=by
  rw [List.eraseIdx_eq_take_drop_succ]
  have e:l=l.take i ++ l[i] :: l.drop (i+1):=by rw [List.getElem_cons_drop,List.take_append_drop]
  conv=>rhs; rw [e]
  exact List.perm_middle.symm
theorem pick_perm {α:Type} (next:Nat→Nat):∀ (fuel k:Nat) (left:List α) (out:Array α),fuel=left.length→(pickOrder.go next fuel k left out).toList.Perm (out.toList ++ left)
  | 0, k, left, out, h => by
    have:left=[]:=List.eq_nil_of_length_eq_zero h.symm
    subst this; simp [pickOrder.go]
  | fuel + 1, k, left, out, h => by
    unfold pickOrder.go
    have hlt:next k % left.length < left.length:=Nat.mod_lt _ (by omega)
    rw [List.getElem?_eq_getElem hlt]
    dsimp only
    refine (pick_perm next fuel _ _ _ (by rw [List.length_eraseIdx]; simp [hlt]; omega)).trans ?_
    rw [Array.toList_push,List.append_assoc]
    refine List.Perm.append_left _ ?_
    exact erase_perm hlt
def IsSI (h:Heap) (it:Addr) (first:Value) (i:Nat) (a:Addr) (n ep:Nat):Prop:=∃ o,h.get? it=some o∧o.cls = .type "set_iterator"∧o.data = .fields #[first,rawInt i,.ref a,rawInt n,rawInt ep]
theorem IsSI.keep {h h':Heap} {it a:Addr} {first:Value} {i n ep:Nat} (x:IsSI h it first i a n ep) (k:∀ o,h.get? it=some o→h'.get? it=some o):IsSI h' it first i a n ep:=let ⟨o,e,r⟩:=x; ⟨o,k o e,r⟩
def RS (h:Heap) (a:Addr) (es:Array (Int × Value)) (ep:Nat) (t:SetTable):Prop:=∃ o,h.get? a=some o∧o.ExactSet∧o.data = .set es ep t∧t.fits es.size=true
theorem RS.keep {h h':Heap} {a:Addr} {es:Array (Int × Value)} {ep:Nat} {t:SetTable} (x:RS h a es ep t) (k:∀ o,h.get? a=some o→h'.get? a=some o):RS h' a es ep t:=let ⟨o,e,r⟩:=x; ⟨o,k o e,r⟩
section
variable {prog:Program} {w:World} {A:Around} {E:Value→Shared→Prop} {s:Shared} {it a:Addr} {es:Array (Int × Value)} {ep n:Nat} {t:SetTable}
theorem si_iter {first:Value} {i:Nat} {Q:Value→Shared→Prop} (x:IsSI s.heap it first i a n ep) (h:Q (.ref it) s):wpAny (model prog w) A (pyIter (.ref it)) Q E s:=by
  have hT:s.TypeIs (.ref it) "set_iterator":=let ⟨o,e,c,_⟩:=x; ⟨o,e,c⟩
  refine wpAny_pyIter_slot hT slot_si_iter (wpAny_call_entry slot_si_iter hT entry_si_iter ?_ (args_si_iter _))
  show wpAny _ _ (ret (.ref it)) _ _ s
  exact wpAny_pure ⟨_,rfl,"set_iterator",_,hT,slot_si_next.lookup,h⟩
def Ord (w : World) (a : Addr) (es : Array (Int × Value)) (ep : Nat) (t : SetTable) (vs : List Value) (sl : Nat → Nat) : Prop :=
  sl 0=0∧vs.length=es.size∧((bt w=true∧vs=(pickOrder (w.params.setOrder a ep) es).toList.map (·.2)∧∀ i,sl i=0) ∨
    (bt w=false∧vs=es.toList.map (·.2)∧(!t.plain && decide (es.size > 1))=false∧(t.led=true)∧Rise t.place∧∀ i p,t.place[i]? = some p→sl (i+1)=p+1))
theorem next_item {i : Nat} {v : Value} {vs : List Value} {sl : Nat → Nat} {Q : Option Value → Shared → Prop} (x : IsSI s.heap it (rawInt (sl i)) i a es.size ep) (r : RS s.heap a es ep t) (o : Ord w a es ep t vs sl) (hv : vs[i]? = some v)
    (q:∀ h',IsSI h' it (rawInt (sl (i+1))) (i+1) a es.size ep→Heap.SameBut it s.heap h'→Q (some v) { s with heap:=h' }):wpAny (model prog w) A (pyNext (.ref it)) Q E s:=by
  have hT:s.TypeIs (.ref it) "set_iterator":=let ⟨o,e,c,_⟩:=x; ⟨o,e,c⟩
  obtain ⟨ob,g,gc,gd⟩:=x
  obtain ⟨oa,ra,rx,rd,rf⟩:=r
  unfold pyNext
  refine wpAny_bind (wpAny_attempt (wpAny_callSpecial?_slot (name:=Str.ofString "__next__") hT slot_si_next (wpAny_call_entry slot_si_next hT entry_si_next ?_ (args_si_next _))))
  unfold Builtin.«set_iterator.__next__»
  refine wpAny_bind (m:=slotArgs "__next__" 0 _) (wpAny_pure ?_)
  refine wpAny_bind (wpAny_fieldsOf g gd ?_)
  show wpAny _ _ (setEntries a >>= _) _ _ s
  refine wpAny_bind (wpAny_setEntries_of ra rd rf ?_)
  rw [if_neg (by simp)]
  show wpAny _ _ (setNext a ((sl i:Nat):Int).toNat ((i:Nat):Int).toNat ((ep:Nat):Int).toNat >>= _) _ _ s
  simp only [Int.toNat_natCast]
  have nxt:wpAny (model prog w) A.in1 (setNext a (sl i) i ep) (fun z s'=>z=some (v,sl (i+1))∧s'=s) (fun _ _=>False) s:=by
    unfold setNext
    refine wpAny_bind (wpAny_setState_of ra rd rf ?_)
    dsimp only
    refine wpAny_bind ?_
    unfold setsByText
    refine wpAny_bind (wpAny_askSetting (wpAny_pure ?_))
    obtain ⟨o0,o1,⟨b1,b2,b3⟩ | ⟨b1,b2,b3,b4,b5,b6⟩⟩:=o
    · have b1':(({ program:=(model prog w).prog,params:=(model prog w).w.params }:Setting).params.followText "set-order")=true:=b1
      rw [b1']
      simp only [↓reduceIte]
      rw [if_neg (by simp)]
      refine wpAny_bind ?_
      unfold setWalk
      refine wpAny_bind (wpAny_setState_of ra rd rf ?_)
      dsimp only
      refine wpAny_bind ?_
      unfold setsByText
      refine wpAny_bind (wpAny_askSetting (wpAny_pure ?_))
      rw [b1']
      simp only [↓reduceIte]
      refine wpAny_bind (wpAny_askSetting (wpAny_pure (wpAny_pure ⟨?_,rfl⟩)))
      have hv':=hv
      rw [b2,List.getElem?_map,Array.getElem?_toList] at hv'
      show Option.map (fun e=>(e.2,sl i)) (pickOrder (w.params.setOrder a ep) es)[i]? = _
      obtain ⟨e,he,ev⟩:=Option.map_eq_some_iff.mp hv'
      rw [he,b3 i,b3 (i+1)]
      simp [ev]
    · have b1':(({ program:=(model prog w).prog,params:=(model prog w).w.params }:Setting).params.followText "set-order")=false:=b1
      rw [b1']
      simp only [Bool.false_eq_true,↓reduceIte]
      refine wpAny_ite_split (fun hd=>absurd (show (!t.plain && decide (es.size > 1))=true from hd) (by rw [b3]; decide)) (fun _=>wpAny_bind ?_)
      show wpAny _ _ (if (!t.led && !es.isEmpty)=true then _ else _) _ _ _
      rw [if_neg (by rw [b4]; simp)]
      refine wpAny_pure (wpAny_pure ⟨?_,rfl⟩)
      have hlt:i < es.size:=by rw [← o1]; exact (List.getElem?_eq_some_iff.mp hv).1
      have hfs:t.place.size=es.size:=by
        have:=rf
        unfold SetTable.fits at this
        simp at this
        exact this.1
      have hp:t.place[i]? = some (t.place[i]'(by omega)):=Array.getElem?_eq_getElem _
      have hbel:SetTable.below t.place (sl i)=i:=by
        refine below_at b5 ?_
        cases i with
        | zero=>exact .inl ⟨rfl,o0⟩
        | succ k =>
          have hk:t.place[k]? = some (t.place[k]'(by omega)):=Array.getElem?_eq_getElem _
          exact .inr ⟨k,rfl,_,hk,b6 k _ hk⟩
      rw [hbel,hp,b6 i _ hp]
      rw [b2,List.getElem?_map,Array.getElem?_toList] at hv
      obtain ⟨e,he,ev⟩:=Option.map_eq_some_iff.mp hv
      rw [he]
      obtain ⟨e1,e2⟩:=e
      simp at ev
      simp [ev]
  refine wpAny_bind (wpAny_mono nxt (fun z s' hz=>?_) fun _ _ x=>x.elim)
  obtain ⟨rfl,rfl⟩:=hz
  dsimp only
  have g1:=Heap.get?_update_self (Obj.mapFields (·.setIfInBounds 0 (rawInt ((sl (i+1):Nat):Int)))) g (Obj.isFreed_of_fields (Obj.data_mapFields gd _))
  refine wpAny_bind (wpAny_setField g gd (by simp) (wpAny_bind (wpAny_setField g1 (Obj.data_mapFields gd _) (by simp) ?_)))
  have g2:=Heap.get?_update_self (Obj.mapFields (·.setIfInBounds 1 (rawInt ((i:Int)+1)))) g1 (Obj.isFreed_of_fields (Obj.data_mapFields (Obj.data_mapFields gd _) _))
  refine wpAny_pure ⟨_,rfl,wpAny_pure (q _ ⟨_,g2,(Obj.cls_mapFields ..).trans ((Obj.cls_mapFields ..).trans gc),?_⟩ ((Heap.SameBut.update ..).trans (Heap.SameBut.update ..)))⟩
  rw [Obj.data_mapFields (Obj.data_mapFields gd _)]
  simp [rawInt]
theorem next_end {vs : List Value} {sl : Nat → Nat} {Q : Option Value → Shared → Prop} (hh : A.handled = none) (x : IsSI s.heap it (rawInt (sl vs.length)) vs.length a es.size ep) (r : RS s.heap a es ep t) (o : Ord w a es ep t vs sl)
    (q:∀ h',Heap.ExtBut it s.heap h'→Q none { s with heap:=h' }):wpAny (model prog w) A (pyNext (.ref it)) Q E s:=by
  have hT:s.TypeIs (.ref it) "set_iterator":=let ⟨o,e,c,_⟩:=x; ⟨o,e,c⟩
  obtain ⟨ob,g,gc,gd⟩:=x
  obtain ⟨oa,ra,rx,rd,rf⟩:=r
  unfold pyNext
  refine wpAny_bind (wpAny_attempt (wpAny_callSpecial?_slot (name:=Str.ofString "__next__") hT slot_si_next (wpAny_call_entry slot_si_next hT entry_si_next ?_ (args_si_next _))))
  unfold Builtin.«set_iterator.__next__»
  refine wpAny_bind (m:=slotArgs "__next__" 0 _) (wpAny_pure ?_)
  refine wpAny_bind (wpAny_fieldsOf g gd ?_)
  show wpAny _ _ (setEntries a >>= _) _ _ s
  refine wpAny_bind (wpAny_setEntries_of ra rd rf ?_)
  rw [if_neg (by simp)]
  show wpAny _ _ (setNext a ((sl vs.length:Nat):Int).toNat ((vs.length:Nat):Int).toNat ((ep:Nat):Int).toNat >>= _) _ _ s
  simp only [Int.toNat_natCast]
  have nxt:wpAny (model prog w) A.in1 (setNext a (sl vs.length) vs.length ep) (fun z s'=>z=none∧s'=s) (fun _ _=>False) s:=by
    unfold setNext
    refine wpAny_bind (wpAny_setState_of ra rd rf ?_)
    dsimp only
    refine wpAny_bind ?_
    unfold setsByText
    refine wpAny_bind (wpAny_askSetting (wpAny_pure ?_))
    obtain ⟨o0,o1,⟨b1,b2,b3⟩ | ⟨b1,b2,b3,b4,b5,b6⟩⟩:=o
    · have b1':(({ program:=(model prog w).prog,params:=(model prog w).w.params }:Setting).params.followText "set-order")=true:=b1
      rw [b1']
      simp only [↓reduceIte]
      rw [if_neg (by simp)]
      refine wpAny_bind ?_
      unfold setWalk
      refine wpAny_bind (wpAny_setState_of ra rd rf ?_)
      dsimp only
      refine wpAny_bind ?_
      unfold setsByText
      refine wpAny_bind (wpAny_askSetting (wpAny_pure ?_))
      rw [b1']
      simp only [↓reduceIte]
      refine wpAny_bind (wpAny_askSetting (wpAny_pure (wpAny_pure ⟨?_,rfl⟩)))
      show Option.map (fun e=>(e.2,sl vs.length)) (pickOrder (w.params.setOrder a ep) es)[vs.length]? = _
      rw [Array.getElem?_eq_none (by have h:=o1; rw [b2,List.length_map,Array.length_toList] at h; rw [o1]; exact Nat.le_of_eq h)]
      rfl
    · have b1':(({ program:=(model prog w).prog,params:=(model prog w).w.params }:Setting).params.followText "set-order")=false:=b1
      rw [b1']
      simp only [Bool.false_eq_true,↓reduceIte]
      refine wpAny_ite_split (fun hd=>absurd (show (!t.plain && decide (es.size > 1))=true from hd) (by rw [b3]; decide)) (fun _=>wpAny_bind ?_)
      show wpAny _ _ (if (!t.led && !es.isEmpty)=true then _ else _) _ _ _
      rw [if_neg (by rw [b4]; simp)]
      refine wpAny_pure (wpAny_pure ⟨?_,rfl⟩)
      have hfs:t.place.size=es.size:=by
        have:=rf
        unfold SetTable.fits at this
        simp at this
        exact this.1
      have hbel:SetTable.below t.place (sl vs.length)=vs.length:=by
        refine below_at b5 ?_
        cases e:vs.length with
        | zero=>exact .inl ⟨rfl,o0⟩
        | succ k =>
          have hk:t.place[k]? = some (t.place[k]'(by omega)):=Array.getElem?_eq_getElem _
          exact .inr ⟨k,rfl,_,hk,b6 k _ hk⟩
      rw [hbel,Array.getElem?_eq_none (by omega)]
  refine wpAny_bind (wpAny_mono nxt (fun z s' hz=>?_) fun _ _ x=>x.elim)
  obtain ⟨rfl,rfl⟩:=hz
  dsimp only
  refine wpAny_bind (wpAny_setField g gd (by simp) ?_)
  show wpAny _ _ (newExc (.type "StopIteration") [] >>= _) _ _ _
  refine wpAny_bind ?_
  simp only [newExc,newTuple]
  refine wpAny_bind (wpAny_newObj_type ?_ (by size_fits))
  refine wpAny_bind (m:=firstArgMember _ _) (wpAny_of_eq (a:=Value.none) (by first | rfl | (simp only [firstArgMember]; rfl)) ?_)
  refine wpAny_newObj_type ?_ (by size_fits)
  simp only [raiseNew]
  refine wpAny_bind (wpAny_handled ?_)
  rw [show A.in1.handled=none from hh]
  refine wpAny_bind (wpAny_pure (wpAny_throw ?_))
  refine wpAny_bind (wpAny_isInstance (T:="StopIteration") (b:=true) ⟨_,Heap.get?_push_size _ rfl,rfl⟩ isSubtype_stop ?_)
  exact wpAny_pure (q _ (((Heap.SameBut.update ..).extBut.push _).push _))
theorem walks_ord (hh:A.handled=none) (I a:Addr) (hne:a≠I) {vs:List Value} {sl:Nat→Nat} (o:Ord w a es ep t vs sl) :
    Walks prog w A I [I,a] [I] vs.length (fun i v=>vs[i]? = some v) (fun i h=>IsSI h I (rawInt (sl i)) i a es.size ep∧RS h a es ep t) where
  sub:=fun b hb=>by simp at hb; simp [hb]
  frame:=fun _ _ _ st hk=>⟨st.1.keep fun o e=>hk I (by simp) o e,st.2.keep fun o e=>hk a (by simp) o e⟩
  item:=fun i s Q E hi st hQ=>by
    have hv:vs[i]? = some vs[i]:=List.getElem?_eq_getElem hi
    exact next_item st.1 st.2 o hv fun h' x' hs'=>hQ _ h' s.toks hv ⟨x',st.2.keep fun o e=>hs'.extBut a o hne e⟩ fun b o hb e=>hs'.extBut b o (fun h=>hb (by simp [h])) e
  done:=fun s Q E st hQ=>next_end hh st.1 st.2 o fun h' he=>hQ h' s.toks fun b o hb e=>he b o (fun h=>hb (by simp [h])) e
  self:=fun _ _ _ _ st hQ=>si_iter st.1 hQ
end
end Sw
namespace Sw
open PySem PySem.Spec PyProof.Rows
section
variable {prog:Program} {w:World} {A:Around} {E:Value→Shared→Prop} {s:Shared} {it a:Addr} {es:Array (Int × Value)} {ep n:Nat} {t:SetTable}
theorem wp_choose {M:Model} {src:Source} {k:Nat} {Q:Nat→Shared→Prop} (hk:k≠0) (h:∀ i d,i < k→Q i { s with drawn:=d }):wpAny M A (choose src k) Q E s :=
  fun Γ p hΓ=>⟨hk,h _ _ (Nat.mod_lt _ (Nat.pos_of_ne_zero hk))⟩
theorem wp_draw {α:Type}:∀ (k:Nat) (xs:List α) {s:Shared} {Q:List α→Shared→Prop},xs.length=k→(∀ ys d,ys.Perm xs→Q ys { s with drawn:=d })→wpAny (model prog w) A (drawOrder k xs) Q E s
  | 0, xs, s, Q, hl, h => by
    have:xs=[]:=List.eq_nil_of_length_eq_zero hl
    subst this
    exact wpAny_pure (h [] s.drawn (List.Perm.refl _))
  | k+1,[],s,Q,hl,h=>by simp at hl
  | k + 1, x :: xs, s, Q, hl, h => by
    unfold drawOrder
    refine wpAny_bind (wp_choose (by simp) fun i d hi=>?_)
    rw [List.getElem?_eq_getElem hi]
    dsimp only
    refine wpAny_bind (wp_draw k _ (by rw [List.length_eraseIdx,if_pos hi]; omega) fun ys d' hp=>wpAny_pure (h _ d' ?_))
    exact (hp.cons _).trans (erase_perm hi)
structure Dr (h:Heap) (T:Addr) (es:Array (Int × Value)) (ord:List Nat) (vs:List Value):Prop where
  tup:∃ o,h.get? T=some o∧o.data = .seq (ord.map fun (i:Nat)=>rawInt (i:Int)).toArray 0
  len:vs.length=ord.length
  at_:∀ (i:Nat) p,ord[i]? = some p→∃ e,es[p]? = some e∧vs[i]? = some e.2
theorem dr_next {T:Addr} {ord:List Nat} {i:Nat} {v:Value} {vs:List Value} {Q:Option Value→Shared→Prop} (x:IsSI s.heap it (.ref T) i a es.size ep) (r:RS s.heap a es ep t) (o:Dr s.heap T es ord vs) (hv:vs[i]? = some v)
    (q:∀ h',IsSI h' it (.ref T) (i+1) a es.size ep→Heap.SameBut it s.heap h'→Q (some v) { s with heap:=h' }):wpAny (model prog w) A (pyNext (.ref it)) Q E s:=by
  have hT:s.TypeIs (.ref it) "set_iterator":=let ⟨o,e,c,_⟩:=x; ⟨o,e,c⟩
  obtain ⟨ob,g,gc,gd⟩:=x
  obtain ⟨oa,ra,rx,rd,rf⟩:=r
  obtain ⟨⟨ot,gt,gtd⟩,ol,oat⟩:=o
  have hi:i < ord.length:=by rw [← ol]; exact (List.getElem?_eq_some_iff.mp hv).1
  obtain ⟨e,he,hve⟩:=oat i _ (List.getElem?_eq_getElem hi)
  rw [hv] at hve
  cases hve
  unfold pyNext
  refine wpAny_bind (wpAny_attempt (wpAny_callSpecial?_slot (name:=Str.ofString "__next__") hT slot_si_next (wpAny_call_entry slot_si_next hT entry_si_next ?_ (args_si_next _))))
  unfold Builtin.«set_iterator.__next__»
  refine wpAny_bind (m:=slotArgs "__next__" 0 _) (wpAny_pure ?_)
  refine wpAny_bind (wpAny_fieldsOf g gd ?_)
  show wpAny _ _ (setEntries a >>= _) _ _ s
  refine wpAny_bind (wpAny_setEntries_of ra rd rf ?_)
  rw [if_neg (by simp)]
  show wpAny _ _ (seqItems? (.ref T) >>= _) _ _ s
  have sq:wpAny (model prog w) A.in1 (seqItems? (.ref T)) (fun z s'=>z=some (ord.map fun (i:Nat)=>rawInt (i:Int)).toArray∧s'=s) (fun _ _=>False) s:=by
    unfold seqItems?
    refine wpAny_bind (wpAny_load gt ?_)
    rw [gtd]
    exact wpAny_pure ⟨rfl,rfl⟩
  refine wpAny_bind (wpAny_mono sq (fun z s' hz=>?_) fun _ _ x=>x.elim)
  obtain ⟨rfl,rfl⟩:=hz
  dsimp only
  have hpi:(ord.map fun (i:Nat)=>rawInt (i:Int)).toArray[((i:Nat):Int).toNat]? = some (rawInt (ord[i]:Int)):=by
    rw [Int.toNat_natCast,List.getElem?_toArray,List.getElem?_map,List.getElem?_eq_getElem hi]; rfl
  show wpAny _ _ (match (ord.map fun (i:Nat)=>rawInt (i:Int)).toArray[((i:Nat):Int).toNat]? with | some (.int place _)=>_ | some _=>_ | none=>_) _ _ _
  rw [hpi]
  show wpAny _ _ (setNextDrawn a ((ord[i]:Nat):Int).toNat ((ep:Nat):Int).toNat >>= _) _ _ _
  simp only [Int.toNat_natCast]
  refine wpAny_bind ?_
  unfold setNextDrawn
  refine wpAny_bind (wpAny_setState_of ra rd rf ?_)
  dsimp only
  rw [if_neg (by simp),he]
  refine wpAny_pure (wpAny_bind (wpAny_setField g gd (by simp) ?_))
  have g1:=Heap.get?_update_self (Obj.mapFields (·.setIfInBounds 1 (rawInt ((i:Int)+1)))) g (Obj.isFreed_of_fields (Obj.data_mapFields gd _))
  refine wpAny_pure ⟨_,rfl,wpAny_pure (q _ ⟨_,g1,(Obj.cls_mapFields ..).trans gc,?_⟩ (Heap.SameBut.update ..))⟩
  rw [Obj.data_mapFields gd]
  simp [rawInt]
theorem dr_end {T:Addr} {ord:List Nat} {vs:List Value} {Q:Option Value→Shared→Prop} (hh:A.handled=none) (x:IsSI s.heap it (.ref T) vs.length a es.size ep) (r:RS s.heap a es ep t) (o:Dr s.heap T es ord vs)
    (q:∀ h',Heap.ExtBut it s.heap h'→Q none { s with heap:=h' }):wpAny (model prog w) A (pyNext (.ref it)) Q E s:=by
  have hT:s.TypeIs (.ref it) "set_iterator":=let ⟨o,e,c,_⟩:=x; ⟨o,e,c⟩
  obtain ⟨ob,g,gc,gd⟩:=x
  obtain ⟨oa,ra,rx,rd,rf⟩:=r
  obtain ⟨⟨ot,gt,gtd⟩,ol,oat⟩:=o
  unfold pyNext
  refine wpAny_bind (wpAny_attempt (wpAny_callSpecial?_slot (name:=Str.ofString "__next__") hT slot_si_next (wpAny_call_entry slot_si_next hT entry_si_next ?_ (args_si_next _))))
  unfold Builtin.«set_iterator.__next__»
  refine wpAny_bind (m:=slotArgs "__next__" 0 _) (wpAny_pure ?_)
  refine wpAny_bind (wpAny_fieldsOf g gd ?_)
  show wpAny _ _ (setEntries a >>= _) _ _ s
  refine wpAny_bind (wpAny_setEntries_of ra rd rf ?_)
  rw [if_neg (by simp)]
  show wpAny _ _ (seqItems? (.ref T) >>= _) _ _ s
  have sq:wpAny (model prog w) A.in1 (seqItems? (.ref T)) (fun z s'=>z=some (ord.map fun (i:Nat)=>rawInt (i:Int)).toArray∧s'=s) (fun _ _=>False) s:=by
    unfold seqItems?
    refine wpAny_bind (wpAny_load gt ?_)
    rw [gtd]
    exact wpAny_pure ⟨rfl,rfl⟩
  refine wpAny_bind (wpAny_mono sq (fun z s' hz=>?_) fun _ _ x=>x.elim)
  obtain ⟨rfl,rfl⟩:=hz
  dsimp only
  have hpi:(ord.map fun (i:Nat)=>rawInt (i:Int)).toArray[((vs.length:Nat):Int).toNat]? = none:=by
    rw [Int.toNat_natCast,List.getElem?_toArray,List.getElem?_map,List.getElem?_eq_none (by omega)]; rfl
  show wpAny _ _ (match (ord.map fun (i:Nat)=>rawInt (i:Int)).toArray[((vs.length:Nat):Int).toNat]? with | some (.int place _)=>_ | some _=>_ | none=>_) _ _ _
  rw [hpi]
  dsimp only
  have g1:=Heap.get?_update_self (Obj.mapFields (·.setIfInBounds 0 (rawInt 0))) g (Obj.isFreed_of_fields (Obj.data_mapFields gd _))
  refine wpAny_bind (wpAny_setField g gd (by simp) (wpAny_bind (wpAny_setField g1 (Obj.data_mapFields gd _) (by simp) ?_)))
  show wpAny _ _ (newExc (.type "StopIteration") [] >>= _) _ _ _
  refine wpAny_bind ?_
  simp only [newExc,newTuple]
  refine wpAny_bind (wpAny_newObj_type ?_ (by size_fits))
  refine wpAny_bind (m:=firstArgMember _ _) (wpAny_of_eq (a:=Value.none) (by first | rfl | (simp only [firstArgMember]; rfl)) ?_)
  refine wpAny_newObj_type ?_ (by size_fits)
  simp only [raiseNew]
  refine wpAny_bind (wpAny_handled ?_)
  rw [show A.in1.handled=none from hh]
  refine wpAny_bind (wpAny_pure (wpAny_throw ?_))
  refine wpAny_bind (wpAny_isInstance (T:="StopIteration") (b:=true) ⟨_,Heap.get?_push_size _ rfl,rfl⟩ isSubtype_stop ?_)
  exact wpAny_pure (q _ ((((Heap.SameBut.update ..).trans (Heap.SameBut.update ..)).extBut.push _).push _))
theorem walks_dr (hh:A.handled=none) (I a T:Addr) (hne:a≠I) (hnT:T≠I) {ord:List Nat} {vs:List Value} :
    Walks prog w A I [I,a,T] [I] vs.length (fun i v=>vs[i]? = some v) (fun i h=>IsSI h I (.ref T) i a es.size ep∧RS h a es ep t∧Dr h T es ord vs) where
  sub:=fun b hb=>by simp at hb; simp [hb]
  frame:=fun _ _ _ st hk=>⟨st.1.keep fun o e=>hk I (by simp) o e,st.2.1.keep fun o e=>hk a (by simp) o e,let ⟨o,e,d⟩:=st.2.2.tup; ⟨⟨o,hk T (by simp) o e,d⟩,st.2.2.len,st.2.2.at_⟩⟩
  item:=fun i s Q E hi st hQ=>by
    have hv:vs[i]? = some vs[i]:=List.getElem?_eq_getElem hi
    exact dr_next st.1 st.2.1 st.2.2 hv fun h' x' hs'=>hQ _ h' s.toks hv ⟨x',st.2.1.keep fun o e=>hs'.extBut a o hne e,let ⟨o,e,d⟩:=st.2.2.tup; ⟨⟨o,hs'.extBut T o hnT e,d⟩,st.2.2.len,st.2.2.at_⟩⟩ fun b o hb e=>hs'.extBut b o (fun h=>hb (by simp [h])) e
  done:=fun s Q E st hQ=>dr_end hh st.1 st.2.1 st.2.2 fun h' he=>hQ h' s.toks fun b o hb e=>he b o (fun h=>hb (by simp [h])) e
  self:=fun _ _ _ _ st hQ=>si_iter st.1 hQ
theorem set_iter {ks : List Int} {Q : Value → Shared → Prop} (hh : A.handled = none) (hS : SO prog w (bt w) s.heap a ks)
    (q:∀ I h1 d (vs:List Value) (ns:List Int) fp St,Walks prog w A I fp [I] vs.length (fun i v=>vs[i]? = some v) St→St 0 h1→(∀ b o,s.heap.get? b=some o→h1.get? b=some o)→I ∈ fp→(∀ b ∈ fp,b=a∨s.heap.objs.size≤b)→s.heap.objs.size≤I→IntsAre vs ns→ns.Perm ks→Q (.ref I) { s with heap:=h1,drawn:=d }) :
    wpAny (model prog w) A (pyIter (.ref a)) Q E s:=by
  have hlt:=hS.lt
  obtain ⟨o,es,ep,t,ho,hex,hd,hel,hin,hb,hf,ti,hled,rfl,hnd⟩:=hS
  have hT:s.TypeIs (.ref a) "set":=⟨o,ho,hex.1⟩
  have hints:∀ {l:List (Int × Value)},(∀ e ∈ l,∃ u,e.2 = .int (key e) u)→IntsAre (l.map (·.2)) (l.map key):=by
    intro l
    induction l with
    | nil=>intro _; exact .nil
    | cons e l ih =>
      intro h
      obtain ⟨u,eu⟩:=h e List.mem_cons_self
      rw [List.map_cons,List.map_cons,eu]
      exact .cons _ _ (ih fun e' he'=>h e' (List.mem_cons_of_mem _ he'))
  refine wpAny_pyIter_slot hT F.slot_set_iter (wpAny_call_entry F.slot_set_iter hT entry_set_iter ?_ (F.args_set_iter_1 _))
  unfold Builtin.«frozenset.__iter__» Builtin.Frozenset.slot0 slotArgs
  simp only [List.isEmpty_nil,Bool.not_true,Bool.false_eq_true,↓reduceIte,bind_assoc,List.length_nil,bne_self_eq_false]
  unfold Builtin.Frozenset.addrOf Builtin.Frozenset.sizeOf
  refine wpAny_bind (wpAny_pure ?_)
  try dsimp only
  refine wpAny_bind (wpAny_pure ?_)
  refine wpAny_bind (wpAny_bind (wpAny_setEntries_of ho hd hf (wpAny_pure ?_)))
  refine wpAny_bind ?_
  unfold setDrawn
  refine wpAny_bind (wpAny_setState_of ho hd hf ?_)
  dsimp only
  refine wpAny_bind ?_
  unfold setsByText
  refine wpAny_bind (wpAny_askSetting (wpAny_pure (wpAny_pure ?_)))
  have hz:es.size≤sizeLine:=fits_of_scanBound hb
  have hrs:RS s.heap a es ep t:=⟨o,ho,hex,hd,hf⟩
  refine wpAny_ite_split (fun hdr=>?_) (fun hdr=>?_)
  · refine wpAny_bind (wp_draw es.size (List.range es.size) (List.length_range) fun ord d hp=>?_)
    have hol:ord.length=es.size:=by rw [hp.length_eq,List.length_range]
    refine wpAny_bind (wpAny_newTuple ?_ (by rw [List.length_map,hol]; exact hz))
    have k1:∀ b ob,s.heap.get? b=some ob→(s.heap.push (seqObj "tuple" (ord.map fun (i:Nat)=>rawInt (i:Int)).toArray 0)).get? b=some ob:=fun b ob e=>Heap.get?_push_of_some _ e
    have gT:(s.heap.push (seqObj "tuple" (ord.map fun (i:Nat)=>rawInt (i:Int)).toArray 0)).get? s.heap.objs.size=some (seqObj "tuple" (ord.map fun (i:Nat)=>rawInt (i:Int)).toArray 0):=Heap.get?_push_size _ rfl
    have hsz:(s.heap.push (seqObj "tuple" (ord.map fun (i:Nat)=>rawInt (i:Int)).toArray 0)).objs.size=s.heap.objs.size+1:=Heap.size_push ..
    generalize s.heap.push (seqObj "tuple" (ord.map fun (i:Nat)=>rawInt (i:Int)).toArray 0)=h0 at k1 gT hsz
    refine wpAny_bind (wpAny_setEpoch_of (s:={ s with heap:=h0,drawn:=d }) (k1 _ _ ho) hd hf ?_)
    unfold newFields
    refine wpAny_bind (wpAny_newObj_type (wpAny_pure ⟨_,rfl,"set_iterator",_,⟨_,Heap.get?_push_size _ rfl,rfl⟩,slot_si_next.lookup,?_⟩))
    have hmem:∀ p ∈ ord,p < es.size:=fun p hpm=>by simpa using hp.mem_iff.mp hpm
    have hget:∀ p,p < es.size→es[p]? = some (es.getD p (0,.none)):=fun p hp'=>by rw [Array.getElem?_eq_getElem hp']; simp [Array.getD,hp']
    have hperm:(ord.map fun p=>es.getD p (0,.none)).Perm es.toList:=by
      refine (hp.map _).trans ?_
      have:(List.range es.size).map (fun p=>es.getD p (0,.none))=es.toList:=by
        apply List.ext_getElem?
        intro i
        rw [List.getElem?_map]
        by_cases hi:i < es.size
        · rw [List.getElem?_range hi,Array.getElem?_toList,hget i hi]; rfl
        · rw [List.getElem?_eq_none (by rw [List.length_range]; omega),List.getElem?_eq_none (by rw [Array.length_toList]; omega)]; rfl
      rw [this]
    have hsub:∀ e ∈ ord.map (fun p=>es.getD p (0,.none)),∃ u,e.2 = .int (key e) u:=fun e he=>hin e (hperm.mem_iff.mp he)
    have hst:IsSI (h0.push { cls:=.type "set_iterator",data:=.fields [Value.ref s.heap.objs.size,rawInt 0,.ref a,rawInt es.size,rawInt ep].toArray }) h0.objs.size (.ref s.heap.objs.size) 0 a es.size ep:=⟨_,Heap.get?_push_size _ rfl,rfl,rfl⟩
    have haI:a≠h0.objs.size:=by rw [hsz]; exact Nat.ne_of_lt (Nat.lt_succ_of_lt hlt)
    have hTI:s.heap.objs.size≠h0.objs.size:=by rw [hsz]; exact Nat.ne_of_lt (Nat.lt_succ_self _)
    refine q h0.objs.size _ d ((ord.map fun p=>es.getD p (0,.none)).map (·.2)) ((ord.map fun p=>es.getD p (0,.none)).map key) [h0.objs.size,a,s.heap.objs.size] _ (walks_dr (es:=es) (ep:=ep) (t:=t) (ord:=ord) hh h0.objs.size a s.heap.objs.size haI hTI) ⟨hst,hrs.keep fun ob e=>Heap.get?_push_of_some _ (k1 _ _ e),⟨_,Heap.get?_push_of_some _ gT,rfl⟩,by rw [List.length_map,List.length_map],fun i p hip=>?_⟩
      (fun b ob e=>Heap.get?_push_of_some _ (k1 _ _ e)) (by simp) (fun b hb'=>?_) (by rw [hsz]; exact Nat.le_succ _) (hints hsub) (hperm.map key)
    · have hpl:=hmem p (List.mem_of_getElem? hip)
      exact ⟨_,hget p hpl,by rw [List.getElem?_map,List.getElem?_map,hip]; rfl⟩
    · simp only [List.mem_cons,List.not_mem_nil,or_false] at hb'
      rcases hb' with rfl | rfl | rfl
      · exact .inr (by rw [hsz]; exact Nat.le_succ _)
      · exact .inl rfl
      · exact .inr (Nat.le_refl _)
  · refine wpAny_bind (wpAny_pure (wpAny_bind (wpAny_setEpoch_of ho hd hf ?_)))
    unfold newFields
    refine wpAny_bind (wpAny_newObj_type (wpAny_pure ⟨_,rfl,"set_iterator",_,⟨_,Heap.get?_push_size _ rfl,rfl⟩,slot_si_next.lookup,?_⟩))
    have hst:IsSI (s.heap.push { cls:=.type "set_iterator",data:=.fields [rawInt 0,rawInt 0,.ref a,rawInt es.size,rawInt ep].toArray }) s.heap.objs.size (rawInt 0) 0 a es.size ep:=⟨_,Heap.get?_push_size _ rfl,rfl,rfl⟩
    obtain ⟨vs,sl,ns,hord,hiv,hpn⟩:∃ vs sl ns,Ord w a es ep t vs sl∧IntsAre vs ns∧ns.Perm (es.toList.map key):=by
      by_cases hbt:bt w=true
      · have hpp:=pick_perm (w.params.setOrder a ep) es.size 0 es.toList #[] (Array.length_toList).symm
        rw [show (#[]:Array (Int × Value)).toList ++ es.toList=es.toList by simp] at hpp
        have hpp:(pickOrder (w.params.setOrder a ep) es).toList.Perm es.toList:=hpp
        exact ⟨(pickOrder (w.params.setOrder a ep) es).toList.map (·.2),fun _=>0,(pickOrder (w.params.setOrder a ep) es).toList.map key,⟨rfl,by rw [List.length_map,hpp.length_eq,Array.length_toList],.inl ⟨hbt,rfl,fun _=>rfl⟩⟩,hints fun e he=>hin e (hpp.mem_iff.mp he),hpp.map key⟩
      · have hbf:bt w=false:=by cases h:bt w <;> simp_all
        refine ⟨es.toList.map (·.2),fun i=>match i with | 0=>0 | k+1=>t.place.getD k 0+1,es.toList.map key,⟨rfl,by rw [List.length_map,Array.length_toList],.inr ⟨hbf,rfl,?_,by rw [hled,hbf]; rfl,ti.rise,fun i p hp=>?_⟩⟩,hints hin,List.Perm.refl _⟩
        · cases hx:(!t.plain && decide (es.size > 1)) with
          | false=>rfl
          | true =>
            refine absurd ?_ hdr
            show (!(w.params.followText "set-order") && (!t.plain && decide (es.size > 1)))=true
            rw [hx,show w.params.followText "set-order" = false from hbf]; rfl
        · have:=(Array.getElem?_eq_some_iff.mp hp)
          obtain ⟨hlt',e⟩:=this
          show t.place.getD i 0+1=p+1
          simp [Array.getD,hlt',e]
    have h0:=hord.1
    refine q s.heap.objs.size _ s.drawn vs ns [s.heap.objs.size,a] _ (walks_ord hh s.heap.objs.size a (Nat.ne_of_lt hlt) hord) ⟨by rw [h0]; exact hst,hrs.keep fun ob e=>Heap.get?_push_of_some _ e⟩ (fun b ob e=>Heap.get?_push_of_some _ e) (by simp) (fun b hb'=>?_) (Nat.le_refl _) hiv hpn
    simp only [List.mem_cons,List.not_mem_nil,or_false] at hb'
    rcases hb' with rfl | rfl
    · exact .inr (Nat.le_refl _)
    · exact .inl rfl
end
end Sw
namespace Sw
open PySem PySem.Spec PyProof.Rows PySem.W
section
variable {prog:Program} {w:World} {A:Around} {E:Value→Shared→Prop} {s:Shared} {a:Addr}
theorem hint_set {Q:Bool→Shared→Prop} (hT:s.TypeIs (.ref a) "set") (h:Q false s):wpAny (model prog w) A (Builtin.List.listLengthHint (.ref a)) Q E s:=by
  unfold Builtin.List.listLengthHint
  refine wpAny_bind (wpAny_specialOf hT PySem.F.slot_set_len.lookup ?_)
  generalize hid:("set.__len__":String)=id0
  wp_delta
  rw [show splitId id0=some ("set","__len__") from by subst hid; decide +kernel]
  subst hid
  refine wpAny_bind (wpAny_isInstance (T:="set") (b:=true) hT (by rw [isSubtype_type]; kernel_rfl) ?_)
  refine wpAny_ite_split (fun hab=>absurd hab (by decide)) (fun _=>?_)
  refine wpAny_ite_split (fun _=>?_) (fun hab=>absurd (by decide +kernel) hab)
  refine wpAny_bind (wpAny_typeOf hT ?_)
  exact wpAny_pure h
theorem iadd_set {S:Addr} {ks:List Int} {R:Result→Shared→Prop} (hh:A.handled=none) (hS:SO prog w (bt w) s.heap a ks) (hSa:S≠a) (hn:ks.length≤sizeLine) (g:s.heap.get? S=some { cls:=.type "list",data:=.seq #[] 0 })
    (q:∀ h' tk d acc' c' (ns:List Int),(∀ b o,b≠S→s.heap.get? b=some o→h'.get? b=some o)→h'.get? S=some { cls:=.type "list",dict:=none,data:=.seq acc' c',slots:=#[] }→IntsAre acc'.toList ns→ns.Perm ks→R (.ok (.ret (.ref S))) { s with heap:=h',toks:=tk,drawn:=d }) :
    codeAny (model prog w) A (.builtin "list.__iadd__" ⟨[.ref S,.ref a],[]⟩) R s:=by
  have hT:s.TypeIs (.ref a) "set":=let ⟨o,_,_,_,e,c,_⟩:=hS; ⟨o,e,c.1⟩
  refine codeAny_builtin F.entry_list_iadd ?_
  rw [Around.under_plainId F.plain_list_iadd _]
  show wpAny _ A.in1 (Builtin.List.listExtendWith (.ref S) (.ref a) (.ref S)) _ _ s
  unfold Builtin.List.listExtendWith
  refine wpAny_bind (wpAny_typeOf (T:="set") hT ?_)
  have h1:Builtin.List.listSameRef (.ref S) (.ref a)=false:=by simp [Builtin.List.listSameRef,hSa]
  have h2:(Value.type "set" == Value.type "list")=false:=by decide
  have h3:(Value.type "set" == Value.type "tuple")=false:=by decide
  simp only [h1,h2,h3,Bool.or_false,Bool.false_eq_true,if_false]
  refine wpAny_bind (set_iter (A:=A.in1) hh hS fun I h1 d vs ns fp St W st kp hI hfp hIl hiv hpn=>?_)
  have hSf:S ∉ fp:=fun hm=>by
    rcases hfp S hm with e | e
    · exact hSa e
    · exact absurd (Heap.lt_size g) (Nat.not_lt.mpr e)
  have hln:vs.length=ks.length:=by rw [hiv.length,hpn.length_eq]
  have hn':vs.length≤sizeLine:=by omega
  have hT1:({ s with heap:=h1,drawn:=d }:Shared).TypeIs (.ref a) "set":=let ⟨o,e,c⟩:=hT; ⟨o,kp _ _ e,c⟩
  have key:∀ (h:Heap) (c₁:Nat),St 0 h→(∀ b o,b≠S→s.heap.get? b=some o→h.get? b=some o)→h.get? S=some { cls:=.type "list",data:=.seq #[] c₁ } →
      codeAny (model prog w) A (.builtin "list.extend.loop" ⟨[.ref S,.ref I,.ref S],[]⟩) R { s with heap:=h,drawn:=d }:=by
    intro h c₁ hst hk hS₁
    refine codeAny_extend_loopS W.toS hn' S hSf (.ref S) vs.length 0 _ #[] c₁ rfl (Nat.zero_le _) hst hS₁ (ItemsOf.nil _) fun s' acc' c' hm hS' hacc=>?_
    have es:s' = { s with heap:=s'.heap,toks:=s'.toks,drawn:=d }:=by have e:=Moved.eq_with hm; exact e
    rw [es]
    have ea:acc'.toList=vs:=L2.items_eq hacc
    refine q s'.heap s'.toks d acc' c' ns (fun b o hb e=>hm.heap b o (fun hmem=>?_) (hk b o hb e)) hS' (by rw [ea]; exact hiv) hpn
    rcases List.mem_cons.mp hmem with e' | hmem
    · exact hb e'
    · rw [List.mem_singleton.mp hmem] at e
      exact absurd (Heap.lt_size e) (Nat.not_lt.mpr hIl)
  refine wpAny_bind (wpAny_holding (hint_set hT1 ?_))
  refine wpAny_ite_split (fun _=>?_) (fun _=>wpAny_pure ⟨plainId_quiet PySem.F.plain_extend_loop _,key _ 0 st (fun b o _ e=>kp b o e) (kp _ _ g)⟩)
  refine wpAny_bind (wpAny_rule (wpAny_bind ?_))
  show wpAny _ _ (updateSeq S (·.push .none) >>= fun _=>updateSeq S (·.pop)) _ _ _
  refine wpAny_bind (wpAny_updateSeq (kp _ _ g) rfl ?_)
  have g2:=Heap.get?_update_self (Obj.mapSeq (·.push Value.none)) (kp _ _ g) rfl
  refine wpAny_updateSeq (hz:=by seq_fits) g2 rfl ?_
  have g3:=Heap.get?_update_self (Obj.mapSeq (·.pop)) g2 rfl
  refine wpAny_pure ⟨plainId_quiet PySem.F.plain_extend_loop _,key _ _ ?_ (fun b o hb e=>?_) g3⟩
  · refine W.frame 0 _ _ st fun b hb o e=>?_
    have hbS:b≠S:=fun h=>hSf (h ▸ hb)
    exact (Heap.get?_update_other _ _ (Ne.symm hbS)).trans ((Heap.get?_update_other _ _ (Ne.symm hbS)).trans e)
  · exact (Heap.get?_update_other _ _ (Ne.symm hb)).trans ((Heap.get?_update_other _ _ (Ne.symm hb)).trans (kp b o e))
theorem collect_set {ks:List Int} {Q:List Value→Shared→Prop} (hh:A.handled=none) (hS:SO prog w (bt w) s.heap a ks) (hn:ks.length≤sizeLine)
    (q:∀ h' tk d vs (ns:List Int),(∀ b o,s.heap.get? b=some o→h'.get? b=some o)→IntsAre vs ns→ns.Perm ks→Q vs { s with heap:=h',toks:=tk,drawn:=d }):wpAny (model prog w) A (collect (.ref a)) Q E s:=by
  have hlt:=hS.lt
  unfold collect
  refine wpAny_bind (wpAny_runValue (codeAny_builtin F.entry_proto_collect ?_))
  rw [Around.under_plainId F.plain_proto_collect _]
  show wpAny _ A.in1 (newList [] >>= fun l=>again (.builtin "list.__iadd__" ⟨[l,.ref a],[]⟩)) _ _ s
  have g:(s.heap.push { cls:=.type "list",data:=.seq ([]:List Value).toArray }).get? s.heap.objs.size=some { cls:=.type "list",data:=.seq #[] 0 }:=Heap.get?_push_size _ rfl
  refine wpAny_bind (wpAny_newObj_type (wpAny_pure ⟨plainId_quiet F.plain_list_iadd _,iadd_set (s:={ s with heap:=s.heap.push { cls:=.type "list",data:=.seq ([]:List Value).toArray } }) hh (hS.keep fun o e=>Heap.get?_push_of_some _ e) (Nat.ne_of_gt hlt) hn g fun h' tk d acc' c' ns hk hS' hi hp=>?_⟩))
  show wpAny _ A (load s.heap.objs.size >>= _) _ _ { s with heap:=h',toks:=tk,drawn:=d }
  refine wpAny_bind (wpAny_load hS' (wpAny_pure (q h' tk d acc'.toList ns (fun b o e=>hk b o (Nat.ne_of_lt (Heap.lt_size e)) (Heap.get?_push_of_some _ e)) hi hp)))
theorem sorted_set {ks:List Int} {h₀:Heap} {L:Addr} {m:Str→Option Value} {news:List (Addr × Obj)} {Q:Value→Shared→Prop} (hh:A.handled=none) (hS:SO prog w (bt w) s.heap a ks) (h64:ks.length < 64) (F:Fr h₀ L s.heap m) (N:News h₀ L s.heap news)
    (q:∀ D c h' tk d (out:List Value) (ns:List Int),Fr h₀ L h' m→News h₀ L h' ((D,seqObj "list" out.toArray c) :: news)→(∀ p ∈ news,p.1 < D)→IntsAre out ns→ns.Perm ks→ns.Pairwise (·≤·)→Q (.ref D) { s with heap:=h',toks:=tk,drawn:=d }) :
    wpAny (model prog w) A (call (.builtin "sorted") [.ref a]) Q E s:=by
  refine Calls.call_function_entry kind_sorted plain_sorted entry_sorted (args_sorted1 _) (wpAny_bind (m:=checkCount "sorted" 1 1 _) (wpAny_pure (wpAny_bind (collect_set hh hS (L2.small_le (m:=64) (by omega)) fun h1 tk d vs ns keep hi hp=>?_))))
  have hvl:vs.length < 64:=by rw [hi.length,hp.length_eq]; exact h64
  have hz:vs.length≤sizeLine:=L2.small_le (m:=64) (by omega)
  refine wpAny_bind (wpAny_newList ?_ hz)
  have F1:=F.kept keep
  have N1:=N.grown keep
  have hL:L < h1.objs.size:=F1.ns.lt
  have g:(h1.push (seqObj "list" vs.toArray 0)).get? h1.objs.size=some (seqObj "list" vs.toArray 0):=Heap.get?_push_size _ rfl
  show wpAny (model prog w) A.in1 (do let _ ← holding [Value.ref h1.objs.size] (call (.builtin "list.sort") [Value.ref h1.objs.size]); ret (Value.ref h1.objs.size)) _ _ { s with heap:=h1.push (seqObj "list" vs.toArray 0),toks:=tk,drawn:=d }
  refine wpAny_bind (wpAny_holding (wpAny_call_entry slot_list_sort ⟨_,g,rfl⟩ entry_list_sort (list_sort_tree (s:={ s with heap:=h1.push (seqObj "list" vs.toArray 0),toks:=tk,drawn:=d }) g hi hvl fun out ns' a1 a2 a3=>⟨_,rfl,wpAny_pure ⟨_,rfl,?_⟩⟩) (args_list_sort _)))
  have hb:∀ b o,s.heap.get? b=some o→b≠h1.objs.size:=fun b o e=>Nat.ne_of_lt (Heap.lt_size (keep b o e))
  have k7:∀ b o,s.heap.get? b=some o→(sortedHeap (h1.push (seqObj "list" vs.toArray 0)) h1.objs.size vs out).get? b=some o:=fun b o e=>by
    unfold sortedHeap
    exact (Heap.get?_update_other _ _ (Ne.symm (hb b o e))).trans (Heap.get?_push_of_some _ (Heap.get?_push_of_some _ ((Heap.get?_update_other _ _ (Ne.symm (hb b o e))).trans (Heap.get?_push_of_some _ (keep b o e)))))
  obtain ⟨c1,g2⟩:∃ c1,((h1.push (seqObj "list" vs.toArray 0)).update h1.objs.size (Obj.mapSeq fun _=>#[])).get? h1.objs.size=some (seqObj "list" #[] c1):=⟨_,get?_update_seq g fun _=>#[]⟩
  obtain ⟨c7,g7⟩:∃ c7,(sortedHeap (h1.push (seqObj "list" vs.toArray 0)) h1.objs.size vs out).get? h1.objs.size=some (seqObj "list" out c7):=⟨_,get?_update_seq (Heap.get?_push_of_some _ (Heap.get?_push_of_some _ g2)) fun _=>out⟩
  refine q h1.objs.size c7 _ tk d out.toList ns' (F.kept k7) (fun p hp'=>?_) (fun p hp'=>Heap.lt_size (N1 p hp').1) a1 (a2.trans hp) a3
  rcases List.mem_cons.mp hp' with rfl | hp'
  · exact ⟨by simpa using g7,Nat.ne_of_gt hL,Heap.get?_none_of_le (Nat.le_trans F1.above (Nat.le_of_lt hL))⟩
  · exact (N.grown k7) p hp'
end
end Sw
namespace L2
open PySem PySem.Spec PyProof.Rows PySem.W
theorem Inv.drawn {X:Cx} {pins:List (Addr × Obj)} {σ:St} {H:Hp} {s:Shared} (I:Inv X pins σ H s) (d:Drawn):Inv X pins σ H { s with drawn:=d }:=⟨I.ok,I.os,I.bare,I.base,I.loc,I.cell,I.free,I.freeC,I.pin,I.hok,I.len⟩
def tSortSet (K:PySem.W.Frag) (t:TA):TE:=fun σ H Q=>t σ H fun vs H1=>∃ (a:Addr) (ns:List Int),vs=[.ref a]∧SqL K H1 a (ns.map V.int)∧ns.length≤4000∧(∃ ds:List Int,ds.length < 64∧∀ x ∈ ns,x ∈ ds) ∧
  ∀ p (ks:List Int),H1 p=none→ks.Pairwise (· < ·)→(∀ x,x ∈ ks↔x ∈ ns)→Q (.ref p) (upd H1 p (.lst (ks.map V.int)))
theorem x_sortSet {K:PySem.W.Frag} {t:TA} {σ:St} {H:Hp} {Q:VK} (h:t σ H fun vs H1=>∃ (a:Addr) (ns:List Int),vs=[.ref a]∧SqL K H1 a (ns.map V.int)∧ns.length≤4000∧(∃ ds:List Int,ds.length < 64∧∀ x ∈ ns,x ∈ ds) ∧
  ∀ p (ks:List Int),H1 p=none→ks.Pairwise (· < ·)→(∀ x,x ∈ ks↔x ∈ ns)→Q (.ref p) (upd H1 p (.lst (ks.map V.int)))):tSortSet K t σ H Q:=h
theorem nodup_le {ks ds : List Int} (hn : ks.Nodup) (h : ∀ x ∈ ks, x ∈ ds) : ks.length ≤ ds.length := by
  induction ks generalizing ds with
  | nil=>simp
  | cons a ks ih =>
    obtain ⟨h1,h2⟩:=List.nodup_cons.mp hn
    obtain ⟨l1,l2,rfl⟩:=List.append_of_mem (h a List.mem_cons_self)
    have:=ih (ds:=l1 ++ l2) h2 fun x hx=>by
      have hx':=h x (List.mem_cons_of_mem _ hx)
      rcases List.mem_append.mp hx' with q | q
      · exact List.mem_append_left _ q
      · rcases List.mem_cons.mp q with q | q
        · exact absurd (q ▸ hx) h1
        · exact List.mem_append_right _ q
    simp at this ⊢; omega
section
variable {X:Cx} {x:Expr} {t:TA} {p1 p2 q1 q2:Pos}
theorem pe_sortSet (hc:X.calm=true) (hgl:Gl X "sorted") (hml:X.mg "sorted" = none) (hgz:Gl X "set") (hmz:X.mg "set" = none) (ha:PA X [x] t)
    (he:starEach [.Call (.Name "set" p1) [x] [] p2] X.env=[(false,eval (.Call (.Name "set" p1) [x] [] p2) X.env)]:=by rfl) (he2:starEach [x] X.env=(false,eval x X.env) :: starEach [] X.env:=by rfl) (hpl:(backTo p2 (starEach [] X.env)).any (·.1)=false:=by rfl) :
    PE X (.Call (.Name "sorted" q1) [.Call (.Name "set" p1) [x] [] p2] [] q2) (tSortSet X.K t):=by
  intro pins s σ H Q I h
  refine wpAny_Call_Name_kw (ld_blt I hgl hml BootT.sorted (PyProof.Rows.callWith_builtin1 ?_ he rfl))
  rw [he]
  show wpAny _ _ (spliced ((false,eval (.Call (.Name "set" p1) [x] [] p2) X.env) :: backTo q2 (starEach [] X.env))) _ _ s
  refine Calls.spliced_cons (wpAny_Call_Name_kw (ld_blt I hgz hmz BootT.set (PyProof.Rows.callWith_type1 (thn (ha p2 pins s σ H _ I h) fun us s1 ⟨vs,H1,I1,r1,q⟩=>?_) he2 hpl)))
  obtain ⟨a,ns,rfl,hA,hl4,⟨ds,hds,hsub⟩,k⟩:=q
  obtain ⟨u,rfl,ru⟩:=vals1 r1
  cases ru
  obtain ⟨its,rv,pl,hz⟩:=I1.list hA
  have hi:IntsAre its ns:=intsAre_of rv
  have hlen:=hi.length
  refine Sw.call_set (ns:=ns) (I1.ok.hd hc) pl.isList (by simpa using hi) (by rw [List.size_toArray,hlen]; unfold scanBound; omega) fun h2 tk ks hS hmem hle hk=>Calls.spliced_nil ?_
  have hnd:ks.Nodup:=by obtain ⟨_,_,_,_,_,_,_,_,_,_,_,_,_,_,hn⟩:=hS; exact hn
  have h64:ks.length < 64:=Nat.lt_of_le_of_lt (nodup_le hnd fun x hx=>hsub x ((hmem x).mp hx)) hds
  have I2:Inv X pins σ H1 { s1 with heap:=h2,toks:=tk }:=I1.kept (t':=tk) hk
  obtain ⟨m,F,N⟩:=I2.frs
  refine Sw.sorted_set (s:={ s1 with heap:=h2,toks:=tk }) (I1.ok.hd hc) hS h64 F N fun D c h' tk' d out ms F' N' hD a1 a2 a3=>?_
  obtain ⟨hn,I3⟩:=I2.newsLaid (t':=tk') (o:=.lst (ms.map V.int)) F.ns F' N' hD ⟨by rw [List.length_map,a2.length_eq]; exact small_le (m:=64) (by omega),out,c,vals_ints a1,(N' _ List.mem_cons_self).1⟩
  refine ⟨.ref D,_,I3.drawn d,rfl,k D ms hn ?_ (fun x=>by rw [a2.mem_iff,hmem])⟩
  have hnd':ms.Nodup:=a2.nodup_iff.mpr hnd
  exact (List.Pairwise.and a3 hnd').imp fun {x y} h=>by
    have h1:=h.1; have h2:x≠y:=h.2
    omega
end
end L2
namespace L2
open PySem PySem.Spec PyProof.Rows PySem.W
def Ite (K:PySem.W.Frag) (a:Addr):It :=
  ⟨fun i H=>∃ xs x,SqL K H a xs∧xs[i]? = some x,fun i H v H'=>∃ p,H p=none∧v = .ref p∧∀ xs,SqL K H a xs→∃ y,xs[i]? = some y∧H'=upd H p (.tup [.int (i:Int),y]),fun i H=>∃ xs,SqL K H a xs∧xs.length≤i⟩
theorem turn_enum {P : Program} {w : World} {K : PySem.W.Frag} {elts : List Expr} {k : Nat} {pos : Pos} (a e it : Addr) (hei : e ≠ it) : Turn P w K (.Tuple elts k pos) (Ite K a) [e, it] e (fun i h => (∃ old, IsEnum h e it (i : Int) old) ∧ h.IsListIter it a i) where
  mem:=by simp
  obj := fun i h st b hb => by
    obtain ⟨⟨old,x⟩,y⟩:=st
    simp only [List.mem_cons,List.not_mem_nil,or_false] at hb
    rcases hb with rfl | rfl
    · exact ⟨_,x,fun v z=>by
        have z':Data.fields _=Data.cell v:=z
        cases z'⟩
    · obtain ⟨o,q,c,d⟩:=y
      exact ⟨o,q,fun v z=>by rw [d] at z; cases z⟩
  keep:=fun i h h' st kp=>⟨let ⟨old,x⟩:=st.1; ⟨old,kp e (by simp) _ x⟩,st.2.at fun o x=>kp it (by simp) o x⟩
  item := by
    intro X hP hw hK hc i pins s σ H E I hf st hg
    subst hP hw hK
    obtain ⟨⟨old,he⟩,hit⟩:=st
    obtain ⟨xs,x,hq,hx⟩:=hg
    obtain ⟨its,rv,pl,hz⟩:=I.list hq
    obtain ⟨u,hu,ru⟩:=rv.get hx
    refine wpAny_pyNext_enum_item he hit pl.isList (x:=u) (by simpa using hu) hei fun h1 ho hit1 hT hsz hk=>?_
    refine ⟨_,rfl,wpAny_letOwnedTupleGo_enum ho fun h2 he2 hs2=>?_⟩
    have hTn:H s.heap.objs.size=none:=I.hok.fresh (Nat.le_refl _)
    have helt:e < s.heap.objs.size:=Heap.lt_size he
    have hTe:s.heap.objs.size≠e:=Nat.ne_of_gt helt
    have k2:∀ b o,b ∉ [e,it]→s.heap.get? b=some o→h2.get? b=some o:=fun b o hb q=>by
      have h1':b≠e:=fun z=>hb (by simp [z])
      have h2':b≠it:=fun z=>hb (by simp [z])
      exact (hs2.2 b h1').trans (hk b o h1' h2' q)
    have nf:∀ b u,H b=some u→b ∉ [e,it]:=fun b u q hb=>by rw [(hf b hb).1] at q; cases q
    have nT:∀ b u,H b=some u→b≠s.heap.objs.size:=fun b u q z=>by rw [z,hTn] at q; cases q
    have nT2:∀ b o,s.heap.get? b=some o→b≠s.heap.objs.size:=fun b o q=>Nat.ne_of_lt (Heap.lt_size q)
    have T2:h2.get? s.heap.objs.size=some { cls:=.type "tuple",data:=.seq #[.int i s.toks,u] }:=(hs2.2 _ hTe).trans hT
    have I2:Inv X pins σ (upd H s.heap.objs.size (.tup [.int (i:Int),x])) { s with heap:=h2,gens:=s.gens,drawn:=s.drawn,toks:=s.toks+1 }:=by
      refine I.step (ch:=[e,it]) (fun b hb=>?_) (fun b o _ _ hb q _=>k2 b o hb q) (fun b o _ _ hb q _=>⟨o.slots,k2 b o hb q⟩) (fun b o hb q n=>by rw [upd_ne (nT2 b o q)]; exact n) (fun b o hb q=>⟨o,k2 b o hb q⟩)
        (fun b ys q=>by rw [upd_ne (nT b _ q)]; exact q) (fun b o u q=>by rw [upd_ne (nT b _ q)]; exact q) (fun b ps q=>⟨#[],by rw [upd_ne (nT b _ q),q]; simp⟩) (fun m hm=>?_) (fun b v q=>?_) I.bare
      · obtain ⟨f0,f1,f2,f3,f4,f5⟩:=hf b hb
        exact ⟨f3,f1,f4,f5⟩
      · obtain ⟨o,es,ep,ho,r⟩:=hm
        refine ⟨o,es,ep,k2 _ o (fun hb=>?_) ho,r⟩
        exact (hf _ hb).2.1 rfl
      · by_cases hb:b=s.heap.objs.size
        · subst hb
          rw [upd_same] at q
          cases q
          exact ⟨small_le (m:=2) (Nat.le_refl 2),[.int i s.toks,u],.cons ⟨_,rfl⟩ (.cons ru .nil),_,T2,rfl,0,rfl⟩
        · rw [upd_ne hb] at q
          refine (I.hok b v q).stay (fun c o hc q2=>k2 c o ?_ q2) (fun c q2=>by rw [upd_ne (nT c _ q2)]; exact q2) fun c ys q2=>by rw [upd_ne (nT c _ q2)]; exact q2
          rcases hc with z | z
          · rw [z]; exact nf b v q
          · exact nf c _ z
    refine ⟨.ref s.heap.objs.size,_,I2,rfl,⟨_,hTn,rfl,fun ys hy=>⟨x,by rw [I.list_inj hy hq]; exact hx,rfl⟩⟩,⟨⟨_,by simpa using he2⟩,hit1.at fun o q=>(hs2.2 it (Ne.symm hei)).trans q⟩,fun b hb=>?_⟩
    have hbl:b < s.heap.objs.size:=by
      simp only [List.mem_cons,List.not_mem_nil,or_false] at hb
      rcases hb with rfl | rfl
      · exact helt
      · obtain ⟨_,q,_⟩:=hit; exact Heap.lt_size q
    rw [upd_ne (Nat.ne_of_lt hbl)]
    exact (hf b hb).1
  done:=by
    intro X hP hw hK hc i pins s σ H E I hf st hg
    subst hP hw hK
    obtain ⟨⟨old,he⟩,hit⟩:=st
    obtain ⟨xs,hq,hx⟩:=hg
    obtain ⟨its,rv,pl,hz⟩:=I.list hq
    have hl:=rv.length
    obtain ⟨f0,f1,f2,f3,f4,f5⟩:=hf it (by simp)
    exact wpAny_pyNext_enum_end (I.ok.hd hc) he hit pl.isList (by simp; omega) fun h' eb=>⟨rfl,I.turned (t':=s.toks) (fun b o hb q=>eb b o hb q) f0 f1 f3 f4 f5⟩
  self:=fun _ _ _ _ _ st h=>let ⟨_,x⟩:=st.1; wpAny_pyIter_enum x h
def iEnum (K:PySem.W.Frag) (ta:TA):TI:=fun σ H R=>ta σ H fun vs H1=>∃ (a:Addr) (xs:List V),vs=[.ref a]∧SqL K H1 a xs∧R (Ite K a) H1
theorem x_iEnum {K:PySem.W.Frag} {ta:TA} {σ:St} {H:Hp} {R:It→Hp→Prop} (h:ta σ H fun vs H1=>∃ (a:Addr) (xs:List V),vs=[.ref a]∧SqL K H1 a xs∧R (Ite K a) H1):iEnum K ta σ H R:=h
section
variable {X:Cx}
theorem pi_enum {elts:List Expr} {k:Nat} {pos':Pos} {a:Expr} {ta:TA} {p pos:Pos} (hg:Gl X "enumerate") (hm:X.mg "enumerate" = none) (ha:PA X [a] ta) (hs:starEach [a] X.env=[(false,eval a X.env)]:=by rfl) :
    PI X (.Tuple elts k pos') (.Call (.Name "enumerate" p) [a] [] pos) (iEnum X.K ta):=by
  intro pins s σ H R I h
  refine Call_ (ld_blt I hg hm BootT.enumerate (PyProof.Rows.callWith_type1 (thn (ha pos pins s σ H _ I h) fun us s1 ⟨vs,H1,I1,r1,q1⟩=>?_) hs rfl))
  obtain ⟨l,xs,e,hq,q⟩:=q1
  subst e
  cases r1 with
  | cons r rr =>
    cases rr
    cases r
    obtain ⟨its,rv,pl,hz⟩:=I1.list hq
    refine call_enumerate_list pl.isList fun h' he hit hsz hk=>?_
    refine wpAny_pyIter_enum he ?_
    have hei:s1.heap.objs.size+1≠s1.heap.objs.size:=Nat.succ_ne_self _
    refine ⟨s1.heap.objs.size+1,[s1.heap.objs.size+1,s1.heap.objs.size],_,_,H1,rfl,I1.kept (t':=s1.toks) hk,turn_enum l (s1.heap.objs.size+1) s1.heap.objs.size hei,⟨⟨_,he⟩,hit⟩,fun b hb=>?_,q⟩
    have hb':s1.heap.objs.size≤b:=by
      simp only [List.mem_cons,List.not_mem_nil,or_false] at hb
      rcases hb with rfl | rfl
      · exact Nat.le_succ _
      · exact Nat.le_refl _
    exact I1.fpOk hb' (I1.hok.fresh hb')
end
theorem for_enum {K:PySem.W.Frag} {a:Addr} {xs:List V} {g:TG} {tb:TS} {D:Ends} {σ:St} {H:Hp} (Pv:Nat→St→Hp→Prop) (h0:Pv 0 σ H) (hl:∀ i σ H,i≤xs.length→Pv i σ H→SqL K H a xs)
    (hs:∀ i x p σ H,xs[i]? = some x→H p=none→Pv i σ H→g (.ref p) σ (upd H p (.tup [.int (i:Int),x])) fun σ2 H2=>tb { D with nx:=Pv (i+1),ct:=Pv (i+1),bk:=D.nx } σ2 H2) (hd:∀ σ H,Pv xs.length σ H→D.nx σ H) :
    ∃ W : Nat → Nat → St → Hp → Prop, (∃ m, W 0 m σ H) ∧ ∀ i m σ H, W i m σ H →
      ((Ite K a).stop i H∧D.nx σ H)∨((Ite K a).go i H∧∃ N:St→Hp→Prop,(∀ σ' H',N σ' H'→∃ m',m' < m∧W (i+1) m' σ' H')∧∀ x H',(Ite K a).yld i H x H'→g x σ H' fun σ2 H2=>tb { D with nx:=N,ct:=N,bk:=D.nx } σ2 H2):=by
  refine ⟨fun i m σ H=>m=xs.length - i∧i≤xs.length∧Pv i σ H,⟨xs.length,by simp,Nat.zero_le _,h0⟩,?_⟩
  rintro i m σ H ⟨hm,hi,p⟩
  have hq:=hl _ _ _ hi p
  by_cases e:i=xs.length
  · subst e
    exact .inl ⟨⟨xs,hq,Nat.le_refl _⟩,hd _ _ p⟩
  · obtain ⟨x,hx⟩:∃ x,xs[i]? = some x:=⟨_,List.getElem?_eq_getElem (by omega)⟩
    refine .inr ⟨⟨xs,x,hq,hx⟩,Pv (i+1),fun σ' H' p'=>⟨xs.length - (i+1),by omega,rfl,by omega,p'⟩,?_⟩
    rintro v H' ⟨q,hn,rfl,hy⟩
    obtain ⟨y,h1,rfl⟩:=hy xs hq
    rw [hx] at h1
    cases h1
    exact hs i x q σ H hx hn p
end L2
namespace L2
open PySem PySem.Spec PyProof.Rows
end L2
namespace L2
open PySem PySem.Spec PyProof.Rows
section
variable {P:Program} {w:World} {st:List Env} {H H2:Hp} {s:Shared} {a:Addr} {B h h':Heap}
end
section
variable {P:Program} {w:World} {K:PySem.W.Frag} {mg:Str→Option Value} {base:Heap} {N:List Str} {qual:Str} {scope:Scope} {f:Addr} {cd:Value} {A:Around} {outer:List Env} {s:Shared} {H:Hp} {E E':XK}
end
end L2
namespace L2
open PySem PySem.Spec PyProof.Rows
end L2
namespace L2
open PySem PySem.Spec PyProof.Rows
section
variable {X:Cx} {pins:List (Addr × Obj)} {σ:St} {H:Hp} {s:Shared}
end
end L2
namespace L2
open PySem PySem.Spec PyProof.Rows
section
variable {X:Cx} {k:Nat} {f CT:Addr} {fd:FuncData} {ps:List Str} {sp:Sp} {x xT n:Str} {p np cpos epos hpos pos:Pos} {e:Expr} {es:List Expr} {t:TA} {th:TS} {i:Nat} {b₀:Stmt} {suite:List Stmt}
end
end L2
namespace L2
open PySem PySem.Spec PyProof.Rows
end L2
namespace L2
open PySem PySem.Spec PyProof.Rows
section
variable {X:Cx} {k:Nat} {f:Addr} {fd:FuncData} {ps:List Str} {sp:Sp} {x:Str} {p pos:Pos} {e:Expr} {es:List Expr} {t:TA}
end
end L2
namespace L2
open PySem PySem.Spec PyProof.Rows
section
variable {K:PySem.W.Frag} {σ:St} {H:Hp} {Q:VK}
end
end L2
namespace L2
open PySem PySem.Spec PyProof.Rows
structure Cal (P:Program) (w:World) (K:PySem.W.Frag) (mg:Str→Option Value) (base:Heap) (CX:CXT) (k:Nat) (x:Str) (ps:List Str) (sp:Sp) where
  f:Addr
  d:FuncData
  G:FnOk P w K mg base CX k f d ps sp
  m:mg x=some (.ref f)
  kp:PySem.W.keepIn K (.ref f)=true
  b:Binds K d ps []
structure CalM (P:Program) (w:World) (K:PySem.W.Frag) (mg:Str→Option Value) (base:Heap) (CX:CXT) (k:Nat) (C:Addr) (x:Str) (ps:List Str) (sp:Sp) where
  f:Addr
  d:FuncData
  G:FnOk P w K mg base CX k f d ps sp
  m:Meth K C x f
  b:Binds K d ps []
structure CalI (P:Program) (w:World) (K:PySem.W.Frag) (mg:Str→Option Value) (base:Heap) (CX:CXT) (k:Nat) (C:Addr) (ps:List Str) (sp:Sp) where
  f:Addr
  d:FuncData
  G:FnOk P w K mg base CX k f d ps sp
  m:Mk K C f
  b:Binds K d ps []
structure Dfn (K:PySem.W.Frag) (mg:Str→Option Value) (x:Str) (st:Stmt) (ps:List Str) where
  f:Addr
  d:FuncData
  F:Fun K x x st f d
  m:mg x=some (.ref f)
  bt:∀ (s:Shared) (us:List Value),us.length=ps.length→BindsTo s d ⟨us,[]⟩ (ps.zip us)
  b:Binds K d ps []
structure DfnM (K:PySem.W.Frag) (C:Addr) (x q:Str) (st:Stmt) (ps:List Str) where
  f:Addr
  d:FuncData
  F:Fun K x q st f d
  a:PySem.W.findIn K (.ref C) x=some (some (.ref f))
  i:PySem.W.isFn K (.ref f)=true
  b:Binds K d ps []
def mkD {K : PySem.W.Frag} {h : Heap} {mg : Str → Option Value} {x : Str} {st : Stmt} {ps : List Str} (X : K.In h) (G : h.Ns mainGlobals mg) {f : Addr} {od an : Option Addr} {sl : Array (Option Value)} {oc kV dc pm cd ct : Value} (a : PySem.W.nsIn K mainGlobals x = some (some (.ref f)))
    (l:K.lookup f=some ⟨oc,od,.func (PySem.W.fnOf x x (defArgs st) (defBody st) (defScope st) .none kV dc pm an cd ct),sl⟩) (c:PySem.W.codeIn K cd x=true) (k:PySem.W.keepIn K (.ref f)=true)
    (hb:∀ (kV doc pm:Value) (an:Option Addr) (cdv ct:Value) (us:List Value),us.length=ps.length→bindArgs (PySem.W.fnOf x x (defArgs st) (defBody st) (defScope st) .none kV doc pm an cdv ct) ⟨us,[]⟩=pure (ps.zip us)):Dfn K mg x st ps :=
  ⟨f,_,fun_mk l c k,PySem.W.mg_of X G a,fun s us hl=>.of_eq (hb kV dc pm an cd ct us hl),(fun_mk l c k).binds hb⟩
def mkM {K : PySem.W.Frag} {C : Addr} {x q : Str} {st : Stmt} {ps : List Str} {f : Addr} {od an : Option Addr} {sl : Array (Option Value)} {oc kV dc pm cd ct : Value} (a : PySem.W.findIn K (.ref C) x = some (some (.ref f))) (i : PySem.W.isFn K (.ref f) = true)
    (l:K.lookup f=some ⟨oc,od,.func (PySem.W.fnOf x q (defArgs st) (defBody st) (defScope st) .none kV dc pm an cd ct),sl⟩) (c:PySem.W.codeIn K cd q=true) (k:PySem.W.keepIn K (.ref f)=true)
    (hb:∀ (kV doc pm:Value) (an:Option Addr) (cdv ct:Value) (us:List Value),us.length=ps.length→bindArgs (PySem.W.fnOf x q (defArgs st) (defBody st) (defScope st) .none kV doc pm an cdv ct) ⟨us,[]⟩=pure (ps.zip us)):DfnM K C x q st ps :=
  ⟨f,_,fun_mk l c k,a,i,(fun_mk l c k).binds hb⟩
theorem Dfn.law {K:PySem.W.Frag} {mg:Str→Option Value} {x y:Str} {st:Stmt} {fa:Addr} (D:Dfn K mg x st [y]) (h:mg x=some (.ref fa)):D.f=fa:=by
  have:=D.m.symm.trans h
  cases this; rfl
section
variable {X:Cx} {CX:CXT} {E:XK} {k:Nat} {C:Addr} {ps:List Str} {sp:Sp} {x:Str} {p pos apos:Pos} {e o:Expr} {es:List Expr} {t:TA} {ta:TE}
theorem pcl (c:Cal X.prog X.w X.K X.mg X.base CX k x ps sp) (hr:Room k X.A) (hg:Gl X x) (hx:Passes CX X E) (ha:PA X (e :: es) t) (hdb:(x == ("__debug__":Str))=false:=by decide) (he:starEach (e :: es) X.env=(false,eval e X.env) :: starEach es X.env:=by rfl) (hpl:(backTo pos (starEach es X.env)).any (·.1)=false:=by rfl) :
    PE X (.Call (.Name x p) (e :: es) [] pos) (tCall sp [] E t):=pe_call c.G hr hg c.m c.kp c.b .nil hx ha hdb he hpl
theorem pcm {pl:Sem Bool} (c:CalM X.prog X.w X.K X.mg X.base CX k C x ps sp) (cl:Cls X.K C) (hr:Room k X.A) (he:PE X o ta) (hx:Passes CX X E) (ha:PA X (e :: es) t)
    (hst:starEach (e :: es) X.env=(false,eval e X.env) :: starEach es X.env:=by rfl) (hpl:(backTo pos (starEach es X.env)).any (·.1)=false:=by rfl)
    (ht:eval (.Call (.Attribute o x apos) (e :: es) [] pos) X.env=(do
      let ov ← eval o X.env
      standAt apos.atName
      let (f,first) ← holding [ov] (getMethod ov x pl)
      callWith pos f first (backTo pos (starEach (e :: es) X.env)) (backToKw pos (keywordEach [] X.env))):=by rfl) :
    PE X (.Call (.Attribute o x apos) (e :: es) [] pos) (tMeth C x sp [] E ta t):=pe_meth he cl c.m c.G hr c.b .nil hx ha hst hpl ht
theorem pcm0 {pl:Sem Bool} (c:CalM X.prog X.w X.K X.mg X.base CX k C x ps sp) (cl:Cls X.K C) (hr:Room k X.A) (he:PE X o ta) (hx:Passes CX X E)
    (ht:eval (.Call (.Attribute o x apos) [] [] pos) X.env=(do
      let ov ← eval o X.env
      standAt apos.atName
      let (f,first) ← holding [ov] (getMethod ov x pl)
      callWith pos f first (backTo pos (starEach [] X.env)) (backToKw pos (keywordEach [] X.env))):=by rfl) :
    PE X (.Call (.Attribute o x apos) [] [] pos) (tMeth C x sp [] E ta tNil):=pe_meth0 he cl c.m c.G hr c.b .nil hx ht
end
end L2
namespace L2
open PySem PySem.Spec PyProof.Rows PySem.W
def lexL:List Int→List Int→Bool
  | [],[]=>false
  | [],_ :: _=>true
  | _ :: _,[]=>false
  | x :: xs,y :: ys=>if x=y then lexL xs ys else decide (x < y)
theorem lexL_self:∀ x:List Int,lexL x x=false
  | []=>rfl
  | x :: xs=>by unfold lexL; rw [if_pos rfl]; exact lexL_self xs
theorem lexL_total:∀ {x y:List Int},lexL x y=false→lexL y x=true∨x=y
  | [],[],_=>.inr rfl
  | [],_ :: _,h=>by unfold lexL at h; cases h
  | _ :: _,[],_=>.inl (by unfold lexL; rfl)
  | x :: xs, y :: ys, h => by
    unfold lexL at h ⊢
    by_cases e:x=y
    · subst e
      rw [if_pos rfl] at h ⊢
      rcases lexL_total h with q | q
      · exact .inl q
      · exact .inr (by rw [q])
    · rw [if_neg e] at h
      rw [if_neg (Ne.symm e)]
      exact .inl (by have:=of_decide_eq_false h; exact decide_eq_true (by omega))
theorem lexL_trans : ∀ {x y z : List Int}, lexL x y = true → lexL y z = true → lexL x z = true
  | [],[],_,h,_=>by unfold lexL at h; cases h
  | [],_ :: _,[],_,h=>by unfold lexL at h; cases h
  | [],_ :: _,_ :: _,_,_=>by unfold lexL; rfl
  | _ :: _,[],_,h,_=>by unfold lexL at h; cases h
  | _ :: _,_ :: _,[],_,h=>by unfold lexL at h; cases h
  | x :: xs, y :: ys, z :: zs, h, h' => by
    unfold lexL at h h' ⊢
    by_cases e:x=y
    · subst e
      rw [if_pos rfl] at h
      by_cases e':x=z
      · rw [if_pos e'] at h' ⊢; exact lexL_trans h h'
      · rw [if_neg e'] at h' ⊢; exact h'
    · rw [if_neg e] at h
      have h1:=of_decide_eq_true h
      by_cases e':y=z
      · subst e'; rw [if_neg e]; exact h
      · rw [if_neg e'] at h'
        have h2:=of_decide_eq_true h'
        rw [if_neg (by omega)]
        exact decide_eq_true (by omega)
def rankL (ts:List (List Int)) (t:List Int):Int:=(ts.countP fun u=>lexL u t:Nat)
theorem rankL_lt {ts:List (List Int)} {t u:List Int} (ht:t ∈ ts):decide (rankL ts t < rankL ts u)=lexL t u:=by
  unfold rankL
  cases q:lexL t u with
  | true =>
    have:=count_lt (l:=ts) (p:=fun v=>lexL v t) (q:=fun v=>lexL v u) (x:=t) (fun y _ h=>lexL_trans h q) ht (lexL_self t) q
    exact decide_eq_true (by omega)
  | false =>
    have:ts.countP (fun v=>lexL v u)≤ts.countP fun v=>lexL v t:=List.countP_mono_left fun v _ h=>by
      rcases lexL_total q with e | e
      · exact lexL_trans h e
      · rw [e]; exact h
    exact decide_eq_false (by omega)
inductive Flat:List Bool→List V→List Int→Prop
  | nil:Flat [] [] []
  | int (i:Int) {m:List Bool} {xs:List V} {ks:List Int}:Flat m xs ks→Flat (false :: m) (.int i :: xs) (i :: ks)
  | bl (b:Bool) {m:List Bool} {xs:List V} {ks:List Int}:Flat m xs ks→Flat (true :: m) (.bl b :: xs) (b2i b :: ks)
theorem Flat.length {m:List Bool} {xs:List V} {ks:List Int} (h:Flat m xs ks):xs.length=m.length:=by
  induction h with
  | nil=>rfl
  | int _ _ ih=>simp [ih]
  | bl _ _ ih=>simp [ih]
section
variable {prog:Program} {w:World} {A:Around} {s:Shared} {b:Bool} {Q:Bool→Shared→Prop}
theorem lex_flat {m : List Bool} {xs : List V} {ks : List Int} (fx : Flat m xs ks) : ∀ {ys : List V} {ls : List Int} {us ws : List Value} {i : Nat}, Flat m ys ls → Vals xs us → Vals ys ws → (b && i == 0) = false → Q (lexL ks ls) s →
    KatLex prog w A b false Q (us.zip ws) i s:=by
  induction fx with
  | nil =>
    intro ys ls us ws i fy rx ry hi q
    cases fy; cases rx; cases ry
    unfold lexL at q
    exact kat_nil q
  | int a _ ih =>
    intro ys ls us ws i fy rx ry hi q
    cases fy with
    | int c fy =>
      cases rx with
      | cons r1 rx =>
        cases ry with
        | cons r2 ry =>
          obtain ⟨t,rfl⟩:=r1
          obtain ⟨u,rfl⟩:=r2
          rw [List.zip_cons_cons]
          refine kat_cons (SeqAt.EqAt.int_int a t c u _ _ _ _ ?_)
          unfold lexL at q
          by_cases e:a=c
          · rw [if_pos e] at q
            rw [show (a == c)=true by simpa using e]
            exact kat_yes (ih fy rx ry (by simp) q)
          · rw [if_neg e] at q
            rw [show (a == c)=false by simpa using e]
            refine kat_no ?_
            rw [hi]
            exact kat_one _ _ (lt_int q)
  | bl a _ ih =>
    intro ys ls us ws i fy rx ry hi q
    cases fy with
    | bl c fy =>
      cases rx with
      | cons r1 rx =>
        cases ry with
        | cons r2 ry =>
          cases r1; cases r2
          rw [List.zip_cons_cons]
          refine kat_cons (SeqAt.EqAt.bool_bool a c _ _ _ _ ?_)
          unfold lexL at q
          by_cases e:a=c
          · rw [if_pos (by rw [e])] at q
            rw [show (a == c)=true by simpa using e]
            exact kat_yes (ih fy rx ry (by simp) q)
          · rw [if_neg (by cases a <;> cases c <;> first | exact absurd rfl e | decide)] at q
            rw [show (a == c)=false by simpa using e]
            refine kat_no ?_
            rw [hi]
            exact kat_one _ _ (lt_bool q)
theorem lt_flat {x y : Addr} {m : List Bool} {xs ys : List V} {ks ls : List Int} {us ws : List Value} {E : Value → Shared → Prop} (fx : Flat (false :: m) xs ks) (fy : Flat (false :: m) ys ls) (rx : Vals xs us) (ry : Vals ys ws)
    (hx:IsTup s.heap x us.toArray) (hy:IsTup s.heap y ws.toArray) (h:Q (lexL ks ls) s):wpAny (model prog w) A (keyLt' (tuples' true) (.ref x) (.ref y)) Q E s:=by
  obtain ⟨ox,ex,cx,nx,dx⟩:=hx
  obtain ⟨oy,ey,cy,ny,dy⟩:=hy
  have l1:us.length=ws.length:=by rw [← rx.length,← ry.length,fx.length,fy.length]
  refine kat_lt ex dx ey dy ?_
  rw [show decide (us.toArray.size < ws.toArray.size)=false by simp [l1]]
  cases fx with
  | int a fx =>
    cases fy with
    | int c fy =>
      cases rx with
      | cons r1 rx =>
        cases ry with
        | cons r2 ry =>
          obtain ⟨t,rfl⟩:=r1
          obtain ⟨u,rfl⟩:=r2
          show KatLex _ _ _ _ _ _ (List.zip (_ :: _) (_ :: _)) 0 s
          rw [List.zip_cons_cons]
          refine kat_cons (SeqAt.EqAt.int_int a t c u _ _ _ _ ?_)
          unfold lexL at h
          by_cases e:a=c
          · rw [if_pos e] at h
            rw [show (a == c)=true by simpa using e]
            exact kat_yes (lex_flat fx fy rx ry (by simp) h)
          · rw [if_neg e] at h
            rw [show (a == c)=false by simpa using e]
            exact kat_no (oneLt_int h)
end
abbrev Zn:=List Int × Addr
def refN (z:Zn):V:=.ref z.2
def FlatAt (m:List Bool) (H:Hp) (z:Zn):Prop:=∃ xs,H z.2=some (.tup xs)∧Flat (false :: m) xs z.1
def rSortedN (K:PySem.W.Frag):List V→Hp→VK→Prop:=fun xs H Q=>∃ (p:Addr) (zs:List Zn) (m:List Bool),xs=[.ref p]∧SqL K H p (zs.map refN)∧(∀ z ∈ zs,FlatAt m H z)∧zs.length < 64 ∧
  ∀ (l:Addr) (zs':List Zn),H l=none→zs'.Perm zs→zs'.Pairwise (fun z w=>lexL w.1 z.1=false)→Q (.ref l) (upd H l (.lst (zs'.map refN)))
theorem refsN_of:∀ {zs:List Zn} {us:List Value},Vals (zs.map refN) us→us=zs.map fun z=>Value.ref z.2
  | [],_,h=>by cases h; rfl
  | z :: zs, _, h => by
    cases h with
    | cons h1 h2=>cases h1; rw [refsN_of h2]; rfl
theorem vals_refsN:∀ zs:List Zn,Vals (zs.map refN) (zs.map fun z=>Value.ref z.2)
  | []=>.nil
  | _ :: zs=>.cons rfl (vals_refsN zs)
theorem firstsN {h:Heap}:∀ {zs:List Zn},(∀ z ∈ zs,∃ i t us,IsTup h z.2 (Value.int i t :: us).toArray)→∃ fs,KatTups h (zs.map fun z=>Value.ref z.2) fs∧fs.length=zs.length∧∀ v ∈ fs,∃ i t,v=Value.int i t
  | [],_=>⟨[],.nil,rfl,fun _ h=>nomatch h⟩
  | z :: zs, hz => by
    obtain ⟨fs,k1,k2,k3⟩:=firstsN (zs:=zs) fun z' h'=>hz z' (List.mem_cons_of_mem _ h')
    obtain ⟨i,t,us,o,e,c,n,d⟩:=hz z List.mem_cons_self
    refine ⟨.int i t :: fs,KatTups.cons e c d (by simp) k1,by simp [k2],fun v hv=>?_⟩
    rcases List.mem_cons.mp hv with rfl | hv
    · exact ⟨i,t,rfl⟩
    · exact k3 v hv
theorem sorted_items {zs:List Zn} {d:Zn} {k:Nat→Int} {pr:Array Nat} (hk:∀ i,k i=rankL (zs.map (·.1)) (zs.getD i d).1) (hp1:Sx.Pm zs.length pr) (hp2:Sx.Up k pr zs.length) :
    (pr.toList.map fun i=>zs.getD i d).Perm zs∧(pr.toList.map fun i=>zs.getD i d).Pairwise fun z w=>lexL w.1 z.1=false:=by
  have plt:∀ i ∈ pr.toList,i < zs.length:=fun i hi=>by simpa using hp1.mem_iff.mp hi
  have mz:∀ i,i < zs.length→zs.getD i d ∈ zs:=fun i hi=>by
    have:zs.getD i d=zs[i]:=by simp [hi]
    rw [this]; exact List.getElem_mem hi
  refine ⟨?_,?_⟩
  · have:=hp1.map fun i=>zs.getD i d
    rwa [getD_range] at this
  · rw [List.pairwise_iff_getElem]
    intro i j hi hj hij
    rw [List.length_map] at hi hj
    simp only [List.getElem_map]
    have hsz:pr.size=zs.length:=hp1.size
    have hj':j < zs.length:=by rw [← hsz]; simpa using hj
    have hle:=hp2.le (Nat.le_of_lt hij) hj'
    unfold Sx.Ky at hle
    have gi:∀ i (h:i < pr.toList.length),pr.getD i 0=pr.toList[i]:=fun i h=>by
      have h':i < pr.size:=by simpa using h
      simp [Array.getD,h']
    rw [gi i hi,gi j hj,hk,hk] at hle
    cases w:lexL (zs.getD pr.toList[j] d).1 (zs.getD pr.toList[i] d).1 with
    | false=>rfl
    | true =>
      rw [← rankL_lt (ts:=zs.map (·.1)) (List.mem_map_of_mem (mz _ (plt _ (List.getElem_mem hj)))),decide_eq_true_iff] at w
      omega
section
variable {X:Cx}
theorem call_sortedN : CallR X (.builtin "sorted") (rSortedN X.K) := by
  intro pins s σ H xs us Q I r h
  obtain ⟨p,zs,mk,rfl,hq,hz,h64,q⟩:=h
  obtain ⟨u,rfl,ru⟩:=vals1 r
  cases ru
  obtain ⟨its,rv,pl,hsz⟩:=I.list hq
  have ei:=refsN_of rv
  subst ei
  have tup0:∀ z ∈ zs,∃ xs us,Flat (false :: mk) xs z.1∧Vals xs us∧IsTup s.heap z.2 us.toArray:=fun z hz'=>by
    obtain ⟨xs,h1,h2⟩:=hz z hz'
    obtain ⟨ts,r,it,_⟩:=I.tuple (.of h1)
    exact ⟨xs,ts,h2,r,it⟩
  by_cases h2:2≤zs.length
  · obtain ⟨m,F,N⟩:=I.frs
    refine kat_sorted F N pl.isList (by rw [List.length_map]; exact h2) (by rw [List.length_map]; exact h64) fun D e1 h' F' N' hD=>?_
    have kept:∀ b o,b≠X.env.locals→s.heap.get? b=some o→h'.get? b=some o:=fun b o h1 e=>by
      cases w:X.base.get? b with
      | some u =>
        have z:=I.bk b u w
        rw [e] at z
        cases z
        exact F'.keep b _ w
      | none=>exact (N' (b,o) (List.mem_cons_of_mem _ (mem_allNews h1 w e))).1
    have tup:∀ z ∈ zs,∃ xs us,Flat (false :: mk) xs z.1∧Vals xs us∧IsTup h' z.2 us.toArray:=fun z hz'=>by
      obtain ⟨xs,us,f,r,o,e,rest⟩:=tup0 z hz'
      refine ⟨xs,us,f,r,o,kept _ o (fun w=>?_) e,rest⟩
      obtain ⟨_,e2,_⟩:=hz z hz'
      rw [w,I.free] at e2
      cases e2
    obtain ⟨fs,k1,k2,k3⟩:=firstsN (zs:=zs) (h:=h') fun z hz'=>by
      obtain ⟨xs,us,f,r,it⟩:=tup z hz'
      generalize z.1=kz at f
      cases f with
      | int i f =>
        cases r with
        | cons r1 r=>obtain ⟨t,rfl⟩:=r1; exact ⟨i,t,_,it⟩
    refine kat_kind (T:=.type "int") k1 (by omega) (fun v hv=>?_) rfl ?_
    · obtain ⟨i,t,rfl⟩:=k3 v hv
      exact Looks.now
    have et:(Value.type "int" != Value.type "tuple")=true:=by decide
    rw [et,List.length_map]
    have gz:∀ i,i < zs.length→(zs.map fun z=>Value.ref z.2).getD i Value.none=Value.ref (zs.getD i ([],0)).2:=fun i hi=>by simp [hi]
    have mz:∀ i,i < zs.length→zs.getD i ([],0) ∈ zs:=fun i hi=>by
      have:zs.getD i ([],0)=zs[i]:=by simp [hi]
      rw [this]; exact List.getElem_mem hi
    refine Sx.Sat.ask (n:=zs.length) (k:=fun i=>rankL (zs.map (·.1)) (zs.getD i ([],0)).1) (fun i j C hi hj hC=>?_) (fun pr hp=>?_) (Sx.sat_sort (by omega))
    · unfold kas_ask
      rw [gz i hi,gz j hj]
      obtain ⟨xs,us,f1,r1,i1⟩:=tup _ (mz i hi)
      obtain ⟨ys,ws,f2,r2,i2⟩:=tup _ (mz j hj)
      refine lt_flat (s:={ s with heap:=h' }) f1 f2 r1 r2 i1 i2 ?_
      rw [rankL_lt (List.mem_map_of_mem (mz i hi))] at hC
      exact hC
    · obtain ⟨hperm,hsort⟩:=sorted_items (d:=([],0)) (fun i=>rfl) hp.1 hp.2
      have plt:∀ i ∈ pr.toList,i < zs.length:=fun i hi=>by simpa using hp.1.mem_iff.mp hi
      have eo:(pr.toList.map fun i=>(zs.map fun z=>Value.ref z.2).getD i Value.none)=(pr.toList.map fun i=>zs.getD i ([],0)).map fun z=>Value.ref z.2:=by
        rw [List.map_map]
        exact List.map_congr_left fun i hi=>gz i (plt i hi)
      rw [eo]
      generalize (pr.toList.map fun i=>zs.getD i ([],0))=zs' at hperm hsort
      have hlen:zs'.length≤sizeLine:=small_le (m:=64) (by rw [hperm.length_eq]; omega)
      refine KasFin.intro F' N' (UpdF.head fun q hq=>Nat.ne_of_lt (hD q hq)) fun h'' c F'' N''=>?_
      obtain ⟨hn,I2⟩:=I.newsLaid (t':=s.toks) (o:=.lst (zs'.map refN)) F.ns F'' N'' hD ⟨by rw [List.length_map]; exact hlen,_,c,vals_refsN zs',(N'' _ List.mem_cons_self).1⟩
      exact ⟨.ref D,_,I2,rfl,q D zs' hn hperm hsort⟩
  · have hs:(zs.map fun z=>Value.ref z.2).length < 2:=by rw [List.length_map]; omega
    refine sorted_short pl.isList hs ?_
    obtain ⟨e,he⟩:=sortedAll_at s.heap (zs.map fun z=>Value.ref z.2) (zs.map fun z=>Value.ref z.2).toArray
    refine ⟨.ref (s.heap.objs.size+1),_,I.laid (t':=s.toks) (o:=.lst (zs.map refN)) (fun b o e=>sortedAll_old e) (Nat.le_succ _) ⟨by rw [List.length_map]; exact small_le (m:=64) (by omega),_,e,vals_refsN zs,by simpa [seqObj] using he⟩,rfl,q _ zs (I.hok.fresh (Nat.le_succ _)) (List.Perm.refl _) ?_⟩
    match zs,h2 with
    | [],_=>exact .nil
    | [z],_=>exact List.pairwise_singleton _ _
    | z :: w :: r,h2=>simp at h2
end
end L2
namespace L2
open PySem PySem.Spec PySem.Calls PyProof.Rows
open PySem.W (kla_fn kla_obj tabObj CodeHd)
theorem lam_enter {prog:Program} {w:World} {A:Around} {E:Value→Shared→Prop} {Q:Value→Shared→Prop} {s:Shared} {f c':Addr} {qual x:Str} {params:Arguments} {body:Expr} {scope:Scope} {clos:List (Str × Addr)} {pm ctv v:Value}
    (hroom:A.depth < recursionLimit) (ho:s.heap.get? f=some (kla_obj "<lambda>" qual params body scope clos pm c' ctv)) (hrec:s.heap.CodeRec (.ref c') qual) (hlim:s.heap.NoLimit)
    (hb:bindArgs (kla_fn "<lambda>" qual params body scope clos pm (.ref c') ctv) ⟨[v],[]⟩=pure [(x,v)])
    (hx:scope.names.lookup x=some .local) (hk:scope.kind = .function) (hco:scope.isCoroutine=false) (hgen:scope.isGenerator=false) (hcell:∀ z ∈ scope.names,z.2≠.cell)
    (h:∀ (env:Env) (h₁:Heap) (tk:Nat) (E':Value→Shared→Prop),env.scope=scope→env.cells=clos→s.heap.objs.size≤env.locals→h₁.Ns env.locals (fun z=>List.lookup z [(x,v)])→(∀ b o,s.heap.get? b=some o→h₁.get? b=some o) →
      wpAny (model prog w) (A.deeper env) (eval body env) Q E' { s with heap:=h₁,toks:=tk }) :
    wpAny (model prog w) A (call (.ref f) [v]) Q E s:=by
  refine wpAny_call (PySem.W.kla_callFunE hroom ho rfl hco hgen rfl hrec ?_)
  rw [hb]
  refine wpAny_pure (wpAny_newFunctionEnv hcell (fun z hz=>by rw [List.mem_singleton.mp hz]; exact hx) (fun h₁ hns hsb=>⟨hlim.fresh _ hsb,?_⟩) hk)
  have hk₁:∀ b o,s.heap.get? b=some o→h₁.get? b=some o:=fun b o e=>hsb.extBut b o (Nat.ne_of_lt (Heap.lt_size e)) (Heap.get?_push_of_some _ e)
  exact PySem.W.kla_codeExpr (h _ h₁ _ _ rfl rfl (Nat.le_refl _) hns hk₁)
def EvI (prog:Program) (w:World) (A:Around) (env:Env) (s:Shared) (h:Heap) (e:Expr) (i:Int):Prop :=
  ∀ (tk:Nat) (Q:Value→Shared→Prop) (E:Value→Shared→Prop),(∀ tk' t,Q (.int i t) { s with heap:=h,toks:=tk' })→wpAny (model prog w) A (eval e env) Q E { s with heap:=h,toks:=tk }
section
variable {prog:Program} {w:World} {A:Around} {env:Env} {s:Shared} {h:Heap} {a b:Expr} {i j:Int} {pos:Pos}
theorem EvI.const {k:Nat}:EvI prog w A env s h (.Constant (.int i) k pos) i:=fun _ _ _ q=>wpAny_Constant_int (q _ _)
theorem EvI.bin {op:Operator} {r:Int} (ha:EvI prog w A env s h a i) (hb:EvI prog w A env s h b j)
    (ho:∀ (tk:Nat) (t u:Tok) (Q:Value→Shared→Prop) (E:Value→Shared→Prop),(∀ tk' v,Q (.int r v) { s with heap:=h,toks:=tk' })→wpAny (model prog w) A (binaryOp op (.int i t) (.int j u)) Q E { s with heap:=h,toks:=tk }) :
    EvI prog w A env s h (.BinOp a op b pos) r:=fun tk Q E q=>wpAny_BinOp (ha tk _ _ fun _ _=>hb _ _ _ fun _ _=>ho _ _ _ _ _ q)
theorem EvI.add (ha:EvI prog w A env s h a i) (hb:EvI prog w A env s h b j):EvI prog w A env s h (.BinOp a .Add b pos) (i+j):=ha.bin hb fun _ _ _ _ _ q=>add_int (q _ _)
theorem EvI.mul (ha:EvI prog w A env s h a i) (hb:EvI prog w A env s h b j) (hc:CMul i j):EvI prog w A env s h (.BinOp a .Mult b pos) (i * j):=ha.bin hb fun _ _ _ _ _ q=>mul_int (q _ _) hc.ok
theorem EvI.mod (ha:EvI prog w A env s h a i) (hb:EvI prog w A env s h b j) (hc:0 < j):EvI prog w A env s h (.BinOp a .Mod b pos) (i % j):=ha.bin hb fun _ _ _ _ _ q=>by
  refine mod_int' (by omega) ?_
  rw [Int.fmod_eq_emod_of_nonneg i (by omega)]
  exact q _ _
theorem EvI.free {y:Str} {cl:Addr} {t:Tok} (hk:env.scope.kind = .function) (hy:env.scope.names.lookup y=some .free) (hcl:env.cells.lookup y=some cl) (hv:h.IsCell cl (some (.int i t))) (hdy:(y == ("__debug__":Str))=false:=by decide) (hdc:(y == ("__classdict__":Str))=false:=by decide) :
    EvI prog w A env s h (.Name y pos) i:=fun tk Q E q=>wpAny_Name (wpAny_loadName_free hk hy hcl (v:=.int i t) hv (q _ _) hdc) hdy
theorem EvI.tupix {x:Str} {b:Addr} {its:Array Value} {k:Nat} {t:Tok} {p1 p2:Pos} {n:Nat} (hk:env.scope.kind = .function) (hx:env.scope.names.lookup x=some .local) (hn:h.Ns env.locals (fun z=>List.lookup z [(x,Value.ref b)]))
    (ht:IsTup h b its) (hi:its[k]? = some (.int i t)) (hs:its.size≤sizeLine) (hdx:(x == ("__debug__":Str))=false:=by decide):EvI prog w A env s h (.Subscript (.Name x p1) (.Constant (.int k) n p2) pos) i:=by
  intro tk Q E q
  have hlt:k < its.size:=by
    by_cases z:k < its.size
    · exact z
    · rw [Array.getElem?_eq_none (by omega)] at hi; cases hi
  have hl:=line63
  refine Subscript_ (wpAny_Name (wpAny_loadName_local hk hx hn (v:=.ref b) ?_ ?_) hdx)
  · show List.lookup x [(x,Value.ref b)]=_
    rw [List.lookup_cons,beq_self_eq_true]
  refine wpAny_Constant_int ?_
  have ht':IsTup ({ s with heap:=h,toks:=tk }:Shared).heap b its:=ht
  refine subscriptTail_builtinR (x:=.int i t) (T:="tuple") ?_ slot_tuple_getitem.lookup (getItem_tuple (j:=k) (x:=.int i t) (Q:=fun r s'=>r = .int i t∧Q r s') ?_ (by omega) (by omega) ?_ hi ⟨rfl,q _ _⟩) (by with_unfolding_all rfl)
  · obtain ⟨o,e,c,r⟩:=ht
    exact ⟨o,e,c⟩
  · exact ht
  · unfold seqIndex?
    have h0:¬ ((k:Int) < 0):=by omega
    simp only [h0,if_false]
    simp [hlt]
end
def KeyI (scope : Scope) (x y : Str) (body : Expr) (C : Int → Int → Int → Prop) (g : Int → Int → Int → Int) : Prop :=
  ∀ {prog : Program} {w : World} {A : Around} {env : Env} {s : Shared} {h : Heap} {b cl : Addr} {its : Array Value} {i1 i2 z : Int} {t1 t2 t : Tok}, env.scope = scope → h.Ns env.locals (fun n => List.lookup n [(x, Value.ref b)]) → IsTup h b its → its.size ≤ sizeLine →
    its[0]? = some (.int i1 t1)→its[1]? = some (.int i2 t2)→env.cells.lookup y=some cl→h.IsCell cl (some (.int z t))→C i1 i2 z→EvI prog w A env s h body (g i1 i2 z)
def tSortI (Pt : Addr) (pos : Pos) (qual : Str) (j : Nat) (C : Int → Int → Int → Prop) (tx : TA) : TE := fun σ H Q => tx σ H fun v H1 =>
  ∃ (p : Addr) (xs : List V) (z : Int), v = [.ref p] ∧ H1 p = some (.lst xs) ∧ σ[j]? = some (some (.int z)) ∧ xs.length < 64 ∧ (∀ x ∈ xs, ∃ b i1 i2 r, x = .ref b ∧ H1 b = some (.tup (.int i1 :: .int i2 :: r)) ∧ C i1 i2 z) ∧ LamT Pt pos qual H1 ∧
    ∀ q ys H2,ys.Perm xs→H2 q=none→SameT Pt H1 H2→LamT Pt pos qual H2→Q (.ref q) (upd H2 q (.lst ys))
theorem vals_perm {xs:List V} {us ws:List Value} (r:Vals xs us) (h:ws.Perm us):∃ ys,ys.Perm xs∧Vals ys ws:=by
  induction h generalizing xs with
  | nil=>exact ⟨xs,.refl _,r⟩
  | cons x _ ih =>
    cases r with
    | cons r1 r =>
      obtain ⟨ys,h1,h2⟩:=ih r
      exact ⟨_ :: ys,h1.cons _,.cons r1 h2⟩
  | swap x y l =>
    cases r with
    | cons r1 r =>
      cases r with
      | cons r2 r=>exact ⟨_,.swap _ _ _,.cons r2 (.cons r1 r)⟩
  | trans _ _ ih1 ih2 =>
    obtain ⟨ys,h1,h2⟩:=ih2 r
    obtain ⟨zs,h3,h4⟩:=ih1 h2
    exact ⟨zs,h3.trans h1,h4⟩
section
variable {X:Cx} {c Pt:Addr} {e body:Expr} {tx:TA} {x y:Str} {j:Nat} {params:Arguments} {scope:Scope} {p0 lpos kpos pos:Pos} {C:Int→Int→Int→Prop} {g:Int→Int→Int→Int}
theorem pe_sortI (kb : KeyI scope x y body C g) (hcalm : X.calm = true) (hcode : X.env.code = .ref c) (C0 : CodeHd X.base c Pt) (B : X.base.BuiltinsAt X.mg Pt) (hroom : X.A.depth < recursionLimit)
    (hgl:Gl X "sorted") (hm:X.mg "sorted" = none) (hx:PA X [e] tx) (hN:X.N[j]? = some y) (hky:X.env.kindOf y=some .cell)
    (hs:backTo pos (starEach [e] X.env)=(false,eval e X.env) :: backTo pos (starEach [] X.env):=by rfl) (hpl:(backTo pos (starEach [e] X.env)).any (·.1)=false:=by rfl)
    (hdef:defaultsOf params X.env=([],[]):=by rfl)
    (hbind:∀ clos pm cdv ctv v,bindArgs (kla_fn "<lambda>" (X.env.qual ++ "<lambda>") params body scope clos pm cdv ctv) ⟨[v],[]⟩=pure [(x,v)]:=by intros; rfl)
    (hsx:scope.names.lookup x=some .local:=by rfl) (hsy:scope.names.lookup y=some .free:=by rfl) (hk:scope.kind = .function:=by rfl) (hco:scope.isCoroutine=false:=by rfl) (hgen:scope.isGenerator=false:=by rfl) (hcell:∀ z ∈ scope.names,z.2≠.cell:=by decide +kernel)
    (hfr:(scope.names.all fun y=>y.2 != .free || X.env.kindOf y.1 == some .cell || X.env.kindOf y.1 == some .free)=true:=by rfl) :
    PE X (.Call (.Name "sorted" p0) [e] [⟨some "key",.Lambda params body scope lpos,kpos⟩] pos) (tSortI Pt lpos (X.env.qual ++ "<lambda>") j C tx):=by
  intro pins s σ H Q I h
  refine wpAny_Call_Name_kw (ld_blt I hgl hm (u:=.builtin "sorted") BootT.sorted ?_)
  refine callWith_kw ?_ hs hpl
  refine thn (hx pos pins s σ H _ I h) fun us s1 ⟨vs,H1,I1,rv,q⟩=>?_
  obtain ⟨p,xs,z,rfl,hp,hj,h64,hin,hT,k⟩:=q
  obtain ⟨u,rfl,ru⟩:=vals1 rv
  cases ru
  show wpAny _ X.A (evalAll [do let v ← eval _ X.env; standAt pos; pure v]) _ _ s1
  refine wpAny_evalAll_cons (wpAny_bind (lam_make I1 hcode C0 B hdef (frees_of I1 hfr) hT fun f c' ctv h' tk H2 I2 hf hrec S2 T2 hk2=>wpAny_bind (wpAny_standAt (wpAny_pure (wpAny_evalAll_nil ?_)))))
  obtain ⟨ps,hPt⟩:=hT.tbl
  have hp2:=S2 p _ (fun z=>by rw [z,hPt] at hp; cases hp) hp
  obtain ⟨its,n1,rp,op,zp⟩:=I2.lst hp2
  obtain ⟨m,F2,N2⟩:=I2.frs
  have lp:=rp.length
  obtain ⟨my,hny,hlk⟩:=I2.loc
  obtain ⟨uy,ruy,lky⟩:=hlk j y (.int z) hN hj (.inr (.inl hky))
  obtain ⟨tz,rfl⟩:=ruy
  obtain ⟨cl,hcl,hcv⟩:∃ cl,X.env.cells.lookup y=some cl∧h'.IsCell cl (some (.int z tz)):=by
    rcases lky with ⟨z,_⟩ | ⟨_,cl,h1,h2⟩
    · rw [hky] at z; cases z
    · exact ⟨cl,h1,h2⟩
  have hclo:(clGo X.env.cells scope.names []).lookup y=some cl:=by
    obtain ⟨d,hd⟩:=clGo_has (cells:=X.env.cells) (x:=y) scope.names [] (.inl (mem_of_lookup hsy))
    have hd':=(clGo_lookup _ _ (frees_of I1 hfr) hd).resolve_right (by simp)
    rw [hcl] at hd'
    rw [hd,← hd']
  have kept:∀ (h:Heap) (own:List (Addr × Obj)),Fr X.base X.env.locals h m→News X.base X.env.locals h (allNews X.base h' X.env.locals ++ own)→∀ b o,b≠X.env.locals→h'.get? b=some o→h.get? b=some o:=fun h own F N b o h1 e=>by
    cases q:X.base.get? b with
    | some u =>
      have:=I2.bk b u q
      rw [e] at this; cases this
      exact F.keep b _ q
    | none=>exact (N (b,o) (List.mem_append_left _ (mem_allNews h1 q e))).1
  have nL:∀ b o,H2 b=some o→b≠X.env.locals:=fun b o e z=>by rw [z,I2.free] at e; cases e
  have fL:f≠X.env.locals:=fun z=>by
    obtain ⟨o,es,ep,e,d,_⟩:=F2.ns
    rw [← z] at e
    rw [e] at hf; cases hf; cases d
  have cL:c'≠X.env.locals:=fun z=>by
    obtain ⟨c2,o2,vs2,t2,e2,h2,d2,_⟩:=hrec
    cases e2
    obtain ⟨o,es,ep,e,d,_⟩:=F2.ns
    rw [← z] at e
    rw [e] at h2; cases h2; rw [d] at d2; cases d2
  have clL:cl≠X.env.locals:=I2.cne y cl hcl
  -- the items
  have item:∀ (i:Nat) (v:Value),its[i]? = some v→∃ b i1 i2 us t1 t2,v=Value.ref b∧H2 b≠none∧IsTup h' b (Value.int i1 t1 :: Value.int i2 t2 :: us).toArray∧us.length+2≤sizeLine∧C i1 i2 z:=fun i v hv=>by
    have hi:i < its.length:=(List.getElem?_eq_some_iff.mp hv).1
    obtain ⟨xv,hxv⟩:∃ xv,xs[i]? = some xv:=⟨_,List.getElem?_eq_getElem (by omega)⟩
    obtain ⟨v',hv',rv'⟩:=rp.get hxv
    rw [hv] at hv'; cases hv'
    obtain ⟨b,i1,i2,r,rfl,hb,hC⟩:=hin xv (List.mem_of_getElem? hxv)
    cases rv'
    have hb2:=S2 b _ (fun z=>by rw [z,hPt] at hb; cases hb) hb
    obtain ⟨ts,rr,it,hz⟩:=I2.tuple (.of hb2)
    cases rr with
    | cons r1 rr =>
      cases rr with
      | cons r2 rr =>
        obtain ⟨t1,rfl⟩:=r1
        obtain ⟨t2,rfl⟩:=r2
        refine ⟨b,i1,i2,_,t1,t2,rfl,by rw [hb2]; simp,it,?_,hC⟩
        have:=rr.length
        simp at hz
        omega
  have key:∃ kz:List Int,kz.length=its.length∧∀ (i:Nat) (v:Value) (kv:Int),its[i]? = some v→kz[i]? = some kv→∃ b i1 i2 us t1 t2,v=Value.ref b∧H2 b≠none∧IsTup h' b (Value.int i1 t1 :: Value.int i2 t2 :: us).toArray∧us.length+2≤sizeLine∧C i1 i2 z∧kv=g i1 i2 z:=by
    have:∀ l:List Value,(∀ v ∈ l,∃ b i1 i2 us t1 t2,v=Value.ref b∧H2 b≠none∧IsTup h' b (Value.int i1 t1 :: Value.int i2 t2 :: us).toArray∧us.length+2≤sizeLine∧C i1 i2 z)→∃ kz:List Int,kz.length=l.length∧∀ (i:Nat) (v:Value) (kv:Int),l[i]? = some v→kz[i]? = some kv→∃ b i1 i2 us t1 t2,v=Value.ref b∧H2 b≠none∧IsTup h' b (Value.int i1 t1 :: Value.int i2 t2 :: us).toArray∧us.length+2≤sizeLine∧C i1 i2 z∧kv=g i1 i2 z:=by
      intro l
      induction l with
      | nil=>exact fun _=>⟨[],rfl,fun i v kv hv=>by simp at hv⟩
      | cons v l ih =>
        intro hl
        obtain ⟨kz,h1,h2⟩:=ih fun v' hv'=>hl v' (List.mem_cons_of_mem _ hv')
        obtain ⟨b,i1,i2,us,t1,t2,e1,e2,e3,e4,e5⟩:=hl v List.mem_cons_self
        refine ⟨g i1 i2 z :: kz,by simp [h1],fun i v' kv hv hkv=>?_⟩
        cases i with
        | zero=>simp at hv hkv; subst hv; exact ⟨b,i1,i2,us,t1,t2,e1,e2,e3,e4,e5,hkv.symm⟩
        | succ i=>exact h2 i v' kv (by simpa using hv) (by simpa using hkv)
    exact this its fun v hv=>by
      obtain ⟨i,hi,e⟩:=List.getElem_of_mem hv
      exact item i v (by rw [List.getElem?_eq_getElem hi,e])
  obtain ⟨kz,kl,kall⟩:=key
  refine PySem.wpAny_mono (ksk_sorted (s:={ s1 with heap:=h',toks:=tk }) (h₀:=X.base) (L:=X.env.locals) (m:=m) (news:=allNews X.base h' X.env.locals) (l:=p) (b:=false) (f:=.ref f) (vs:=its) (kz:=kz) F2 N2 ⟨_,op,rfl,_,rfl⟩ kl (by omega) (ksk_s1 _ _) (fun _=>ksk_l1 _ _) (fun _=>ksk_t1 _ _)
    (fun i v kv hv hkv h tk' own F N=>?_) fun D h'' tk' out c'' F N hD ho=>?_) (fun _ _ z=>z) fun _ _ z=>z
  · obtain ⟨b,i1,i2,us,t1,t2,rfl,hb,it,hsz,hC,rfl⟩:=kall i v kv hv hkv
    have kk:=kept h own F N
    have bL:b≠X.env.locals:=fun z=>by rw [z] at hb; exact hb I2.free
    refine lam_enter (s:={ s1 with heap:=h,toks:=tk' }) (by exact hroom) (kk f _ fL hf) ?_ (I2.mod.nolimit.keeps F.keep) (hbind _ _ _ _ _) hsx hk hco hgen hcell fun env h3 tk3 E' e1 e2 e3 hns hk3=>?_
    · obtain ⟨c2,o2,vs2,t2',e2,h2,d2⟩:=hrec
      cases e2
      exact ⟨c',o2,vs2,t2',rfl,kk _ _ cL h2,d2⟩
    · refine kb (s:={ s1 with heap:=h,toks:=tk' }) (its:=(Value.int i1 t1 :: Value.int i2 t2 :: us).toArray) (i1:=i1) (i2:=i2) (t1:=t1) (t2:=t2) (t:=tz) (z:=z) (cl:=cl) e1 hns ?_ (by simp; omega) (by simp) (by simp) (by rw [e2]; exact hclo) ?_ hC _ _ _ fun tk4 t4=>?_
      · obtain ⟨o,e,r⟩:=it
        exact ⟨o,hk3 _ _ (kk _ _ bL e),r⟩
      · obtain ⟨o,e,d⟩:=hcv
        exact ⟨o,hk3 _ _ (kk _ _ clL e),d⟩
      · exact ⟨h3,tk4,t4,rfl,rfl,⟨F.ns.keeps hk3,fun b o e=>hk3 _ _ (F.keep b o e),F.above⟩,fun p hp=>⟨hk3 _ _ (N p hp).1,(N p hp).2⟩⟩
  · obtain ⟨prs,hp1,ho1,_⟩:=ho
    have hperm:out.toList.Perm its:=by
      rw [ho1]
      have:=hp1.map Prod.snd
      rwa [List.map_snd_zip (by omega)] at this
    obtain ⟨ys,hy1,hy2⟩:=vals_perm rp hperm
    obtain ⟨hn,I3⟩:=I2.newsLaid (t':=tk') (o:=.lst ys) F2.ns F N hD ⟨small_le (m:=64) (by rw [hy1.length_eq]; omega),out.toList,c'',hy2,by have:=(N _ List.mem_cons_self).1; simpa [seqObj] using this⟩
    exact ⟨.ref D,_,I3,rfl,k D ys H2 hy1 hn S2 T2⟩
end
end L2
namespace L2
open PySem PySem.Spec PySem.Calls PyProof.Rows PySem.W
theorem lexL_eq:∀ x y:List Int,lexL x y=HT.lexLt x y
  | [],[]=>rfl
  | [],_ :: _=>rfl
  | _ :: _,[]=>rfl
  | x :: xs,y :: ys=>by unfold lexL; rw [HT.lexLt_cons,lexL_eq xs ys]
def kyObj (z:Zn) (t:Tok):Obj:=seqObj "tuple" #[.int (z.1.headD 0) t,.ref z.2] 0
section
variable {prog:Program} {w:World} {A:Around} {s:Shared} {Q:Bool→Shared→Prop}
theorem lt_keyW {k1 k2 b1 b2 : Addr} {w1 w2 x1 y1 x2 y2 : Int} {t1 t2 ta tb tc td : Tok} {E : Value → Shared → Prop} (hx : IsTup s.heap k1 #[.int w1 t1, .ref b1]) (hy : IsTup s.heap k2 #[.int w2 t2, .ref b2])
    (hb1:IsTup s.heap b1 #[.int x1 ta,.int y1 tb]) (hb2:IsTup s.heap b2 #[.int x2 tc,.int y2 td]) (hu:A.units < cLine) (h:Q (lexL [w1,x1,y1] [w2,x2,y2]) s):wpAny (model prog w) A (keyLt' (tuples' true) (.ref k1) (.ref k2)) Q E s:=by
  obtain ⟨ox,ex,cx,nx,dx⟩:=hx
  obtain ⟨oy,ey,cy,ny,dy⟩:=hy
  refine kat_lt ex dx ey dy ?_
  have ez:(#[Value.int w1 t1,Value.ref b1].toList.zip #[Value.int w2 t2,Value.ref b2].toList)=[(.int w1 t1,.int w2 t2),(.ref b1,.ref b2)]:=rfl
  rw [ez]
  refine kat_cons (SeqAt.EqAt.int_int w1 t1 w2 t2 _ _ _ _ ?_)
  unfold lexL at h
  by_cases e:w1=w2
  · rw [if_pos e] at h
    rw [show (w1 == w2)=true by simpa using e]
    by_cases eb:b1=b2
    · subst eb
      refine kat_yes (kat_cons (SeqAt.EqAt.same _ _ _ _ _ (kat_yes (kat_nil ?_))))
      have:x1=x2∧y1=y2:=by
        obtain ⟨o,e1,_,n,d1⟩:=hb1
        obtain ⟨o',e2,_,n',d2⟩:=hb2
        rw [e1] at e2; cases e2
        rw [d1] at d2
        simp at d2
        exact ⟨d2.1.1.1,d2.1.2.1⟩
      rw [this.1,this.2,lexL_self] at h
      exact h
    · have rc:SeqAt.RcAt A s (.ref b1) (.ref b2) ((List.range (min 2 2)).all (fun j=>if j=0 then x1 == x2 else y1 == y2) && (2 == 2)):=SeqAt.RcAt.tuples (items:=#[.int x1 ta,.int y1 tb]) (items2:=#[.int x2 tc,.int y2 td]) hb1 hb2 hu fun j h1 h2=>by
        match j,h1,h2 with
        | 0,_,_=>exact SeqAt.EqAt.int_int x1 ta x2 tc
        | 1,_,_=>exact SeqAt.EqAt.int_int y1 tb y2 td
        | j+2,h1,_=>exact absurd h1 (by simp)
      have er:((List.range (min 2 2)).all (fun j=>if j=0 then x1 == x2 else y1 == y2) && (2 == 2))=(x1 == x2 && y1 == y2):=by
        show ([0,1].all _ && true)=_
        simp
      rw [er] at rc
      refine kat_yes (kat_cons (SeqAt.EqAt.of_refs eb rc _ _ _ _ ?_))
      by_cases c1:x1=x2∧y1=y2
      · rw [show (x1 == x2 && y1 == y2)=true by simp [c1]]
        refine kat_yes (kat_nil ?_)
        rw [c1.1,c1.2,lexL_self] at h
        exact h
      · rw [show (x1 == x2 && y1 == y2)=false by
          cases q:(x1 == x2 && y1 == y2) with
          | false=>rfl
          | true=>simp at q; exact absurd q c1]
        refine kat_no (kat_one _ _ (HT.lt_tupInts hb1 hb2 (.cons _ _ (.cons _ _ .nil)) (.cons _ _ (.cons _ _ .nil)) hu ?_))
        rw [lexL_eq] at h
        exact h
  · rw [if_neg e] at h
    rw [show (w1 == w2)=false by simpa using e]
    exact kat_no (oneLt_int h)
end
section
variable {P:Program} {w:World} {A:Around} {env:Env} {s:Shared} {h:Heap} {H:Hp}
theorem key_eval {x y:Str} {b d cl:Addr} {wt:Int} {tk:Nat} {p1 p2 p3 p4 p5:Pos} {x1} {Q:Value→Shared→Prop} {E:Value→Shared→Prop} (hok:HOk P w H h) (hk:env.scope.kind = .function) (hx:env.scope.names.lookup x=some .local) (hy:env.scope.names.lookup y=some .free) (hn:h.Ns env.locals (fun z=>List.lookup z [(x,Value.ref b)]))
    (hcl:env.cells.lookup y=some cl) (hcv:h.IsCell cl (some (.ref d))) {wvs:List (List Key × V)} {k:List Key} (hd:H d=some (.dT wvs)) (hb:H b=some (.tup (k.map kV))) (hv:valV wvs k=some (.int wt)) (hu:A.units+64 < cLine)
    (q:∀ t tk',Q (.ref h.objs.size) { s with heap:=h.push (seqObj "tuple" #[.int wt t,.ref b] 0),toks:=tk' })
    (hdx:(x == ("__debug__":Str))=false:=by decide) (hdy:(y == ("__debug__":Str))=false:=by decide) (hdc:(y == ("__classdict__":Str))=false:=by decide) :
    wpAny (model P w) A (eval (.Tuple [.Subscript (.Name y p1) (.Name x p2) p3,.Name x p4] x1 p5) env) Q E { s with heap:=h,toks:=tk }:=by
  have lx:List.lookup x [(x,Value.ref b)]=some (Value.ref b):=by rw [List.lookup_cons,beq_self_eq_true]
  refine wpAny_Tuple_spliced (Calls.spliced_cons (Subscript_ (wpAny_Name (wpAny_loadName_free hk hy hcl (v:=.ref d) hcv ?_ hdc) hdy)))
  refine wpAny_Name (wpAny_loadName_local hk hx hn (v:=.ref b) lx ?_) hdx
  obtain ⟨z,hm,xs,rel,dd⟩:=dt_rd hok (.inl hd)
  obtain ⟨w',hw,rw'⟩:=RelO.some_of (v:=V.int wt) (o:=(atKey xs k).map (·.2)) (by rw [← hv]; exact rel.val k)
  obtain ⟨t,rfl⟩:=rw'
  obtain ⟨p,hp,hp2⟩:=Option.map_eq_some_iff.mp hw
  have ty:({ s with heap:=h,toks:=tk }:Shared).TypeIs (.ref d) "dict":=by
    obtain ⟨o,es,ep,e1,e2,_⟩:=dd
    exact ⟨o,e1,e2.1⟩
  refine tail_any ty PySem.F.slot_dict_getitem.lookup (wpAny_getItem_heap (tupleKind_room_in1 (by omega)) (key_of hok hb) dd hp ?_) rfl
  rw [hp2]
  refine Calls.spliced_cons (wpAny_Name (wpAny_loadName_local hk hx hn (v:=.ref b) lx (Calls.spliced_nil ⟨?_,q t _⟩)) hdx)
  exact small_le (m:=2) (Nat.le_refl 2)
end
end L2
namespace L2
open PySem PySem.Spec PySem.Calls PyProof.Rows PySem.W
def KyRel (own:List (Addr × Obj)) (zs:List Zn) (ks:List Addr):Prop:=Paired (fun (z:Zn) (k:Addr)=>∃ t,(k,kyObj z t) ∈ own) zs ks
theorem paired_snoc {α β:Type} {R:α→β→Prop} {a:α} {b:β} (r:R a b):∀ {xs:List α} {ys:List β},Paired R xs ys→Paired R (xs ++ [a]) (ys ++ [b])
  | _,_,.nil=>.cons r .nil
  | _,_,.cons h t=>.cons h (paired_snoc r t)
theorem paired_len {α β:Type} {R:α→β→Prop}:∀ {xs:List α} {ys:List β},Paired R xs ys→ys.length=xs.length
  | _,_,.nil=>rfl
  | _,_,.cons _ t=>by simp [paired_len t]
theorem paired_get {α β:Type} {R:α→β→Prop}:∀ {xs:List α} {ys:List β},Paired R xs ys→∀ (i:Nat) (a:α),xs[i]? = some a→∃ b,ys[i]? = some b∧R a b
  | _,_,.nil,_,_,h=>by simp at h
  | _,_,.cons r t,0,a,h=>by simp at h; subst h; exact ⟨_,rfl,r⟩
  | _,_,.cons r t,i+1,a,h=>by simpa using paired_get t i a (by simpa using h)
section
variable {prog:Program} {w:World} {A:Around} {s:Shared} {h₀:Heap} {L a kS:Addr} {m:Str→Option Value} {news:List (Addr × Obj)} {f:Value} {e1:Nat} {zs:List Zn} {Fin:List Value→Nat→Shared→Prop}
theorem keysW (turn : ∀ z ∈ zs, ∀ (h : Heap) (tk : Nat) (own : List (Addr × Obj)), Fr h₀ L h m → News h₀ L h (news ++ own) → ∀ Q : Value → Shared → Prop,
      (∀ h' tk' t k,(∀ b o,h.get? b=some o→h'.get? b=some o)→h.get? k=none→h'.get? k=some (kyObj z t)→Q (.ref k) { s with heap:=h',toks:=tk' })→wpAny (model prog w) A (call f [.ref z.2]) Q (fun _ _=>False) { s with heap:=h,toks:=tk })
    (hak:a≠kS):∀ (r done:List Zn) (ks:List Addr) (own:List (Addr × Obj)) (e:Nat) (h:Heap) (tk:Nat),Fr h₀ L h m→News h₀ L h ((kS,seqObj "list" (ks.map Value.ref).toArray e) :: (a,seqObj "list" #[] e1) :: (own ++ news))→(∀ q ∈ own ++ news,q.1≠kS)→KyRel own done ks→(∀ z ∈ r,z ∈ zs) →
      (∀ own' ks' e' h' tk',Fr h₀ L h' m→News h₀ L h' ((kS,seqObj "list" (ks'.map Value.ref).toArray e') :: (a,seqObj "list" #[] e1) :: (own' ++ news))→(∀ q ∈ own' ++ news,q.1≠kS)→KyRel own' (done ++ r) ks'→Fin (ks'.map Value.ref) e' { s with heap:=h',toks:=tk' }) →
      KatKeys prog w A h₀ L m kS f Fin (r.map fun z=>Value.ref z.2) (ks.map Value.ref) e { s with heap:=h,toks:=tk }
  | [],done,ks,own,e,h,tk,F,N,hk,rel,hr,fin=>KatKeys.nil (fin own ks e h tk F N hk (by rw [List.append_nil]; exact rel))
  | z :: r, done, ks, own, e, h, tk, F, N, hk, rel, hr, fin => by
    have nk:=N _ List.mem_cons_self
    refine KatKeys.cons (turn z (hr z List.mem_cons_self) h tk ((kS,seqObj "list" (ks.map Value.ref).toArray e) :: (a,seqObj "list" #[] e1) :: own) F (fun p hp=>N p ?_) _ fun h' tk' t k keep kn hkk=>?_)
    · rcases List.mem_append.mp hp with hp | hp
      · exact List.mem_cons_of_mem _ (List.mem_cons_of_mem _ (List.mem_append_right _ hp))
      · rcases List.mem_cons.mp hp with hp | hp
        · exact hp ▸ List.mem_cons_self
        · rcases List.mem_cons.mp hp with hp | hp
          · exact hp ▸ List.mem_cons_of_mem _ List.mem_cons_self
          · exact List.mem_cons_of_mem _ (List.mem_cons_of_mem _ (List.mem_append_left _ hp))
    have F':Fr h₀ L h' m:=F.kept keep
    have N':=N.grown keep
    have kL:k≠L:=fun q=>by
      obtain ⟨o,_,_,e,_⟩:=F.ns
      rw [q,e] at kn; cases kn
    have k0:h₀.get? k=none:=by
      cases q:h₀.get? k with
      | none=>rfl
      | some o=>rw [F.keep k o q] at kn; cases kn
    have kk:k≠kS:=fun q=>by rw [q,nk.1] at kn; cases kn
    have hk':∀ q ∈ (k,kyObj z t) :: own ++ news,q.1≠kS:=fun q hq=>by
      rcases List.mem_cons.mp hq with rfl | hq
      · exact kk
      · exact hk q hq
    have N2:News h₀ L h' ((kS,seqObj "list" (ks.map Value.ref).toArray e) :: (a,seqObj "list" #[] e1) :: ((k,kyObj z t) :: own ++ news)):=fun p hp=>by
      rcases List.mem_cons.mp hp with rfl | hp
      · exact N' _ List.mem_cons_self
      · rcases List.mem_cons.mp hp with rfl | hp
        · exact N' _ (List.mem_cons_of_mem _ List.mem_cons_self)
        · rcases List.mem_cons.mp hp with rfl | hp
          · exact ⟨hkk,kL,k0⟩
          · exact N' p (List.mem_cons_of_mem _ (List.mem_cons_of_mem _ hp))
    refine KatBack.intro F' N2 (UpdF.head fun q hq=>?_) fun h2 c F2 N3=>?_
    · rcases List.mem_cons.mp hq with rfl | hq
      · exact hak
      · exact hk' q hq
    have em:ks.map Value.ref ++ [Value.ref k]=(ks ++ [k]).map Value.ref:=by simp
    rw [em] at N3 ⊢
    exact keysW turn hak r (done ++ [z]) (ks ++ [k]) ((k,kyObj z t) :: own) c h2 tk' F2 N3 hk' (paired_snoc ⟨t,List.mem_cons_self⟩ (Paired.mapP rel fun z' k' ⟨t',ht⟩=>⟨t',List.mem_cons_of_mem _ ht⟩))
      (fun z' hz'=>hr z' (List.mem_cons_of_mem _ hz')) fun own' ks' e' h3 tk3 F3 N4 hk3 rel3=>fin own' ks' e' h3 tk3 F3 N4 hk3 (by rw [List.append_assoc] at rel3; exact rel3)
end
section
variable {prog:Program} {w:World} {A:Around} {s:Shared} {h₀:Heap} {L a kS:Addr} {m:Str→Option Value} {news own:List (Addr × Obj)} {e e1:Nat} {zs:List Zn} {ks:List Addr} {Post:Shared→Prop}
theorem sortW_rest (F:Fr h₀ L s.heap m) (N:News h₀ L s.heap ((kS,seqObj "list" (ks.map Value.ref).toArray e) :: (a,seqObj "list" #[] e1) :: (own ++ news))) (hk:∀ q ∈ own ++ news,q.1≠kS) (hak:a≠kS) (hna:∀ q ∈ news,q.1≠a)
    (rel:KyRel own zs ks) (h2:2≤zs.length) (hu:A.units < cLine) (tie:∀ z ∈ zs,∃ v x y t u,z.1=[v,x,y]∧IsTup s.heap z.2 #[.int x t,.int y u])
    (fin:∀ h' c (zs':List Zn),zs'.Perm zs→zs'.Pairwise (fun z w=>lexL w.1 z.1=false)→Fr h₀ L h' m→News h₀ L h' ((a,seqObj "list" (zs'.map fun z=>Value.ref z.2).toArray c) :: news)→Post { s with heap:=h' }) :
    wpAny (model prog w) A (keyKind' (ks.map Value.ref).toArray) (fun κ s''=>(kas_sort (zs.map fun z=>Value.ref z.2).length).kasWp (kas_ask prog w A κ (katRev false (ks.map Value.ref))) (fun p s3=>KatFin h₀ L m kS a (ks.map Value.ref) e e1 (katRev false (p.toList.map fun i=>(katRev false (zs.map fun z=>Value.ref z.2)).getD i Value.none)) (fun s4=>Post s4) s3) s'') (fun _ _=>False) s:=by
  have kl:=paired_len rel
  have at_:∀ (z:Zn) (k:Addr) (t:Tok),(k,kyObj z t) ∈ own→IsTup s.heap k #[.int (z.1.headD 0) t,.ref z.2]:=fun z k t hm=>by
    have:=(N _ (List.mem_cons_of_mem _ (List.mem_cons_of_mem _ (List.mem_append_left _ hm)))).1
    exact ⟨_,this,rfl,0,rfl⟩
  have kt:∀ {zs:List Zn} {ks:List Addr},KyRel own zs ks→∃ fs,KatTups s.heap (ks.map Value.ref) fs∧fs.length=zs.length∧∀ v ∈ fs,∃ i t,v=Value.int i t:=by
    intro zs ks rel
    induction rel with
    | nil=>exact ⟨[],.nil,rfl,fun _ h=>nomatch h⟩
    | cons r _ ih =>
      obtain ⟨fs,f1,f2,f3⟩:=ih
      obtain ⟨t,ht⟩:=r
      obtain ⟨o,e,c,n,d⟩:=at_ _ _ t ht
      refine ⟨.int _ t :: fs,KatTups.cons e c d (by rfl) f1,by simp [f2],fun v hv=>?_⟩
      rcases List.mem_cons.mp hv with rfl | hv
      · exact ⟨_,t,rfl⟩
      · exact f3 v hv
  obtain ⟨fs,f1,f2,f3⟩:=kt rel
  refine kat_kind (T:=.type "int") f1 (by omega) (fun v hv=>?_) rfl ?_
  · obtain ⟨i,t,rfl⟩:=f3 v hv
    exact Looks.now
  have et:(Value.type "int" != Value.type "tuple")=true:=by decide
  rw [et,List.length_map]
  have rv:∀ {α:Type} (l:List α),katRev false l=l:=fun l=>by unfold katRev; rw [if_neg (by simp)]
  simp only [rv]
  have gz:∀ i,i < zs.length→(zs.map fun z=>Value.ref z.2).getD i Value.none=Value.ref (zs.getD i ([],0)).2:=fun i hi=>by simp [hi]
  have mz:∀ i,i < zs.length→zs.getD i ([],0) ∈ zs:=fun i hi=>by
    have:zs.getD i ([],0)=zs[i]:=by simp [hi]
    rw [this]; exact List.getElem_mem hi
  have gk:∀ i,i < zs.length→∃ k t,(ks.map Value.ref).getD i Value.none=Value.ref k∧IsTup s.heap k #[.int ((zs.getD i ([],0)).1.headD 0) t,.ref (zs.getD i ([],0)).2]:=fun i hi=>by
    obtain ⟨k,hk1,t,ht⟩:=paired_get rel i _ (by rw [List.getElem?_eq_getElem hi])
    have:zs.getD i ([],0)=zs[i]:=by simp [hi]
    rw [this]
    exact ⟨k,t,by simp [hk1],at_ _ _ _ ht⟩
  refine Sx.Sat.ask (n:=zs.length) (k:=fun i=>rankL (zs.map (·.1)) (zs.getD i ([],0)).1) (fun i j C hi hj hC=>?_) (fun pr hp=>?_) (Sx.sat_sort (by omega))
  · unfold kas_ask
    obtain ⟨k1,t1,q1,i1⟩:=gk i hi
    obtain ⟨k2,t2,q2,i2⟩:=gk j hj
    rw [q1,q2]
    have hC':C (lexL (zs.getD i ([],0)).1 (zs.getD j ([],0)).1) s:=by
      rw [rankL_lt (List.mem_map_of_mem (mz i hi))] at hC
      exact hC
    obtain ⟨v1,x1,y1,ta,tb,z1,b1⟩:=tie _ (mz i hi)
    obtain ⟨v2,x2,y2,tc,td,z2,b2⟩:=tie _ (mz j hj)
    rw [z1,z2] at hC'
    rw [z1] at i1
    rw [z2] at i2
    exact lt_keyW i1 i2 b1 b2 hu hC'
  · obtain ⟨hperm,hsort⟩:=sorted_items (d:=([],0)) (fun i=>rfl) hp.1 hp.2
    have plt:∀ i ∈ pr.toList,i < zs.length:=fun i hi=>by simpa using hp.1.mem_iff.mp hi
    have eo:(pr.toList.map fun i=>(zs.map fun z=>Value.ref z.2).getD i Value.none)=(pr.toList.map fun i=>zs.getD i ([],0)).map fun z=>Value.ref z.2:=by
      rw [List.map_map]
      exact List.map_congr_left fun i hi=>gz i (plt i hi)
    rw [eo]
    generalize (pr.toList.map fun i=>zs.getD i ([],0))=zs' at hperm hsort
    refine KatFin.intro F N (UpdF.head fun q hq=>?_) fun h' c F' N'=>?_
    · rcases List.mem_cons.mp hq with rfl | hq
      · exact hak
      · exact hk q hq
    have N2:News h₀ L h' ((a,seqObj "list" #[] e1) :: news):=fun p hp=>by
      rcases List.mem_cons.mp hp with rfl | hp
      · exact N' _ (List.mem_cons_of_mem _ List.mem_cons_self)
      · exact N' p (List.mem_cons_of_mem _ (List.mem_cons_of_mem _ (List.mem_append_right _ hp)))
    exact KasFin.intro (s:={ s with heap:=h' }) F' N2 (UpdF.head fun q hq=>hna q hq) fun h'' c' F'' N''=>fin h'' c' zs' hperm hsort F'' N''
end
end L2
namespace L2
open PySem PySem.Spec PySem.Calls PyProof.Rows PySem.W
section
variable {prog:Program} {w:World} {A:Around} {E:Value→Shared→Prop} {s:Shared} {h₀:Heap} {L a:Addr} {m:Str→Option Value} {news:List (Addr × Obj)} {f:Value} {n:Nat} {vs:List Value} {P:PySem.Fin→Shared→Prop}
theorem key_short (F : Fr h₀ L s.heap m) (N : News h₀ L s.heap news) (ho : s.heap.get? a = some (seqObj "list" vs.toArray n)) (haL : a ≠ L) (ha0 : h₀.get? a = none) (hna : ∀ p ∈ news, p.1 ≠ a) (h1 : vs.length < 2)
    (turn:∀ v ∈ vs,∀ (h:Heap) (tk:Nat) (own:List (Addr × Obj)),Fr h₀ L h m→News h₀ L h (news ++ own)→∀ Q:Value→Shared→Prop,
      (∀ h' tk' k,(∀ b o,h.get? b=some o→h'.get? b=some o)→Q k { s with heap:=h',toks:=tk' })→wpAny (model prog w) A (call f [v]) Q (fun _ _=>False) { s with heap:=h,toks:=tk })
    (q:∀ h' tk c,Fr h₀ L h' m→News h₀ L h' ((a,seqObj "list" vs.toArray c) :: news)→P (.done (.ret .none)) { s with heap:=h',toks:=tk }):wpAny (model prog w) A (ksk_tree a f false) P E s:=by
  have hz:vs.length≤sizeLine:=small_le (m:=2) (by omega)
  have s1:=Heap.SameBut.update s.heap a (Obj.mapSeq fun _=>(#[]:Array Value))
  obtain ⟨e1,g1⟩:∃ c,(s.heap.update a (Obj.mapSeq fun _=>(#[]:Array Value))).get? a=some (seqObj "list" #[] c):=⟨_,get?_update_seq ho fun _=>#[]⟩
  have F1:Fr h₀ L (s.heap.update a (Obj.mapSeq fun _=>(#[]:Array Value))) m:=ksk_fr F s1 haL ha0
  have N1:=ksk_news N s1 hna
  unfold ksk_tree
  refine wpAny_bind (listItems_at ho rfl (wpAny_bind (listUpdate_at ho rfl (wpAny_bind (seqEpoch_at g1 rfl (wpAny_bind (wpAny_newTuple (wpAny_bind (wpAny_newList (wpAny_holding ?_) (Nat.zero_le _))) hz)))) (by rw [List.size_toArray]; exact hz) (Nat.zero_le _))))
  have k2:∀ b o,(s.heap.update a (Obj.mapSeq fun _=>(#[]:Array Value))).get? b=some o→(((s.heap.update a (Obj.mapSeq fun _=>(#[]:Array Value))).push (seqObj "tuple" vs.toArray 0)).push (seqObj "list" #[] 0)).get? b=some o:=fun b o e=>Heap.get?_push_of_some _ (Heap.get?_push_of_some _ e)
  have gk:(((s.heap.update a (Obj.mapSeq fun _=>(#[]:Array Value))).push (seqObj "tuple" vs.toArray 0)).push (seqObj "list" #[] 0)).get? ((s.heap.update a (Obj.mapSeq fun _=>(#[]:Array Value))).push (seqObj "tuple" vs.toArray 0)).objs.size=some (seqObj "list" #[] 0):=Heap.get?_push_size _ rfl
  have kfr:∀ b o,(s.heap.update a (Obj.mapSeq fun _=>(#[]:Array Value))).get? b=some o→b≠((s.heap.update a (Obj.mapSeq fun _=>(#[]:Array Value))).push (seqObj "tuple" vs.toArray 0)).objs.size:=fun b o e=>Nat.ne_of_lt (Heap.lt_size (Heap.get?_push_of_some (seqObj "tuple" vs.toArray 0) e))
  show wpAny (model prog w) A (ksk_rest a f false vs.toArray _ (.ref ((s.heap.update a (Obj.mapSeq fun _=>(#[]:Array Value))).push (seqObj "tuple" vs.toArray 0)).objs.size)) _ _ { s with heap:=((s.heap.update a (Obj.mapSeq fun _=>(#[]:Array Value))).push (seqObj "tuple" vs.toArray 0)).push (seqObj "list" #[] 0) }
  generalize ((s.heap.update a (Obj.mapSeq fun _=>(#[]:Array Value))).push (seqObj "tuple" vs.toArray 0)).objs.size=kS at gk kfr
  generalize ((s.heap.update a (Obj.mapSeq fun _=>(#[]:Array Value))).push (seqObj "tuple" vs.toArray 0)).push (seqObj "list" #[] 0)=h2 at k2 gk
  have hak:a≠kS:=kfr a _ g1
  have hnk:∀ p ∈ news,p.1≠kS:=fun p hp=>kfr _ _ (N1 p hp).1
  have kL:kS≠L:=fun z=>by
    obtain ⟨o,_,_,e,_⟩:=F1.ns
    exact kfr _ _ e z.symm
  have k0:h₀.get? kS=none:=by
    cases z:h₀.get? kS with
    | none=>rfl
    | some o=>exact absurd rfl (kfr _ _ (F1.keep kS o z))
  have F2:=F1.kept k2
  have N2:News h₀ L h2 ((kS,seqObj "list" #[] 0) :: (a,seqObj "list" #[] e1) :: news):=fun p hp=>by
    rcases List.mem_cons.mp hp with rfl | hp
    · exact ⟨gk,kL,k0⟩
    · rcases List.mem_cons.mp hp with rfl | hp
      · exact ⟨k2 _ _ g1,haL,ha0⟩
      · exact (N1.grown k2) p hp
  have end_:∀ (ks:List Value) (e:Nat) (h:Heap) (tk:Nat),ks.length=vs.length→Fr h₀ L h m→News h₀ L h ((kS,seqObj "list" ks.toArray e) :: (a,seqObj "list" #[] e1) :: news)→wpAny (model prog w) A (ksk_end a false vs.toArray e1 (.ref kS) ks.toArray) P E { s with heap:=h,toks:=tk }:=by
    intro ks e h tk hl F3 N3
    have hn2:vs.toArray.size < 2:=by rw [List.size_toArray]; exact h1
    unfold ksk_end
    simp only [Bool.false_eq_true,if_false]
    rw [if_pos hn2,if_pos hn2]
    refine wpAny_bind (wpAny_pure ?_)
    rw [StateT.run_pure]
    refine wpAny_bind (wpAny_pure ?_)
    dsimp only
    refine kat_tail (h₀:=h₀) (L:=L) (m:=m) (e:=e) (ks:=ks) (out:=vs) ?_ (by omega) (by omega) rfl ?_
    · show (ks.toArray.zip vs.toArray).map (·.2)=vs.toArray
      apply Array.toList_inj.mp
      simp
      exact List.map_snd_zip (by omega)
    · have rv:katRev false vs=vs:=by unfold katRev; rw [if_neg (by simp)]
      rw [rv]
      refine KatFin.intro F3 N3 (UpdF.head fun q hq=>?_) fun h' c F' N'=>?_
      · rcases List.mem_cons.mp hq with rfl | hq
        · exact hak
        · exact hnk q hq
      · exact KasFin.intro (s:={ s with heap:=h',toks:=tk }) F' (fun p hp=>N' p (List.mem_cons_of_mem _ hp)) (UpdF.head fun q hq=>hna q hq) fun h'' c' F'' N''=>q h'' tk c' F'' N''
  unfold ksk_rest
  refine wpAny_bind (wpAny_rule ?_)
  match vs,h1,turn,end_ with
  | [], _, _, end_ =>
    refine wpAny_bind ?_
    simp only [List.forIn_toArray,List.forIn_nil]
    refine wpAny_pure (wpAny_bind (listItems_at gk rfl (end_ [] 0 h2 _ rfl F2 N2)))
  | [v], _, turn, end_ =>
    refine wpAny_bind ?_
    simp only [List.forIn_toArray,List.forIn_cons,List.forIn_nil]
    refine wpAny_bind (wpAny_bind (wpAny_attempt (PySem.wpAny_mono (turn v List.mem_cons_self h2 _ ((kS,seqObj "list" #[] 0) :: (a,seqObj "list" #[] e1) :: []) F2 (fun p hp=>N2 p ?_) _ fun h3 tk3 k keep=>?_) (fun _ _ z=>z) fun _ _ z=>z.elim)))
    · rcases List.mem_append.mp hp with hp | hp
      · exact List.mem_cons_of_mem _ (List.mem_cons_of_mem _ hp)
      · rcases List.mem_cons.mp hp with rfl | hp
        · exact List.mem_cons_self
        · rw [List.mem_singleton.mp hp]; exact List.mem_cons_of_mem _ List.mem_cons_self
    have g3:=keep _ _ gk
    have s3:=Heap.SameBut.update h3 kS (Obj.mapSeq (·.push k))
    obtain ⟨c3,g4⟩:∃ c,(h3.update kS (Obj.mapSeq (·.push k))).get? kS=some (seqObj "list" (List.toArray [k]) c):=⟨_,get?_update_seq g3 (·.push k)⟩
    dsimp only
    refine wpAny_bind (listUpdate_at g3 rfl (wpAny_pure ?_) (Nat.zero_le _) (Nat.succ_le_succ (Nat.zero_le _)))
    dsimp only
    refine wpAny_pure (wpAny_bind (listItems_at g4 rfl (end_ [k] c3 _ tk3 rfl (ksk_fr (F2.kept keep) s3 kL k0) fun p hp=>?_)))
    rcases List.mem_cons.mp hp with rfl | hp
    · exact ⟨g4,kL,k0⟩
    · have:=(N2.grown keep) p (List.mem_cons_of_mem _ hp)
      exact ⟨(s3.2 p.1 (by
        rcases List.mem_cons.mp hp with rfl | hp
        · exact hak
        · exact hnk p hp)).trans this.1,this.2⟩
  | _ :: _ :: _,h,_,_=>exact absurd h (by simp)
end
def tSortW (Pt : Addr) (pos : Pos) (qual : Str) (j : Nat) (tx : TA) : TE := fun σ H Q => tx σ H fun v H1 =>
  ∃ (p d : Addr) (kvs wvs : List (List Key × V)) (g : Int → Int → Int), v = [.ref p] ∧ H1 p = some (.dT kvs) ∧ σ[j]? = some (some (.ref d)) ∧ H1 d = some (.dT wvs) ∧ (∀ q ∈ kvs, ∃ x y : Int, q.1 = [Sum.inl x, Sum.inl y] ∧ valV wvs q.1 = some (.int (g x y))) ∧ kvs.length < 64 ∧ LamT Pt pos qual H1 ∧
    ∀ (l : Addr) (zs : List Zn) (H2 : Hp), H2 l = none → SameT Pt H1 H2 → LamT Pt pos qual H2 → (∀ z ∈ zs, ∃ x y, z.1 = [g x y, x, y] ∧ H2 z.2 = some (.tup [.int x, .int y])) → (zs.map fun z => ([Sum.inl (z.1.getD 1 0), Sum.inl (z.1.getD 2 0)] : List Key)).Perm (kvs.map (·.1)) →
      zs.Pairwise (fun z w=>lexL w.1 z.1=false)→Q (.ref l) (upd H2 l (.lst (zs.map refN)))
theorem keysW_of {H:Hp} {wvs:List (List Key × V)} {g:Int→Int→Int}:∀ {kvs:List (List Key × V)} {xs:List (List Key × Addr × Value)},Paired (fun (p:List Key × V) (q:List Key × Addr × Value)=>p.1=q.1∧H q.2.1=some (.tup (p.1.map kV))∧RelV p.2 q.2.2) kvs xs →
    (∀ p ∈ kvs,∃ x y:Int,p.1=[Sum.inl x,Sum.inl y]∧valV wvs p.1=some (.int (g x y)))→∃ zs:List Zn,xs.map (fun q=>Value.ref q.2.1)=(zs.map fun z=>Value.ref z.2)∧(∀ z ∈ zs,∃ x y,z.1=[g x y,x,y]∧H z.2=some (.tup [.int x,.int y])∧valV wvs [Sum.inl x,Sum.inl y]=some (.int (g x y))) ∧
      kvs.map (·.1)=zs.map fun z=>([Sum.inl (z.1.getD 1 0),Sum.inl (z.1.getD 2 0)]:List Key)
  | _,_,.nil,_=>⟨[],rfl,(fun z hz=>nomatch hz),rfl⟩
  | _, _, .cons (a := p) (b := q) r t, hp => by
    obtain ⟨zs,e1,e2,e3⟩:=keysW_of t fun p' hp'=>hp p' (List.mem_cons_of_mem _ hp')
    obtain ⟨x,y,exy,ew⟩:=hp _ List.mem_cons_self
    refine ⟨([g x y,x,y],q.2.1) :: zs,by simp [e1],fun z hz=>?_,by simp [exy,e3]⟩
    rcases List.mem_cons.mp hz with rfl | hz
    · have:=r.2.1
      rw [exy] at this
      rw [exy] at ew
      exact ⟨x,y,rfl,this,ew⟩
    · exact e2 z hz
section
variable {X:Cx} {c Pt:Addr} {e:Expr} {tx:TA} {x y:Str} {j:Nat} {params:Arguments} {scope:Scope} {p0 p1 p2 p3 p4 p5 lpos kpos pos:Pos} {x1:Nat}
theorem pe_sortW (hcalm : X.calm = true) (hcode : X.env.code = .ref c) (C0 : CodeHd X.base c Pt) (B : X.base.BuiltinsAt X.mg Pt) (hroom : X.A.depth < recursionLimit) (hun : X.A.units + 128 < cLine)
    (hgl:Gl X "sorted") (hm:X.mg "sorted" = none) (hx:PA X [e] tx) (hN:X.N[j]? = some y) (hky:X.env.kindOf y=some .cell)
    (hs:backTo pos (starEach [e] X.env)=(false,eval e X.env) :: backTo pos (starEach [] X.env):=by rfl) (hpl:(backTo pos (starEach [e] X.env)).any (·.1)=false:=by rfl)
    (hdef:defaultsOf params X.env=([],[]):=by rfl)
    (hbind:∀ clos pm cdv ctv v,bindArgs (kla_fn "<lambda>" (X.env.qual ++ "<lambda>") params (.Tuple [.Subscript (.Name y p1) (.Name x p2) p3,.Name x p4] x1 p5) scope clos pm cdv ctv) ⟨[v],[]⟩=pure [(x,v)]:=by intros; rfl)
    (hsx:scope.names.lookup x=some .local:=by rfl) (hsy:scope.names.lookup y=some .free:=by rfl) (hk:scope.kind = .function:=by rfl) (hco:scope.isCoroutine=false:=by rfl) (hgen:scope.isGenerator=false:=by rfl) (hcell:∀ z ∈ scope.names,z.2≠.cell:=by decide +kernel)
    (hfr:(scope.names.all fun y=>y.2 != .free || X.env.kindOf y.1 == some .cell || X.env.kindOf y.1 == some .free)=true:=by rfl)
    (hdx:(x == ("__debug__":Str))=false:=by decide) (hdy:(y == ("__debug__":Str))=false:=by decide) (hdc:(y == ("__classdict__":Str))=false:=by decide) :
    PE X (.Call (.Name "sorted" p0) [e] [⟨some "key",.Lambda params (.Tuple [.Subscript (.Name y p1) (.Name x p2) p3,.Name x p4] x1 p5) scope lpos,kpos⟩] pos) (tSortW Pt lpos (X.env.qual ++ "<lambda>") j tx):=by
  intro pins s σ H Q I h
  refine wpAny_Call_Name_kw (ld_blt I hgl hm (u:=.builtin "sorted") BootT.sorted ?_)
  refine callWith_kw ?_ hs hpl
  refine thn (hx pos pins s σ H _ I h) fun us s1 ⟨vs,H1,I1,rv,q⟩=>?_
  obtain ⟨p,d,kvs,wvs,g,rfl,hp,hj,hd,hkv,h64,hT,k⟩:=q
  obtain ⟨u,rfl,ru⟩:=vals1 rv
  cases ru
  show wpAny _ X.A (evalAll [do let v ← eval _ X.env; standAt pos; pure v]) _ _ s1
  refine wpAny_evalAll_cons (wpAny_bind (lam_make I1 hcode C0 B hdef (frees_of I1 hfr) hT fun f c' ctv h' tk H2 I2 hf hrec S2 T2 hk2=>wpAny_bind (wpAny_standAt (wpAny_pure (wpAny_evalAll_nil ?_)))))
  obtain ⟨ps,hPt⟩:=hT.tbl
  have hp2:=S2 p _ (fun z=>by rw [z,hPt] at hp; cases hp) hp
  have hd2:=S2 d _ (fun z=>by rw [z,hPt] at hd; cases hd) hd
  obtain ⟨hz,lo,ys,rel,o,es,ep,e1,e2,e3,e4,e5⟩:=(show ObjOk X.prog X.w H2 h' p (.dT kvs) from I2.hok p _ hp2)
  obtain ⟨zs,k1,k2,k3⟩:=keysW_of rel hkv
  have hlen:zs.length=kvs.length:=by have:=congrArg List.length k3; simpa using this.symm
  have raw:RawD h' p (zs.map fun z=>Value.ref z.2) ep:=⟨o,es,e1,e2,e3,by rw [e4,← k1,List.map_map]; rfl⟩
  have hh:X.A.handled=none:=I2.ok.hd hcalm
  obtain ⟨m,F2,N2⟩:=I2.frs
  obtain ⟨my,hny,hlk⟩:=I2.loc
  obtain ⟨uy,ruy,lky⟩:=hlk j y (.ref d) hN hj (.inr (.inl hky))
  cases ruy
  obtain ⟨cl,hcl,hcv⟩:∃ cl,X.env.cells.lookup y=some cl∧h'.IsCell cl (some (.ref d)):=by
    rcases lky with ⟨z,_⟩ | ⟨_,cl,h1,h2⟩
    · rw [hky] at z; cases z
    · exact ⟨cl,h1,h2⟩
  have hclo:(clGo X.env.cells scope.names []).lookup y=some cl:=by
    obtain ⟨d,hd⟩:=clGo_has (cells:=X.env.cells) (x:=y) scope.names [] (.inl (mem_of_lookup hsy))
    have hd':=(clGo_lookup _ _ (frees_of I1 hfr) hd).resolve_right (by simp)
    rw [hcl] at hd'
    rw [hd,← hd']
  have kept:∀ (h:Heap) (own:List (Addr × Obj)),Fr X.base X.env.locals h m→News X.base X.env.locals h (allNews X.base h' X.env.locals ++ own)→∀ b o,b≠X.env.locals→h'.get? b=some o→h.get? b=some o:=fun h own F N b o h1 e=>by
    cases q:X.base.get? b with
    | some u =>
      have:=I2.bk b u q
      rw [e] at this; cases this
      exact F.keep b _ q
    | none=>exact (N (b,o) (List.mem_append_left _ (mem_allNews h1 q e))).1
  have fL:f≠X.env.locals:=fun z=>by
    obtain ⟨o,es,ep,e,d,_⟩:=F2.ns
    rw [← z] at e
    rw [e] at hf; cases hf; cases d
  have cL:c'≠X.env.locals:=fun z=>by
    obtain ⟨c2,o2,vs2,t2,e2,h2,d2,_⟩:=hrec
    cases e2
    obtain ⟨o,es,ep,e,d,_⟩:=F2.ns
    rw [← z] at e
    rw [e] at h2; cases h2; rw [d] at d2; cases d2
  have clL:cl≠X.env.locals:=I2.cne y cl hcl
  have un2:X.A.in1.in1.units+3+64 < cLine:=by show X.A.units+1+1+3+64 < _; omega
  -- one key
  have turn:∀ z ∈ zs,∀ (h:Heap) (tk':Nat) (own:List (Addr × Obj)),Fr X.base X.env.locals h m→News X.base X.env.locals h (allNews X.base h' X.env.locals ++ own)→∀ R:Value→Shared→Prop,
      (∀ h3 tk3 t k,(∀ b o,h.get? b=some o→h3.get? b=some o)→h.get? k=none→h3.get? k=some (kyObj z t)→R (.ref k) { s1 with heap:=h3,toks:=tk3 })→wpAny (model X.prog X.w) X.A.in1.in1 (call (.ref f) [.ref z.2]) R (fun _ _=>False) { s1 with heap:=h,toks:=tk' }:=by
    intro z hz h tk' own F N R hR
    obtain ⟨xx,yy,ez,hzt,hzw⟩:=k2 z hz
    have kk:=kept h own F N
    have J:Inv X pins σ H2 { s1 with heap:=h,toks:=tk' }:=I2.news (s:={ s1 with heap:=h',toks:=tk }) F2.ns F fun p hp=>N p (List.mem_append_left _ hp)
    refine lam_enter (s:={ s1 with heap:=h,toks:=tk' }) (by exact hroom) (kk f _ fL hf) ?_ (I2.mod.nolimit.keeps F.keep) (hbind _ _ _ _ _) hsx hk hco hgen hcell fun env h3 tk3 E' q1 q2 q3 hns hk3=>?_
    · obtain ⟨c2,o2,vs2,t2',e2,h2,d2⟩:=hrec
      cases e2
      exact ⟨c',o2,vs2,t2',rfl,kk _ _ cL h2,d2⟩
    · refine key_eval (s:={ s1 with heap:=h,toks:=tk' }) (H:=H2) (d:=d) (cl:=cl) (k:=[Sum.inl xx,Sum.inl yy]) (J.hok.kept hk3) (by rw [q1]; exact hk) (by rw [q1]; exact hsx) (by rw [q1]; exact hsy) hns (by rw [q2]; exact hclo) ?_ hd2 hzt hzw un2 (fun t tk4=>?_) hdx hdy hdc
      · obtain ⟨o,e,d⟩:=hcv
        exact ⟨o,hk3 _ _ (kk _ _ clL e),d⟩
      · refine hR _ tk4 t _ (fun b o e=>Heap.get?_push_of_some _ (hk3 b o e)) ?_ ?_
        · cases q:h.get? h3.objs.size with
          | none=>rfl
          | some o=>exact absurd (Heap.lt_size (hk3 _ _ q)) (Nat.lt_irrefl _)
        · have:kyObj z t=seqObj "tuple" #[.int (g xx yy) t,.ref z.2] 0:=by unfold kyObj; rw [ez]; rfl
          rw [this]
          exact Heap.get?_push_size _ rfl
  have hzl:(zs.map fun z=>Value.ref z.2).length≤sizeLine:=small_le (m:=64) (by rw [List.length_map]; omega)
  -- the call
  refine call_function_entry_kw kind_sorted plain_sorted entry_sorted (ksk_s1 _ _) ?_
  unfold Builtin.«sorted»
  refine wpAny_bind (m:=checkCount "sorted" 1 1 _) (wpAny_pure (wpAny_bind (collect_src (s:={ s1 with heap:=h',toks:=tk }) (raw_src lo) hh raw (by rw [List.length_map] at hzl ⊢; exact hzl) fun h3 tk3 acc keep3 hacc=>?_)))
  rw [items_eq hacc]
  refine wpAny_bind (wpAny_newList ?_ hzl)
  have F3:=F2.kept keep3
  have N3:=N2.grown keep3
  have hL:X.env.locals < h3.objs.size:=F3.ns.lt
  have g4:(h3.push (seqObj "list" (zs.map fun z=>Value.ref z.2).toArray 0)).get? h3.objs.size=some (seqObj "list" (zs.map fun z=>Value.ref z.2).toArray 0):=Heap.get?_push_size _ rfl
  have k4:∀ b o,h3.get? b=some o→(h3.push (seqObj "list" (zs.map fun z=>Value.ref z.2).toArray 0)).get? b=some o:=fun b o e=>Heap.get?_push_of_some _ e
  have F4:=F3.kept k4
  have N4:=N3.grown k4
  have hD:∀ q ∈ allNews X.base h' X.env.locals,q.1 < h3.objs.size:=fun q hq=>Heap.lt_size (N3 q hq).1
  have hD0:X.base.get? h3.objs.size=none:=Heap.get?_none_of_le (Nat.le_trans F3.above (Nat.le_of_lt hL))
  show wpAny (model X.prog X.w) X.A.in1 (do let _ ← holding [Value.ref h3.objs.size] (call (.builtin "list.sort") [Value.ref h3.objs.size] _); ret (Value.ref h3.objs.size)) _ _ { s1 with heap:=h3.push (seqObj "list" (zs.map fun z=>Value.ref z.2).toArray 0),toks:=tk3 }
  refine wpAny_bind (wpAny_holding (wpAny_call_entry_kw slot_list_sort ⟨_,g4,rfl⟩ entry_list_sort ?_ (ksk_l1 _ _)))
  have tie:∀ (h:Heap),(∀ b o,b≠X.env.locals→h'.get? b=some o→h.get? b=some o)→∀ z ∈ zs,∃ v x y t u,z.1=[v,x,y]∧IsTup h z.2 #[.int x t,.int y u]:=fun h hkp z hz=>by
    obtain ⟨xx,yy,ez,hzt,hzw⟩:=k2 z hz
    obtain ⟨ts,r,it,_⟩:=I2.tuple (.of hzt)
    cases r with
    | cons h1 r =>
      cases r with
      | cons h2 r =>
        cases r
        obtain ⟨t,rfl⟩:=h1
        obtain ⟨u,rfl⟩:=h2
        obtain ⟨o,e,rest⟩:=it
        refine ⟨g xx yy,xx,yy,t,u,ez,o,hkp _ o (fun w=>?_) e,rest⟩
        rw [w,I2.free] at hzt; cases hzt
  have done:∀ (h'':Heap) (tk'' c'':Nat) (zs':List Zn),zs'.Perm zs→zs'.Pairwise (fun z w=>lexL w.1 z.1=false)→Fr X.base X.env.locals h'' m→News X.base X.env.locals h'' ((h3.objs.size,seqObj "list" (zs'.map fun z=>Value.ref z.2).toArray c'') :: allNews X.base h' X.env.locals) →
      EP X pins σ Q (.ref h3.objs.size) { s1 with heap:=h'',toks:=tk'' }:=fun h'' tk'' c'' zs' hperm hsort F N=>by
    obtain ⟨hn,I3⟩:=I2.newsLaid (t':=tk'') (o:=.lst (zs'.map refN)) F2.ns F N hD ⟨by rw [List.length_map]; exact small_le (m:=64) (by rw [hperm.length_eq]; omega),_,c'',vals_refsN zs',(N _ List.mem_cons_self).1⟩
    refine ⟨.ref h3.objs.size,_,I3,rfl,k h3.objs.size zs' H2 hn S2 T2 (fun z hz=>?_) (by rw [k3]; exact hperm.map _) hsort⟩
    obtain ⟨xx,yy,ez,hzt,_⟩:=k2 z (hperm.mem_iff.mp hz)
    exact ⟨xx,yy,ez,hzt⟩
  show wpAny (model X.prog X.w) X.A.in1.in1 (Builtin.«list.sort» ⟨[.ref h3.objs.size],[(Str.ofString "key",.ref f)]⟩) _ _ _
  rw [ksk_t1]
  by_cases h2:2≤zs.length
  · refine kat_keyed (s:={ s1 with heap:=h3.push (seqObj "list" (zs.map fun z=>Value.ref z.2).toArray 0),toks:=tk3 }) F4 N4 g4 (Nat.ne_of_gt hL) hD0 (fun p hp=>Nat.ne_of_lt (hD p hp)) (by rw [List.length_map]; exact h2) (by rw [List.length_map]; omega) fun kS e1 h5 F5 N5 l0 l1=>?_
    refine keysW (s:={ s1 with heap:=h3.push (seqObj "list" (zs.map fun z=>Value.ref z.2).toArray 0),toks:=tk3 }) (zs:=zs) (fun z hz h tk' own F N R hR=>turn z hz h tk' own F N R hR) (Nat.ne_of_lt l0) zs [] [] [] 0 h5 tk3 F5 N5 (fun q hq=>Nat.ne_of_lt (l1 q hq)) .nil (fun z hz=>hz) fun own' ks' e' h6 tk6 F6 N6 hk6 rel6=>?_
    refine sortW_rest (s:={ s1 with heap:=h6,toks:=tk6 }) F6 N6 hk6 (Nat.ne_of_lt l0) (fun q hq=>Nat.ne_of_lt (hD q hq)) rel6 h2 (by omega) (tie h6 fun b o hb e=>?_) fun h7 c7 zs' hperm hsort F7 N7=>?_
    · refine kept h6 [] F6 (fun p hp=>N6 p ?_) b o hb e
      rw [List.append_nil] at hp
      exact List.mem_cons_of_mem _ (List.mem_cons_of_mem _ (List.mem_append_right _ hp))
    · exact ⟨_,rfl,wpAny_pure ⟨_,rfl,done h7 tk6 c7 zs' hperm hsort F7 N7⟩⟩
  · refine key_short (s:={ s1 with heap:=h3.push (seqObj "list" (zs.map fun z=>Value.ref z.2).toArray 0),toks:=tk3 }) F4 N4 g4 (Nat.ne_of_gt hL) hD0 (fun p hp=>Nat.ne_of_lt (hD p hp)) (by rw [List.length_map]; omega) (fun v hv h tk' own F N R hR=>?_) fun h7 tk7 c7 F7 N7=>?_
    · obtain ⟨z,hz,rfl⟩:=List.mem_map.mp hv
      exact turn z hz h tk' own F N R fun h3 tk3 t k keep _ _=>hR h3 tk3 (.ref k) keep
    · refine ⟨_,rfl,wpAny_pure ⟨_,rfl,done h7 tk7 c7 zs (List.Perm.refl _) ?_ F7 N7⟩⟩
      match zs,h2 with
      | [],_=>exact .nil
      | [z],_=>exact List.pairwise_singleton _ _
      | z :: w :: r,h2=>simp at h2
end
end L2
namespace L2
open PySem PySem.Spec PySem.Calls PyProof.Rows
theorem Room.units128 {k:Nat} {A:Around} (r:Room k A):A.units+128 < cLine:=by have:=r.un; omega
structure CalB (P:Program) (w:World) (K:PySem.W.Frag) (mg:Str→Option Value) (base:Heap) (CX:CXT) (k:Nat) (B:Addr) (x:Str) (ps:List Str) (sp:Sp) where
  f:Addr
  d:FuncData
  G:FnOk P w K mg base CX k f d ps sp
  mc:Value
  ga:PySem.W.specialIn K (.ref B) "__getattribute__" = some (some (.builtin "type.__getattribute__"))
  rd:PySem.W.readsIn K B mc=true
  at_:PySem.W.findCls K (.ref B) mc x=some (.val (.ref f))
  kp:PySem.W.keepIn K (.ref f)=true
  b:Binds K d ps []
section
variable {X:Cx} {CX:CXT} {k:Nat} {B:Addr} {x:Str} {ps:List Str} {sp:Sp} {o e:Expr} {es:List Expr} {t:TA} {E:XK} {apos pos:Pos}
theorem pcb {pl:Sem Bool} (c:CalB X.prog X.w X.K X.mg X.base CX k B x ps sp) (hr:Room k X.A) (he:PE X o (tC (.ref B))) (hx:Passes CX X E) (ha:PA X (e :: es) t)
    (hst:starEach (e :: es) X.env=(false,eval e X.env) :: starEach es X.env:=by rfl) (hpl:(backTo pos (starEach es X.env)).any (·.1)=false:=by rfl)
    (ht:eval (.Call (.Attribute o x apos) (e :: es) [] pos) X.env=(do
      let ov ← eval o X.env
      standAt apos.atName
      let (f,first) ← holding [ov] (getMethod ov x pl)
      callWith pos f first (backTo pos (starEach (e :: es) X.env)) (backToKw pos (keywordEach [] X.env))):=by rfl) :
    PE X (.Call (.Attribute o x apos) (e :: es) [] pos) (tCall sp [] E t):=by
  intro pins s σ H Q I h
  refine PySem.W.methodCall_KW (pl:=pl) (thn (he pins s σ H (fun v H1=>v = .ref B∧H1=H) I ⟨rfl,rfl⟩) fun u s1 ⟨xv,H1,I1,rx,ex,eH⟩=>?_) ht
  subst ex eH
  obtain rfl:u=Value.ref B:=rx
  refine PySem.W.method_cls I1.kIn c.ga (PySem.W.cls_value I1.kIn c.rd c.at_ rfl ?_)
  refine PySem.W.callWith_K (first:=[]) (h₀:=X.base) I.ok.mod.kin c.kp (thn (ha pos pins _ σ H1 _ (I1.tok _) h) fun us s2 ⟨vs,H2,I2,r,q2⟩=>⟨I2.kIn,?_⟩) hst hpl
  exact run_fn (us:=us) (vs:=vs) c.G hr c.b .nil hx I2 r q2
end
def tListRng (t:TA):TE:=fun σ H Q=>t σ H fun vs H1=>∃ n:Nat,vs=[.int n]∧n≤4000∧∀ p,H1 p=none→Q (.ref p) (upd H1 p (.lst ((List.range n).map fun i:Nat=>V.int (i:Int))))
section
variable {X:Cx} {x:Expr} {t:TA} {p1 p2 q1 q2:Pos}
theorem pe_listRng (hc : X.calm = true) (hgl : Gl X "list") (hml : X.mg "list" = none) (hgz : Gl X "range") (hmz : X.mg "range" = none) (ha : PA X [x] t)
    (he:starEach [.Call (.Name "range" p1) [x] [] p2] X.env=[(false,eval (.Call (.Name "range" p1) [x] [] p2) X.env)]:=by rfl) (he2:starEach [x] X.env=(false,eval x X.env) :: starEach [] X.env:=by rfl) (hpl:(backTo p2 (starEach [] X.env)).any (·.1)=false:=by rfl) :
    PE X (.Call (.Name "list" q1) [.Call (.Name "range" p1) [x] [] p2] [] q2) (tListRng t):=by
  intro pins s σ H Q I h
  refine wpAny_Call_Name_kw (ld_blt I hgl hml BootT.list (PyProof.Rows.callWith_type1 ?_ he rfl))
  rw [he]
  show wpAny _ _ (spliced ((false,eval (.Call (.Name "range" p1) [x] [] p2) X.env) :: backTo q2 (starEach [] X.env))) _ _ s
  refine Calls.spliced_cons (wpAny_Call_Name_kw (ld_blt I hgz hmz boot_range (PyProof.Rows.callWith_type1 (thn (ha p2 pins s σ H _ I h) fun us s1 ⟨vs,H1,I1,r1,q⟩=>?_) he2 hpl)))
  obtain ⟨n,rfl,hn,k⟩:=q
  obtain ⟨u,rfl,ru⟩:=vals1 r1
  obtain ⟨tn,rfl⟩:=ru
  refine call_range_1 (Calls.spliced_nil ?_)
  refine call_list_range (n:=n) (I1.ok.hd hc) (IsRange.new ..) ?_ ?_ (by omega) fun h' tk acc c' keep hS hacc=>?_
  · exact small3 (by omega)
  · rw [rangeSize_one]; split <;> omega
  · have rv : Vals ((List.range n).map fun i : Nat => V.int (i : Int)) acc.toList := by
      have:∀ (m:Nat) (l:List Value) (d:Nat),l.length=m→(∀ (i:Nat) (v:Value),l[i]? = some v→∃ t,v = .int ((0:Int)+((d+i:Nat):Int) * 1) t)→Vals ((List.range' d m).map fun i:Nat=>V.int (i:Int)) l:=by
        intro m
        induction m with
        | zero=>intro l d hl _; rw [List.eq_nil_of_length_eq_zero hl]; exact .nil
        | succ m ih =>
          intro l d hl hv
          match l,hl with
          | v :: l, hl =>
            obtain ⟨tv,rfl⟩:=hv 0 v rfl
            refine .cons ⟨tv,?_⟩ (ih l (d+1) (by simpa using hl) fun i v hi=>?_)
            · simp
            · obtain ⟨tv,e⟩:=hv (i+1) v (by simpa using hi)
              exact ⟨tv,by rw [e]; congr 2; omega⟩
      have:=this n acc.toList 0 (by rw [Array.length_toList]; exact hacc.1) fun i v hi=>by
        obtain ⟨tv,e⟩:=hacc.2 i v (by rw [← Array.getElem?_toList]; exact hi)
        exact ⟨tv,by rw [e]; simp⟩
      rwa [← List.range_eq_range'] at this
    refine ⟨.ref _,_,I1.laid (t':=tk) (o:=.lst ((List.range n).map fun i:Nat=>V.int (i:Int))) (fun b o e=>keep b o (Heap.get?_push_of_some _ e)) (Nat.le_of_lt (by show s1.heap.objs.size < (s1.heap.push _).objs.size; rw [Heap.size_push]; exact Nat.lt_succ_self _)) ⟨by rw [List.length_map,List.length_range]; exact small_le (m:=4000) hn,acc.toList,c',rv,hS⟩,rfl,k _ (I1.hok.fresh (Nat.le_of_lt (by show s1.heap.objs.size < (s1.heap.push _).objs.size; rw [Heap.size_push]; exact Nat.lt_succ_self _)))⟩
end
end L2
namespace L2
open PySem PySem.Spec PySem.Calls PyProof.Rows
open PySem.W (tabObj CodeHd noTabs tabIn)
theorem law_callL {P : Program} {w : World} {K : PySem.W.Frag} {mg mb : Str → Option Value} {k : Nat} {fa a : Addr} {Ps : List (Addr × Addr)} {fd : FuncData} {x : Str} {sp : Sp} {s₁ : Shared} {vs : List Value} {ns : List Int}
    (KX:K.In s₁.heap) (hns:s₁.heap.Ns mainGlobals mg) (hb:s₁.heap.Ns builtinsNs mb) (hbb:∀ x:Str,x≠"__name__"→mb x=bootBuiltins x) (hlim:s₁.heap.NoLimit) (hg:s₁.gens = #[])
    (C:∀ p ∈ Ps,CodeHd s₁.heap p.1 p.2) (hPt0:∀ p ∈ Ps,s₁.heap.get? p.2=some (tabObj #[])) (Bm:∀ p ∈ Ps,s₁.heap.BuiltinsAt mg p.2) (hnt:noTabs K=true)
    (ha:s₁.heap.get? a=some { cls:=.type "list",data:=.seq vs.toArray }) (hi:IntsAre vs ns) (hl:ns.length≤sizeLine) (hr:Room k callerA)
    (F:∀ base:Heap,K.In base→base.Ns mainGlobals mg→(∀ p ∈ Ps,CodeHd base p.1 p.2∧base.BuiltinsAt mg p.2)→FnOk P w K mg base CX0 k fa fd [x] sp) (hbind:∀ (s:Shared) (u:Value),BindsTo s fd ⟨[u],[]⟩ [(x,u)])
    (hsp:∀ H:Hp,(∀ p ∈ Ps,H p.2=some (.tbl #[]))→SqL K H a (ns.map V.int)→sp [.ref a] H (fun v _=>v = .bl true) fun _ _ _=>False)
    (hCX:∀ H e s',CX0 [] H s₁ (fun _ _ _=>False) e s'→False) :
    codeAny (model P w) callerA (.call (.ref fa) ⟨[.ref a],[]⟩) (fun r s'=>r = .ok (.ret (.bool true))∧OldK s₁.heap s'.heap∧s'.os=s₁.os∧AllBare s'.gens) s₁:=by
  have rv:=vals_ints hi
  have lenV:=hi.length
  have hPt:∀ b,b ∈ Ps.map (·.2)→s₁.heap.get? b=some (tabObj #[]):=fun b hb=>by
    obtain ⟨p,hp,rfl⟩:=List.mem_map.mp hb
    exact hPt0 p hp
  have naP:a ∉ Ps.map (·.2):=fun z=>by rw [hPt a z] at ha; cases ha
  have KPt:∀ b,b ∈ Ps.map (·.2)→K.lookup b=none:=fun b hb=>by
    cases q:K.lookup b with
    | none=>rfl
    | some o =>
      have e:=KX b o q
      rw [hPt b hb] at e; cases e
      have h2:=List.all_eq_true.mp hnt (b,tabObj #[]) (PySem.W.mem_of_lookupK q)
      exact absurd (show false=true from h2) Bool.false_ne_true
  have core : ∀ H : Hp, (∀ b, b ∈ Ps.map (·.2) → H b = some (.tbl #[])) → (∀ b, b ∉ Ps.map (·.2) → H b = none ∨ ∃ o xs, H b = some (.frz o (.lst xs))) → SqL K H a (ns.map V.int) → HOk P w H s₁.heap → (∀ b, b ∉ Ps.map (·.2) → H b ≠ none → b = a) → (H a ≠ none → K.lookup a = none) →
      codeAny (model P w) callerA (.call (.ref fa) ⟨[.ref a],[]⟩) (fun r s'=>r = .ok (.ret (.bool true))∧OldK s₁.heap s'.heap∧s'.os=s₁.os∧AllBare s'.gens) s₁:=by
    intro H hT hO hS hok hA hK
    have base_of:∀ {b:Addr} {o:Obj},s₁.heap.get? b=some o→H b=none→(hidT s₁.heap H).get? b=some o:=fun e n=>hidT_get e n
    have noA:∀ {b:Addr} {o:Obj},s₁.heap.get? b=some o→o.cls≠.type "list"→b ∉ Ps.map (·.2)→H b=none:=fun {b o} e d hbP=>by
      cases q:H b with
      | none=>rfl
      | some u =>
        have e':b=a:=hA b hbP (by rw [q]; simp)
        subst e'
        rw [ha] at e; cases e
        exact absurd rfl d
    have noD:∀ {b:Addr} {o:Obj} {es:Array DictEntry} {ep:Nat},s₁.heap.get? b=some o→o.data = .dict es ep→H b=none:=fun {b o es ep} e d=>by
      have hbP:b ∉ Ps.map (·.2):=fun z=>by rw [hPt b z] at e; cases e; cases d
      cases q:H b with
      | none=>rfl
      | some u =>
        have e':b=a:=hA b hbP (by rw [q]; simp)
        subst e'
        rw [ha] at e; cases e
        have d':Data.seq vs.toArray _=Data.dict es ep:=d
        cases d'
    have nsK:∀ {b:Addr} {m:Str→Option Value},s₁.heap.Ns b m→(hidT s₁.heap H).Ns b m:=fun {b m} ⟨o,es,ep,e,d,r⟩=>⟨o,es,ep,base_of e (noD e d),d,r⟩
    have hKb:K.In (hidT s₁.heap H):=fun b o e=>base_of (KX b o e) (by
      have hbP:b ∉ Ps.map (·.2):=fun z=>by rw [KPt b z] at e; cases e
      cases q:H b with
      | none=>rfl
      | some u =>
        have e':b=a:=hA b hbP (by rw [q]; simp)
        subst e'
        rw [hK (by rw [q]; simp)] at e; cases e)
    have hM:Mod K mg (hidT s₁.heap H):=⟨hKb,nsK hns,⟨mb,nsK hb,hbb⟩,let ⟨mc,h1,h2⟩:=hlim; ⟨mc,nsK h1,h2⟩⟩
    have notab:∀ {b:Addr} {o:Obj},s₁.heap.get? b=some o→o.cls≠.none→b ∉ Ps.map (·.2):=fun {b o} e d z=>by rw [hPt b z] at e; cases e; exact d rfl
    have hCB:∀ p ∈ Ps,CodeHd (hidT s₁.heap H) p.1 p.2∧(hidT s₁.heap H).BuiltinsAt mg p.2:=fun p hp=>by
      refine ⟨?_,?_⟩
      · obtain ⟨o,vs',file,tf,flags,tg,inF,text,tt,e1,r1,r2,r3,r4,r5,r6,r7,r8,hne⟩:=C p hp
        exact ⟨o,vs',file,tf,flags,tg,inF,text,tt,base_of e1 (noA e1 (by rw [r1]; decide) (notab e1 (by rw [r1]; decide))),r1,r2,r3,r4,r5,r6,r7,r8,hne⟩
      · obtain ⟨bm,o,b1,b2,b3,b4,b5,b6,b7⟩:=Bm p hp
        exact ⟨bm,o,b1,b2,b3,b4,base_of b5 (noA b5 (by rw [b6]; decide) (notab b5 (by rw [b6]; decide))),b6,b7⟩
    have e0:Env0 P w K mg (hidT s₁.heap H) callerA [] s₁ H:=⟨rfl,hM,fun b o e=>of_hidT e,Nat.le_of_eq (hidT_size _ _),trivial,fun b hb=>absurd (show b ∈ ([]:List Addr) from hb) (by simp),hok,.of_eq hg⟩
    refine codeAny_mono ((F _ hKb (nsK hns) hCB).run callerA [] s₁ H ⟨[.ref a],[]⟩ [.ref a] [.ref a] _ _ hr e0 (hbind s₁ (.ref a)) (.cons rfl .nil) (hsp H (fun p hp=>hT p.2 (List.mem_map_of_mem hp)) hS)) fun r s' h=>?_
    cases r with
    | error e=>exact (hCX H e s' h).elim
    | ok fl =>
      cases fl with
      | next=>exact False.elim h
      | brk=>exact False.elim h
      | cont=>exact False.elim h
      | ret u =>
        obtain ⟨v,H',os,bare,un,hok',r',q⟩:=h
        have q':v = .bl true:=q
        subst q'
        obtain rfl:u=Value.bool true:=r'
        have keep:∀ b o,b ∉ Ps.map (·.2)→s₁.heap.get? b=some o→s'.heap.get? b=some o:=fun b o hbP e=>by
          cases q:H b with
          | none=>exact un.keep b o e q (by intro z; exact absurd (show b ∈ ([]:List Addr) from z) (by simp)) (by simp)
          | some u =>
            rcases hO b hbP with z | ⟨ob,xs,z⟩
            · rw [q] at z; cases z
            · have z2:=un.frzs b ob _ z
              obtain ⟨e1,_⟩:=hok b _ z
              obtain ⟨e2,_⟩:=hok' b _ z2
              rw [e] at e1; cases e1
              exact e2
        have hmore:∀ b,b ∈ Ps.map (·.2)→∃ more,s'.heap.get? b=some (tabObj (#[] ++ more)):=fun b hb=>by
          obtain ⟨more,hm⟩:=un.tbls b _ (hT b hb)
          exact ⟨more,hok' b _ hm⟩
        refine ⟨rfl,⟨fun b o e=>?_,fun b o e=>?_⟩,os,bare⟩
        · by_cases hbP:b ∈ Ps.map (·.2)
          · obtain ⟨more,hP'⟩:=hmore b hbP
            obtain ⟨p,hp,rfl⟩:=List.mem_map.mp hbP
            rw [hPt0 p hp] at e; cases e
            exact .inr (.inl ⟨((C p hp).tab (hPt0 p hp)).isCodeTable,rfl,#[],more,rfl,hP'⟩)
          · exact .inl (keep b o hbP e)
        · by_cases hbP:b ∈ Ps.map (·.2)
          · obtain ⟨more,hP'⟩:=hmore b hbP
            exact ⟨_,hP'⟩
          · exact ⟨o,keep b o hbP e⟩
  cases hk:K.lookup a with
  | some o =>
    have e:=KX a o hk
    rw [ha] at e
    cases e
    refine core (fun b=>if b ∈ Ps.map (·.2) then some (.tbl #[]) else none) (fun b hb=>if_pos hb) (fun b hb=>.inl (if_neg hb)) (.inr ⟨_,vs.toArray,_,hk,rfl,rfl,rfl,by rw [List.size_toArray,lenV]; exact hl,by simpa using rv⟩) (fun b u z=>?_) (fun b hb z=>absurd (if_neg hb) z) fun z=>absurd (if_neg naP) z
    by_cases hb:b ∈ Ps.map (·.2)
    · have z':=(if_pos hb).symm.trans z
      cases z'
      exact hPt b hb
    · have z':=(if_neg hb).symm.trans z
      cases z'
  | none =>
    refine core (fun b=>if b ∈ Ps.map (·.2) then some (.tbl #[]) else if b=a then some (.frz { cls:=.type "list",data:=.seq vs.toArray } (.lst (ns.map V.int))) else none) (fun b hb=>if_pos hb) (fun b hb=>?_) (.inl (.inr ⟨{ cls:=.type "list",data:=.seq vs.toArray },(if_neg naP).trans (if_pos rfl)⟩)) (fun b u z=>?_) (fun b hb z=>?_) fun _=>hk
    · by_cases hba:b=a
      · exact .inr ⟨_,_,(if_neg hb).trans (if_pos hba)⟩
      · exact .inl ((if_neg hb).trans (if_neg hba))
    · by_cases hb:b ∈ Ps.map (·.2)
      · have z':=(if_pos hb).symm.trans z
        cases z'
        exact hPt b hb
      · have z0:=(if_neg hb).symm.trans z
        by_cases hba:b=a
        · have z':=(if_pos hba).symm.trans z0
          cases z'
          subst hba
          exact ⟨ha,by rw [List.length_map]; exact hl,vs,_,rv,ha⟩
        · have z':=(if_neg hba).symm.trans z0
          cases z'
    · by_cases hba:b=a
      · exact hba
      · exact absurd ((if_neg hb).trans (if_neg hba)) z
theorem walk_ofL {l : PySem.W.OpenLaw} {n k : Nat} {q : Program} {loose : List Str} {XP : (Str → Option Value) → Heap → Prop} {YP : World → Heap → Prop} {d : DefRec} {K : Params → PySem.W.Frag} {sp : World → Sp} {x : Str} {Ps : List (Addr × Addr)}
    (hn:l.most=some n) (hn2:n≤sizeLine) (hdf:d.params.defaults=[]) (hr:Room k callerA)
    (hY:∀ (w:World) (h:Heap),YP w h→(K w.params).In h)
    (htab:∀ p ∈ Ps,∃ (y:Str) (dy:DefRec),(recsOf q).find? (fun e=>e.name == y)=some dy∧∀ w:World,tabIn (K w.params) y=some p) (hnt:∀ w:World,noTabs (K w.params)=true)
    (F:∀ (w:World) (mg:Str→Option Value) (fa:Addr) (h:Heap),(K w.params).In h→h.Ns mainGlobals mg→mg d.name=some (.ref fa) →
      ∃ fd : FuncData, (∀ (s : Shared) (u : Value), BindsTo s fd ⟨[u], []⟩ [(x, u)]) ∧
        ∀ base:Heap,(K w.params).In base→base.Ns mainGlobals mg→(∀ p ∈ Ps,CodeHd base p.1 p.2∧base.BuiltinsAt mg p.2)→FnOk l.prog w (K w.params) mg base CX0 k fa fd [x] (sp w))
    (hsp:∀ (w:World) (H:Hp) (a:Addr) (ns:List Int),ns.length≤n→(∀ p ∈ Ps,H p.2=some (.tbl #[]))→SqL (K w.params) H a (ns.map V.int)→sp w [.ref a] H (fun v _=>v = .bl true) fun _ _ _=>False)
    (hCX:∀ (H:Hp) (s:Shared) (e:Value) (s':Shared),CX0 [] H s (fun _ _ _=>False) e s'→False) :
    PySem.W.WalkO q loose XP YP l.row.toRowW d [] (fun f vs=>PySem.call f vs):=by
  refine Att.attach_call hn hdf fun w s₀ s₁ mg mb fa o pm cd doc a vs ns G Y ho hd hcd hmg hobj hints hlen hg=>?_
  have KX:=hY w _ Y
  obtain ⟨fd,hb,hF⟩:=F w mg fa _ KX G.T.g hmg
  have hC:∀ p ∈ Ps,CodeHd s₁.heap p.1 p.2∧s₁.heap.get? p.2=some (tabObj #[]):=fun p hp=>by
    obtain ⟨y,dy,h1,h2⟩:=htab p hp
    exact PySem.W.tab_of G.T KX h1 (h2 w)
  have hgs:=G.T.g
  obtain ⟨bm,ob,b1,b2,b3,b4,b5,b6⟩:=G.T.bmain
  have hbG:bm≠mainGlobals:=fun q=>by
    obtain ⟨o,es,ep,e,hd,_⟩:=hgs
    rw [q,e] at b3; cases b3; rw [hd] at b6; cases b6
  refine law_callL KX G.T.g G.T.b G.T.builtins G.T.nolimit hg (fun p hp=>(hC p hp).1) (fun p hp=>(hC p hp).2) (fun p hp=>⟨bm,ob,b1,b2,hbG,fun q=>?_,b3,b4,b5,b6⟩) (hnt w) hobj hints (Nat.le_trans hlen hn2) hr hF hb (fun H hT hS=>hsp w H a ns hlen hT hS) fun H e s'=>hCX H s₁ e s'
  have:=(hC p hp).2
  rw [← q,b3] at this
  cases this
  cases b4
end L2
namespace L2
open PySem PySem.Spec PyProof.Rows
def rSortedX (K:PySem.W.Frag):List V→Hp→VK→Prop:=fun xs H Q=>rSortedT K xs H Q∨rSortedN K xs H Q
theorem call_sortedX {X:Cx}:CallR X (.builtin "sorted") (rSortedX X.K):=call_sortedT.or call_sortedN
def rSumA (K:PySem.W.Frag):List V→Hp→VK→Prop:=fun xs H Q=>∃ (p:Addr) (ns:List Int),xs=[.ref p]∧SqL K H p (ns.map V.int)∧Q (.int ns.sum) H
theorem call_sumA {X:Cx} (hc:X.calm=true):CallR X (.builtin "sum") (rSumA X.K):=by
  intro pins s σ H xs us Q I r h
  obtain ⟨p,ns,rfl,hq,q⟩:=h
  obtain ⟨u,rfl,ru⟩:=vals1 r
  cases ru
  obtain ⟨its,rv,pl,hz⟩:=I.list hq
  have hi:IntsAre its ns:=intsAre_of rv
  obtain ⟨ys,e⟩:=hi.allInts.items
  have hn:=hi.numsOf
  have e':its=(intItems ys).toList:=by rw [← e]
  rw [e',nums_intItems] at hn
  have hl:s.heap.IsList p (intItems ys):=by rw [← e]; exact pl.isList
  subst hn
  refine sum_intListG (I.ok.hd hc) hl fun h' tk t' hk=>⟨.int _,H,I.kept hk,⟨t',?_⟩,q⟩
  rw [preSum_eq,List.take_of_length_le (by simp)]
end L2
namespace Rm
variable {f:Nat→Int} {m:Nat} {r:List Int}
def tn {α:Type} (r:List α) (k:Nat):List α:=r.drop k ++ (r.drop 1).take k
theorem tn_len {k:Nat} (hk:k < r.length):(tn r k).length=r.length:=by
  unfold tn
  rw [List.length_append,List.length_drop,List.length_take,List.length_drop]
  omega
theorem tn_zero:tn r 0=r:=by simp [tn]
theorem idx_lt {a:Int} (h:a ∈ r):r.idxOf a < r.length:=List.idxOf_lt_length_iff.mpr h
end Rm
namespace Rm
section
variable {n:Nat} {v par:Nat→Nat}
end
end Rm
namespace Rm
def al:List Int→List (Int × Int)
  | []=>[]
  | [_]=>[]
  | a :: b :: r=>(a,b) :: al (b :: r)
theorem al_zip:∀ r:List Int,al r=r.zip (r.drop 1)
  | []=>rfl
  | [_]=>rfl
  | a :: b :: r => by
    have:=al_zip (b :: r)
    simp only [List.drop_succ_cons,List.drop_zero] at this ⊢
    rw [List.zip_cons_cons,← this]; rfl
theorem al_split:∀ (xs:List Int) (x:Int) (ys:List Int),al (xs ++ x :: ys)=al (xs ++ [x]) ++ al (x :: ys)
  | [],x,ys=>rfl
  | [a],x,ys=>rfl
  | a :: b :: xs, x, ys => by
    have:=al_split (b :: xs) x ys
    show (a,b) :: al ((b :: xs) ++ x :: ys)=(a,b) :: al ((b :: xs) ++ [x]) ++ al (x :: ys)
    rw [this]; rfl
theorem al_mem:∀ {r:List Int} {x y:Int},(x,y) ∈ al r→x ∈ r∧y ∈ r
  | a :: b :: r, x, y, h => by
    rcases List.mem_cons.mp h with e | h
    · cases e; simp
    · have:=al_mem h
      exact ⟨List.mem_cons_of_mem _ this.1,List.mem_cons_of_mem _ this.2⟩
theorem al_len:∀ r:List Int,(al r).length=r.length - 1
  | []=>rfl
  | [_]=>rfl
  | a :: b :: r => by
    have:=al_len (b :: r)
    simp only [al,List.length_cons] at this ⊢
    omega
structure IsR (r:List Int):Prop where
  ne:r≠[]
  cnt:∃ ds:List Int,ds.Nodup∧(∀ x,x ∈ ds↔x ∈ r)∧r.length+1=2 * ds.length
  ends:r.head? = r.getLast?
  nd:(al r).Nodup
  sym:∀ x y,(x,y) ∈ al r→(y,x) ∈ al r
theorem IsR.one (a:Int):IsR [a]:=⟨by simp,⟨[a],by simp,by simp,rfl⟩,rfl,by simp [al],fun x y h=>by simp [al] at h⟩
theorem IsR.leafAt {A B : List Int} {z : Int} (h : IsR (A ++ z :: B)) (hA : z ∉ A) (hB : z ∉ B) (hn : A ++ B ≠ []) : ∃ A' w B', A = A' ++ [w] ∧ B = w :: B' := by
  have he:=h.ends
  have hAne:A≠[]:=fun e=>by
    subst e
    simp only [List.nil_append,List.head?_cons] at he hn
    rcases List.eq_nil_or_concat B with e | ⟨us,u,e⟩
    · exact hn e
    · rw [List.concat_eq_append] at e
      subst e
      rw [show z :: (us ++ [u])=(z :: us) ++ [u] by simp,List.getLast?_append] at he
      simp at he
      subst he
      exact hB (by simp)
  have hBne:B≠[]:=fun e=>by
    subst e
    rw [List.getLast?_append] at he
    simp at he
    cases A with
    | nil=>exact hAne rfl
    | cons a A =>
      simp at he
      subst he
      exact hA (by simp)
  obtain ⟨A',w,e⟩:∃ A' w,A=A' ++ [w]:=by
    rcases List.eq_nil_or_concat A with e | ⟨us,u,e⟩
    · exact absurd e hAne
    · exact ⟨us,u,by rw [e,List.concat_eq_append]⟩
  subst e
  cases B with
  | nil=>exact absurd rfl hBne
  | cons v B' =>
    refine ⟨A',w,B',rfl,?_⟩
    have e1:al (A' ++ [w] ++ z :: v :: B')=al (A' ++ [w]) ++ ((w,z) :: (z,v) :: al (v :: B')):=by
      rw [List.append_assoc,List.singleton_append,al_split]; rfl
    have m:=h.sym w z (by rw [e1]; simp)
    rw [e1] at m
    rcases List.mem_append.mp m with m | m
    · exact absurd (al_mem m).1 hA
    · rcases List.mem_cons.mp m with m | m
      · cases m; exact absurd (by simp) hA
      · rcases List.mem_cons.mp m with m | m
        · cases m; rfl
        · exact absurd (al_mem m).1 hB
theorem al_put (xs ys:List Int) (w z:Int):(al (xs ++ w :: z :: w :: ys)).Perm ((w,z) :: (z,w) :: al (xs ++ w :: ys)):=by
  rw [al_split,al_split xs w ys]
  show (al (xs ++ [w]) ++ ([(w,z),(z,w)] ++ al (w :: ys))).Perm ([(w,z),(z,w)] ++ (al (xs ++ [w]) ++ al (w :: ys)))
  rw [← List.append_assoc,← List.append_assoc]
  exact List.Perm.append_right _ List.perm_append_comm
theorem ends_put (xs ys:List Int) (w z:Int):(xs ++ w :: z :: w :: ys).head? = (xs ++ w :: ys).head?∧(xs ++ w :: z :: w :: ys).getLast? = (xs ++ w :: ys).getLast?:=by
  constructor
  · cases xs <;> simp
  · cases ys with
    | nil=>simp [List.getLast?_append]
    | cons y ys=>simp [List.getLast?_append,List.getLast?_cons]
theorem IsR.peel {xs ys : List Int} {w z : Int} (h : IsR (xs ++ w :: z :: w :: ys)) (hz : z ∉ xs ++ w :: ys) : IsR (xs ++ w :: ys) := by
  have hp:=al_put xs ys w z
  have nd:=hp.nodup_iff.mp h.nd
  have nd2:=(List.nodup_cons.mp nd).2
  refine ⟨by simp,?_,?_,(List.nodup_cons.mp nd2).2,fun x y hxy=>?_⟩
  · obtain ⟨ds,h1,h2,h3⟩:=h.cnt
    have hzd:z ∈ ds:=(h2 z).mpr (by simp)
    refine ⟨ds.erase z,h1.erase z,fun x=>?_,?_⟩
    · rw [h1.mem_erase_iff,h2]
      constructor
      · rintro ⟨h4,h5⟩
        simp at h5 ⊢
        rcases h5 with h5 | h5 | h5 | h5 | h5
        · exact .inl h5
        · exact .inr (.inl h5)
        · exact absurd h5 h4
        · exact .inr (.inl h5)
        · exact .inr (.inr h5)
      · intro h5
        refine ⟨fun e=>hz (e ▸ h5),?_⟩
        simp at h5 ⊢
        rcases h5 with h5 | h5 | h5
        · exact .inl h5
        · exact .inr (.inl h5)
        · exact .inr (.inr (.inr (.inr h5)))
    · rw [List.length_erase_of_mem hzd]
      have:0 < ds.length:=List.length_pos_of_mem hzd
      simp at h3 ⊢
      omega
  · have:=ends_put xs ys w z
    rw [← this.1,← this.2]; exact h.ends
  · have hm:=hp.mem_iff.mp (h.sym x y (hp.mem_iff.mpr (List.mem_cons_of_mem _ (List.mem_cons_of_mem _ hxy))))
    rcases List.mem_cons.mp hm with e | hm
    · cases e; exact absurd (al_mem hxy).1 hz
    · rcases List.mem_cons.mp hm with e | hm
      · cases e; exact absurd (al_mem hxy).2 hz
      · exact hm
theorem sum_counts : ∀ {ds r : List Int}, ds.Nodup → (∀ x ∈ r, x ∈ ds) → (ds.map fun d => r.count d).sum = r.length
  | ds, [], h1, h2 => by
    have:(ds.map fun d=>([]:List Int).count d)=ds.map fun _=>0:=by simp
    rw [this]
    clear this h1 h2
    induction ds with
    | nil=>rfl
    | cons d ds ih=>simpa using ih
  | ds, x :: r, h1, h2 => by
    have ih:=sum_counts (ds:=ds) (r:=r) h1 fun y hy=>h2 y (List.mem_cons_of_mem _ hy)
    have hx:=h2 x List.mem_cons_self
    have key:∀ (ds:List Int),ds.Nodup→(ds.map fun d=>(x :: r).count d).sum=(ds.map fun d=>r.count d).sum+if x ∈ ds then 1 else 0:=by
      intro ds
      induction ds with
      | nil=>intro _; simp
      | cons d ds ih2 =>
        intro hnd
        have:=ih2 (List.nodup_cons.mp hnd).2
        have hd:=(List.nodup_cons.mp hnd).1
        simp only [List.map_cons,List.sum_cons,List.count_cons] at this ⊢
        rw [this]
        by_cases e:x=d
        · subst e
          simp [hd]
          omega
        · have e':¬ d=x:=fun z=>e z.symm
          simp [e]
          omega
    rw [key ds h1,ih,if_pos hx,List.length_cons]
theorem IsR.leaf {r : List Int} (h : IsR r) (h1 : 1 < r.length) : ∃ xs w z ys, r = xs ++ w :: z :: w :: ys ∧ z ∉ xs ++ w :: ys := by
  obtain ⟨ds,d1,d2,d3⟩:=h.cnt
  have hs:=sum_counts d1 fun x hx=>(d2 x).mpr hx
  obtain ⟨z,hz,hc⟩:∃ z ∈ ds,r.count z < 2:=by
    refine Classical.byContradiction fun q=>?_
    have hall:∀ z ∈ ds,2≤r.count z:=fun z hz=>by
      by_cases c:r.count z < 2
      · exact absurd ⟨z,hz,c⟩ q
      · omega
    have:∀ (ds:List Int),(∀ z ∈ ds,2≤r.count z)→2 * ds.length≤(ds.map fun d=>r.count d).sum:=by
      intro ds
      induction ds with
      | nil=>intro _; simp
      | cons d ds ih =>
        intro h
        have a:=ih fun z hz=>h z (List.mem_cons_of_mem _ hz)
        have b:=h d List.mem_cons_self
        simp only [List.map_cons,List.sum_cons,List.length_cons]
        omega
    have:=this ds hall
    omega
  have hzr:=(d2 z).mp hz
  obtain ⟨A,B,e⟩:=List.append_of_mem hzr
  subst e
  have hc2:A.count z=0∧B.count z=0:=by
    rw [List.count_append,List.count_cons_self] at hc
    omega
  have hA:z ∉ A:=List.count_eq_zero.mp hc2.1
  have hB:z ∉ B:=List.count_eq_zero.mp hc2.2
  obtain ⟨A',w,B',e1,e2⟩:=h.leafAt hA hB (fun q=>by
    rw [List.append_eq_nil_iff] at q
    rw [q.1,q.2] at h1
    simp at h1)
  subst e1 e2
  exact ⟨A',w,z,B',by simp,fun hm=>by
    simp at hm hA hB
    rcases hm with hm | hm | hm
    · exact hA.1 hm
    · exact hA.2 hm
    · exact hB.2 hm⟩
def both (L:List (Int × Int)):List (Int × Int):=L.flatMap fun t=>[(t.1,t.2),(t.2,t.1)]
theorem both_cons (t:Int × Int) (L:List (Int × Int)):both (t :: L)=(t.1,t.2) :: (t.2,t.1) :: both L:=rfl
end Rm
namespace Rm
theorem IsR.of_perm {r r':List Int} (h:IsR r) (hn:r'≠[]) (hm:∀ x,x ∈ r'↔x ∈ r) (hl:r'.length=r.length) (he:r'.head? = r'.getLast?) (hp:(al r').Perm (al r)):IsR r' :=
  ⟨hn,let ⟨ds,a,b,c⟩:=h.cnt; ⟨ds,a,fun x=>by rw [b,hm],by rw [hl]; exact c⟩,he,hp.nodup_iff.mpr h.nd,fun x y z=>hp.mem_iff.mpr (h.sym x y (hp.mem_iff.mp z))⟩
theorem idx_split {r:List Int} {a:Int} (h:a ∈ r):∃ xs ys,r=xs ++ a :: ys∧xs.length=r.idxOf a∧a ∉ xs:=by
  induction r with
  | nil=>cases h
  | cons b r ih =>
    by_cases e:b=a
    · subst e; exact ⟨[],r,rfl,by simp,by simp⟩
    · have ha:a ∈ r:=(List.mem_cons.mp h).resolve_left fun q=>e q.symm
      obtain ⟨xs,ys,e1,e2,e3⟩:=ih ha
      have eb:(b == a)=false:=by simpa using e
      refine ⟨b :: xs,ys,by rw [e1]; rfl,by rw [List.idxOf_cons,eb]; simp [e2],fun hm=>?_⟩
      rcases List.mem_cons.mp hm with q | q
      · exact e q.symm
      · exact e3 q
theorem IsR.turn {r : List Int} {a : Int} (h : IsR r) (ha : a ∈ r) : IsR (tn r (r.idxOf a)) ∧ (al (tn r (r.idxOf a))).Perm (al r) ∧ (tn r (r.idxOf a)).head? = some a ∧ (∀ x, x ∈ tn r (r.idxOf a) ↔ x ∈ r) ∧ (tn r (r.idxOf a)).length = r.length := by
  have hlen:(tn r (r.idxOf a)).length=r.length:=tn_len (idx_lt ha)
  obtain ⟨xs,ys,e,el,hx⟩:=idx_split ha
  cases xs with
  | nil =>
    have e0:r.idxOf a=0:=by rw [← el]; rfl
    rw [e0,tn_zero]
    exact ⟨h,List.Perm.refl _,by rw [e]; rfl,fun x=>Iff.rfl,rfl⟩
  | cons b xs =>
    have hba:b≠a:=fun q=>hx (by simp [q])
    have he:=h.ends
    obtain ⟨ys',ey⟩:∃ ys',ys=ys' ++ [b]:=by
      rw [e] at he
      simp only [List.cons_append,List.head?_cons] at he
      rw [show b :: (xs ++ a :: ys)=(b :: xs ++ [a]) ++ ys by simp,List.getLast?_append] at he
      rcases List.eq_nil_or_concat ys with q | ⟨us,u,q⟩
      · subst q
        rw [show b :: xs ++ [a]=(b :: xs) ++ [a] by rfl,List.getLast?_append] at he
        simp at he
        exact absurd he hba
      · rw [List.concat_eq_append] at q
        subst q
        rw [List.getLast?_append] at he
        simp at he
        subst he
        exact ⟨us,rfl⟩
    subst ey
    have et:tn r (r.idxOf a)=(a :: ys') ++ b :: (xs ++ [a]):=by
      unfold tn
      rw [← el,e]
      simp only [List.length_cons]
      have d1:((b :: xs) ++ a :: (ys' ++ [b])).drop (xs.length+1)=a :: (ys' ++ [b]):=by simp
      have d2:(((b :: xs) ++ a :: (ys' ++ [b])).drop 1).take (xs.length+1)=xs ++ [a]:=by
        show (xs ++ a :: (ys' ++ [b])).take (xs.length+1)=xs ++ [a]
        rw [List.take_append,List.take_of_length_le (by omega)]
        simp
      rw [d1,d2]; simp
    have hp:(al (tn r (r.idxOf a))).Perm (al r):=by
      rw [et,e,al_split (a :: ys') b (xs ++ [a]),al_split (b :: xs) a (ys' ++ [b])]
      exact List.perm_append_comm
    have hm:∀ x,x ∈ tn r (r.idxOf a)↔x ∈ r:=fun x=>by
      rw [et,e]
      simp
      constructor
      · rintro (q | q | q | q | q)
        · exact .inr (.inr (.inl q))
        · exact .inr (.inr (.inr (.inl q)))
        · exact .inl q
        · exact .inr (.inl q)
        · exact .inr (.inr (.inl q))
      · rintro (q | q | q | q | q)
        · exact .inr (.inr (.inl q))
        · exact .inr (.inr (.inr (.inl q)))
        · exact .inl q
        · exact .inr (.inl q)
        · exact .inr (.inr (.inl q))
    refine ⟨h.of_perm (by rw [et]; simp) hm hlen (by rw [et]; simp [List.getLast?_append,List.getLast?_cons]) hp,hp,by rw [et]; rfl,hm,hlen⟩
theorem al_spl {xs ys T:List Int} {a b:Int} (h1:T.head? = some b) (h2:T.getLast? = some b):(al (xs ++ a :: (T ++ a :: ys))).Perm ((a,b) :: (b,a) :: (al (xs ++ a :: ys) ++ al T)):=by
  obtain ⟨T1,e1⟩:∃ T1,T=b :: T1:=by
    cases T with
    | nil=>simp at h1
    | cons c T=>simp at h1; exact ⟨T,by rw [h1]⟩
  obtain ⟨T2,e2⟩:∃ T2,T=T2 ++ [b]:=by
    rcases List.eq_nil_or_concat T with q | ⟨us,u,q⟩
    · subst q; simp at h2
    · rw [List.concat_eq_append] at q
      subst q
      simp at h2
      exact ⟨us,by rw [h2]⟩
  have e3:al (a :: (T ++ a :: ys))=(a,b) :: (al T ++ (b,a) :: al (a :: ys)):=by
    have e4:al (T ++ a :: ys)=al T ++ (b,a) :: al (a :: ys):=by
      conv=>lhs; rw [e2,List.append_assoc,List.singleton_append,al_split]
      rw [← e2]; rfl
    have e5:al (a :: (T ++ a :: ys))=(a,b) :: al (T ++ a :: ys):=by rw [e1]; rfl
    rw [e5,e4]
  rw [al_split xs a (T ++ a :: ys),al_split xs a ys,e3]
  generalize al (xs ++ [a])=P
  generalize al (a :: ys)=R
  generalize al T=U
  -- P ++ (ab :: (U ++ ba :: R)) ~ ab :: ba :: ((P ++ R) ++ U)
  refine List.perm_middle.trans (List.Perm.cons _ ?_)
  rw [← List.append_assoc]
  refine List.perm_middle.trans (List.Perm.cons _ ?_)
  rw [List.append_assoc,List.append_assoc]
  exact List.Perm.append_left _ List.perm_append_comm
theorem ends_spl (xs ys T:List Int) (a:Int):(xs ++ a :: (T ++ a :: ys)).head? = (xs ++ a :: ys).head?∧(xs ++ a :: (T ++ a :: ys)).getLast? = (xs ++ a :: ys).getLast?:=by
  constructor
  · cases xs <;> simp
  · cases ys with
    | nil=>simp [List.getLast?_append,List.getLast?_cons]
    | cons y ys=>simp [List.getLast?_append,List.getLast?_cons]
theorem IsR.splice {xs ys T : List Int} {a b : Int} (h : IsR (xs ++ a :: ys)) (hT : IsR T) (h1 : T.head? = some b) (hd : ∀ x ∈ T, x ∉ xs ++ a :: ys) : IsR (xs ++ a :: (T ++ a :: ys)) := by
  have h2:T.getLast? = some b:=by rw [← hT.ends]; exact h1
  have hp:=al_spl (xs:=xs) (ys:=ys) (a:=a) h1 h2
  have hb:b ∈ T:=List.mem_of_mem_head? (by rw [h1]; rfl)
  have ha:a ∈ xs ++ a :: ys:=by simp
  have hab:a≠b:=fun e=>hd b hb (e ▸ ha)
  have hb':=hd b hb
  have ha':a ∉ T:=fun q=>hd a q ha
  refine ⟨by simp,?_,?_,hp.nodup_iff.mpr ?_,fun x y hxy=>?_⟩
  · obtain ⟨ds,d1,d2,d3⟩:=h.cnt
    obtain ⟨es,e1,e2,e3⟩:=hT.cnt
    refine ⟨ds ++ es,List.nodup_append.mpr ⟨d1,e1,fun x hx y hy q=>hd y ((e2 y).mp hy) (q ▸ (d2 x).mp hx)⟩,fun x=>?_,?_⟩
    · rw [List.mem_append,d2,e2]
      simp
      constructor
      · rintro ((q | q | q) | q)
        · exact .inl q
        · exact .inr (.inl q)
        · exact .inr (.inr (.inr (.inr q)))
        · exact .inr (.inr (.inl q))
      · rintro (q | q | q | q | q)
        · exact .inl (.inl q)
        · exact .inl (.inr (.inl q))
        · exact .inr q
        · exact .inl (.inr (.inl q))
        · exact .inl (.inr (.inr q))
    · simp at d3 ⊢
      omega
  · have:=ends_spl xs ys T a
    rw [this.1,this.2]; exact h.ends
  · refine List.nodup_cons.mpr ⟨fun hm=>?_,List.nodup_cons.mpr ⟨fun hm=>?_,List.nodup_append.mpr ⟨h.nd,hT.nd,?_⟩⟩⟩
    · rcases List.mem_cons.mp hm with q | hm
      · exact hab (by cases q; rfl)
      · rcases List.mem_append.mp hm with q | q
        · exact hb' (al_mem q).2
        · exact ha' (al_mem q).1
    · rcases List.mem_append.mp hm with q | q
      · exact hb' (al_mem q).1
      · exact ha' (al_mem q).2
    · rintro ⟨x,y⟩ hx t ht q
      subst q
      exact hd x (al_mem ht).1 (al_mem hx).1
  · refine hp.mem_iff.mpr ?_
    rcases List.mem_cons.mp (hp.mem_iff.mp hxy) with q | hm
    · cases q; simp
    · rcases List.mem_cons.mp hm with q | hm
      · cases q; simp
      · refine List.mem_cons_of_mem _ (List.mem_cons_of_mem _ ?_)
        rcases List.mem_append.mp hm with q | q
        · exact List.mem_append_left _ (h.sym x y q)
        · exact List.mem_append_right _ (hT.sym x y q)
end Rm
namespace Rm
end Rm
namespace Rm
end Rm
namespace Rm
def spl (r1 r2:List Int) (a b:Int):List Int:=r1.take (r1.idxOf a+1) ++ (tn r2 (r2.idxOf b) ++ r1.drop (r1.idxOf a))
structure Two (r1 r2:List Int) (a b:Int):Prop where
  h1:IsR r1
  h2:IsR r2
  ha:a ∈ r1
  hb:b ∈ r2
  dis:∀ x ∈ r2,x ∉ r1
theorem Two.facts {r1 r2:List Int} {a b:Int} (T:Two r1 r2 a b):IsR (spl r1 r2 a b)∧(al (spl r1 r2 a b)).Perm ((a,b) :: (b,a) :: (al r1 ++ al r2))∧(spl r1 r2 a b).length=r1.length+r2.length+1:=by
  obtain ⟨t1,t2,t3,t4,t5⟩:=T.h2.turn T.hb
  obtain ⟨xs,ys,e,el,hx⟩:=idx_split T.ha
  have es:spl r1 r2 a b=xs ++ a :: (tn r2 (r2.idxOf b) ++ a :: ys):=by
    unfold spl
    rw [← el]
    conv=>lhs; rw [e]
    have d1:(xs ++ a :: ys).take (xs.length+1)=xs ++ [a]:=by
      rw [List.take_append,List.take_of_length_le (by omega)]
      simp
    have d2:(xs ++ a :: ys).drop xs.length=a :: ys:=by simp
    rw [d1,d2]; simp
  have hR:IsR (xs ++ a :: ys):=by rw [← e]; exact T.h1
  have hd:∀ x ∈ tn r2 (r2.idxOf b),x ∉ xs ++ a :: ys:=fun x hx=>by rw [← e]; exact T.dis x ((t4 x).mp hx)
  refine ⟨by rw [es]; exact hR.splice t1 t3 hd,?_,?_⟩
  · rw [es,e]
    have t3':(tn r2 (r2.idxOf b)).getLast? = some b:=by rw [← t1.ends]; exact t3
    exact (al_spl t3 t3').trans (List.Perm.cons _ (List.Perm.cons _ (List.Perm.append_left _ t2)))
  · have hlt:(tn r2 (r2.idxOf b)).length=r2.length:=t5
    unfold spl
    have:=idx_lt T.ha
    rw [List.length_append,List.length_append,List.length_take,List.length_drop,hlt]
    omega
theorem Two.mem {r1 r2:List Int} {a b:Int} (T:Two r1 r2 a b) (x:Int):x ∈ spl r1 r2 a b↔x ∈ r1∨x ∈ r2:=by
  obtain ⟨t1,t2,t3,t4,t5⟩:=T.h2.turn T.hb
  unfold spl
  rw [List.mem_append,List.mem_append,t4]
  constructor
  · rintro (h | h | h)
    · exact .inl (List.mem_of_mem_take h)
    · exact .inr h
    · exact .inl (List.mem_of_mem_drop h)
  · rintro (h | h)
    · rw [← List.take_append_drop (r1.idxOf a) r1] at h
      rcases List.mem_append.mp h with h | h
      · exact .inl (List.take_subset_take_left _ (Nat.le_succ _) h)
      · exact .inr (.inr h)
    · exact .inr (.inl h)
structure Wd (n:Nat) (R:Nat→List Int):Prop where
  r:∀ i,i < n→IsR (R i)
  me:∀ i:Nat,i < n→(i:Int) ∈ R i
  in_:∀ i,i < n→∀ x ∈ R i,∃ j:Nat,j < n∧x=(j:Int)∧R j=R i
def Ed (n:Nat) (R:Nat→List Int) (x y:Int):Prop:=∃ i,i < n∧(x,y) ∈ al (R i)
theorem Wd.start (n:Nat):Wd n fun i=>[(i:Int)] :=
  ⟨fun i _=>IsR.one _,fun i _=>by simp,fun i hi x hx=>⟨i,hi,by simpa using hx,rfl⟩⟩
theorem Wd.same {n:Nat} {R:Nat→List Int} (W:Wd n R) {i j:Nat} (hi:i < n) (hj:j < n) {x:Int} (h1:x ∈ R i) (h2:x ∈ R j):R i=R j:=by
  obtain ⟨k,hk,e1,e2⟩:=W.in_ i hi x h1
  obtain ⟨k',hk',e3,e4⟩:=W.in_ j hj x h2
  have:k=k':=by omega
  subst this
  rw [← e2,e4]
theorem Wd.head {n:Nat} {R:Nat→List Int} (W:Wd n R) {i j:Nat} (hi:i < n) (hj:j < n):((R i).head? = (R j).head?↔(j:Int) ∈ R i):=by
  constructor
  · intro e
    obtain ⟨x,hx⟩:∃ x,(R i).head? = some x:=by
      cases h:R i with
      | nil=>exact absurd h (W.r i hi).ne
      | cons a l=>exact ⟨a,rfl⟩
    rw [W.same hi hj (List.mem_of_mem_head? hx) (List.mem_of_mem_head? (e ▸ hx))]
    exact W.me j hj
  · intro h
    rw [W.same hi hj h (W.me j hj)]
theorem Wd.link {n : Nat} {R : Nat → List Int} (W : Wd n R) {a b : Nat} (ha : a < n) (hb : b < n) (hn : (b : Int) ∉ R a) :
    Two (R a) (R b) a b∧Wd n (fun i=>if (i:Int) ∈ spl (R a) (R b) a b then spl (R a) (R b) a b else R i) ∧
      ∀ x y,Ed n (fun i=>if (i:Int) ∈ spl (R a) (R b) a b then spl (R a) (R b) a b else R i) x y↔(Ed n R x y∨(x,y)=((a:Int),(b:Int))∨(x,y)=((b:Int),(a:Int))):=by
  have T:Two (R a) (R b) a b:=⟨W.r a ha,W.r b hb,W.me a ha,W.me b hb,fun x h2 h1=>hn (by rw [W.same ha hb h1 h2]; exact W.me b hb)⟩
  obtain ⟨f1,f2,f3⟩:=T.facts
  have fm:=T.mem
  generalize spl (R a) (R b) a b=s at f1 f2 f3 fm
  have hs:∀ x ∈ s,∃ j:Nat,j < n∧x=(j:Int)∧(j:Int) ∈ s:=fun x hx=>by
    rcases (fm x).mp hx with h | h
    · obtain ⟨j,hj,e,_⟩:=W.in_ a ha x h; exact ⟨j,hj,e,e ▸ hx⟩
    · obtain ⟨j,hj,e,_⟩:=W.in_ b hb x h; exact ⟨j,hj,e,e ▸ hx⟩
  have nos:∀ i,i < n→(i:Int) ∉ s→∀ x ∈ R i,x ∉ s:=fun i hi h x hx hxs=>by
    rcases (fm x).mp hxs with q | q
    · exact h ((fm i).mpr (.inl (W.same ha hi q hx ▸ W.me i hi)))
    · exact h ((fm i).mpr (.inr (W.same hb hi q hx ▸ W.me i hi)))
  refine ⟨T,⟨fun i hi=>?_,fun i hi=>?_,fun i hi x hx=>?_⟩,fun x y=>⟨?_,?_⟩⟩
  · by_cases c:(i:Int) ∈ s
    · rw [if_pos c]; exact f1
    · rw [if_neg c]; exact W.r i hi
  · by_cases c:(i:Int) ∈ s
    · rw [if_pos c]; exact c
    · rw [if_neg c]; exact W.me i hi
  · by_cases c:(i:Int) ∈ s
    · simp only [if_pos c] at hx ⊢
      obtain ⟨j,hj,e,hjs⟩:=hs x hx
      exact ⟨j,hj,e,if_pos hjs⟩
    · simp only [if_neg c] at hx ⊢
      obtain ⟨j,hj,e,er⟩:=W.in_ i hi x hx
      exact ⟨j,hj,e,by rw [if_neg (fun h=>nos i hi c x hx (e ▸ h))]; exact er⟩
  · rintro ⟨i,hi,hm⟩
    by_cases c:(i:Int) ∈ s
    · simp only [if_pos c] at hm
      rcases List.mem_cons.mp (f2.mem_iff.mp hm) with e | hm
      · exact .inr (.inl e)
      · rcases List.mem_cons.mp hm with e | hm
        · exact .inr (.inr e)
        · rcases List.mem_append.mp hm with h | h
          · exact .inl ⟨a,ha,h⟩
          · exact .inl ⟨b,hb,h⟩
    · simp only [if_neg c] at hm
      exact .inl ⟨i,hi,hm⟩
  · have inS:∀ {u v:Int},(u,v) ∈ al s→Ed n (fun i=>if (i:Int) ∈ s then s else R i) u v:=fun h=>⟨a,ha,by simp only [if_pos ((fm a).mpr (.inl (W.me a ha)))]; exact h⟩
    rintro (⟨i,hi,hm⟩ | e | e)
    · by_cases c:(i:Int) ∈ s
      · refine inS (f2.mem_iff.mpr (List.mem_cons_of_mem _ (List.mem_cons_of_mem _ ?_)))
        rcases (fm i).mp c with h | h
        · rw [← W.same ha hi h (W.me i hi)] at hm; exact List.mem_append_left _ hm
        · rw [← W.same hb hi h (W.me i hi)] at hm; exact List.mem_append_right _ hm
      · exact ⟨i,hi,by simp only [if_neg c]; exact hm⟩
    · obtain ⟨rfl,rfl⟩:=Prod.mk.inj e; exact inS (f2.mem_iff.mpr List.mem_cons_self)
    · obtain ⟨rfl,rfl⟩:=Prod.mk.inj e; exact inS (f2.mem_iff.mpr (List.mem_cons_of_mem _ List.mem_cons_self))
theorem few {l:List Int} {n:Nat} (hn:l.Nodup) (h:∀ x ∈ l,∃ j:Nat,j < n∧x=(j:Int)):l.length≤n:=by
  have e:=sum_counts (ds:=(List.range n).map fun i:Nat=>(i:Int)) (r:=l) (by
    rw [List.nodup_iff_pairwise_ne,List.pairwise_map]
    exact List.Pairwise.imp (fun h e=>h (by omega)) (List.nodup_iff_pairwise_ne.mp List.nodup_range)) fun x hx=>by
      obtain ⟨j,hj,e⟩:=h x hx
      exact List.mem_map.mpr ⟨j,List.mem_range.mpr hj,e.symm⟩
  have le:∀ (ds:List Int),(ds.map fun d=>l.count d).sum≤ds.length:=fun ds=>by
    induction ds with
    | nil=>simp
    | cons d ds ih =>
      have:l.count d≤1:=List.nodup_iff_count.mp hn d
      simp only [List.map_cons,List.sum_cons,List.length_cons]
      omega
  have:=le ((List.range n).map fun i:Nat=>(i:Int))
  rw [e] at this
  simpa using this
theorem Wd.len {n:Nat} {R:Nat→List Int} (W:Wd n R) {i:Nat} (hi:i < n):(R i).length+1≤2 * n:=by
  obtain ⟨ds,h1,h2,h3⟩:=(W.r i hi).cnt
  have:=few h1 fun x hx=>let ⟨j,hj,e,_⟩:=W.in_ i hi x ((h2 x).mp hx); ⟨j,hj,e⟩
  omega
end Rm
namespace Rm
theorem IsR.half : ∀ (n : Nat) {r : List Int}, r.length ≤ n → IsR r → ∃ L : List (Int × Int), (al r).Perm (both L) ∧ (∀ t ∈ L, t.1 < t.2) ∧ 2 * L.length + 1 = r.length
  | 0,r,hl,h=>absurd (List.eq_nil_of_length_eq_zero (by omega)) h.ne
  | n + 1, r, hl, h => by
    by_cases h1:1 < r.length
    · obtain ⟨xs,v,z,ys,rfl,hz⟩:=h.leaf h1
      have hvz:v≠z:=fun e=>hz (by simp [e])
      obtain ⟨L,p,lt,ln⟩:=IsR.half n (r:=xs ++ v :: ys) (by simp at hl ⊢; omega) (h.peel hz)
      have pm:=al_put xs ys v z
      rcases Int.lt_or_gt_of_ne hvz with c | c
      · refine ⟨(v,z) :: L,pm.trans ?_,fun t ht=>?_,by simp at ln ⊢; omega⟩
        · rw [both_cons]; exact (p.cons _).cons _
        · rcases List.mem_cons.mp ht with rfl | ht
          · exact c
          · exact lt t ht
      · refine ⟨(z,v) :: L,pm.trans ?_,fun t ht=>?_,by simp at ln ⊢; omega⟩
        · rw [both_cons]; exact (List.Perm.swap _ _ _).trans ((p.cons _).cons _)
        · rcases List.mem_cons.mp ht with rfl | ht
          · exact c
          · exact lt t ht
    · have:r.length=1:=by have:=List.length_pos_iff.mpr h.ne; omega
      obtain ⟨c,rfl⟩:=List.length_eq_one_iff.mp this
      exact ⟨[],by simp [al,both],(fun t ht=>nomatch ht),rfl⟩
def ups (r:List Int):List (Int × Int):=(al r).filter fun t=>decide (t.1 < t.2)
theorem mem_ups {r:List Int} {t:Int × Int}:t ∈ ups r↔t.1 < t.2∧t ∈ al r:=by unfold ups; rw [List.mem_filter,decide_eq_true_iff]; exact And.comm
theorem IsR.ups_nd {r:List Int} (h:IsR r):(ups r).Nodup:=(List.filter_sublist).nodup h.nd
theorem IsR.ups_len {r:List Int} (h:IsR r):2 * (ups r).length+1=r.length:=by
  obtain ⟨L,p,lt,ln⟩:=IsR.half _ (Nat.le_refl _) h
  have hp:=p.filter fun t:Int × Int=>decide (t.1 < t.2)
  have e:∀ L:List (Int × Int),(∀ t ∈ L,t.1 < t.2)→((both L).filter fun t=>decide (t.1 < t.2)).length=L.length:=by
    intro L
    induction L with
    | nil=>intro _; rfl
    | cons t L ih =>
      intro h
      have ht:=h t List.mem_cons_self
      rw [both_cons,List.filter_cons,if_pos (by simpa using ht),List.filter_cons,if_neg (by simp; omega),List.length_cons,List.length_cons,ih fun u hu=>h u (List.mem_cons_of_mem _ hu)]
  have:=hp.length_eq
  rw [e L lt] at this
  unfold ups
  rw [this]; exact ln
end Rm
namespace Rm
theorem perm_of {α:Type} [DecidableEq α] {l m:List α} (h1:l.Nodup) (h2:m.Nodup) (h:∀ x,x ∈ l↔x ∈ m):l.Perm m:=by
  rw [List.perm_iff_count]
  intro x
  by_cases hx:x ∈ l
  · have a1:=List.nodup_iff_count.mp h1 x
    have a2:=List.nodup_iff_count.mp h2 x
    have b1:=List.count_pos_iff.mpr hx
    have b2:=List.count_pos_iff.mpr ((h x).mp hx)
    omega
  · rw [List.count_eq_zero_of_not_mem hx,List.count_eq_zero_of_not_mem (fun q=>hx ((h x).mpr q))]
theorem rise_ext : ∀ {L M : List Int}, L.Pairwise (· < ·) → M.Pairwise (· < ·) → (∀ t, t ∈ L ↔ t ∈ M) → L = M
  | [],[],_,_,_=>rfl
  | [],m :: M,_,_,h=>absurd ((h m).mpr List.mem_cons_self) (by simp)
  | l :: L,[],_,_,h=>absurd ((h l).mp List.mem_cons_self) (by simp)
  | l :: L, m :: M, h1, h2, h => by
    obtain ⟨a1,a2⟩:=List.pairwise_cons.mp h1
    obtain ⟨b1,b2⟩:=List.pairwise_cons.mp h2
    have e:l=m:=by
      rcases List.mem_cons.mp ((h l).mp List.mem_cons_self) with e | hl
      · exact e
      · rcases List.mem_cons.mp ((h m).mpr List.mem_cons_self) with e | hm
        · exact e.symm
        · have x1:=b1 l hl
          have x2:=a1 m hm
          omega
    subst e
    rw [rise_ext a2 b2 fun t=>?_]
    constructor
    · intro ht
      rcases List.mem_cons.mp ((h t).mp (List.mem_cons_of_mem _ ht)) with e | z
      · subst e; exact absurd (a1 _ ht) (by omega)
      · exact z
    · intro ht
      rcases List.mem_cons.mp ((h t).mpr (List.mem_cons_of_mem _ ht)) with e | z
      · subst e; exact absurd (b1 _ ht) (by omega)
      · exact z
structure Cnt (n:Nat) (R:Nat→List Int) (L:List (Int × Int)):Prop where
  nd:L.Nodup
  mem:∀ t:Int × Int,t ∈ L↔t.1 < t.2∧Ed n R t.1 t.2
theorem Cnt.len {n:Nat} {R:Nat→List Int} {L M:List (Int × Int)} (h:Cnt n R L) (k:Cnt n R M):L.length=M.length:=(perm_of h.nd k.nd fun t=>by rw [h.mem,k.mem]).length_eq
end Rm
namespace K51
open PySem PySem.Spec PyProof.Rows L2
def top (i:Nat):Stmt:=PySem.Challenge.pw_tiewood_k51_the_first_wood.main.body.getD i (.Pass ⟨0,0,0,0⟩)
abbrev sis_whole:Stmt:=top 3
abbrev sis_count:Stmt:=top 4
abbrev sis_place:Stmt:=top 5
abbrev stop:Stmt:=top 6
abbrev stie_of:Stmt:=top 7
abbrev ssteps_along:Stmt:=top 16
abbrev sturned:Stmt:=top 17
abbrev sspliced:Stmt:=top 18
abbrev srefuse_no_place:Stmt:=top 20
abbrev srefuse_no_places:Stmt:=top 21
abbrev srefuse_no_pair:Stmt:=top 22
abbrev sin_order:Stmt:=top 25
abbrev snew_tie:Stmt:=top 28
abbrev s_law_cell_at:Stmt:=top 33
abbrev s_law_whole:Stmt:=top 34
abbrev s_law_shape:Stmt:=top 35
abbrev s_law_weight:Stmt:=top 36
abbrev s_law_told:Stmt:=top 37
abbrev s_law_merged:Stmt:=top 38
abbrev s_law_kinds:Stmt:=top 39
abbrev s_law_sides:Stmt:=top 40
abbrev slaw:Stmt:=top 41
abbrev sWood___init__:Stmt:=inClass (top 23) 0
abbrev sWood_keep:Stmt:=inClass (top 23) 1
abbrev sWood_link:Stmt:=inClass (top 23) 2
abbrev sWood_joined:Stmt:=inClass (top 23) 4
abbrev sWood_group:Stmt:=inClass (top 23) 5
abbrev sWood_ties:Stmt:=inClass (top 23) 8
abbrev sLevels___init__:Stmt:=inClass (top 26) 0
abbrev sLevels_add:Stmt:=inClass (top 26) 1
abbrev sLevels_adopt:Stmt:=inClass (top 26) 2
abbrev sLevels_told:Stmt:=inClass (top 26) 6
abbrev sKept___init__:Stmt:=inClass (top 29) 0
abbrev sKept_receive:Stmt:=inClass (top 29) 1
abbrev sKept_joined:Stmt:=inClass (top 29) 3
abbrev sKept_side:Stmt:=inClass (top 29) 5
abbrev sKept_ties:Stmt:=inClass (top 29) 6
abbrev sLightest___init__:Stmt:=inClass (top 31) 0
abbrev sLightest_weight:Stmt:=inClass (top 31) 1
theorem scis_whole:FnScope ["thing"] ["thing"] (defScope sis_whole):=⟨rfl,rfl,rfl,by decide +kernel,rfl,by decide +kernel,by decide +kernel⟩
theorem scis_count:FnScope ["thing"] ["thing"] (defScope sis_count):=⟨rfl,rfl,rfl,by decide +kernel,rfl,by decide +kernel,by decide +kernel⟩
theorem scis_place:FnScope ["n","thing"] ["n","thing"] (defScope sis_place):=⟨rfl,rfl,rfl,by decide +kernel,rfl,by decide +kernel,by decide +kernel⟩
theorem sctop:FnScope ["n","level","needed"] ["n"] (defScope stop):=⟨rfl,rfl,rfl,by decide +kernel,rfl,by decide +kernel,by decide +kernel⟩
theorem sctie_of:FnScope ["a","b"] ["a","b"] (defScope stie_of):=⟨rfl,rfl,rfl,by decide +kernel,rfl,by decide +kernel,by decide +kernel⟩
theorem scsteps_along:FnScope ["row"] ["row"] (defScope ssteps_along):=⟨rfl,rfl,rfl,by decide +kernel,rfl,by decide +kernel,by decide +kernel⟩
theorem scturned:FnScope ["row","a","k"] ["row","a"] (defScope sturned):=⟨rfl,rfl,rfl,by decide +kernel,rfl,by decide +kernel,by decide +kernel⟩
theorem scspliced:FnScope ["row","other","a","b","k"] ["row","other","a","b"] (defScope sspliced):=⟨rfl,rfl,rfl,by decide +kernel,rfl,by decide +kernel,by decide +kernel⟩
theorem screfuse_no_place:FnScope ["n","thing"] ["n","thing"] (defScope srefuse_no_place):=⟨rfl,rfl,rfl,by decide +kernel,rfl,by decide +kernel,by decide +kernel⟩
theorem screfuse_no_places:FnScope ["n","a","b"] ["n","a","b"] (defScope srefuse_no_places):=⟨rfl,rfl,rfl,by decide +kernel,rfl,by decide +kernel,by decide +kernel⟩
theorem screfuse_no_pair:FnScope ["n","a","b"] ["n","a","b"] (defScope srefuse_no_pair):=⟨rfl,rfl,rfl,by decide +kernel,rfl,by decide +kernel,by decide +kernel⟩
theorem scin_order:FnScope ["ties","weight_of"] ["ties","weight_of"] (defScope sin_order):=⟨rfl,rfl,rfl,by decide +kernel,rfl,by decide +kernel,by decide +kernel⟩
theorem scnew_tie:FnScope ["n","standing","a","b","tie"] ["n","standing","a","b"] (defScope snew_tie):=⟨rfl,rfl,rfl,by decide +kernel,rfl,by decide +kernel,by decide +kernel⟩
theorem sc_law_cell_at:FnScope ["_law_script","_law_k"] ["_law_script","_law_k"] (defScope s_law_cell_at):=⟨rfl,rfl,rfl,by decide +kernel,rfl,by decide +kernel,by decide +kernel⟩
theorem sc_law_whole:FnScope ["_law_found"] ["_law_found"] (defScope s_law_whole):=⟨rfl,rfl,rfl,by decide +kernel,rfl,by decide +kernel,by decide +kernel⟩
theorem sc_law_shape:FnScope ["_law_n","_law_way","_law_net"] ["_law_n","_law_way"] (defScope s_law_shape):=⟨rfl,rfl,rfl,by decide +kernel,rfl,by decide +kernel,by decide +kernel⟩
theorem sc_law_weight:FnScope ["_law_cell","_law_k","_law_way"] ["_law_cell","_law_k"] (defScope s_law_weight):=⟨rfl,rfl,rfl,by decide +kernel,rfl,by decide +kernel,by decide +kernel⟩
theorem sc_law_told:FnScope ["_law_script","_law_first","_law_n","_law_pairs","_law_cell","_law_told_here","_law_known","_law_k","_law_a","_law_b","_law_tie","_law_weight_here","_law_turn"] ["_law_script"] (defScope s_law_told):=⟨rfl,rfl,rfl,by decide +kernel,rfl,by decide +kernel,by decide +kernel⟩
theorem sc_law_merged:FnScope ["_law_names","_law_a","_law_b","_law_kept","_law_gone"] ["_law_names","_law_a","_law_b"] (defScope s_law_merged):=⟨rfl,rfl,rfl,by decide +kernel,rfl,by decide +kernel,by decide +kernel⟩
theorem sc_law_kinds:FnScope ["_law_rows","_law_row"] ["_law_rows"] (defScope s_law_kinds):=⟨rfl,rfl,rfl,by decide +kernel,rfl,by decide +kernel,by decide +kernel⟩
theorem sc_law_sides:FnScope ["_law_wood","_law_names","_law_a","_law_side","_law_due","_law_b","_law_joined"] ["_law_wood","_law_names"] (defScope s_law_sides):=⟨rfl,rfl,rfl,by decide +kernel,rfl,by decide +kernel,by decide +kernel⟩
theorem sclaw:FnScope ["_law_script","_law_n","_law_told_here","_law_names","_law_due","_law_weight_here","_law_rows","_law_number","_law_a","_law_b","_law_handed","_law_wood","_law_turn"] ["_law_script"] (defScope slaw):=⟨rfl,rfl,rfl,by decide +kernel,rfl,by decide +kernel,by decide +kernel⟩
theorem scWood___init__:FnScope ["self","n"] ["self","n"] (defScope sWood___init__):=⟨rfl,rfl,rfl,by decide +kernel,rfl,by decide +kernel,by decide +kernel⟩
theorem scWood_keep:FnScope ["self","row","place"] ["self","row"] (defScope sWood_keep):=⟨rfl,rfl,rfl,by decide +kernel,rfl,by decide +kernel,by decide +kernel⟩
theorem scWood_link:FnScope ["self","a","b"] ["self","a","b"] (defScope sWood_link):=⟨rfl,rfl,rfl,by decide +kernel,rfl,by decide +kernel,by decide +kernel⟩
theorem scWood_joined:FnScope ["self","a","b"] ["self","a","b"] (defScope sWood_joined):=⟨rfl,rfl,rfl,by decide +kernel,rfl,by decide +kernel,by decide +kernel⟩
theorem scWood_group:FnScope ["self","a"] ["self","a"] (defScope sWood_group):=⟨rfl,rfl,rfl,by decide +kernel,rfl,by decide +kernel,by decide +kernel⟩
theorem scWood_ties:FnScope ["self","told","place","row"] ["self"] (defScope sWood_ties):=⟨rfl,rfl,rfl,by decide +kernel,rfl,by decide +kernel,by decide +kernel⟩
theorem scLevels___init__:FnScope ["self","n"] ["self","n"] (defScope sLevels___init__):=⟨rfl,rfl,rfl,by decide +kernel,rfl,by decide +kernel,by decide +kernel⟩
theorem scLevels_add:FnScope ["self","tie","weight"] ["self","tie","weight"] (defScope sLevels_add):=⟨rfl,rfl,rfl,by decide +kernel,rfl,by decide +kernel,by decide +kernel⟩
theorem scLevels_adopt:FnScope ["self","tie","wood"] ["self","tie"] (defScope sLevels_adopt):=⟨rfl,rfl,rfl,by decide +kernel,rfl,by decide +kernel,by decide +kernel⟩
theorem scLevels_told:FnScope ["self","tie"] ["self","tie"] (defScope sLevels_told):=⟨rfl,rfl,rfl,by decide +kernel,rfl,by decide +kernel,by decide +kernel⟩
theorem scKept___init__:FnScope ["self","n"] ["self","n"] (defScope sKept___init__):=⟨rfl,rfl,rfl,by decide +kernel,rfl,by decide +kernel,by decide +kernel⟩
theorem scKept_receive:FnScope ["self","tie","weight"] ["self","tie","weight"] (defScope sKept_receive):=⟨rfl,rfl,rfl,by decide +kernel,rfl,by decide +kernel,by decide +kernel⟩
theorem scKept_joined:FnScope ["self","a","b"] ["self","a","b"] (defScope sKept_joined):=⟨rfl,rfl,rfl,by decide +kernel,rfl,by decide +kernel,by decide +kernel⟩
theorem scKept_side:FnScope ["self","a"] ["self","a"] (defScope sKept_side):=⟨rfl,rfl,rfl,by decide +kernel,rfl,by decide +kernel,by decide +kernel⟩
theorem scKept_ties:FnScope ["self"] ["self"] (defScope sKept_ties):=⟨rfl,rfl,rfl,by decide +kernel,rfl,by decide +kernel,by decide +kernel⟩
theorem scLightest___init__:FnScope ["self","n","weighed","weights","a","b","weight","tie"] ["self","n","weighed"] (defScope sLightest___init__):=⟨rfl,rfl,rfl,by decide +kernel,rfl,by decide +kernel,by decide +kernel⟩
theorem scLightest_weight:FnScope ["self"] ["self"] (defScope sLightest_weight):=⟨rfl,rfl,rfl,by decide +kernel,rfl,by decide +kernel,by decide +kernel⟩
structure CA where
    (Levels Lightest Kept:Addr)
structure Txt (K:PySem.W.Frag) (mg:Str→Option Value) (C:Addr) (A:CA):Prop where
  cl_Wood:Cls K C
  mg_Wood:mg "Wood" = some (.ref C)
  n_Wood_n:NoAttr K C "n"
  n_Wood_rows:NoAttr K C "rows"
  cl_Levels:Cls K A.Levels
  mg_Levels:mg "Levels" = some (.ref A.Levels)
  n_Levels_level_of:NoAttr K A.Levels "level_of"
  n_Levels_weight_of:NoAttr K A.Levels "weight_of"
  n_Levels_wooden:NoAttr K A.Levels "wooden"
  n_Levels_woods:NoAttr K A.Levels "woods"
  cl_Lightest:Cls K A.Lightest
  mg_Lightest:mg "Lightest" = some (.ref A.Lightest)
  n_Lightest_came:NoAttr K A.Lightest "came"
  n_Lightest_levels:NoAttr K A.Lightest "levels"
  n_Lightest_looked:NoAttr K A.Lightest "looked"
  n_Lightest_lost:NoAttr K A.Lightest "lost"
  n_Lightest_n:NoAttr K A.Lightest "n"
  n_Lightest_risen:NoAttr K A.Lightest "risen"
  n_Lightest_wood:NoAttr K A.Lightest "wood"
  mg_Kept:mg "Kept" = some (.ref A.Kept)
  b_bool:mg "bool" = none
  b_enumerate:mg "enumerate" = none
  b_int:mg "int" = none
  b_isinstance:mg "isinstance" = none
  b_len:mg "len" = none
  b_list:mg "list" = none
  b_max:mg "max" = none
  b_min:mg "min" = none
  b_range:mg "range" = none
  b_set:mg "set" = none
  b_sorted:mg "sorted" = none
  b_sum:mg "sum" = none
  b_tuple:mg "tuple" = none
  b_zip:mg "zip" = none
  c_MOST_PLACES:∃ t:Tok,mg "MOST_PLACES" = some (.int 200 t)
variable {P:Program} {w:World} {K:PySem.W.Frag} {mg:Str→Option Value} {base:Heap} {f:Addr} {fd:FuncData} {sp:Sp} {C:Addr} {A:CA}
def rd_is_whole (K:PySem.W.Frag) (C:Addr):TS :=
  tRet (tAndV (tCB (rIsi K) (tCons (tVar 0) (tCons (tC (.ty "int")) (tNil)))) (tNotV (tCB (rIsi K) (tCons (tVar 0) (tCons (tC (.ty "bool")) (tNil))))))
theorem ok_is_whole (Fu:Fun K "is_whole" "is_whole" sis_whole f fd) (T:Txt K mg C A)
      (len:∀ vs H Q E,sp vs H Q E→vs.length=1) (run:∀ vs H Q E,sp vs H Q E→rd_is_whole K C { nx:=fun _ H'=>Q .non H',rt:=Q } (start ["thing"] vs) H):FnOk P w K mg base CX0 1 f fd ["thing"] sp :=
    Fu.ok scis_whole len fun cdv A0 outer s H vs Q E hr h=>⟨_,(show PSs (cxOf CX0 P w K mg base ["thing"] "is_whole" (defScope sis_whole) f cdv A0 outer s H E).nox (defBody sis_whole) (rd_is_whole K C) from
  pss_one (ps_ret (pe_and (pe_callB (call_isi) rfl T.b_isinstance BootT.isinstance (pa_cons (pv 0) (pa_cons (pe_bltn rfl T.b_int BootT.int rfl) (pa_nil)))) (pe_one (pe_not (pe_callB (call_isi) rfl T.b_isinstance BootT.isinstance (pa_cons (pv 0) (pa_cons (pe_bltn rfl T.b_bool BootT.bool rfl) (pa_nil))))))))),run vs H Q E h⟩
def rd_is_count (K:PySem.W.Frag) (C:Addr) (sp_is_whole:Sp):TS :=
  tRet (tAndV (tCall sp_is_whole [] E0 (tCons (tVar 0) (tNil))) (tChain (rI0 fun i j=>.bl (decide (i≤j))) (rI0 fun i j=>.bl (decide (i≤j))) (tC (.int 1)) (tVar 0) (tC (.int 200))))
theorem ok_is_count (Fu:Fun K "is_count" "is_count" sis_count f fd) (T:Txt K mg C A) {sp_is_whole:Sp} (c_is_whole:Cal P w K mg base CX0 1 "is_whole" ["thing"] sp_is_whole)
      (len:∀ vs H Q E,sp vs H Q E→vs.length=1) (run:∀ vs H Q E,sp vs H Q E→rd_is_count K C sp_is_whole { nx:=fun _ H'=>Q .non H',rt:=Q } (start ["thing"] vs) H):FnOk P w K mg base CX0 2 f fd ["thing"] sp :=
    Fu.ok scis_count len fun cdv A0 outer s H vs Q E hr h=>⟨_,(show PSs (cxOf CX0 P w K mg base ["thing"] "is_count" (defScope sis_count) f cdv A0 outer s H E).nox (defBody sis_count) (rd_is_count K C sp_is_whole) from
  pss_one (ps_ret (pe_and (pcl c_is_whole (hr.mono (by decide)) rfl pass0 (pa_cons (pv 0) (pa_nil))) (pe_one (pe_chain (op_le) (op_le) (pe_int) (pv 0) (pe_glob rfl T.c_MOST_PLACES.choose_spec ⟨_,rfl⟩)))))),run vs H Q E h⟩
def rd_is_place (K:PySem.W.Frag) (C:Addr) (sp_is_whole:Sp):TS :=
  tRet (tAndV (tCall sp_is_whole [] E0 (tCons (tVar 1) (tNil))) (tChain (rI0 fun i j=>.bl (decide (i≤j))) (rI0 fun i j=>.bl (decide (i < j))) (tC (.int 0)) (tVar 1) (tVar 0)))
theorem ok_is_place (Fu:Fun K "is_place" "is_place" sis_place f fd) (T:Txt K mg C A) {sp_is_whole:Sp} (c_is_whole:Cal P w K mg base CX0 1 "is_whole" ["thing"] sp_is_whole)
      (len:∀ vs H Q E,sp vs H Q E→vs.length=2) (run:∀ vs H Q E,sp vs H Q E→rd_is_place K C sp_is_whole { nx:=fun _ H'=>Q .non H',rt:=Q } (start ["n","thing"] vs) H):FnOk P w K mg base CX0 2 f fd ["n","thing"] sp :=
    Fu.ok scis_place len fun cdv A0 outer s H vs Q E hr h=>⟨_,(show PSs (cxOf CX0 P w K mg base ["n","thing"] "is_place" (defScope sis_place) f cdv A0 outer s H E).nox (defBody sis_place) (rd_is_place K C sp_is_whole) from
  pss_one (ps_ret (pe_and (pcl c_is_whole (hr.mono (by decide)) rfl pass0 (pa_cons (pv 1) (pa_nil))) (pe_one (pe_chain (op_le) (op_lt) (pe_int) (pv 1) (pv 0)))))),run vs H Q E h⟩
def lp_top_1 (K:PySem.W.Frag) (C:Addr):TS :=
  tWhile (tTest (tOp (rI0 fun i j=>.bl (decide (i≤j))) (tVar 2) (tVar 0)))
   (tSeq (tAug 1 (tC (.int 1)) (rI0 fun i j=>.int (i+j)))
  (tAug 2 (tC (.int 2)) (rI CMul fun i j=>.int (i * j))))
def rd_top (K:PySem.W.Frag) (C:Addr):TS :=
  tSeq (tAsg (tC (.int 0)) (gName 1))
  (tSeq (tAsg (tC (.int 4)) (gName 2))
  (tSeq (lp_top_1 K C)
  (tRet (tVar 1))))
theorem ok_top (Fu:Fun K "top" "top" stop f fd) (T:Txt K mg C A)
      (len:∀ vs H Q E,sp vs H Q E→vs.length=1) (run:∀ vs H Q E,sp vs H Q E→rd_top K C { nx:=fun _ H'=>Q .non H',rt:=Q } (start ["n","level","needed"] vs) H):FnOk P w K mg base CX0 1 f fd ["n"] sp :=
    Fu.ok sctop len fun cdv A0 outer s H vs Q E hr h=>⟨_,(show PSs (cxOf CX0 P w K mg base ["n","level","needed"] "top" (defScope stop) f cdv A0 outer s H E).nox (defBody stop) (rd_top K C) from
  pss_cons (ps_set (i:=1) sctop.nd rfl (Or.inl rfl) (pe_int))
  (pss_cons (ps_set (i:=2) sctop.nd rfl (Or.inl rfl) (pe_int))
  (pss_cons (ps_while PassesOwn.never (pt_cmpR (op_le) (pv 2) (pv 0) (nomark _))
   (pss_cons (ps_aug (i:=1) sctop.nd rfl (Or.inl rfl) (pe_int) iop_add)
  (pss_one (ps_aug (i:=2) sctop.nd rfl (Or.inl rfl) (pe_int) iop_mul))))
  (pss_one (ps_ret (pv 1)))))),run vs H Q E h⟩
def rd_tie_of (K:PySem.W.Frag) (C:Addr):TS :=
  tRet (tIf (tTest (tOp (rI0 fun i j=>.bl (decide (i < j))) (tVar 0) (tVar 1))) (tTup (tCons (tVar 0) (tCons (tVar 1) (tNil)))) (tTup (tCons (tVar 1) (tCons (tVar 0) (tNil)))))
theorem ok_tie_of (Fu:Fun K "tie_of" "tie_of" stie_of f fd) (T:Txt K mg C A)
      (len:∀ vs H Q E,sp vs H Q E→vs.length=2) (run:∀ vs H Q E,sp vs H Q E→rd_tie_of K C { nx:=fun _ H'=>Q .non H',rt:=Q } (start ["a","b"] vs) H):FnOk P w K mg base CX0 1 f fd ["a","b"] sp :=
    Fu.ok sctie_of len fun cdv A0 outer s H vs Q E hr h=>⟨_,(show PSs (cxOf CX0 P w K mg base ["a","b"] "tie_of" (defScope stie_of) f cdv A0 outer s H E).nox (defBody stie_of) (rd_tie_of K C) from
  pss_one (ps_ret (pe_ifExp (pt_cmpR (op_lt) (pv 0) (pv 1) (nomark _)) (pe_tup (pa_cons (pv 0) (pa_cons (pv 1) (pa_nil)))) (pe_tup (pa_cons (pv 1) (pa_cons (pv 0) (pa_nil))))))),run vs H Q E h⟩
def rd_steps_along (K:PySem.W.Frag) (C:Addr):TS :=
  tRet (tZipL K (tCons (tVar 0) (tCons (tSl (rSlL K) (tVar 0) (tPart (tC (.int 1))) (tNoPart)) (tNil))))
theorem ok_steps_along (Fu:Fun K "steps_along" "steps_along" ssteps_along f fd) (T:Txt K mg C A)
      (len:∀ vs H Q E,sp vs H Q E→vs.length=1) (run:∀ vs H Q E,sp vs H Q E→rd_steps_along K C { nx:=fun _ H'=>Q .non H',rt:=Q } (start ["row"] vs) H):FnOk P w K mg base CX0 1 f fd ["row"] sp :=
    Fu.ok scsteps_along len fun cdv A0 outer s H vs Q E hr h=>⟨_,(show PSs (cxOf CX0 P w K mg base ["row"] "steps_along" (defScope ssteps_along) f cdv A0 outer s H E).nox (defBody ssteps_along) (rd_steps_along K C) from
  pss_one (ps_ret (pe_zipL rfl rfl T.b_list rfl T.b_zip (pa_cons (pv 0) (pa_cons (pe_slice sl_list (pv 0) (po_some (pe_int)) (po_none)) (pa_nil)))))),run vs H Q E h⟩
def rd_turned (K:PySem.W.Frag) (C:Addr):TS :=
  tSeq (tAsg (tBM K "list" (rIndexG K) (tVar 0) (tCons (tVar 1) (tNil))) (gName 2))
  (tRet (tOp (rAddG) (tSl (rSlL K) (tVar 0) (tPart (tVar 2)) (tNoPart)) (tSl (rSlL K) (tVar 0) (tPart (tC (.int 1))) (tPart (tOp (rAddG) (tVar 2) (tC (.int 1)))))))
theorem ok_turned (Fu:Fun K "turned" "turned" sturned f fd) (T:Txt K mg C A)
      (len:∀ vs H Q E,sp vs H Q E→vs.length=2) (run:∀ vs H Q E,sp vs H Q E→rd_turned K C { nx:=fun _ H'=>Q .non H',rt:=Q } (start ["row","a","k"] vs) H):FnOk P w K mg base CX0 1 f fd ["row","a"] sp :=
    Fu.ok scturned len fun cdv A0 outer s H vs Q E hr h=>⟨_,(show PSs (cxOf CX0 P w K mg base ["row","a","k"] "turned" (defScope sturned) f cdv A0 outer s H E).nox (defBody sturned) (rd_turned K C) from
  pss_cons (ps_set (i:=2) scturned.nd rfl (Or.inl rfl) (pe_bm PySem.F.plainAttrs_list PySem.F.slot_list_index PySem.F.type_list_index (mt_indexG hr.units) (pv 0) (pa_cons (pv 1) (pa_nil))))
  (pss_one (ps_ret (pe_op (op_addG) (pe_slice sl_list (pv 0) (po_some (pv 2)) (po_none)) (pe_slice sl_list (pv 0) (po_some (pe_int)) (po_some (pe_op (op_addG) (pv 2) (pe_int)))))))),run vs H Q E h⟩
def rd_spliced (K:PySem.W.Frag) (C:Addr) (sp_turned:Sp):TS :=
  tSeq (tAsg (tBM K "list" (rIndexG K) (tVar 0) (tCons (tVar 2) (tNil))) (gName 4))
  (tRet (tOp (rAddG) (tOp (rAddG) (tSl (rSlL K) (tVar 0) (tNoPart) (tPart (tOp (rAddG) (tVar 4) (tC (.int 1))))) (tCall sp_turned [] E0 (tCons (tVar 1) (tCons (tVar 3) (tNil))))) (tSl (rSlL K) (tVar 0) (tPart (tVar 4)) (tNoPart))))
theorem ok_spliced (Fu:Fun K "spliced" "spliced" sspliced f fd) (T:Txt K mg C A) {sp_turned:Sp} (c_turned:Cal P w K mg base CX0 1 "turned" ["row","a"] sp_turned)
      (len:∀ vs H Q E,sp vs H Q E→vs.length=4) (run:∀ vs H Q E,sp vs H Q E→rd_spliced K C sp_turned { nx:=fun _ H'=>Q .non H',rt:=Q } (start ["row","other","a","b","k"] vs) H):FnOk P w K mg base CX0 2 f fd ["row","other","a","b"] sp :=
    Fu.ok scspliced len fun cdv A0 outer s H vs Q E hr h=>⟨_,(show PSs (cxOf CX0 P w K mg base ["row","other","a","b","k"] "spliced" (defScope sspliced) f cdv A0 outer s H E).nox (defBody sspliced) (rd_spliced K C sp_turned) from
  pss_cons (ps_set (i:=4) scspliced.nd rfl (Or.inl rfl) (pe_bm PySem.F.plainAttrs_list PySem.F.slot_list_index PySem.F.type_list_index (mt_indexG hr.units) (pv 0) (pa_cons (pv 2) (pa_nil))))
  (pss_one (ps_ret (pe_op (op_addG) (pe_op (op_addG) (pe_slice sl_list (pv 0) (po_none) (po_some (pe_op (op_addG) (pv 4) (pe_int)))) (pcl c_turned (hr.mono (by decide)) rfl pass0 (pa_cons (pv 1) (pa_cons (pv 3) (pa_nil))))) (pe_slice sl_list (pv 0) (po_some (pv 4)) (po_none)))))),run vs H Q E h⟩
def rd_refuse_no_place (K:PySem.W.Frag) (C:Addr) (sp_is_place:Sp):TS :=
  tIfS (tNot (tTru K (tCall sp_is_place [] E0 (tCons (tVar 0) (tCons (tVar 1) (tNil))))))
   (tNever)
   (tNext)
theorem ok_refuse_no_place (Fu:Fun K "refuse_no_place" "refuse_no_place" srefuse_no_place f fd) (T:Txt K mg C A) {sp_is_place:Sp} (c_is_place:Cal P w K mg base CX0 2 "is_place" ["n","thing"] sp_is_place)
      (len:∀ vs H Q E,sp vs H Q E→vs.length=2) (run:∀ vs H Q E,sp vs H Q E→rd_refuse_no_place K C sp_is_place { nx:=fun _ H'=>Q .non H',rt:=Q } (start ["n","thing"] vs) H):FnOk P w K mg base CX0 3 f fd ["n","thing"] sp :=
    Fu.ok screfuse_no_place len fun cdv A0 outer s H vs Q E hr h=>⟨_,(show PSs (cxOf CX0 P w K mg base ["n","thing"] "refuse_no_place" (defScope srefuse_no_place) f cdv A0 outer s H E).nox (defBody srefuse_no_place) (rd_refuse_no_place K C sp_is_place) from
  pss_one (ps_if (pt_not (pt_tru (pcl c_is_place (hr.mono (by decide)) rfl pass0 (pa_cons (pv 0) (pa_cons (pv 1) (pa_nil)))) (fun _=>rfl)))
   (pss_one (ps_never))
   (pss_nil))),run vs H Q E h⟩
def rd_refuse_no_places (K:PySem.W.Frag) (C:Addr) (sp_refuse_no_place:Sp):TS :=
  tSeq (tDrop (tCall sp_refuse_no_place [] E0 (tCons (tVar 0) (tCons (tVar 1) (tNil)))))
  (tDrop (tCall sp_refuse_no_place [] E0 (tCons (tVar 0) (tCons (tVar 2) (tNil)))))
theorem ok_refuse_no_places (Fu:Fun K "refuse_no_places" "refuse_no_places" srefuse_no_places f fd) (T:Txt K mg C A) {sp_refuse_no_place:Sp} (c_refuse_no_place:Cal P w K mg base CX0 3 "refuse_no_place" ["n","thing"] sp_refuse_no_place)
      (len:∀ vs H Q E,sp vs H Q E→vs.length=3) (run:∀ vs H Q E,sp vs H Q E→rd_refuse_no_places K C sp_refuse_no_place { nx:=fun _ H'=>Q .non H',rt:=Q } (start ["n","a","b"] vs) H):FnOk P w K mg base CX0 4 f fd ["n","a","b"] sp :=
    Fu.ok screfuse_no_places len fun cdv A0 outer s H vs Q E hr h=>⟨_,(show PSs (cxOf CX0 P w K mg base ["n","a","b"] "refuse_no_places" (defScope srefuse_no_places) f cdv A0 outer s H E).nox (defBody srefuse_no_places) (rd_refuse_no_places K C sp_refuse_no_place) from
  pss_cons (ps_expr (pcl c_refuse_no_place (hr.mono (by decide)) rfl pass0 (pa_cons (pv 0) (pa_cons (pv 1) (pa_nil)))))
  (pss_one (ps_expr (pcl c_refuse_no_place (hr.mono (by decide)) rfl pass0 (pa_cons (pv 0) (pa_cons (pv 2) (pa_nil))))))),run vs H Q E h⟩
def rd_refuse_no_pair (K:PySem.W.Frag) (C:Addr) (sp_refuse_no_places:Sp):TS :=
  tSeq (tDrop (tCall sp_refuse_no_places [] E0 (tCons (tVar 0) (tCons (tVar 1) (tCons (tVar 2) (tNil))))))
  (tIfS (tTest (tOp (rEqG K) (tVar 1) (tVar 2)))
   (tNever)
   (tNext))
theorem ok_refuse_no_pair (Fu:Fun K "refuse_no_pair" "refuse_no_pair" srefuse_no_pair f fd) (T:Txt K mg C A) {sp_refuse_no_places:Sp} (c_refuse_no_places:Cal P w K mg base CX0 4 "refuse_no_places" ["n","a","b"] sp_refuse_no_places)
      (len:∀ vs H Q E,sp vs H Q E→vs.length=3) (run:∀ vs H Q E,sp vs H Q E→rd_refuse_no_pair K C sp_refuse_no_places { nx:=fun _ H'=>Q .non H',rt:=Q } (start ["n","a","b"] vs) H):FnOk P w K mg base CX0 5 f fd ["n","a","b"] sp :=
    Fu.ok screfuse_no_pair len fun cdv A0 outer s H vs Q E hr h=>⟨_,(show PSs (cxOf CX0 P w K mg base ["n","a","b"] "refuse_no_pair" (defScope srefuse_no_pair) f cdv A0 outer s H E).nox (defBody srefuse_no_pair) (rd_refuse_no_pair K C sp_refuse_no_places) from
  pss_cons (ps_expr (pcl c_refuse_no_places (hr.mono (by decide)) rfl pass0 (pa_cons (pv 0) (pa_cons (pv 1) (pa_cons (pv 2) (pa_nil))))))
  (pss_one (ps_if (pt_cmpR (op_eqG hr.units) (pv 1) (pv 2) (nomark _))
   (pss_one (ps_never))
   (pss_nil)))),run vs H Q E h⟩
def rd_in_order (K:PySem.W.Frag) (C:Addr) (Pt:Addr):TS :=
  tRet (tSortW Pt ⟨95,28,95,61⟩ ((("in_order":Str) ++ ".<locals>.") ++ "<lambda>") 1 (tCons (tVar 0) (tNil)))
theorem ok_in_order (Fu:Fun K "in_order" "in_order" sin_order f fd) (T:Txt K mg C A) {c Pt:Addr} (hcd:fd.code = .ref c) (CH:PySem.W.CodeHd base c Pt) (B:base.BuiltinsAt mg Pt)
      (len:∀ vs H Q E,sp vs H Q E→vs.length=2) (run:∀ vs H Q E,sp vs H Q E→rd_in_order K C Pt { nx:=fun _ H'=>Q .non H',rt:=Q } (start ["ties","weight_of"] vs) H):FnOk P w K mg base CX0 1 f fd ["ties","weight_of"] sp :=
    Fu.okC hcd scin_order len fun A0 outer s H vs Q E hr h=>⟨_,(show PSs (cxOf CX0 P w K mg base ["ties","weight_of"] "in_order" (defScope sin_order) f (.ref c) A0 outer s H E).nox (defBody sin_order) (rd_in_order K C Pt) from
  pss_one (ps_ret (pe_sortW rfl rfl CH B hr.depth hr.units128 rfl T.b_sorted (pa_cons (pv 0) (pa_nil)) rfl rfl))),run vs H Q E h⟩
def rd_new_tie (K:PySem.W.Frag) (C:Addr) (sp_refuse_no_pair sp_tie_of:Sp):TS :=
  tSeq (tDrop (tCall sp_refuse_no_pair [] E0 (tCons (tVar 0) (tCons (tVar 2) (tCons (tVar 3) (tNil))))))
  (tSeq (tAsg (tCall sp_tie_of [] E0 (tCons (tVar 2) (tCons (tVar 3) (tNil)))) (gName 4))
  (tSeq (tIfS (tTest (tOp (rInG K false) (tVar 4) (tVar 1)))
   (tNever)
   (tNext))
  (tRet (tVar 4))))
theorem ok_new_tie (Fu:Fun K "new_tie" "new_tie" snew_tie f fd) (T:Txt K mg C A) {sp_refuse_no_pair:Sp} (c_refuse_no_pair:Cal P w K mg base CX0 5 "refuse_no_pair" ["n","a","b"] sp_refuse_no_pair) {sp_tie_of:Sp} (c_tie_of:Cal P w K mg base CX0 1 "tie_of" ["a","b"] sp_tie_of)
      (len:∀ vs H Q E,sp vs H Q E→vs.length=4) (run:∀ vs H Q E,sp vs H Q E→rd_new_tie K C sp_refuse_no_pair sp_tie_of { nx:=fun _ H'=>Q .non H',rt:=Q } (start ["n","standing","a","b","tie"] vs) H):FnOk P w K mg base CX0 6 f fd ["n","standing","a","b"] sp :=
    Fu.ok scnew_tie len fun cdv A0 outer s H vs Q E hr h=>⟨_,(show PSs (cxOf CX0 P w K mg base ["n","standing","a","b","tie"] "new_tie" (defScope snew_tie) f cdv A0 outer s H E).nox (defBody snew_tie) (rd_new_tie K C sp_refuse_no_pair sp_tie_of) from
  pss_cons (ps_expr (pcl c_refuse_no_pair (hr.mono (by decide)) rfl pass0 (pa_cons (pv 0) (pa_cons (pv 2) (pa_cons (pv 3) (pa_nil))))))
  (pss_cons (ps_set (i:=4) scnew_tie.nd rfl (Or.inl rfl) (pcl c_tie_of (hr.mono (by decide)) rfl pass0 (pa_cons (pv 2) (pa_cons (pv 3) (pa_nil)))))
  (pss_cons (ps_if (pt_cmpR (op_inG hr.units) (pv 4) (pv 1) (by with_unfolding_all rfl))
   (pss_one (ps_never))
   (pss_nil))
  (pss_one (ps_ret (pv 4)))))),run vs H Q E h⟩
def rd__law_cell_at (K:PySem.W.Frag) (C:Addr):TS :=
  tSeq (tIfS (tTest (tOp (rI0 fun i j=>.bl (decide (i < j))) (tVar 1) (tCB (rLen K) (tCons (tVar 0) (tNil)))))
   (tRet (tOp (rIxG K) (tVar 0) (tVar 1)))
   (tNext))
  (tRet (tC (.int 13)))
theorem ok__law_cell_at (Fu:Fun K "_law_cell_at" "_law_cell_at" s_law_cell_at f fd) (T:Txt K mg C A)
      (len:∀ vs H Q E,sp vs H Q E→vs.length=2) (run:∀ vs H Q E,sp vs H Q E→rd__law_cell_at K C { nx:=fun _ H'=>Q .non H',rt:=Q } (start ["_law_script","_law_k"] vs) H):FnOk P w K mg base CX0 1 f fd ["_law_script","_law_k"] sp :=
    Fu.ok sc_law_cell_at len fun cdv A0 outer s H vs Q E hr h=>⟨_,(show PSs (cxOf CX0 P w K mg base ["_law_script","_law_k"] "_law_cell_at" (defScope s_law_cell_at) f cdv A0 outer s H E).nox (defBody s_law_cell_at) (rd__law_cell_at K C) from
  pss_cons (ps_if (pt_cmpR (op_lt) (pv 1) (pe_callB (call_lenG) rfl T.b_len BootT.len (pa_cons (pv 0) (pa_nil))) (nomark _))
   (pss_one (ps_ret (pe_ix (ix_G hr.units) (pv 0) (pv 1) (fun _ _=>rfl))))
   (pss_nil))
  (pss_one (ps_ret (pe_int)))),run vs H Q E h⟩
def rd__law_whole (K:PySem.W.Frag) (C:Addr):TS :=
  tRet (tAndV (tCB (rIsi K) (tCons (tVar 0) (tCons (tC (.ty "int")) (tNil)))) (tNotV (tCB (rIsi K) (tCons (tVar 0) (tCons (tC (.ty "bool")) (tNil))))))
theorem ok__law_whole (Fu:Fun K "_law_whole" "_law_whole" s_law_whole f fd) (T:Txt K mg C A)
      (len:∀ vs H Q E,sp vs H Q E→vs.length=1) (run:∀ vs H Q E,sp vs H Q E→rd__law_whole K C { nx:=fun _ H'=>Q .non H',rt:=Q } (start ["_law_found"] vs) H):FnOk P w K mg base CX0 1 f fd ["_law_found"] sp :=
    Fu.ok sc_law_whole len fun cdv A0 outer s H vs Q E hr h=>⟨_,(show PSs (cxOf CX0 P w K mg base ["_law_found"] "_law_whole" (defScope s_law_whole) f cdv A0 outer s H E).nox (defBody s_law_whole) (rd__law_whole K C) from
  pss_one (ps_ret (pe_and (pe_callB (call_isi) rfl T.b_isinstance BootT.isinstance (pa_cons (pv 0) (pa_cons (pe_bltn rfl T.b_int BootT.int rfl) (pa_nil)))) (pe_one (pe_not (pe_callB (call_isi) rfl T.b_isinstance BootT.isinstance (pa_cons (pv 0) (pa_cons (pe_bltn rfl T.b_bool BootT.bool rfl) (pa_nil))))))))),run vs H Q E h⟩
def rd__law_shape (K:PySem.W.Frag) (C:Addr):TS :=
  tSeq (tIfS (tTest (tOp (rEqG K) (tVar 1) (tC (.int 0))))
   (tRet (tComp 1 [0] (iRng1 (tCons (tVar 0) (tNil))) (gName 0) (tYes) (tTup (tCons (tVar 0) (tCons (tOp (rI (fun _ j=>0 < j) fun i j=>.int (i % j)) (tOp (rAddG) (tVar 0) (tC (.int 1))) (tVar 1)) (tNil))))))
   (tNext))
  (tSeq (tIfS (tTest (tOp (rEqG K) (tVar 1) (tC (.int 1))))
   (tSeq (tAsg (tComp 1 [0] (iRng1 (tCons (tC (.int 36)) (tNil))) (gName 0) (tAnd (tTest (tOp (rI0 fun i j=>.bl (decide (i < j))) (tOp (rI CDiv fun i j=>.int (i / j)) (tVar 0) (tC (.int 6))) (tOp (rI (fun _ j=>0 < j) fun i j=>.int (i % j)) (tVar 0) (tC (.int 6))))) (tTest (tOp (rI0 fun i j=>.bl (decide (i < j))) (tOp (rI (fun _ j=>0 < j) fun i j=>.int (i % j)) (tVar 0) (tC (.int 6))) (tVar 1)))) (tTup (tCons (tOp (rI CDiv fun i j=>.int (i / j)) (tVar 0) (tC (.int 6))) (tCons (tOp (rI (fun _ j=>0 < j) fun i j=>.int (i % j)) (tVar 0) (tC (.int 6))) (tNil))))) (gName 2))
  (tRet (tOp (rAddG) (tVar 2) (tComp 1 [] (iRng2 (tCons (tC (.int 6)) (tCons (tVar 0) (tNil)))) (gName 0) (tYes) (tTup (tCons (tOp (rI0 fun i j=>.int (i - j)) (tVar 0) (tC (.int 1))) (tCons (tVar 0) (tNil))))))))
   (tNext))
  (tSeq (tIfS (tTest (tOp (rEqG K) (tVar 1) (tC (.int 2))))
   (tRet (tOp (rAddG) (tComp 1 [] (iRng1 (tCons (tOp (rI0 fun i j=>.int (i - j)) (tVar 0) (tC (.int 1))) (tNil))) (gName 0) (tYes) (tTup (tCons (tVar 0) (tCons (tOp (rAddG) (tVar 0) (tC (.int 1))) (tNil))))) (tComp 1 [] (iRng1 (tCons (tOp (rI0 fun i j=>.int (i - j)) (tVar 0) (tC (.int 2))) (tNil))) (gName 0) (tYes) (tTup (tCons (tVar 0) (tCons (tOp (rAddG) (tVar 0) (tC (.int 2))) (tNil)))))))
   (tNext))
  (tSeq (tIfS (tTest (tOp (rEqG K) (tVar 1) (tC (.int 3))))
   (tRet (tOp (rAddG) (tComp 1 [] (iRng1 (tCons (tOp (rI0 fun i j=>.int (i - j)) (tVar 0) (tC (.int 1))) (tNil))) (gName 0) (tYes) (tTup (tCons (tVar 0) (tCons (tOp (rAddG) (tVar 0) (tC (.int 1))) (tNil))))) (tComp 1 [] (iRng1 (tCons (tOp (rI0 fun i j=>.int (i - j)) (tVar 0) (tC (.int 5))) (tNil))) (gName 0) (tYes) (tTup (tCons (tVar 0) (tCons (tOp (rAddG) (tVar 0) (tC (.int 5))) (tNil)))))))
   (tNext))
  (tSeq (tIfS (tTest (tOp (rEqG K) (tVar 1) (tC (.int 4))))
   (tRet (tComp 1 [] (iRng2 (tCons (tC (.int 1)) (tCons (tVar 0) (tNil)))) (gName 0) (tYes) (tTup (tCons (tC (.int 0)) (tCons (tVar 0) (tNil))))))
   (tNext))
  (tRet (tLst (tNil)))))))
theorem ok__law_shape (Fu:Fun K "_law_shape" "_law_shape" s_law_shape f fd) (T:Txt K mg C A)
      (len:∀ vs H Q E,sp vs H Q E→vs.length=2) (run:∀ vs H Q E,sp vs H Q E→rd__law_shape K C { nx:=fun _ H'=>Q .non H',rt:=Q } (start ["_law_n","_law_way","_law_net"] vs) H):FnOk P w K mg base CX0 1 f fd ["_law_n","_law_way"] sp :=
    Fu.ok sc_law_shape len fun cdv A0 outer s H vs Q E hr h=>⟨_,(show PSs (cxOf CX0 P w K mg base ["_law_n","_law_way","_law_net"] "_law_shape" (defScope s_law_shape) f cdv A0 outer s H E).nox (defBody s_law_shape) (rd__law_shape K C) from
  pss_cons (ps_if (pt_cmpR (op_eqG hr.units) (pv 1) (pe_int) (nomark _))
   (pss_one (ps_ret (pe_comp ["_law_k"] (ys:=["_law_n"]) [0] rfl (pi_range1 rfl T.b_range (pa_cons (pv 0) (pa_nil))) ⟨rfl,.inl rfl,rfl,trivial⟩ (fun _ _ _=>pg_name (i:=0) (show (["_law_k","_law_n"]:List Str).Nodup by decide +kernel) rfl (Or.inl rfl)) (fun _ _ _=>pifs_nil) (fun _ _ _=>pe_tup (pa_cons (pv 0) (pa_cons (pe_op (op_mod) (pe_op (op_addG) (pv 0) (pe_int)) (pv 1)) (pa_nil)))))))
   (pss_nil))
  (pss_cons (ps_if (pt_cmpR (op_eqG hr.units) (pv 1) (pe_int) (nomark _))
   (pss_cons (ps_comp (i:=2) ["_law_k"] (ys:=["_law_n"]) [0] rfl sc_law_shape.nd rfl rfl (pi_range1 rfl T.b_range (pa_cons (pe_int) (pa_nil))) ⟨rfl,.inl rfl,rfl,trivial⟩ (fun _ _ _=>pg_name (i:=0) (show (["_law_k","_law_n"]:List Str).Nodup by decide +kernel) rfl (Or.inl rfl)) (fun _ _ _=>pifs_one (PW.pt (pw_and (pt_cmpR (op_lt) (pe_op (op_fdiv) (pv 0) (pe_int)) (pe_op (op_mod) (pv 0) (pe_int)) (nomark _)) (pw_and1 (pt_cmpR (op_lt) (pe_op (op_mod) (pv 0) (pe_int)) (pv 1) (nomark _)))))) (fun _ _ _=>pe_tup (pa_cons (pe_op (op_fdiv) (pv 0) (pe_int)) (pa_cons (pe_op (op_mod) (pv 0) (pe_int)) (pa_nil)))))
  (pss_one (ps_ret (pe_op (op_addG) (pv 2) (pe_comp ["_law_k"] (ys:=[]) [] rfl (pi_range2 rfl T.b_range (pa_cons (pe_int) (pa_cons (pv 0) (pa_nil)))) trivial (fun _ _ _=>pg_name (i:=0) (show (["_law_k"]:List Str).Nodup by decide +kernel) rfl (Or.inl rfl)) (fun _ _ _=>pifs_nil) (fun _ _ _=>pe_tup (pa_cons (pe_op (op_sub) (pv 0) (pe_int)) (pa_cons (pv 0) (pa_nil)))))))))
   (pss_nil))
  (pss_cons (ps_if (pt_cmpR (op_eqG hr.units) (pv 1) (pe_int) (nomark _))
   (pss_one (ps_ret (pe_op (op_addG) (pe_comp ["_law_k"] (ys:=[]) [] rfl (pi_range1 rfl T.b_range (pa_cons (pe_op (op_sub) (pv 0) (pe_int)) (pa_nil))) trivial (fun _ _ _=>pg_name (i:=0) (show (["_law_k"]:List Str).Nodup by decide +kernel) rfl (Or.inl rfl)) (fun _ _ _=>pifs_nil) (fun _ _ _=>pe_tup (pa_cons (pv 0) (pa_cons (pe_op (op_addG) (pv 0) (pe_int)) (pa_nil))))) (pe_comp ["_law_k"] (ys:=[]) [] rfl (pi_range1 rfl T.b_range (pa_cons (pe_op (op_sub) (pv 0) (pe_int)) (pa_nil))) trivial (fun _ _ _=>pg_name (i:=0) (show (["_law_k"]:List Str).Nodup by decide +kernel) rfl (Or.inl rfl)) (fun _ _ _=>pifs_nil) (fun _ _ _=>pe_tup (pa_cons (pv 0) (pa_cons (pe_op (op_addG) (pv 0) (pe_int)) (pa_nil))))))))
   (pss_nil))
  (pss_cons (ps_if (pt_cmpR (op_eqG hr.units) (pv 1) (pe_int) (nomark _))
   (pss_one (ps_ret (pe_op (op_addG) (pe_comp ["_law_k"] (ys:=[]) [] rfl (pi_range1 rfl T.b_range (pa_cons (pe_op (op_sub) (pv 0) (pe_int)) (pa_nil))) trivial (fun _ _ _=>pg_name (i:=0) (show (["_law_k"]:List Str).Nodup by decide +kernel) rfl (Or.inl rfl)) (fun _ _ _=>pifs_nil) (fun _ _ _=>pe_tup (pa_cons (pv 0) (pa_cons (pe_op (op_addG) (pv 0) (pe_int)) (pa_nil))))) (pe_comp ["_law_k"] (ys:=[]) [] rfl (pi_range1 rfl T.b_range (pa_cons (pe_op (op_sub) (pv 0) (pe_int)) (pa_nil))) trivial (fun _ _ _=>pg_name (i:=0) (show (["_law_k"]:List Str).Nodup by decide +kernel) rfl (Or.inl rfl)) (fun _ _ _=>pifs_nil) (fun _ _ _=>pe_tup (pa_cons (pv 0) (pa_cons (pe_op (op_addG) (pv 0) (pe_int)) (pa_nil))))))))
   (pss_nil))
  (pss_cons (ps_if (pt_cmpR (op_eqG hr.units) (pv 1) (pe_int) (nomark _))
   (pss_one (ps_ret (pe_comp ["_law_k"] (ys:=[]) [] rfl (pi_range2 rfl T.b_range (pa_cons (pe_int) (pa_cons (pv 0) (pa_nil)))) trivial (fun _ _ _=>pg_name (i:=0) (show (["_law_k"]:List Str).Nodup by decide +kernel) rfl (Or.inl rfl)) (fun _ _ _=>pifs_nil) (fun _ _ _=>pe_tup (pa_cons (pe_int) (pa_cons (pv 0) (pa_nil)))))))
   (pss_nil))
  (pss_one (ps_ret (pe_lst (pa_nil))))))))),run vs H Q E h⟩
def rd__law_weight (K:PySem.W.Frag) (C:Addr):TS :=
  tSeq (tAsg (tOp (rI (fun _ j=>0 < j) fun i j=>.int (i % j)) (tOp (rAddG) (tVar 0) (tVar 1)) (tC (.int 4))) (gName 2))
  (tSeq (tIfS (tTest (tOp (rEqG K) (tVar 2) (tC (.int 0))))
   (tRet (tOp (rI (fun _ j=>0 < j) fun i j=>.int (i % j)) (tOp (rAddG) (tOp (rI CDiv fun i j=>.int (i / j)) (tVar 0) (tC (.int 4))) (tOp (rI CMul fun i j=>.int (i * j)) (tC (.int 3)) (tVar 1))) (tC (.int 3))))
   (tNext))
  (tSeq (tIfS (tTest (tOp (rEqG K) (tVar 2) (tC (.int 1))))
   (tRet (tOp (rI0 fun i j=>.int (i - j)) (tOp (rI (fun _ j=>0 < j) fun i j=>.int (i % j)) (tOp (rAddG) (tOp (rI CDiv fun i j=>.int (i / j)) (tVar 0) (tC (.int 4))) (tOp (rI CMul fun i j=>.int (i * j)) (tVar 1) (tVar 1))) (tC (.int 100))) (tC (.int 50))))
   (tNext))
  (tSeq (tIfS (tTest (tOp (rEqG K) (tVar 2) (tC (.int 2))))
   (tRet (tOp (rI (fun _ j=>0 < j) fun i j=>.int (i % j)) (tOp (rI CDiv fun i j=>.int (i / j)) (tVar 0) (tC (.int 4))) (tOp (rI CPow fun i j=>.int (i ^ j.toNat)) (tC (.int 10)) (tC (.int 60)))))
   (tNext))
  (tRet (tOp (rI0 fun i j=>.int (i - j)) (tVar 1) (tOp (rI (fun _ j=>0 < j) fun i j=>.int (i % j)) (tOp (rI CDiv fun i j=>.int (i / j)) (tVar 0) (tC (.int 4))) (tOp (rI CPow fun i j=>.int (i ^ j.toNat)) (tC (.int 10)) (tC (.int 60)))))))))
theorem ok__law_weight (Fu:Fun K "_law_weight" "_law_weight" s_law_weight f fd) (T:Txt K mg C A)
      (len:∀ vs H Q E,sp vs H Q E→vs.length=2) (run:∀ vs H Q E,sp vs H Q E→rd__law_weight K C { nx:=fun _ H'=>Q .non H',rt:=Q } (start ["_law_cell","_law_k","_law_way"] vs) H):FnOk P w K mg base CX0 1 f fd ["_law_cell","_law_k"] sp :=
    Fu.ok sc_law_weight len fun cdv A0 outer s H vs Q E hr h=>⟨_,(show PSs (cxOf CX0 P w K mg base ["_law_cell","_law_k","_law_way"] "_law_weight" (defScope s_law_weight) f cdv A0 outer s H E).nox (defBody s_law_weight) (rd__law_weight K C) from
  pss_cons (ps_set (i:=2) sc_law_weight.nd rfl (Or.inl rfl) (pe_op (op_mod) (pe_op (op_addG) (pv 0) (pv 1)) (pe_int)))
  (pss_cons (ps_if (pt_cmpR (op_eqG hr.units) (pv 2) (pe_int) (nomark _))
   (pss_one (ps_ret (pe_op (op_mod) (pe_op (op_addG) (pe_op (op_fdiv) (pv 0) (pe_int)) (pe_op (op_mul) (pe_int) (pv 1))) (pe_int))))
   (pss_nil))
  (pss_cons (ps_if (pt_cmpR (op_eqG hr.units) (pv 2) (pe_int) (nomark _))
   (pss_one (ps_ret (pe_op (op_sub) (pe_op (op_mod) (pe_op (op_addG) (pe_op (op_fdiv) (pv 0) (pe_int)) (pe_op (op_mul) (pv 1) (pv 1))) (pe_int)) (pe_int))))
   (pss_nil))
  (pss_cons (ps_if (pt_cmpR (op_eqG hr.units) (pv 2) (pe_int) (nomark _))
   (pss_one (ps_ret (pe_op (op_mod) (pe_op (op_fdiv) (pv 0) (pe_int)) (pe_op (op_pow) (pe_int) (pe_int)))))
   (pss_nil))
  (pss_one (ps_ret (pe_op (op_sub) (pv 1) (pe_op (op_mod) (pe_op (op_fdiv) (pv 0) (pe_int)) (pe_op (op_pow) (pe_int) (pe_int)))))))))),run vs H Q E h⟩
def lp__law_told_1 (K:PySem.W.Frag) (C:Addr) (Pt:Addr) (sp__law_cell_at sp__law_shape sp__law_weight:Sp):TS :=
  tFor (iSeq K (tSl (rSlL K) (tVar 0) (tPart (tC (.int 2))) (tPart (tC (.int 26))))) (gName 4)
   (tDrop (tBM K "list" rAppend (tVar 3) (tCons (tTup (tCons (tOp (rI (fun _ j=>0 < j) fun i j=>.int (i % j)) (tVar 4) (tVar 2)) (tCons (tOp (rI (fun _ j=>0 < j) fun i j=>.int (i % j)) (tOp (rI (fun _ j=>0 < j) fun i j=>.int (i % j)) (tOp (rI CMul fun i j=>.int (i * j)) (tVar 4) (tC (.int 48271))) (tC (.int 2147483647))) (tVar 2)) (tNil)))) (tNil))))
def lp__law_told_2 (K:PySem.W.Frag) (C:Addr) (Pt:Addr) (sp__law_cell_at sp__law_shape sp__law_weight:Sp):TS :=
  tFor (iRng1 (tCons (tCB (rLen K) (tCons (tVar 3) (tNil))) (tNil))) (gName 7)
   (tSeq (tAsg (tOp (rIxG K) (tVar 3) (tVar 7)) (gTup K 2 (gCons (gName 8) (gCons (gName 9) (gNil)))))
  (tSeq (tAsg (tTup (tCons (tCB (rMin2) (tCons (tVar 8) (tCons (tVar 9) (tNil)))) (tCons (tCB (rMax2) (tCons (tVar 8) (tCons (tVar 9) (tNil)))) (tNil)))) (gName 10))
  (tIfS (tAnd (tTest (tOp (rNeG K) (tVar 8) (tVar 9))) (tAnd (tTest (tOp (rInG K true) (tVar 10) (tVar 6))) (tTest (tOp (rI0 fun i j=>.bl (decide (i < j))) (tCB (rLen K) (tCons (tVar 5) (tNil))) (tC (.int 36))))))
   (tSeq (tAsg (tC (.bl true)) (gSub (tVar 6) (tVar 10) rSetG))
  (tSeq (tAsg (tCall sp__law_weight [] E0 (tCons (tCall sp__law_cell_at [] E0 (tCons (tVar 0) (tCons (tOp (rAddG) (tC (.int 1)) (tOp (rI (fun _ j=>0 < j) fun i j=>.int (i % j)) (tVar 7) (tC (.int 30)))) (tNil)))) (tCons (tVar 7) (tNil)))) (gName 11))
  (tSeq (tIfS (tAnd (tTest (tOp (rI0 fun i j=>.bl (decide (i < j))) (tOp (rI (fun _ j=>0 < j) fun i j=>.int (i % j)) (tOp (rI CDiv fun i j=>.int (i / j)) (tVar 1) (tC (.int 120))) (tC (.int 3))) (tC (.int 2)))) (tTest (tOp (rEqG K) (tOp (rI0 fun i j=>.int (i - j)) (tOp (rIxG K) (tVar 10) (tC (.int 1))) (tOp (rIxG K) (tVar 10) (tC (.int 0)))) (tC (.int 1)))))
   (tAsg (tOp (rI0 fun i j=>.int (i - j)) (tVar 11) (tOp (rI CMul fun i j=>.int (i * j)) (tC (.int 2)) (tOp (rI CPow fun i j=>.int (i ^ j.toNat)) (tC (.int 10)) (tC (.int 60))))) (gName 11))
   (tNext))
  (tDrop (tBM K "list" rAppend (tVar 5) (tCons (tTup (tCons (tVar 8) (tCons (tVar 9) (tCons (tVar 11) (tNil))))) (tNil)))))))
   (tNext))))
def rd__law_told (K:PySem.W.Frag) (C:Addr) (Pt:Addr) (sp__law_cell_at sp__law_shape sp__law_weight:Sp):TS :=
  tSeq (tAsg (tCall sp__law_cell_at [] E0 (tCons (tVar 0) (tCons (tC (.int 0)) (tNil)))) (gName 1))
  (tSeq (tAsg (tOp (rAddG) (tC (.int 1)) (tOp (rI (fun _ j=>0 < j) fun i j=>.int (i % j)) (tVar 1) (tC (.int 20)))) (gName 2))
  (tSeq (tAsg (tCall sp__law_shape [] E0 (tCons (tVar 2) (tCons (tOp (rI (fun _ j=>0 < j) fun i j=>.int (i % j)) (tOp (rI CDiv fun i j=>.int (i / j)) (tVar 1) (tC (.int 20))) (tC (.int 6))) (tNil)))) (gName 3))
  (tSeq (lp__law_told_1 K C Pt sp__law_cell_at sp__law_shape sp__law_weight)
  (tSeq (tAsg (tLst (tNil)) (gName 5))
  (tSeq (tAsg (tDNewT) (gName 6))
  (tSeq (lp__law_told_2 K C Pt sp__law_cell_at sp__law_shape sp__law_weight)
  (tSeq (tAsg (tCall sp__law_cell_at [] E0 (tCons (tVar 0) (tCons (tC (.int 1)) (tNil)))) (gName 12))
  (tRet (tTup (tCons (tVar 2) (tCons (tSortI Pt ⟨239,47,239,130⟩ ((("_law_told":Str) ++ ".<locals>.") ++ "<lambda>") 12 (fun _ _ _=>True) (tCons (tVar 5) (tNil))) (tNil))))))))))))
theorem ok__law_told (Fu:Fun K "_law_told" "_law_told" s_law_told f fd) (T:Txt K mg C A) {c Pt:Addr} (hcd:fd.code = .ref c) (CH:PySem.W.CodeHd base c Pt) (B:base.BuiltinsAt mg Pt) {sp__law_cell_at:Sp} (c__law_cell_at:Cal P w K mg base CX0 1 "_law_cell_at" ["_law_script","_law_k"] sp__law_cell_at) {sp__law_shape:Sp} (c__law_shape:Cal P w K mg base CX0 1 "_law_shape" ["_law_n","_law_way"] sp__law_shape) {sp__law_weight:Sp} (c__law_weight:Cal P w K mg base CX0 1 "_law_weight" ["_law_cell","_law_k"] sp__law_weight)
      (len:∀ vs H Q E,sp vs H Q E→vs.length=1) (run:∀ vs H Q E,sp vs H Q E→rd__law_told K C Pt sp__law_cell_at sp__law_shape sp__law_weight { nx:=fun _ H'=>Q .non H',rt:=Q } (start ["_law_script","_law_first","_law_n","_law_pairs","_law_cell","_law_told_here","_law_known","_law_k","_law_a","_law_b","_law_tie","_law_weight_here","_law_turn"] vs) H):FnOk P w K mg base CX0 2 f fd ["_law_script"] sp :=
    Fu.okC hcd sc_law_told len fun A0 outer s H vs Q E hr h=>⟨_,(show PSs (cxOf CX0 P w K mg base ["_law_script","_law_first","_law_n","_law_pairs","_law_cell","_law_told_here","_law_known","_law_k","_law_a","_law_b","_law_tie","_law_weight_here","_law_turn"] "_law_told" (defScope s_law_told) f (.ref c) A0 outer s H E).nox (defBody s_law_told) (rd__law_told K C Pt sp__law_cell_at sp__law_shape sp__law_weight) from
  pss_cons (ps_set (i:=1) sc_law_told.nd rfl (Or.inl rfl) (pcl c__law_cell_at (hr.mono (by decide)) rfl pass0 (pa_cons (pv 0) (pa_cons (pe_int) (pa_nil)))))
  (pss_cons (ps_set (i:=2) sc_law_told.nd rfl (Or.inl rfl) (pe_op (op_addG) (pe_int) (pe_op (op_mod) (pv 1) (pe_int))))
  (pss_cons (ps_set (i:=3) sc_law_told.nd rfl (Or.inl rfl) (pcl c__law_shape (hr.mono (by decide)) rfl pass0 (pa_cons (pv 2) (pa_cons (pe_op (op_mod) (pe_op (op_fdiv) (pv 1) (pe_int)) (pe_int)) (pa_nil)))))
  (pss_cons (ps_for PassesOwn.never rfl (pi_seq (pe_slice sl_list (pv 0) (po_some (pe_int)) (po_some (pe_int)))) (pg_name (i:=4) sc_law_told.nd rfl (Or.inl rfl))
   (pss_one (ps_expr (pe_bm PySem.F.plainAttrs_list PySem.F.slot_list_append PySem.F.type_list_append mt_append (pv 3) (pa_cons (pe_tup (pa_cons (pe_op (op_mod) (pv 4) (pv 2)) (pa_cons (pe_op (op_mod) (pe_op (op_mod) (pe_op (op_mul) (pv 4) (pe_int)) (pe_int)) (pv 2)) (pa_nil)))) (pa_nil))))))
  (pss_cons (ps_set (i:=5) sc_law_told.nd rfl (Or.inl rfl) (pe_lst (pa_nil)))
  (pss_cons (ps_set (i:=6) sc_law_told.nd rfl (Or.inl rfl) (pe_dnewT))
  (pss_cons (ps_for PassesOwn.never rfl (pi_range1 rfl T.b_range (pa_cons (pe_callB (call_lenG) rfl T.b_len BootT.len (pa_cons (pv 3) (pa_nil))) (pa_nil))) (pg_name (i:=7) sc_law_told.nd rfl (Or.inl rfl))
   (pss_cons (ps_asg (pe_ix (ix_G hr.units) (pv 3) (pv 7) (fun _ _=>rfl)) (pg_tup rfl (pgs_cons (pg_name (i:=8) sc_law_told.nd rfl (Or.inl rfl)) (pgs_cons (pg_name (i:=9) sc_law_told.nd rfl (Or.inl rfl)) (pgs_nil)))))
  (pss_cons (ps_set (i:=10) sc_law_told.nd rfl (Or.inl rfl) (pe_tup (pa_cons (pe_callB (call_min2 rfl) rfl T.b_min BootT.min (pa_cons (pv 8) (pa_cons (pv 9) (pa_nil)))) (pa_cons (pe_callB (call_max2 rfl) rfl T.b_max BootT.max (pa_cons (pv 8) (pa_cons (pv 9) (pa_nil)))) (pa_nil)))))
  (pss_one (ps_if (PW.pt (pw_and (pt_cmpR (op_neG hr.units) (pv 8) (pv 9) (nomark _)) (pw_and (pt_cmpR (op_notInG hr.units) (pv 10) (pv 6) (by with_unfolding_all rfl)) (pw_and1 (pt_cmpR (op_lt) (pe_callB (call_lenG) rfl T.b_len BootT.len (pa_cons (pv 5) (pa_nil))) (pe_int) (nomark _))))))
   (pss_cons (ps_asg (pe_bl) (pg_sub (pv 6) (pv 10) (set_G hr.units)))
  (pss_cons (ps_set (i:=11) sc_law_told.nd rfl (Or.inl rfl) (pcl c__law_weight (hr.mono (by decide)) rfl pass0 (pa_cons (pcl c__law_cell_at (hr.mono (by decide)) rfl pass0 (pa_cons (pv 0) (pa_cons (pe_op (op_addG) (pe_int) (pe_op (op_mod) (pv 7) (pe_int))) (pa_nil)))) (pa_cons (pv 7) (pa_nil)))))
  (pss_cons (ps_if (PW.pt (pw_and (pt_cmpR (op_lt) (pe_op (op_mod) (pe_op (op_fdiv) (pv 1) (pe_int)) (pe_int)) (pe_int) (nomark _)) (pw_and1 (pt_cmpR (op_eqG hr.units) (pe_op (op_sub) (pe_ix (ix_G hr.units) (pv 10) (pe_int) (fun _ _=>rfl)) (pe_ix (ix_G hr.units) (pv 10) (pe_int) (fun _ _=>rfl))) (pe_int) (nomark _)))))
   (pss_one (ps_set (i:=11) sc_law_told.nd rfl (Or.inl rfl) (pe_op (op_sub) (pv 11) (pe_op (op_mul) (pe_int) (pe_op (op_pow) (pe_int) (pe_int))))))
   (pss_nil))
  (pss_one (ps_expr (pe_bm PySem.F.plainAttrs_list PySem.F.slot_list_append PySem.F.type_list_append mt_append (pv 5) (pa_cons (pe_tup (pa_cons (pv 8) (pa_cons (pv 9) (pa_cons (pv 11) (pa_nil))))) (pa_nil))))))))
   (pss_nil))))))
  (pss_cons (ps_set (i:=12) sc_law_told.nd rfl (Or.inr rfl) (pcl c__law_cell_at (hr.mono (by decide)) rfl pass0 (pa_cons (pv 0) (pa_cons (pe_int) (pa_nil)))))
  (pss_one (ps_ret (pe_tup (pa_cons (pv 2) (pa_cons (pe_sortI (g:=fun i1 i2 z=>(((((i1 * 131)+(i2 * 17))+z) * 48271) % 65537)) (by exact fun e1 hns ht hs h0 h1 hcl hcv _=>(EvI.mod (EvI.mul (EvI.add (EvI.add (EvI.mul (EvI.tupix (k:=0) (by rw [e1] <;> rfl) (by rw [e1] <;> rfl) hns ht h0 hs) EvI.const (.inr ⟨by decide,by decide⟩)) (EvI.mul (EvI.tupix (k:=1) (by rw [e1] <;> rfl) (by rw [e1] <;> rfl) hns ht h1 hs) EvI.const (.inr ⟨by decide,by decide⟩))) (EvI.free (by rw [e1] <;> rfl) (by rw [e1] <;> rfl) hcl hcv)) EvI.const (.inr ⟨by decide,by decide⟩)) EvI.const (by decide))) rfl rfl CH B hr.depth rfl T.b_sorted (pa_cons (pv 5) (pa_nil)) rfl rfl) (pa_nil)))))))))))))),run vs H Q E h⟩
def rd__law_merged (K:PySem.W.Frag) (C:Addr):TS :=
  tSeq (tAsg (tOp (rIxG K) (tVar 0) (tVar 1)) (gName 3))
  (tSeq (tAsg (tOp (rIxG K) (tVar 0) (tVar 2)) (gName 4))
  (tRet (tComp 1 [3,4] (iSeq K (tVar 0)) (gName 0) (tYes) (tIf (tTest (tOp (rEqG K) (tVar 0) (tVar 2))) (tVar 1) (tVar 0)))))
theorem ok__law_merged (Fu:Fun K "_law_merged" "_law_merged" s_law_merged f fd) (T:Txt K mg C A)
      (len:∀ vs H Q E,sp vs H Q E→vs.length=3) (run:∀ vs H Q E,sp vs H Q E→rd__law_merged K C { nx:=fun _ H'=>Q .non H',rt:=Q } (start ["_law_names","_law_a","_law_b","_law_kept","_law_gone"] vs) H):FnOk P w K mg base CX0 1 f fd ["_law_names","_law_a","_law_b"] sp :=
    Fu.ok sc_law_merged len fun cdv A0 outer s H vs Q E hr h=>⟨_,(show PSs (cxOf CX0 P w K mg base ["_law_names","_law_a","_law_b","_law_kept","_law_gone"] "_law_merged" (defScope s_law_merged) f cdv A0 outer s H E).nox (defBody s_law_merged) (rd__law_merged K C) from
  pss_cons (ps_set (i:=3) sc_law_merged.nd rfl (Or.inr rfl) (pe_ix (ix_G hr.units) (pv 0) (pv 1) (fun _ _=>rfl)))
  (pss_cons (ps_set (i:=4) sc_law_merged.nd rfl (Or.inr rfl) (pe_ix (ix_G hr.units) (pv 0) (pv 2) (fun _ _=>rfl)))
  (pss_one (ps_ret (pe_comp ["_law_name"] (ys:=["_law_kept","_law_gone"]) [3,4] rfl (pi_seq (pv 0)) ⟨rfl,.inl rfl,rfl,⟨rfl,.inl rfl,rfl,trivial⟩⟩ (fun _ _ _=>pg_name (i:=0) (show (["_law_name","_law_kept","_law_gone"]:List Str).Nodup by decide +kernel) rfl (Or.inl rfl)) (fun _ _ _=>pifs_nil) (fun _ _ _=>pe_ifExp (pt_cmpR (op_eqG hr.units) (pv 0) (pv 2) (nomark _)) (pv 1) (pv 0))))))),run vs H Q E h⟩
def lp__law_kinds_1 (K:PySem.W.Frag) (C:Addr) (sp__law_whole:Sp):TS :=
  tFor (iSeq K (tVar 0)) (gName 1)
   (tSeq (tIfS (tOr (tNot (tTru K (tCB (rIsi K) (tCons (tVar 1) (tCons (tC (.ty "tuple")) (tNil)))))) (tOr (tTest (tOp (rNeG K) (tCB (rLen K) (tCons (tVar 1) (tNil))) (tC (.int 4)))) (tNot (tTru K (tCB (rIsi K) (tCons (tOp (rIxG K) (tVar 1) (tC (.int 3))) (tCons (tC (.ty "bool")) (tNil))))))))
   (tRet (tC (.bl false)))
   (tNext))
  (tIfS (tOr (tNot (tTru K (tCall sp__law_whole [] E0 (tCons (tOp (rIxG K) (tVar 1) (tC (.int 0))) (tNil))))) (tOr (tNot (tTru K (tCall sp__law_whole [] E0 (tCons (tOp (rIxG K) (tVar 1) (tC (.int 1))) (tNil))))) (tNot (tTru K (tCall sp__law_whole [] E0 (tCons (tOp (rIxG K) (tVar 1) (tC (.int 2))) (tNil)))))))
   (tRet (tC (.bl false)))
   (tNext)))
def rd__law_kinds (K:PySem.W.Frag) (C:Addr) (sp__law_whole:Sp):TS :=
  tSeq (tIfS (tNot (tTru K (tCB (rIsi K) (tCons (tVar 0) (tCons (tC (.ty "list")) (tNil))))))
   (tRet (tC (.bl false)))
   (tNext))
  (tSeq (lp__law_kinds_1 K C sp__law_whole)
  (tRet (tC (.bl true))))
theorem ok__law_kinds (Fu:Fun K "_law_kinds" "_law_kinds" s_law_kinds f fd) (T:Txt K mg C A) {sp__law_whole:Sp} (c__law_whole:Cal P w K mg base CX0 1 "_law_whole" ["_law_found"] sp__law_whole)
      (len:∀ vs H Q E,sp vs H Q E→vs.length=1) (run:∀ vs H Q E,sp vs H Q E→rd__law_kinds K C sp__law_whole { nx:=fun _ H'=>Q .non H',rt:=Q } (start ["_law_rows","_law_row"] vs) H):FnOk P w K mg base CX0 2 f fd ["_law_rows"] sp :=
    Fu.ok sc_law_kinds len fun cdv A0 outer s H vs Q E hr h=>⟨_,(show PSs (cxOf CX0 P w K mg base ["_law_rows","_law_row"] "_law_kinds" (defScope s_law_kinds) f cdv A0 outer s H E).nox (defBody s_law_kinds) (rd__law_kinds K C sp__law_whole) from
  pss_cons (ps_if (pt_not (pt_tru (pe_callB (call_isi) rfl T.b_isinstance BootT.isinstance (pa_cons (pv 0) (pa_cons (pe_bltn rfl T.b_list BootT.list rfl) (pa_nil)))) (fun _=>rfl)))
   (pss_one (ps_ret (pe_bl)))
   (pss_nil))
  (pss_cons (ps_for PassesOwn.never rfl (pi_seq (pv 0)) (pg_name (i:=1) sc_law_kinds.nd rfl (Or.inl rfl))
   (pss_cons (ps_if (PW.pt (pw_or (pt_not (pt_tru (pe_callB (call_isi) rfl T.b_isinstance BootT.isinstance (pa_cons (pv 1) (pa_cons (pe_bltn rfl T.b_tuple BootT.tuple rfl) (pa_nil)))) (fun _=>rfl))) (pw_or (pt_cmpR (op_neG hr.units) (pe_callB (call_lenG) rfl T.b_len BootT.len (pa_cons (pv 1) (pa_nil))) (pe_int) (nomark _)) (pw_or1 (pt_not (pt_tru (pe_callB (call_isi) rfl T.b_isinstance BootT.isinstance (pa_cons (pe_ix (ix_G hr.units) (pv 1) (pe_int) (fun _ _=>rfl)) (pa_cons (pe_bltn rfl T.b_bool BootT.bool rfl) (pa_nil)))) (fun _=>rfl)))))))
   (pss_one (ps_ret (pe_bl)))
   (pss_nil))
  (pss_one (ps_if (PW.pt (pw_or (pt_not (pt_tru (pcl c__law_whole (hr.mono (by decide)) rfl pass0 (pa_cons (pe_ix (ix_G hr.units) (pv 1) (pe_int) (fun _ _=>rfl)) (pa_nil))) (fun _=>rfl))) (pw_or (pt_not (pt_tru (pcl c__law_whole (hr.mono (by decide)) rfl pass0 (pa_cons (pe_ix (ix_G hr.units) (pv 1) (pe_int) (fun _ _=>rfl)) (pa_nil))) (fun _=>rfl))) (pw_or1 (pt_not (pt_tru (pcl c__law_whole (hr.mono (by decide)) rfl pass0 (pa_cons (pe_ix (ix_G hr.units) (pv 1) (pe_int) (fun _ _=>rfl)) (pa_nil))) (fun _=>rfl)))))))
   (pss_one (ps_ret (pe_bl)))
   (pss_nil)))))
  (pss_one (ps_ret (pe_bl))))),run vs H Q E h⟩
def lp__law_sides_1 (K:PySem.W.Frag) (C:Addr) (A:CA) (sp_Kept_side sp_Kept_joined:Sp):TS :=
  tFor (iRng1 (tCons (tCB (rLen K) (tCons (tVar 1) (tNil))) (tNil))) (gName 2)
   (tSeq (tAsg (tMeth A.Lightest "side" sp_Kept_side [] E0 (tVar 0) (tCons (tVar 2) (tNil))) (gName 3))
  (tSeq (tAsg (tComp 1 [1,2] (iRng1 (tCons (tCB (rLen K) (tCons (tVar 1) (tNil))) (tNil))) (gName 0) (tTest (tOp (rEqG K) (tOp (rIxG K) (tVar 1) (tVar 0)) (tOp (rIxG K) (tVar 1) (tVar 2)))) (tVar 0)) (gName 4))
  (tSeq (tIfS (tOr (tNot (tTru K (tCB (rIsi K) (tCons (tVar 3) (tCons (tC (.ty "list")) (tNil)))))) (tTest (tOp (rNeG K) (tVar 3) (tVar 4))))
   (tRet (tC (.bl false)))
   (tNext))
  (tSeq (tDrop (tBM K "list" rAppend (tVar 3) (tCons (tVar 2) (tNil))))
  (tSeq (tAsg (tOp (rI (fun _ j=>0 < j) fun i j=>.int (i % j)) (tOp (rI CMul fun i j=>.int (i * j)) (tVar 2) (tVar 2)) (tCB (rLen K) (tCons (tVar 1) (tNil)))) (gName 5))
  (tSeq (tAsg (tMeth A.Lightest "joined" sp_Kept_joined [] E0 (tVar 0) (tCons (tVar 2) (tCons (tVar 5) (tNil)))) (gName 6))
  (tIfS (tOr (tNot (tTru K (tCB (rIsi K) (tCons (tVar 6) (tCons (tC (.ty "bool")) (tNil)))))) (tTest (tOp (rNeG K) (tVar 6) (tOp (rEqG K) (tOp (rIxG K) (tVar 1) (tVar 2)) (tOp (rIxG K) (tVar 1) (tVar 5))))))
   (tRet (tC (.bl false)))
   (tNext))))))))
def rd__law_sides (K:PySem.W.Frag) (C:Addr) (A:CA) (sp_Kept_side sp_Kept_joined:Sp):TS :=
  tSeq (lp__law_sides_1 K C A sp_Kept_side sp_Kept_joined)
  (tRet (tC (.bl true)))
theorem ok__law_sides (Fu:Fun K "_law_sides" "_law_sides" s_law_sides f fd) (T:Txt K mg C A) {sp_Kept_side:Sp} (c_Kept_side:CalM P w K mg base CX0 5 A.Lightest "side" ["self","a"] sp_Kept_side) {sp_Kept_joined:Sp} (c_Kept_joined:CalM P w K mg base CX0 6 A.Lightest "joined" ["self","a","b"] sp_Kept_joined)
      (len:∀ vs H Q E,sp vs H Q E→vs.length=2) (run:∀ vs H Q E,sp vs H Q E→rd__law_sides K C A sp_Kept_side sp_Kept_joined { nx:=fun _ H'=>Q .non H',rt:=Q } (start ["_law_wood","_law_names","_law_a","_law_side","_law_due","_law_b","_law_joined"] vs) H):FnOk P w K mg base CX0 7 f fd ["_law_wood","_law_names"] sp :=
    Fu.ok sc_law_sides len fun cdv A0 outer s H vs Q E hr h=>⟨_,(show PSs (cxOf CX0 P w K mg base ["_law_wood","_law_names","_law_a","_law_side","_law_due","_law_b","_law_joined"] "_law_sides" (defScope s_law_sides) f cdv A0 outer s H E).nox (defBody s_law_sides) (rd__law_sides K C A sp_Kept_side sp_Kept_joined) from
  pss_cons (ps_for PassesOwn.never rfl (pi_range1 rfl T.b_range (pa_cons (pe_callB (call_lenG) rfl T.b_len BootT.len (pa_cons (pv 1) (pa_nil))) (pa_nil))) (pg_name (i:=2) sc_law_sides.nd rfl (Or.inr rfl))
   (pss_cons (ps_set (i:=3) sc_law_sides.nd rfl (Or.inl rfl) (pcm c_Kept_side T.cl_Lightest (hr.mono (by decide)) (pv 0) pass0 (pa_cons (pv 2) (pa_nil))))
  (pss_cons (ps_comp (i:=4) ["_law_b"] (ys:=["_law_names","_law_a"]) [1,2] rfl sc_law_sides.nd rfl rfl (pi_range1 rfl T.b_range (pa_cons (pe_callB (call_lenG) rfl T.b_len BootT.len (pa_cons (pv 1) (pa_nil))) (pa_nil))) ⟨rfl,.inl rfl,rfl,⟨rfl,.inl rfl,rfl,trivial⟩⟩ (fun _ _ _=>pg_name (i:=0) (show (["_law_b","_law_names","_law_a"]:List Str).Nodup by decide +kernel) rfl (Or.inl rfl)) (fun _ _ _=>pifs_one (pt_cmpR (op_eqG hr.units) (pe_ix (ix_G hr.units) (pv 1) (pv 0) (fun _ _=>rfl)) (pe_ix (ix_G hr.units) (pv 1) (pv 2) (fun _ _=>rfl)) (nomark _))) (fun _ _ _=>pv 0))
  (pss_cons (ps_if (PW.pt (pw_or (pt_not (pt_tru (pe_callB (call_isi) rfl T.b_isinstance BootT.isinstance (pa_cons (pv 3) (pa_cons (pe_bltn rfl T.b_list BootT.list rfl) (pa_nil)))) (fun _=>rfl))) (pw_or1 (pt_cmpR (op_neG hr.units) (pv 3) (pv 4) (nomark _)))))
   (pss_one (ps_ret (pe_bl)))
   (pss_nil))
  (pss_cons (ps_expr (pe_bm PySem.F.plainAttrs_list PySem.F.slot_list_append PySem.F.type_list_append mt_append (pv 3) (pa_cons (pv 2) (pa_nil))))
  (pss_cons (ps_set (i:=5) sc_law_sides.nd rfl (Or.inl rfl) (pe_op (op_mod) (pe_op (op_mul) (pv 2) (pv 2)) (pe_callB (call_lenG) rfl T.b_len BootT.len (pa_cons (pv 1) (pa_nil)))))
  (pss_cons (ps_set (i:=6) sc_law_sides.nd rfl (Or.inl rfl) (pcm c_Kept_joined T.cl_Lightest (hr.mono (by decide)) (pv 0) pass0 (pa_cons (pv 2) (pa_cons (pv 5) (pa_nil)))))
  (pss_one (ps_if (PW.pt (pw_or (pt_not (pt_tru (pe_callB (call_isi) rfl T.b_isinstance BootT.isinstance (pa_cons (pv 6) (pa_cons (pe_bltn rfl T.b_bool BootT.bool rfl) (pa_nil)))) (fun _=>rfl))) (pw_or1 (pt_cmpR (op_neG hr.units) (pv 6) (pe_cmpR (op_eqG hr.units) (pe_ix (ix_G hr.units) (pv 1) (pv 2) (fun _ _=>rfl)) (pe_ix (ix_G hr.units) (pv 1) (pv 5) (fun _ _=>rfl)) (nomark _)) (nomark _)))))
   (pss_one (ps_ret (pe_bl)))
   (pss_nil))))))))))
  (pss_one (ps_ret (pe_bl)))),run vs H Q E h⟩
def lp_law_1 (K:PySem.W.Frag) (C:Addr) (A:CA) (sp__law_told sp_Lightest___init__ sp_Kept_ties sp__law_merged sp__law_sides sp__law_kinds sp__law_whole sp_Lightest_weight:Sp):TS :=
  tFor (iSeq K (tCB (rSortedX K) (tCons (tVar 6) (tNil)))) (gTup K 3 (gCons (gName 7) (gCons (gName 8) (gCons (gName 9) (gNil)))))
   (tSeq (tDrop (tBM K "list" rAppend (tVar 4) (tCons (tTup (tCons (tVar 8) (tCons (tVar 9) (tCons (tC (.int 0)) (tCons (tOp (rNeG K) (tOp (rIxG K) (tVar 3) (tVar 8)) (tOp (rIxG K) (tVar 3) (tVar 9))) (tNil)))))) (tNil))))
  (tIfS (tTest (tOp (rNeG K) (tOp (rIxG K) (tVar 3) (tVar 8)) (tOp (rIxG K) (tVar 3) (tVar 9))))
   (tSeq (tAug 5 (tVar 7) (rI0 fun i j=>.int (i+j)))
  (tAsg (tCall sp__law_merged [] E0 (tCons (tVar 3) (tCons (tVar 8) (tCons (tVar 9) (tNil))))) (gName 3)))
   (tNext)))
def lp_law_2 (K:PySem.W.Frag) (C:Addr) (A:CA) (sp__law_told sp_Lightest___init__ sp_Kept_ties sp__law_merged sp__law_sides sp__law_kinds sp__law_whole sp_Lightest_weight:Sp):TS :=
  tFor (iRng1 (tCons (tC (.int 2)) (tNil))) (gName 12)
   (tSeq (tAsg (tMeth A.Lightest "ties" sp_Kept_ties [] E0 (tVar 11) tNil) (gName 6))
  (tSeq (tIfS (tOr (tNot (tTru K (tCall sp__law_kinds [] E0 (tCons (tVar 6) (tNil))))) (tTest (tOp (rNeG K) (tVar 6) (tCB (rSortedX K) (tCons (tVar 4) (tNil))))))
   (tRet (tC (.bl false)))
   (tNext))
  (tSeq (tDrop (tBM0 K "list" rClear (tVar 6)))
  (tSeq (tIfS (tOr (tNot (tTru K (tCall sp__law_whole [] E0 (tCons (tMeth A.Lightest "weight" sp_Lightest_weight [] E0 (tVar 11) tNil) (tNil))))) (tTest (tOp (rNeG K) (tMeth A.Lightest "weight" sp_Lightest_weight [] E0 (tVar 11) tNil) (tVar 5))))
   (tRet (tC (.bl false)))
   (tNext))
  (tIfS (tNot (tTru K (tCall sp__law_sides [] E0 (tCons (tVar 11) (tCons (tVar 3) (tNil))))))
   (tRet (tC (.bl false)))
   (tNext))))))
def rd_law (K:PySem.W.Frag) (C:Addr) (A:CA) (sp__law_told sp_Lightest___init__ sp_Kept_ties sp__law_merged sp__law_sides sp__law_kinds sp__law_whole sp_Lightest_weight:Sp):TS :=
  tSeq (tAsg (tCall sp__law_told [] E0 (tCons (tVar 0) (tNil))) (gTup K 2 (gCons (gName 1) (gCons (gName 2) (gNil)))))
  (tSeq (tAsg (tListRng (tCons (tVar 1) (tNil))) (gName 3))
  (tSeq (tAsg (tLst (tNil)) (gName 4))
  (tSeq (tAsg (tC (.int 0)) (gName 5))
  (tSeq (tAsg (tComp 1 [] (iSeq K (tVar 2)) (gName 0) (tYes) (tTup (tCons (tOp (rIxG K) (tVar 0) (tC (.int 2))) (tCons (tCB (rMin2) (tCons (tOp (rIxG K) (tVar 0) (tC (.int 0))) (tCons (tOp (rIxG K) (tVar 0) (tC (.int 1))) (tNil)))) (tCons (tCB (rMax2) (tCons (tOp (rIxG K) (tVar 0) (tC (.int 0))) (tCons (tOp (rIxG K) (tVar 0) (tC (.int 1))) (tNil)))) (tNil)))))) (gName 6))
  (tSeq (lp_law_1 K C A sp__law_told sp_Lightest___init__ sp_Kept_ties sp__law_merged sp__law_sides sp__law_kinds sp__law_whole sp_Lightest_weight)
  (tSeq (tAsg (tCB (rList K) (tCons (tVar 2) (tNil))) (gName 10))
  (tSeq (tAsg (tMake A.Lightest sp_Lightest___init__ [] E0 (tCons (tVar 1) (tCons (tVar 10) (tNil)))) (gName 11))
  (tSeq (tIfS (tTest (tOp (rNeG K) (tVar 10) (tVar 2)))
   (tRet (tC (.bl false)))
   (tNext))
  (tSeq (tDrop (tBM0 K "list" rClear (tVar 10)))
  (tSeq (lp_law_2 K C A sp__law_told sp_Lightest___init__ sp_Kept_ties sp__law_merged sp__law_sides sp__law_kinds sp__law_whole sp_Lightest_weight)
  (tRet (tC (.bl true)))))))))))))
theorem ok_law (Fu:Fun K "law" "law" slaw f fd) (T:Txt K mg C A) {sp__law_told:Sp} (c__law_told:Cal P w K mg base CX0 2 "_law_told" ["_law_script"] sp__law_told) {sp_Lightest___init__:Sp} (c_Lightest___init__:CalI P w K mg base CX0 10 A.Lightest ["self","n","weighed"] sp_Lightest___init__) {sp_Kept_ties:Sp} (c_Kept_ties:CalM P w K mg base CX0 2 A.Lightest "ties" ["self"] sp_Kept_ties) {sp__law_merged:Sp} (c__law_merged:Cal P w K mg base CX0 1 "_law_merged" ["_law_names","_law_a","_law_b"] sp__law_merged) {sp__law_sides:Sp} (c__law_sides:Cal P w K mg base CX0 7 "_law_sides" ["_law_wood","_law_names"] sp__law_sides) {sp__law_kinds:Sp} (c__law_kinds:Cal P w K mg base CX0 2 "_law_kinds" ["_law_rows"] sp__law_kinds) {sp__law_whole:Sp} (c__law_whole:Cal P w K mg base CX0 1 "_law_whole" ["_law_found"] sp__law_whole) {sp_Lightest_weight:Sp} (c_Lightest_weight:CalM P w K mg base CX0 3 A.Lightest "weight" ["self"] sp_Lightest_weight)
      (len:∀ vs H Q E,sp vs H Q E→vs.length=1) (run:∀ vs H Q E,sp vs H Q E→rd_law K C A sp__law_told sp_Lightest___init__ sp_Kept_ties sp__law_merged sp__law_sides sp__law_kinds sp__law_whole sp_Lightest_weight { nx:=fun _ H'=>Q .non H',rt:=Q } (start ["_law_script","_law_n","_law_told_here","_law_names","_law_due","_law_weight_here","_law_rows","_law_number","_law_a","_law_b","_law_handed","_law_wood","_law_turn"] vs) H):FnOk P w K mg base CX0 12 f fd ["_law_script"] sp :=
    Fu.ok sclaw len fun cdv A0 outer s H vs Q E hr h=>⟨_,(show PSs (cxOf CX0 P w K mg base ["_law_script","_law_n","_law_told_here","_law_names","_law_due","_law_weight_here","_law_rows","_law_number","_law_a","_law_b","_law_handed","_law_wood","_law_turn"] "law" (defScope slaw) f cdv A0 outer s H E).nox (defBody slaw) (rd_law K C A sp__law_told sp_Lightest___init__ sp_Kept_ties sp__law_merged sp__law_sides sp__law_kinds sp__law_whole sp_Lightest_weight) from
  pss_cons (ps_asg (pcl c__law_told (hr.mono (by decide)) rfl pass0 (pa_cons (pv 0) (pa_nil))) (pg_tup rfl (pgs_cons (pg_name (i:=1) sclaw.nd rfl (Or.inl rfl)) (pgs_cons (pg_name (i:=2) sclaw.nd rfl (Or.inl rfl)) (pgs_nil)))))
  (pss_cons (ps_set (i:=3) sclaw.nd rfl (Or.inl rfl) (pe_listRng rfl rfl T.b_list rfl T.b_range (pa_cons (pv 1) (pa_nil))))
  (pss_cons (ps_set (i:=4) sclaw.nd rfl (Or.inl rfl) (pe_lst (pa_nil)))
  (pss_cons (ps_set (i:=5) sclaw.nd rfl (Or.inl rfl) (pe_int))
  (pss_cons (ps_comp (i:=6) ["_law_row"] (ys:=[]) [] rfl sclaw.nd rfl rfl (pi_seq (pv 2)) trivial (fun _ _ _=>pg_name (i:=0) (show (["_law_row"]:List Str).Nodup by decide +kernel) rfl (Or.inl rfl)) (fun _ _ _=>pifs_nil) (fun _ _ _=>pe_tup (pa_cons (pe_ix (ix_G hr.units) (pv 0) (pe_int) (fun _ _=>rfl)) (pa_cons (pe_callB (call_min2 rfl) rfl T.b_min BootT.min (pa_cons (pe_ix (ix_G hr.units) (pv 0) (pe_int) (fun _ _=>rfl)) (pa_cons (pe_ix (ix_G hr.units) (pv 0) (pe_int) (fun _ _=>rfl)) (pa_nil)))) (pa_cons (pe_callB (call_max2 rfl) rfl T.b_max BootT.max (pa_cons (pe_ix (ix_G hr.units) (pv 0) (pe_int) (fun _ _=>rfl)) (pa_cons (pe_ix (ix_G hr.units) (pv 0) (pe_int) (fun _ _=>rfl)) (pa_nil)))) (pa_nil))))))
  (pss_cons (ps_for PassesOwn.never rfl (pi_seq (pe_callB (call_sortedX) rfl T.b_sorted BootT.sorted (pa_cons (pv 6) (pa_nil)))) (pg_tup rfl (pgs_cons (pg_name (i:=7) sclaw.nd rfl (Or.inl rfl)) (pgs_cons (pg_name (i:=8) sclaw.nd rfl (Or.inl rfl)) (pgs_cons (pg_name (i:=9) sclaw.nd rfl (Or.inl rfl)) (pgs_nil)))))
   (pss_cons (ps_expr (pe_bm PySem.F.plainAttrs_list PySem.F.slot_list_append PySem.F.type_list_append mt_append (pv 4) (pa_cons (pe_tup (pa_cons (pv 8) (pa_cons (pv 9) (pa_cons (pe_int) (pa_cons (pe_cmpR (op_neG hr.units) (pe_ix (ix_G hr.units) (pv 3) (pv 8) (fun _ _=>rfl)) (pe_ix (ix_G hr.units) (pv 3) (pv 9) (fun _ _=>rfl)) (nomark _)) (pa_nil)))))) (pa_nil))))
  (pss_one (ps_if (pt_cmpR (op_neG hr.units) (pe_ix (ix_G hr.units) (pv 3) (pv 8) (fun _ _=>rfl)) (pe_ix (ix_G hr.units) (pv 3) (pv 9) (fun _ _=>rfl)) (nomark _))
   (pss_cons (ps_aug (i:=5) sclaw.nd rfl (Or.inl rfl) (pv 7) iop_add)
  (pss_one (ps_set (i:=3) sclaw.nd rfl (Or.inl rfl) (pcl c__law_merged (hr.mono (by decide)) rfl pass0 (pa_cons (pv 3) (pa_cons (pv 8) (pa_cons (pv 9) (pa_nil))))))))
   (pss_nil)))))
  (pss_cons (ps_set (i:=10) sclaw.nd rfl (Or.inl rfl) (pe_callTy (call_list_of) rfl T.b_list BootT.list (pa_cons (pv 2) (pa_nil))))
  (pss_cons (ps_set (i:=11) sclaw.nd rfl (Or.inl rfl) (pe_make c_Lightest___init__.m c_Lightest___init__.G (hr.mono (by decide)) rfl T.mg_Lightest c_Lightest___init__.b .nil pass0 (pa_cons (pv 1) (pa_cons (pv 10) (pa_nil)))))
  (pss_cons (ps_if (pt_cmpR (op_neG hr.units) (pv 10) (pv 2) (nomark _))
   (pss_one (ps_ret (pe_bl)))
   (pss_nil))
  (pss_cons (ps_expr (pe_bm0 PySem.F.plainAttrs_list PySem.F.slot_list_clear PySem.F.type_list_clear mt_clear (pv 10)))
  (pss_cons (ps_for PassesOwn.never rfl (pi_range1 rfl T.b_range (pa_cons (pe_int) (pa_nil))) (pg_name (i:=12) sclaw.nd rfl (Or.inl rfl))
   (pss_cons (ps_set (i:=6) sclaw.nd rfl (Or.inl rfl) (pcm0 c_Kept_ties T.cl_Lightest (hr.mono (by decide)) (pv 11) pass0))
  (pss_cons (ps_if (PW.pt (pw_or (pt_not (pt_tru (pcl c__law_kinds (hr.mono (by decide)) rfl pass0 (pa_cons (pv 6) (pa_nil))) (fun _=>rfl))) (pw_or1 (pt_cmpR (op_neG hr.units) (pv 6) (pe_callB (call_sortedX) rfl T.b_sorted BootT.sorted (pa_cons (pv 4) (pa_nil))) (nomark _)))))
   (pss_one (ps_ret (pe_bl)))
   (pss_nil))
  (pss_cons (ps_expr (pe_bm0 PySem.F.plainAttrs_list PySem.F.slot_list_clear PySem.F.type_list_clear mt_clear (pv 6)))
  (pss_cons (ps_if (PW.pt (pw_or (pt_not (pt_tru (pcl c__law_whole (hr.mono (by decide)) rfl pass0 (pa_cons (pcm0 c_Lightest_weight T.cl_Lightest (hr.mono (by decide)) (pv 11) pass0) (pa_nil))) (fun _=>rfl))) (pw_or1 (pt_cmpR (op_neG hr.units) (pcm0 c_Lightest_weight T.cl_Lightest (hr.mono (by decide)) (pv 11) pass0) (pv 5) (nomark _)))))
   (pss_one (ps_ret (pe_bl)))
   (pss_nil))
  (pss_one (ps_if (pt_not (pt_tru (pcl c__law_sides (hr.mono (by decide)) rfl pass0 (pa_cons (pv 11) (pa_cons (pv 3) (pa_nil)))) (fun _=>rfl)))
   (pss_one (ps_ret (pe_bl)))
   (pss_nil))))))))
  (pss_one (ps_ret (pe_bl)))))))))))))),run vs H Q E h⟩
def rd_Wood___init__ (K:PySem.W.Frag) (C:Addr):TS :=
  tSeq (sFld K (tVar 0) (tVar 1) "n")
  (sFld K (tVar 0) (tComp 1 [] (iRng1 (tCons (tVar 1) (tNil))) (gName 0) (tYes) (tLst (tCons (tVar 0) (tNil)))) "rows")
theorem ok_Wood___init__ (Fu:Fun K "__init__" "Wood.__init__" sWood___init__ f fd) (T:Txt K mg C A)
      (len:∀ vs H Q E,sp vs H Q E→vs.length=2) (run:∀ vs H Q E,sp vs H Q E→rd_Wood___init__ K C { nx:=fun _ H'=>Q .non H',rt:=Q } (start ["self","n"] vs) H):FnOk P w K mg base CX0 1 f fd ["self","n"] sp :=
    Fu.ok scWood___init__ len fun cdv A0 outer s H vs Q E hr h=>⟨_,(show PSs (cxOf CX0 P w K mg base ["self","n"] "Wood.__init__" (defScope sWood___init__) f cdv A0 outer s H E).nox (defBody sWood___init__) (rd_Wood___init__ K C) from
  pss_cons (ps_fld (pv 0) (pv 1) rfl)
  (pss_one (ps_fld (pv 0) (pe_comp ["place"] (ys:=[]) [] rfl (pi_range1 rfl T.b_range (pa_cons (pv 1) (pa_nil))) trivial (fun _ _ _=>pg_name (i:=0) (show (["place"]:List Str).Nodup by decide +kernel) rfl (Or.inl rfl)) (fun _ _ _=>pifs_nil) (fun _ _ _=>pe_lst (pa_cons (pv 0) (pa_nil)))) rfl))),run vs H Q E h⟩
def lp_Wood_keep_1 (K:PySem.W.Frag) (C:Addr):TS :=
  tFor (iSeq K (tVar 1)) (gName 2)
   (tAsg (tVar 1) (gSub (tFld K (tVar 0) "rows") (tVar 2) rSetG))
def rd_Wood_keep (K:PySem.W.Frag) (C:Addr):TS :=
  lp_Wood_keep_1 K C
theorem ok_Wood_keep (Fu:Fun K "keep" "Wood.keep" sWood_keep f fd) (T:Txt K mg C A)
      (len:∀ vs H Q E,sp vs H Q E→vs.length=2) (run:∀ vs H Q E,sp vs H Q E→rd_Wood_keep K C { nx:=fun _ H'=>Q .non H',rt:=Q } (start ["self","row","place"] vs) H):FnOk P w K mg base CX0 1 f fd ["self","row"] sp :=
    Fu.ok scWood_keep len fun cdv A0 outer s H vs Q E hr h=>⟨_,(show PSs (cxOf CX0 P w K mg base ["self","row","place"] "Wood.keep" (defScope sWood_keep) f cdv A0 outer s H E).nox (defBody sWood_keep) (rd_Wood_keep K C) from
  pss_one (ps_for PassesOwn.never rfl (pi_seq (pv 1)) (pg_name (i:=2) scWood_keep.nd rfl (Or.inl rfl))
   (pss_one (ps_asg (pv 1) (pg_sub (pe_fld (pv 0) rfl) (pv 2) (set_G hr.units)))))),run vs H Q E h⟩
def rd_Wood_link (K:PySem.W.Frag) (C:Addr) (sp_refuse_no_pair sp_Wood_joined sp_Wood_keep sp_spliced:Sp):TS :=
  tSeq (tDrop (tCall sp_refuse_no_pair [] E0 (tCons (tFld K (tVar 0) "n") (tCons (tVar 1) (tCons (tVar 2) (tNil))))))
  (tSeq (tIfS (tTru K (tMeth C "joined" sp_Wood_joined [] E0 (tVar 0) (tCons (tVar 1) (tCons (tVar 2) (tNil)))))
   (tNever)
   (tNext))
  (tDrop (tMeth C "keep" sp_Wood_keep [] E0 (tVar 0) (tCons (tCall sp_spliced [] E0 (tCons (tOp (rIxG K) (tFld K (tVar 0) "rows") (tVar 1)) (tCons (tOp (rIxG K) (tFld K (tVar 0) "rows") (tVar 2)) (tCons (tVar 1) (tCons (tVar 2) (tNil)))))) (tNil)))))
theorem ok_Wood_link (Fu:Fun K "link" "Wood.link" sWood_link f fd) (T:Txt K mg C A) {sp_refuse_no_pair:Sp} (c_refuse_no_pair:Cal P w K mg base CX0 5 "refuse_no_pair" ["n","a","b"] sp_refuse_no_pair) {sp_Wood_joined:Sp} (c_Wood_joined:CalM P w K mg base CX0 5 C "joined" ["self","a","b"] sp_Wood_joined) {sp_Wood_keep:Sp} (c_Wood_keep:CalM P w K mg base CX0 1 C "keep" ["self","row"] sp_Wood_keep) {sp_spliced:Sp} (c_spliced:Cal P w K mg base CX0 2 "spliced" ["row","other","a","b"] sp_spliced)
      (len:∀ vs H Q E,sp vs H Q E→vs.length=3) (run:∀ vs H Q E,sp vs H Q E→rd_Wood_link K C sp_refuse_no_pair sp_Wood_joined sp_Wood_keep sp_spliced { nx:=fun _ H'=>Q .non H',rt:=Q } (start ["self","a","b"] vs) H):FnOk P w K mg base CX0 6 f fd ["self","a","b"] sp :=
    Fu.ok scWood_link len fun cdv A0 outer s H vs Q E hr h=>⟨_,(show PSs (cxOf CX0 P w K mg base ["self","a","b"] "Wood.link" (defScope sWood_link) f cdv A0 outer s H E).nox (defBody sWood_link) (rd_Wood_link K C sp_refuse_no_pair sp_Wood_joined sp_Wood_keep sp_spliced) from
  pss_cons (ps_expr (pcl c_refuse_no_pair (hr.mono (by decide)) rfl pass0 (pa_cons (pe_fld (pv 0) rfl) (pa_cons (pv 1) (pa_cons (pv 2) (pa_nil))))))
  (pss_cons (ps_if (pt_tru (pcm c_Wood_joined T.cl_Wood (hr.mono (by decide)) (pv 0) pass0 (pa_cons (pv 1) (pa_cons (pv 2) (pa_nil)))) (fun _=>rfl))
   (pss_one (ps_never))
   (pss_nil))
  (pss_one (ps_expr (pcm c_Wood_keep T.cl_Wood (hr.mono (by decide)) (pv 0) pass0 (pa_cons (pcl c_spliced (hr.mono (by decide)) rfl pass0 (pa_cons (pe_ix (ix_G hr.units) (pe_fld (pv 0) rfl) (pv 1) (fun _ _=>rfl)) (pa_cons (pe_ix (ix_G hr.units) (pe_fld (pv 0) rfl) (pv 2) (fun _ _=>rfl)) (pa_cons (pv 1) (pa_cons (pv 2) (pa_nil)))))) (pa_nil))))))),run vs H Q E h⟩
def rd_Wood_joined (K:PySem.W.Frag) (C:Addr) (sp_refuse_no_places:Sp):TS :=
  tSeq (tDrop (tCall sp_refuse_no_places [] E0 (tCons (tFld K (tVar 0) "n") (tCons (tVar 1) (tCons (tVar 2) (tNil))))))
  (tRet (tOp (rEqG K) (tOp (rIxG K) (tOp (rIxG K) (tFld K (tVar 0) "rows") (tVar 1)) (tC (.int 0))) (tOp (rIxG K) (tOp (rIxG K) (tFld K (tVar 0) "rows") (tVar 2)) (tC (.int 0)))))
theorem ok_Wood_joined (Fu:Fun K "joined" "Wood.joined" sWood_joined f fd) (T:Txt K mg C A) {sp_refuse_no_places:Sp} (c_refuse_no_places:Cal P w K mg base CX0 4 "refuse_no_places" ["n","a","b"] sp_refuse_no_places)
      (len:∀ vs H Q E,sp vs H Q E→vs.length=3) (run:∀ vs H Q E,sp vs H Q E→rd_Wood_joined K C sp_refuse_no_places { nx:=fun _ H'=>Q .non H',rt:=Q } (start ["self","a","b"] vs) H):FnOk P w K mg base CX0 5 f fd ["self","a","b"] sp :=
    Fu.ok scWood_joined len fun cdv A0 outer s H vs Q E hr h=>⟨_,(show PSs (cxOf CX0 P w K mg base ["self","a","b"] "Wood.joined" (defScope sWood_joined) f cdv A0 outer s H E).nox (defBody sWood_joined) (rd_Wood_joined K C sp_refuse_no_places) from
  pss_cons (ps_expr (pcl c_refuse_no_places (hr.mono (by decide)) rfl pass0 (pa_cons (pe_fld (pv 0) rfl) (pa_cons (pv 1) (pa_cons (pv 2) (pa_nil))))))
  (pss_one (ps_ret (pe_cmpR (op_eqG hr.units) (pe_ix (ix_G hr.units) (pe_ix (ix_G hr.units) (pe_fld (pv 0) rfl) (pv 1) (fun _ _=>rfl)) (pe_int) (fun _ _=>rfl)) (pe_ix (ix_G hr.units) (pe_ix (ix_G hr.units) (pe_fld (pv 0) rfl) (pv 2) (fun _ _=>rfl)) (pe_int) (fun _ _=>rfl)) (nomark _))))),run vs H Q E h⟩
def rd_Wood_group (K:PySem.W.Frag) (C:Addr) (sp_refuse_no_place:Sp):TS :=
  tSeq (tDrop (tCall sp_refuse_no_place [] E0 (tCons (tFld K (tVar 0) "n") (tCons (tVar 1) (tNil)))))
  (tRet (tSortSet K (tCons (tOp (rIxG K) (tFld K (tVar 0) "rows") (tVar 1)) (tNil))))
theorem ok_Wood_group (Fu:Fun K "group" "Wood.group" sWood_group f fd) (T:Txt K mg C A) {sp_refuse_no_place:Sp} (c_refuse_no_place:Cal P w K mg base CX0 3 "refuse_no_place" ["n","thing"] sp_refuse_no_place)
      (len:∀ vs H Q E,sp vs H Q E→vs.length=2) (run:∀ vs H Q E,sp vs H Q E→rd_Wood_group K C sp_refuse_no_place { nx:=fun _ H'=>Q .non H',rt:=Q } (start ["self","a"] vs) H):FnOk P w K mg base CX0 4 f fd ["self","a"] sp :=
    Fu.ok scWood_group len fun cdv A0 outer s H vs Q E hr h=>⟨_,(show PSs (cxOf CX0 P w K mg base ["self","a"] "Wood.group" (defScope sWood_group) f cdv A0 outer s H E).nox (defBody sWood_group) (rd_Wood_group K C sp_refuse_no_place) from
  pss_cons (ps_expr (pcl c_refuse_no_place (hr.mono (by decide)) rfl pass0 (pa_cons (pe_fld (pv 0) rfl) (pa_cons (pv 1) (pa_nil)))))
  (pss_one (ps_ret (pe_sortSet rfl rfl T.b_sorted rfl T.b_set (pa_cons (pe_ix (ix_G hr.units) (pe_fld (pv 0) rfl) (pv 1) (fun _ _=>rfl)) (pa_nil)))))),run vs H Q E h⟩
def lp_Wood_ties_1 (K:PySem.W.Frag) (C:Addr) (sp_steps_along:Sp):TS :=
  tFor (iEnum K (tCons (tFld K (tVar 0) "rows") (tNil))) (gTup K 2 (gCons (gName 2) (gCons (gName 3) (gNil))))
   (tIfS (tTest (tOp (rEqG K) (tOp (rIxG K) (tVar 3) (tC (.int 0))) (tVar 2)))
   (tDrop (tBM K "list" rExtend (tVar 1) (tCons (tComp 2 [] (iSeq K (tCall sp_steps_along [] E0 (tCons (tVar 3) (tNil)))) (gTup K 2 (gCons (gName 0) (gCons (gName 1) (gNil)))) (tTest (tOp (rI0 fun i j=>.bl (decide (i < j))) (tVar 0) (tVar 1))) (tTup (tCons (tVar 0) (tCons (tVar 1) (tNil))))) (tNil))))
   (tNext))
def rd_Wood_ties (K:PySem.W.Frag) (C:Addr) (sp_steps_along:Sp):TS :=
  tSeq (tAsg (tLst (tNil)) (gName 1))
  (tSeq (lp_Wood_ties_1 K C sp_steps_along)
  (tRet (tCB (rSortedX K) (tCons (tVar 1) (tNil)))))
theorem ok_Wood_ties (Fu:Fun K "ties" "Wood.ties" sWood_ties f fd) (T:Txt K mg C A) {sp_steps_along:Sp} (c_steps_along:Cal P w K mg base CX0 1 "steps_along" ["row"] sp_steps_along)
      (len:∀ vs H Q E,sp vs H Q E→vs.length=1) (run:∀ vs H Q E,sp vs H Q E→rd_Wood_ties K C sp_steps_along { nx:=fun _ H'=>Q .non H',rt:=Q } (start ["self","told","place","row"] vs) H):FnOk P w K mg base CX0 2 f fd ["self"] sp :=
    Fu.ok scWood_ties len fun cdv A0 outer s H vs Q E hr h=>⟨_,(show PSs (cxOf CX0 P w K mg base ["self","told","place","row"] "Wood.ties" (defScope sWood_ties) f cdv A0 outer s H E).nox (defBody sWood_ties) (rd_Wood_ties K C sp_steps_along) from
  pss_cons (ps_set (i:=1) scWood_ties.nd rfl (Or.inl rfl) (pe_lst (pa_nil)))
  (pss_cons (ps_for PassesOwn.never rfl (pi_enum rfl T.b_enumerate (pa_cons (pe_fld (pv 0) rfl) (pa_nil))) (pg_tup rfl (pgs_cons (pg_name (i:=2) scWood_ties.nd rfl (Or.inl rfl)) (pgs_cons (pg_name (i:=3) scWood_ties.nd rfl (Or.inl rfl)) (pgs_nil))))
   (pss_one (ps_if (pt_cmpR (op_eqG hr.units) (pe_ix (ix_G hr.units) (pv 3) (pe_int) (fun _ _=>rfl)) (pv 2) (nomark _))
   (pss_one (ps_expr (pe_bm PySem.F.plainAttrs_list PySem.F.slot_list_extend PySem.F.type_list_extend mt_extend (pv 1) (pa_cons (pe_comp ["a","b"] (ys:=[]) [] rfl (pi_seq (pcl c_steps_along (hr.mono (by decide)) rfl pass0 (pa_cons (pv 3) (pa_nil)))) trivial (fun _ _ _=>pg_tup rfl (pgs_cons (pg_name (i:=0) (show (["a","b"]:List Str).Nodup by decide +kernel) rfl (Or.inl rfl)) (pgs_cons (pg_name (i:=1) (show (["a","b"]:List Str).Nodup by decide +kernel) rfl (Or.inl rfl)) (pgs_nil)))) (fun _ _ _=>pifs_one (pt_cmpR (op_lt) (pv 0) (pv 1) (nomark _))) (fun _ _ _=>pe_tup (pa_cons (pv 0) (pa_cons (pv 1) (pa_nil))))) (pa_nil)))))
   (pss_nil))))
  (pss_one (ps_ret (pe_callB (call_sortedX) rfl T.b_sorted BootT.sorted (pa_cons (pv 1) (pa_nil))))))),run vs H Q E h⟩
def rd_Levels___init__ (K:PySem.W.Frag) (C:Addr) (A:CA) (sp_Wood___init__ sp_top:Sp):TS :=
  tSeq (sFld K (tVar 0) (tDNewT) "level_of")
  (tSeq (sFld K (tVar 0) (tDNewT) "wooden")
  (tSeq (sFld K (tVar 0) (tDNewT) "weight_of")
  (sFld K (tVar 0) (tComp 1 [1] (iRng1 (tCons (tOp (rAddG) (tCall sp_top [] E0 (tCons (tVar 1) (tNil))) (tC (.int 1))) (tNil))) (gName 0) (tYes) (tMake C sp_Wood___init__ [] E0 (tCons (tVar 1) (tNil)))) "woods")))
theorem ok_Levels___init__ (Fu:Fun K "__init__" "Levels.__init__" sLevels___init__ f fd) (T:Txt K mg C A) {sp_Wood___init__:Sp} (c_Wood___init__:CalI P w K mg base CX0 1 C ["self","n"] sp_Wood___init__) {sp_top:Sp} (c_top:Cal P w K mg base CX0 1 "top" ["n"] sp_top)
      (len:∀ vs H Q E,sp vs H Q E→vs.length=2) (run:∀ vs H Q E,sp vs H Q E→rd_Levels___init__ K C A sp_Wood___init__ sp_top { nx:=fun _ H'=>Q .non H',rt:=Q } (start ["self","n"] vs) H):FnOk P w K mg base CX0 3 f fd ["self","n"] sp :=
    Fu.ok scLevels___init__ len fun cdv A0 outer s H vs Q E hr h=>⟨_,(show PSs (cxOf CX0 P w K mg base ["self","n"] "Levels.__init__" (defScope sLevels___init__) f cdv A0 outer s H E).nox (defBody sLevels___init__) (rd_Levels___init__ K C A sp_Wood___init__ sp_top) from
  pss_cons (ps_fld (pv 0) (pe_dnewT) rfl)
  (pss_cons (ps_fld (pv 0) (pe_dnewT) rfl)
  (pss_cons (ps_fld (pv 0) (pe_dnewT) rfl)
  (pss_one (ps_fld (pv 0) (pe_comp ["level"] (ys:=["n"]) [1] rfl (pi_range1 rfl T.b_range (pa_cons (pe_op (op_addG) (pcl c_top (hr.mono (by decide)) rfl pass0 (pa_cons (pv 1) (pa_nil))) (pe_int)) (pa_nil))) ⟨rfl,.inl rfl,rfl,trivial⟩ (fun _ _ _=>pg_name (i:=0) (show (["level","n"]:List Str).Nodup by decide +kernel) rfl (Or.inl rfl)) (fun _ _ _=>pifs_nil) (fun _ _ _=>pe_make c_Wood___init__.m c_Wood___init__.G (hr.mono (by decide)) rfl T.mg_Wood c_Wood___init__.b .nil pass0 (pa_cons (pv 1) (pa_nil)))) rfl))))),run vs H Q E h⟩
def rd_Levels_add (K:PySem.W.Frag) (C:Addr) (A:CA) (sp_Wood_joined sp_Levels_adopt:Sp):TS :=
  tSeq (tAsg (tC (.int 0)) (gSub (tFld K (tVar 0) "level_of") (tVar 1) rSetG))
  (tSeq (tAsg (tC (.bl false)) (gSub (tFld K (tVar 0) "wooden") (tVar 1) rSetG))
  (tSeq (tAsg (tVar 2) (gSub (tFld K (tVar 0) "weight_of") (tVar 1) rSetG))
  (tSeq (tIfS (tNot (tTru K (tMeth C "joined" sp_Wood_joined [] E0 (tOp (rIxG K) (tFld K (tVar 0) "woods") (tC (.int 0))) (tCons (tOp (rIxG K) (tVar 1) (tC (.int 0))) (tCons (tOp (rIxG K) (tVar 1) (tC (.int 1))) (tNil))))))
   (tDrop (tMeth A.Levels "adopt" sp_Levels_adopt [] E0 (tVar 0) (tCons (tVar 1) (tNil))))
   (tNext))
  (tRet (tOp (rIxG K) (tFld K (tVar 0) "wooden") (tVar 1))))))
theorem ok_Levels_add (Fu:Fun K "add" "Levels.add" sLevels_add f fd) (T:Txt K mg C A) {sp_Wood_joined:Sp} (c_Wood_joined:CalM P w K mg base CX0 5 C "joined" ["self","a","b"] sp_Wood_joined) {sp_Levels_adopt:Sp} (c_Levels_adopt:CalM P w K mg base CX0 7 A.Levels "adopt" ["self","tie"] sp_Levels_adopt)
      (len:∀ vs H Q E,sp vs H Q E→vs.length=3) (run:∀ vs H Q E,sp vs H Q E→rd_Levels_add K C A sp_Wood_joined sp_Levels_adopt { nx:=fun _ H'=>Q .non H',rt:=Q } (start ["self","tie","weight"] vs) H):FnOk P w K mg base CX0 8 f fd ["self","tie","weight"] sp :=
    Fu.ok scLevels_add len fun cdv A0 outer s H vs Q E hr h=>⟨_,(show PSs (cxOf CX0 P w K mg base ["self","tie","weight"] "Levels.add" (defScope sLevels_add) f cdv A0 outer s H E).nox (defBody sLevels_add) (rd_Levels_add K C A sp_Wood_joined sp_Levels_adopt) from
  pss_cons (ps_asg (pe_int) (pg_sub (pe_fld (pv 0) rfl) (pv 1) (set_G hr.units)))
  (pss_cons (ps_asg (pe_bl) (pg_sub (pe_fld (pv 0) rfl) (pv 1) (set_G hr.units)))
  (pss_cons (ps_asg (pv 2) (pg_sub (pe_fld (pv 0) rfl) (pv 1) (set_G hr.units)))
  (pss_cons (ps_if (pt_not (pt_tru (pcm c_Wood_joined T.cl_Wood (hr.mono (by decide)) (pe_ix (ix_G hr.units) (pe_fld (pv 0) rfl) (pe_int) (fun _ _=>rfl)) pass0 (pa_cons (pe_ix (ix_G hr.units) (pv 1) (pe_int) (fun _ _=>rfl)) (pa_cons (pe_ix (ix_G hr.units) (pv 1) (pe_int) (fun _ _=>rfl)) (pa_nil)))) (fun _=>rfl)))
   (pss_one (ps_expr (pcm c_Levels_adopt T.cl_Levels (hr.mono (by decide)) (pv 0) pass0 (pa_cons (pv 1) (pa_nil)))))
   (pss_nil))
  (pss_one (ps_ret (pe_ix (ix_G hr.units) (pe_fld (pv 0) rfl) (pv 1) (fun _ _=>rfl)))))))),run vs H Q E h⟩
def lp_Levels_adopt_1 (K:PySem.W.Frag) (C:Addr) (A:CA) (sp_Wood_link:Sp):TS :=
  tFor (iSeq K (tSl (rSlL K) (tFld K (tVar 0) "woods") (tNoPart) (tPart (tOp (rAddG) (tOp (rIxG K) (tFld K (tVar 0) "level_of") (tVar 1)) (tC (.int 1)))))) (gName 2)
   (tDrop (tMeth C "link" sp_Wood_link [] E0 (tVar 2) (tCons (tOp (rIxG K) (tVar 1) (tC (.int 0))) (tCons (tOp (rIxG K) (tVar 1) (tC (.int 1))) (tNil)))))
def rd_Levels_adopt (K:PySem.W.Frag) (C:Addr) (A:CA) (sp_Wood_link:Sp):TS :=
  tSeq (tAsg (tC (.bl true)) (gSub (tFld K (tVar 0) "wooden") (tVar 1) rSetG))
  (lp_Levels_adopt_1 K C A sp_Wood_link)
theorem ok_Levels_adopt (Fu:Fun K "adopt" "Levels.adopt" sLevels_adopt f fd) (T:Txt K mg C A) {sp_Wood_link:Sp} (c_Wood_link:CalM P w K mg base CX0 6 C "link" ["self","a","b"] sp_Wood_link)
      (len:∀ vs H Q E,sp vs H Q E→vs.length=2) (run:∀ vs H Q E,sp vs H Q E→rd_Levels_adopt K C A sp_Wood_link { nx:=fun _ H'=>Q .non H',rt:=Q } (start ["self","tie","wood"] vs) H):FnOk P w K mg base CX0 7 f fd ["self","tie"] sp :=
    Fu.ok scLevels_adopt len fun cdv A0 outer s H vs Q E hr h=>⟨_,(show PSs (cxOf CX0 P w K mg base ["self","tie","wood"] "Levels.adopt" (defScope sLevels_adopt) f cdv A0 outer s H E).nox (defBody sLevels_adopt) (rd_Levels_adopt K C A sp_Wood_link) from
  pss_cons (ps_asg (pe_bl) (pg_sub (pe_fld (pv 0) rfl) (pv 1) (set_G hr.units)))
  (pss_one (ps_for PassesOwn.never rfl (pi_seq (pe_slice sl_list (pe_fld (pv 0) rfl) (po_none) (po_some (pe_op (op_addG) (pe_ix (ix_G hr.units) (pe_fld (pv 0) rfl) (pv 1) (fun _ _=>rfl)) (pe_int))))) (pg_name (i:=2) scLevels_adopt.nd rfl (Or.inl rfl))
   (pss_one (ps_expr (pcm c_Wood_link T.cl_Wood (hr.mono (by decide)) (pv 2) pass0 (pa_cons (pe_ix (ix_G hr.units) (pv 1) (pe_int) (fun _ _=>rfl)) (pa_cons (pe_ix (ix_G hr.units) (pv 1) (pe_int) (fun _ _=>rfl)) (pa_nil))))))))),run vs H Q E h⟩
def rd_Levels_told (K:PySem.W.Frag) (C:Addr) (A:CA):TS :=
  tRet (tTup (tCons (tOp (rIxG K) (tVar 1) (tC (.int 0))) (tCons (tOp (rIxG K) (tVar 1) (tC (.int 1))) (tCons (tOp (rIxG K) (tFld K (tVar 0) "level_of") (tVar 1)) (tCons (tOp (rIxG K) (tFld K (tVar 0) "wooden") (tVar 1)) (tNil))))))
theorem ok_Levels_told (Fu:Fun K "told" "Levels.told" sLevels_told f fd) (T:Txt K mg C A)
      (len:∀ vs H Q E,sp vs H Q E→vs.length=2) (run:∀ vs H Q E,sp vs H Q E→rd_Levels_told K C A { nx:=fun _ H'=>Q .non H',rt:=Q } (start ["self","tie"] vs) H):FnOk P w K mg base CX0 1 f fd ["self","tie"] sp :=
    Fu.ok scLevels_told len fun cdv A0 outer s H vs Q E hr h=>⟨_,(show PSs (cxOf CX0 P w K mg base ["self","tie"] "Levels.told" (defScope sLevels_told) f cdv A0 outer s H E).nox (defBody sLevels_told) (rd_Levels_told K C A) from
  pss_one (ps_ret (pe_tup (pa_cons (pe_ix (ix_G hr.units) (pv 1) (pe_int) (fun _ _=>rfl)) (pa_cons (pe_ix (ix_G hr.units) (pv 1) (pe_int) (fun _ _=>rfl)) (pa_cons (pe_ix (ix_G hr.units) (pe_fld (pv 0) rfl) (pv 1) (fun _ _=>rfl)) (pa_cons (pe_ix (ix_G hr.units) (pe_fld (pv 0) rfl) (pv 1) (fun _ _=>rfl)) (pa_nil)))))))),run vs H Q E h⟩
def rd_Kept___init__ (K:PySem.W.Frag) (C:Addr) (A:CA) (sp_Levels___init__ sp_is_count:Sp):TS :=
  tSeq (tIfS (tNot (tTru K (tCall sp_is_count [] E0 (tCons (tVar 1) (tNil)))))
   (tNever)
   (tNext))
  (tSeq (sFld K (tVar 0) (tVar 1) "n")
  (tSeq (sFld K (tVar 0) (tMake A.Levels sp_Levels___init__ [] E0 (tCons (tVar 1) (tNil))) "levels")
  (tSeq (sFld K (tVar 0) (tOp (rIxG K) (tFld K (tFld K (tVar 0) "levels") "woods") (tC (.int 0))) "wood")
  (tSeq (sFld K (tVar 0) (tC (.int 0)) "came")
  (tSeq (sFld K (tVar 0) (tC (.int 0)) "looked")
  (tSeq (sFld K (tVar 0) (tC (.int 0)) "risen")
  (sFld K (tVar 0) (tC (.int 0)) "lost")))))))
theorem ok_Kept___init__ (Fu:Fun K "__init__" "Kept.__init__" sKept___init__ f fd) (T:Txt K mg C A) {sp_Levels___init__:Sp} (c_Levels___init__:CalI P w K mg base CX0 3 A.Levels ["self","n"] sp_Levels___init__) {sp_is_count:Sp} (c_is_count:Cal P w K mg base CX0 2 "is_count" ["thing"] sp_is_count)
      (len:∀ vs H Q E,sp vs H Q E→vs.length=2) (run:∀ vs H Q E,sp vs H Q E→rd_Kept___init__ K C A sp_Levels___init__ sp_is_count { nx:=fun _ H'=>Q .non H',rt:=Q } (start ["self","n"] vs) H):FnOk P w K mg base CX0 5 f fd ["self","n"] sp :=
    Fu.ok scKept___init__ len fun cdv A0 outer s H vs Q E hr h=>⟨_,(show PSs (cxOf CX0 P w K mg base ["self","n"] "Kept.__init__" (defScope sKept___init__) f cdv A0 outer s H E).nox (defBody sKept___init__) (rd_Kept___init__ K C A sp_Levels___init__ sp_is_count) from
  pss_cons (ps_if (pt_not (pt_tru (pcl c_is_count (hr.mono (by decide)) rfl pass0 (pa_cons (pv 1) (pa_nil))) (fun _=>rfl)))
   (pss_one (ps_never))
   (pss_nil))
  (pss_cons (ps_fld (pv 0) (pv 1) rfl)
  (pss_cons (ps_fld (pv 0) (pe_make c_Levels___init__.m c_Levels___init__.G (hr.mono (by decide)) rfl T.mg_Levels c_Levels___init__.b .nil pass0 (pa_cons (pv 1) (pa_nil))) rfl)
  (pss_cons (ps_fld (pv 0) (pe_ix (ix_G hr.units) (pe_fld (pe_fld (pv 0) rfl) rfl) (pe_int) (fun _ _=>rfl)) rfl)
  (pss_cons (ps_fld (pv 0) (pe_int) rfl)
  (pss_cons (ps_fld (pv 0) (pe_int) rfl)
  (pss_cons (ps_fld (pv 0) (pe_int) rfl)
  (pss_one (ps_fld (pv 0) (pe_int) rfl))))))))),run vs H Q E h⟩
def rd_Kept_receive (K:PySem.W.Frag) (C:Addr) (A:CA) (sp_Levels_add:Sp):TS :=
  tSeq (sFldAug K (tVar 0) (tC (.int 1)) rAdd "came")
  (tRet (tMeth A.Levels "add" sp_Levels_add [] E0 (tFld K (tVar 0) "levels") (tCons (tVar 1) (tCons (tVar 2) (tNil)))))
theorem ok_Kept_receive (Fu:Fun K "receive" "Kept.receive" sKept_receive f fd) (T:Txt K mg C A) {sp_Levels_add:Sp} (c_Levels_add:CalM P w K mg base CX0 8 A.Levels "add" ["self","tie","weight"] sp_Levels_add)
      (len:∀ vs H Q E,sp vs H Q E→vs.length=3) (run:∀ vs H Q E,sp vs H Q E→rd_Kept_receive K C A sp_Levels_add { nx:=fun _ H'=>Q .non H',rt:=Q } (start ["self","tie","weight"] vs) H):FnOk P w K mg base CX0 9 f fd ["self","tie","weight"] sp :=
    Fu.ok scKept_receive len fun cdv A0 outer s H vs Q E hr h=>⟨_,(show PSs (cxOf CX0 P w K mg base ["self","tie","weight"] "Kept.receive" (defScope sKept_receive) f cdv A0 outer s H E).nox (defBody sKept_receive) (rd_Kept_receive K C A sp_Levels_add) from
  pss_cons (ps_fldaug (pv 0) (pe_int) in_add)
  (pss_one (ps_ret (pcm c_Levels_add T.cl_Levels (hr.mono (by decide)) (pe_fld (pv 0) rfl) pass0 (pa_cons (pv 1) (pa_cons (pv 2) (pa_nil))))))),run vs H Q E h⟩
def rd_Kept_joined (K:PySem.W.Frag) (C:Addr) (A:CA) (sp_Wood_joined:Sp):TS :=
  tRet (tMeth C "joined" sp_Wood_joined [] E0 (tFld K (tVar 0) "wood") (tCons (tVar 1) (tCons (tVar 2) (tNil))))
theorem ok_Kept_joined (Fu:Fun K "joined" "Kept.joined" sKept_joined f fd) (T:Txt K mg C A) {sp_Wood_joined:Sp} (c_Wood_joined:CalM P w K mg base CX0 5 C "joined" ["self","a","b"] sp_Wood_joined)
      (len:∀ vs H Q E,sp vs H Q E→vs.length=3) (run:∀ vs H Q E,sp vs H Q E→rd_Kept_joined K C A sp_Wood_joined { nx:=fun _ H'=>Q .non H',rt:=Q } (start ["self","a","b"] vs) H):FnOk P w K mg base CX0 6 f fd ["self","a","b"] sp :=
    Fu.ok scKept_joined len fun cdv A0 outer s H vs Q E hr h=>⟨_,(show PSs (cxOf CX0 P w K mg base ["self","a","b"] "Kept.joined" (defScope sKept_joined) f cdv A0 outer s H E).nox (defBody sKept_joined) (rd_Kept_joined K C A sp_Wood_joined) from
  pss_one (ps_ret (pcm c_Wood_joined T.cl_Wood (hr.mono (by decide)) (pe_fld (pv 0) rfl) pass0 (pa_cons (pv 1) (pa_cons (pv 2) (pa_nil)))))),run vs H Q E h⟩
def rd_Kept_side (K:PySem.W.Frag) (C:Addr) (A:CA) (sp_Wood_group:Sp):TS :=
  tRet (tMeth C "group" sp_Wood_group [] E0 (tFld K (tVar 0) "wood") (tCons (tVar 1) (tNil)))
theorem ok_Kept_side (Fu:Fun K "side" "Kept.side" sKept_side f fd) (T:Txt K mg C A) {sp_Wood_group:Sp} (c_Wood_group:CalM P w K mg base CX0 4 C "group" ["self","a"] sp_Wood_group)
      (len:∀ vs H Q E,sp vs H Q E→vs.length=2) (run:∀ vs H Q E,sp vs H Q E→rd_Kept_side K C A sp_Wood_group { nx:=fun _ H'=>Q .non H',rt:=Q } (start ["self","a"] vs) H):FnOk P w K mg base CX0 5 f fd ["self","a"] sp :=
    Fu.ok scKept_side len fun cdv A0 outer s H vs Q E hr h=>⟨_,(show PSs (cxOf CX0 P w K mg base ["self","a"] "Kept.side" (defScope sKept_side) f cdv A0 outer s H E).nox (defBody sKept_side) (rd_Kept_side K C A sp_Wood_group) from
  pss_one (ps_ret (pcm c_Wood_group T.cl_Wood (hr.mono (by decide)) (pe_fld (pv 0) rfl) pass0 (pa_cons (pv 1) (pa_nil))))),run vs H Q E h⟩
def rd_Kept_ties (K:PySem.W.Frag) (C:Addr) (A:CA) (sp_Levels_told:Sp):TS :=
  tRet (tCB (rSortedX K) (tCons (tComp 1 [0] (iDT (tFld K (tFld K (tVar 0) "levels") "level_of")) (gName 0) (tYes) (tMeth A.Levels "told" sp_Levels_told [] E0 (tFld K (tVar 1) "levels") (tCons (tVar 0) (tNil)))) (tNil)))
theorem ok_Kept_ties (Fu:Fun K "ties" "Kept.ties" sKept_ties f fd) (T:Txt K mg C A) {sp_Levels_told:Sp} (c_Levels_told:CalM P w K mg base CX0 1 A.Levels "told" ["self","tie"] sp_Levels_told)
      (len:∀ vs H Q E,sp vs H Q E→vs.length=1) (run:∀ vs H Q E,sp vs H Q E→rd_Kept_ties K C A sp_Levels_told { nx:=fun _ H'=>Q .non H',rt:=Q } (start ["self"] vs) H):FnOk P w K mg base CX0 2 f fd ["self"] sp :=
    Fu.ok scKept_ties len fun cdv A0 outer s H vs Q E hr h=>⟨_,(show PSs (cxOf CX0 P w K mg base ["self"] "Kept.ties" (defScope sKept_ties) f cdv A0 outer s H E).nox (defBody sKept_ties) (rd_Kept_ties K C A sp_Levels_told) from
  pss_one (ps_ret (pe_callB (call_sortedX) rfl T.b_sorted BootT.sorted (pa_cons (pe_comp ["tie"] (ys:=["self"]) [0] rfl (pi_dT (pe_fld (pe_fld (pv 0) rfl) rfl)) ⟨rfl,.inl rfl,rfl,trivial⟩ (fun _ _ _=>pg_name (i:=0) (show (["tie","self"]:List Str).Nodup by decide +kernel) rfl (Or.inl rfl)) (fun _ _ _=>pifs_nil) (fun _ _ _=>pcm c_Levels_told T.cl_Levels (hr.mono (by decide)) (pe_fld (pv 1) rfl) pass0 (pa_cons (pv 0) (pa_nil)))) (pa_nil))))),run vs H Q E h⟩
def lp_Lightest___init___1 (K:PySem.W.Frag) (C:Addr) (A:CA) (sp_Kept___init__ sp_in_order sp_new_tie sp_Kept_receive:Sp):TS :=
  tFor (iSeq K (tVar 2)) (gTup K 3 (gCons (gName 4) (gCons (gName 5) (gCons (gName 6) (gNil)))))
   (tSeq (tAsg (tCall sp_new_tie [] E0 (tCons (tVar 1) (tCons (tVar 3) (tCons (tVar 4) (tCons (tVar 5) (tNil)))))) (gName 7))
  (tAsg (tVar 6) (gSub (tVar 3) (tVar 7) rSetG)))
def lp_Lightest___init___2 (K:PySem.W.Frag) (C:Addr) (A:CA) (sp_Kept___init__ sp_in_order sp_new_tie sp_Kept_receive:Sp):TS :=
  tFor (iSeq K (tCall sp_in_order [] E0 (tCons (tVar 3) (tCons (tVar 3) (tNil))))) (gName 7)
   (tDrop (tMeth A.Lightest "receive" sp_Kept_receive [] E0 (tVar 0) (tCons (tVar 7) (tCons (tOp (rIxG K) (tVar 3) (tVar 7)) (tNil)))))
def rd_Lightest___init__ (K:PySem.W.Frag) (C:Addr) (A:CA) (sp_Kept___init__ sp_in_order sp_new_tie sp_Kept_receive:Sp):TS :=
  tSeq (tDrop (tCall sp_Kept___init__ [] E0 (tCons (tVar 0) (tCons (tVar 1) (tNil)))))
  (tSeq (tAsg (tDNewT) (gName 3))
  (tSeq (lp_Lightest___init___1 K C A sp_Kept___init__ sp_in_order sp_new_tie sp_Kept_receive)
  (lp_Lightest___init___2 K C A sp_Kept___init__ sp_in_order sp_new_tie sp_Kept_receive)))
theorem ok_Lightest___init__ (Fu:Fun K "__init__" "Lightest.__init__" sLightest___init__ f fd) (T:Txt K mg C A) {sp_Kept___init__:Sp} (c_Kept___init__:CalB P w K mg base CX0 5 A.Kept "__init__" ["self","n"] sp_Kept___init__) {sp_in_order:Sp} (c_in_order:Cal P w K mg base CX0 1 "in_order" ["ties","weight_of"] sp_in_order) {sp_new_tie:Sp} (c_new_tie:Cal P w K mg base CX0 6 "new_tie" ["n","standing","a","b"] sp_new_tie) {sp_Kept_receive:Sp} (c_Kept_receive:CalM P w K mg base CX0 9 A.Lightest "receive" ["self","tie","weight"] sp_Kept_receive)
      (len:∀ vs H Q E,sp vs H Q E→vs.length=3) (run:∀ vs H Q E,sp vs H Q E→rd_Lightest___init__ K C A sp_Kept___init__ sp_in_order sp_new_tie sp_Kept_receive { nx:=fun _ H'=>Q .non H',rt:=Q } (start ["self","n","weighed","weights","a","b","weight","tie"] vs) H):FnOk P w K mg base CX0 10 f fd ["self","n","weighed"] sp :=
    Fu.ok scLightest___init__ len fun cdv A0 outer s H vs Q E hr h=>⟨_,(show PSs (cxOf CX0 P w K mg base ["self","n","weighed","weights","a","b","weight","tie"] "Lightest.__init__" (defScope sLightest___init__) f cdv A0 outer s H E).nox (defBody sLightest___init__) (rd_Lightest___init__ K C A sp_Kept___init__ sp_in_order sp_new_tie sp_Kept_receive) from
  pss_cons (ps_expr (pcb c_Kept___init__ (hr.mono (by decide)) (pe_glob rfl T.mg_Kept rfl) pass0 (pa_cons (pv 0) (pa_cons (pv 1) (pa_nil)))))
  (pss_cons (ps_set (i:=3) scLightest___init__.nd rfl (Or.inl rfl) (pe_dnewT))
  (pss_cons (ps_for PassesOwn.never rfl (pi_seq (pv 2)) (pg_tup rfl (pgs_cons (pg_name (i:=4) scLightest___init__.nd rfl (Or.inl rfl)) (pgs_cons (pg_name (i:=5) scLightest___init__.nd rfl (Or.inl rfl)) (pgs_cons (pg_name (i:=6) scLightest___init__.nd rfl (Or.inl rfl)) (pgs_nil)))))
   (pss_cons (ps_set (i:=7) scLightest___init__.nd rfl (Or.inl rfl) (pcl c_new_tie (hr.mono (by decide)) rfl pass0 (pa_cons (pv 1) (pa_cons (pv 3) (pa_cons (pv 4) (pa_cons (pv 5) (pa_nil)))))))
  (pss_one (ps_asg (pv 6) (pg_sub (pv 3) (pv 7) (set_G hr.units))))))
  (pss_one (ps_for PassesOwn.never rfl (pi_seq (pcl c_in_order (hr.mono (by decide)) rfl pass0 (pa_cons (pv 3) (pa_cons (pv 3) (pa_nil))))) (pg_name (i:=7) scLightest___init__.nd rfl (Or.inl rfl))
   (pss_one (ps_expr (pcm c_Kept_receive T.cl_Lightest (hr.mono (by decide)) (pv 0) pass0 (pa_cons (pv 7) (pa_cons (pe_ix (ix_G hr.units) (pv 3) (pv 7) (fun _ _=>rfl)) (pa_nil))))))))))),run vs H Q E h⟩
def rd_Lightest_weight (K:PySem.W.Frag) (C:Addr) (A:CA) (sp_Wood_ties:Sp):TS :=
  tRet (tCB (rSumA K) (tCons (tComp 1 [0] (iSeq K (tMeth C "ties" sp_Wood_ties [] E0 (tFld K (tVar 0) "wood") tNil)) (gName 0) (tYes) (tOp (rIxG K) (tFld K (tFld K (tVar 1) "levels") "weight_of") (tVar 0))) (tNil)))
theorem ok_Lightest_weight (Fu:Fun K "weight" "Lightest.weight" sLightest_weight f fd) (T:Txt K mg C A) {sp_Wood_ties:Sp} (c_Wood_ties:CalM P w K mg base CX0 2 C "ties" ["self"] sp_Wood_ties)
      (len:∀ vs H Q E,sp vs H Q E→vs.length=1) (run:∀ vs H Q E,sp vs H Q E→rd_Lightest_weight K C A sp_Wood_ties { nx:=fun _ H'=>Q .non H',rt:=Q } (start ["self"] vs) H):FnOk P w K mg base CX0 3 f fd ["self"] sp :=
    Fu.ok scLightest_weight len fun cdv A0 outer s H vs Q E hr h=>⟨_,(show PSs (cxOf CX0 P w K mg base ["self"] "Lightest.weight" (defScope sLightest_weight) f cdv A0 outer s H E).nox (defBody sLightest_weight) (rd_Lightest_weight K C A sp_Wood_ties) from
  pss_one (ps_ret (pe_callB (call_sumA rfl) rfl T.b_sum BootT.sum (pa_cons (pe_comp ["tie"] (ys:=["self"]) [0] rfl (pi_seq (pcm0 c_Wood_ties T.cl_Wood (hr.mono (by decide)) (pe_fld (pv 0) rfl) pass0)) ⟨rfl,.inl rfl,rfl,trivial⟩ (fun _ _ _=>pg_name (i:=0) (show (["tie","self"]:List Str).Nodup by decide +kernel) rfl (Or.inl rfl)) (fun _ _ _=>pifs_nil) (fun _ _ _=>pe_ix (ix_G hr.units) (pe_fld (pe_fld (pv 1) rfl) rfl) (pv 0) (fun _ _=>rfl))) (pa_nil))))),run vs H Q E h⟩
end K51
section
open PySem PySem.Spec PyProof.Rows L2
local macro_rules | `(tactic| walk_at "c")=>`(tactic| first | (show (0:Int) < _; omega) | exact ⟨by omega,by omega⟩ | exact Or.inl ⟨by omega,by omega⟩ | exact Or.inr ⟨by omega,by omega⟩ | exact ⟨by omega,by omega,by omega⟩)
local macro_rules | `(tactic| walk_at "x1")=>`(tactic| first | with_reducible refine x_seq ?_ | with_reducible refine x_asg ?_ | with_reducible refine x_gname ?_ | with_reducible refine x_gsub ?_ | ((with_reducible refine' x_var ?hv ?_); (case hv=>exact rfl)) | with_reducible refine x_c ?_ | with_reducible refine x_op ?_ | with_reducible refine x_ret ?_ | with_reducible refine x_drop ?_ | with_reducible refine x_next ?_ | with_reducible refine x_ifS ?_ | with_reducible refine x_if ?_ | with_reducible refine x_test ?_ | with_reducible refine x_tB ?_ | with_reducible refine x_isN ?_ | with_reducible refine x_notN ?_ | with_reducible refine x_and ?_ | with_reducible refine x_or ?_ | with_reducible refine x_not ?_ | with_reducible refine x_andV ?_ | with_reducible refine x_orV ?_ | with_reducible refine x_notV ?_ | with_reducible refine x_tru ?_ | with_reducible refine x_yes ?_ | with_reducible refine x_nil ?_ | with_reducible refine x_cons ?_ | with_reducible refine x_tup ?_ | with_reducible refine x_lst ?_ | with_reducible refine x_call ?_ | with_reducible refine x_cb ?_ | with_reducible refine x_bm ?_ | with_reducible refine x_sl ?_ | with_reducible refine x_nopart ?_ | with_reducible refine x_part ?_ | with_reducible refine x_rI0 ?_ | ((with_reducible refine x_rI ?hc ?_); (case hc=>walk_at "c")) | with_reducible refine x_addI ?_ | with_reducible refine x_addHI ?_ | with_reducible refine x_eqI ?_ | with_reducible refine x_neI ?_ | with_reducible refine x_rng1 ?_ | with_reducible refine x_for ?_ | with_reducible refine x_comp ?_ | with_reducible refine x_iSeq ?_ | with_reducible refine x_min ?_ | with_reducible refine x_max ?_ | with_reducible refine x_un ?_ | with_reducible refine x_rU ?_ | with_reducible refine x_chain ?_ | with_reducible refine x_eqB ?_ | with_reducible refine x_rev ?_ | with_reducible refine x_dnew ?_ | with_reducible refine x_gcons ?_ | with_reducible refine x_gnil ?_ | ((with_reducible refine' x_aug ?hv ?_); (case hv=>exact rfl)) | with_reducible refine ⟨_,rfl,?_⟩)
local macro_rules | `(tactic| walk_at "x")=>`(tactic| (walk_at "x1"; repeat walk_at "x1"))
namespace K51
open Rm
end K51
namespace K51
open Rm
def sp_steps_along (K:PySem.W.Frag) (C:Addr):Sp:=fun vs H Q _=>∃ (p:Addr) (r:List Int),vs=[.ref p]∧SqL K H p (r.map V.int)∧r.length≤1000∧∀ l H' (zs:List Zt),Same H H'→H l=none→H' l=some (.lst (zs.map refZ))→(∀ z ∈ zs,PairAt H' z)→zs.map zP=al r→Q (.ref l) H'
theorem len_steps_along {K:PySem.W.Frag} {C:Addr}:∀ vs H Q E,sp_steps_along K C vs H Q E→vs.length=1:=by
  rintro vs H Q E ⟨p,r,rfl,_⟩; rfl
theorem run_steps_along {K:PySem.W.Frag} {C:Addr}:∀ vs H Q E,sp_steps_along K C vs H Q E→rd_steps_along K C { nx:=fun _ H'=>Q .non H',rt:=Q } (start ["row"] vs) H:=by
  rintro vs H Q E ⟨p,r,rfl,hp,hl,k⟩
  unfold rd_steps_along
  walk_at "x"
  refine x_zipL ?_
  walk_at "x"
  refine x_slFrom (j:=1) hp rfl fun q hq=>?_
  have S1:=Same.upd_new (o:=.lst ((r.drop 1).map V.int)) hq
  have g1:(upd H q (.lst ((r.drop 1).map V.int))) q=some (.lst ((r.drop 1).map V.int)):=upd_same
  generalize upd H q (.lst ((r.drop 1).map V.int))=H1 at S1 g1
  walk_at "x"
  exact ⟨p,q,r,r.drop 1,rfl,S1.seq hp,SqL.of g1,by omega,fun l zs H2 S2 hl2 gl hz e=>k l H2 zs (S1.trans S2) (S1.free hl2) gl hz (by rw [e,al_zip])⟩
end K51
namespace K51
open Rm
def sp_turned (K:PySem.W.Frag) (C:Addr):Sp:=fun vs H Q _=>∃ (p:Addr) (r:List Int) (a:Int),vs=[.ref p,.int a]∧SqL K H p (r.map V.int)∧a ∈ r∧r.length≤1000 ∧
  ∀ l H',Same H H'→H l=none→H' l=some (.lst ((tn r (r.idxOf a)).map V.int))→Q (.ref l) H'
theorem len_turned {K:PySem.W.Frag} {C:Addr}:∀ vs H Q E,sp_turned K C vs H Q E→vs.length=2:=by
  rintro vs H Q E ⟨p,r,a,rfl,_⟩; rfl
theorem run_turned {K:PySem.W.Frag} {C:Addr}:∀ vs H Q E,sp_turned K C vs H Q E→rd_turned K C { nx:=fun _ H'=>Q .non H',rt:=Q } (start ["row","a","k"] vs) H:=by
  rintro vs H Q E ⟨p,r,a,rfl,hp,ha,hl,q⟩
  unfold rd_turned
  walk_at "x"
  refine ⟨.inl ⟨rfl,_,hp⟩,?_⟩
  walk_at "x"
  refine x_index hp ha ?_
  walk_at "x"
  refine x_slFrom hp rfl fun p1 h1=>?_
  have S1:=Same.upd_new (o:=.lst ((r.drop (r.idxOf a)).map V.int)) h1
  walk_at "x"
  refine x_slMid (j:=1) (j':=r.idxOf a+1) (S1.seq hp) rfl (by omega) fun p2 h2=>?_
  have S2:=Same.upd_new (o:=.lst (((r.drop 1).take (r.idxOf a+1 - 1)).map V.int)) h2
  refine x_catI (S2 _ _ upd_same) upd_same ?_ fun p3 h3=>?_
  · rw [List.length_drop,List.length_take,List.length_drop]; omega
  · have S3:=Same.upd_new (o:=.lst (((r.drop (r.idxOf a)) ++ ((r.drop 1).take (r.idxOf a+1 - 1))).map V.int)) h3
    have S:=(S1.trans S2).trans S3
    exact q p3 _ S ((S1.trans S2).free h3) upd_same
end K51
namespace K51
open Rm
def sp_spliced (K:PySem.W.Frag) (C:Addr):Sp:=fun vs H Q _=>∃ (p q:Addr) (r1 r2:List Int) (a b:Int),vs=[.ref p,.ref q,.int a,.int b]∧SqL K H p (r1.map V.int)∧SqL K H q (r2.map V.int)∧a ∈ r1∧b ∈ r2∧r1.length≤1000∧r2.length≤1000 ∧
  ∀ l H',Same H H'→H l=none→H' l=some (.lst ((spl r1 r2 a b).map V.int))→Q (.ref l) H'
theorem len_spliced {K:PySem.W.Frag} {C:Addr}:∀ vs H Q E,sp_spliced K C vs H Q E→vs.length=4:=by
  rintro vs H Q E ⟨p,q,r1,r2,a,b,rfl,_⟩; rfl
theorem run_spliced {K:PySem.W.Frag} {C:Addr}:∀ vs H Q E,sp_spliced K C vs H Q E→rd_spliced K C (sp_turned K C) { nx:=fun _ H'=>Q .non H',rt:=Q } (start ["row","other","a","b","k"] vs) H:=by
  rintro vs H Q E ⟨p,q,r1,r2,a,b,rfl,hp,hq,ha,hb,hl1,hl2,k⟩
  unfold rd_spliced
  walk_at "x"
  refine ⟨.inl ⟨rfl,_,hp⟩,?_⟩
  walk_at "x"
  refine x_index hp ha ?_
  walk_at "x"
  refine x_slTo (j:=r1.idxOf a+1) hp (by omega) fun p1 h1=>?_
  have S1:=Same.upd_new (o:=.lst ((r1.take (r1.idxOf a+1)).map V.int)) h1
  have g1:(upd H p1 (.lst ((r1.take (r1.idxOf a+1)).map V.int))) p1=some (.lst ((r1.take (r1.idxOf a+1)).map V.int)):=upd_same
  generalize upd H p1 (.lst ((r1.take (r1.idxOf a+1)).map V.int))=H1 at S1 g1
  walk_at "x"
  refine ⟨q,r2,b,rfl,S1.seq hq,hb,hl2,fun t H2 S2 ht gt=>?_⟩
  have hlt:(tn r2 (r2.idxOf b)).length=r2.length:=tn_len (idx_lt hb)
  refine x_catI (S2 _ _ g1) gt (by rw [List.length_take]; omega) fun p3 h3=>?_
  have S3:=Same.upd_new (o:=.lst ((r1.take (r1.idxOf a+1) ++ tn r2 (r2.idxOf b)).map V.int)) h3
  have g3:(upd H2 p3 (.lst ((r1.take (r1.idxOf a+1) ++ tn r2 (r2.idxOf b)).map V.int))) p3=some (.lst ((r1.take (r1.idxOf a+1) ++ tn r2 (r2.idxOf b)).map V.int)):=upd_same
  generalize upd H2 p3 (.lst ((r1.take (r1.idxOf a+1) ++ tn r2 (r2.idxOf b)).map V.int))=H3 at S3 g3
  walk_at "x"
  have S13:=S1.trans (S2.trans S3)
  refine x_slFrom (j:=r1.idxOf a) (S13.seq hp) rfl fun p4 h4=>?_
  have S4:=Same.upd_new (o:=.lst ((r1.drop (r1.idxOf a)).map V.int)) h4
  have g4:(upd H3 p4 (.lst ((r1.drop (r1.idxOf a)).map V.int))) p4=some (.lst ((r1.drop (r1.idxOf a)).map V.int)):=upd_same
  generalize upd H3 p4 (.lst ((r1.drop (r1.idxOf a)).map V.int))=H4 at S4 g4
  refine x_catI (S4 _ _ g3) g4 (by rw [List.length_append,List.length_take,List.length_drop]; omega) fun p5 h5=>?_
  have S5:=Same.upd_new (o:=.lst ((r1.take (r1.idxOf a+1) ++ tn r2 (r2.idxOf b) ++ r1.drop (r1.idxOf a)).map V.int)) h5
  refine k p5 _ ((S13.trans S4).trans S5) ((S13.trans S4).free h5) ?_
  unfold spl
  rw [← List.append_assoc]
  exact upd_same
end K51
namespace K51
open Rm
def sp_is_whole (K:PySem.W.Frag) (C:Addr):Sp:=fun vs H Q _=>∃ i:Int,vs=[.int i]∧Q (.bl true) H
theorem len_is_whole {K:PySem.W.Frag} {C:Addr}:∀ vs H Q E,sp_is_whole K C vs H Q E→vs.length=1:=by
  rintro vs H Q E ⟨i,rfl,_⟩; rfl
theorem run_is_whole {K:PySem.W.Frag} {C:Addr}:∀ vs H Q E,sp_is_whole K C vs H Q E→rd_is_whole K C { nx:=fun _ H'=>Q .non H',rt:=Q } (start ["thing"] vs) H:=by
  rintro vs H Q E ⟨i,rfl,k⟩
  unfold rd_is_whole
  walk_at "x"
  refine x_isi (.int i) kit_ii ?_
  walk_at "x"
  refine iteT ?_
  walk_at "x"
  refine x_isi (.int i) kit_ib ?_
  walk_at "x"
  exact k
def sp_is_place (K:PySem.W.Frag) (C:Addr):Sp:=fun vs H Q _=>∃ (n i:Nat),vs=[.int n,.int i]∧i < n∧Q (.bl true) H
theorem len_is_place {K:PySem.W.Frag} {C:Addr}:∀ vs H Q E,sp_is_place K C vs H Q E→vs.length=2:=by
  rintro vs H Q E ⟨n,i,rfl,_⟩; rfl
theorem run_is_place {K:PySem.W.Frag} {C:Addr}:∀ vs H Q E,sp_is_place K C vs H Q E→rd_is_place K C (sp_is_whole K C) { nx:=fun _ H'=>Q .non H',rt:=Q } (start ["n","thing"] vs) H:=by
  rintro vs H Q E ⟨n,i,rfl,hi,k⟩
  unfold rd_is_place
  walk_at "x"
  refine ⟨i,rfl,?_⟩
  refine ⟨true,rfl,?_⟩
  refine iteT ?_
  walk_at "x"
  refine ifd (fun _=>?_) fun z=>absurd (show (0:Int)≤i by omega) z
  walk_at "x"
  rw [decide_eq_true (show (i:Int) < n by omega)]
  exact k
def sp_refuse_no_place (K:PySem.W.Frag) (C:Addr):Sp:=fun vs H Q _=>∃ (n i:Nat),vs=[.int n,.int i]∧i < n∧Q .non H
theorem len_refuse_no_place {K:PySem.W.Frag} {C:Addr}:∀ vs H Q E,sp_refuse_no_place K C vs H Q E→vs.length=2:=by
  rintro vs H Q E ⟨n,i,rfl,_⟩; rfl
theorem run_refuse_no_place {K:PySem.W.Frag} {C:Addr}:∀ vs H Q E,sp_refuse_no_place K C vs H Q E→rd_refuse_no_place K C (sp_is_place K C) { nx:=fun _ H'=>Q .non H',rt:=Q } (start ["n","thing"] vs) H:=by
  rintro vs H Q E ⟨n,i,rfl,hi,k⟩
  unfold rd_refuse_no_place
  walk_at "x"
  refine ⟨n,i,rfl,hi,?_⟩
  refine ⟨true,rfl,?_⟩
  refine iteF ?_
  walk_at "x"
  exact k
def sp_refuse_no_places (K:PySem.W.Frag) (C:Addr):Sp:=fun vs H Q _=>∃ (n i j:Nat),vs=[.int n,.int i,.int j]∧i < n∧j < n∧Q .non H
theorem len_refuse_no_places {K:PySem.W.Frag} {C:Addr}:∀ vs H Q E,sp_refuse_no_places K C vs H Q E→vs.length=3:=by
  rintro vs H Q E ⟨n,i,j,rfl,_⟩; rfl
theorem run_refuse_no_places {K:PySem.W.Frag} {C:Addr}:∀ vs H Q E,sp_refuse_no_places K C vs H Q E→rd_refuse_no_places K C (sp_refuse_no_place K C) { nx:=fun _ H'=>Q .non H',rt:=Q } (start ["n","a","b"] vs) H:=by
  rintro vs H Q E ⟨n,i,j,rfl,hi,hj,k⟩
  unfold rd_refuse_no_places
  walk_at "x"
  refine ⟨n,i,rfl,hi,?_⟩
  walk_at "x"
  refine ⟨n,j,rfl,hj,?_⟩
  exact k
def sp_refuse_no_pair (K:PySem.W.Frag) (C:Addr):Sp:=fun vs H Q _=>∃ (n i j:Nat),vs=[.int n,.int i,.int j]∧i < n∧j < n∧i≠j∧Q .non H
theorem len_refuse_no_pair {K:PySem.W.Frag} {C:Addr}:∀ vs H Q E,sp_refuse_no_pair K C vs H Q E→vs.length=3:=by
  rintro vs H Q E ⟨n,i,j,rfl,_⟩; rfl
theorem run_refuse_no_pair {K:PySem.W.Frag} {C:Addr}:∀ vs H Q E,sp_refuse_no_pair K C vs H Q E→rd_refuse_no_pair K C (sp_refuse_no_places K C) { nx:=fun _ H'=>Q .non H',rt:=Q } (start ["n","a","b"] vs) H:=by
  rintro vs H Q E ⟨n,i,j,rfl,hi,hj,hij,k⟩
  unfold rd_refuse_no_pair
  walk_at "x"
  refine ⟨n,i,j,rfl,hi,hj,?_⟩
  walk_at "x"
  refine ifd (fun z=>absurd (eq_int_iff.mp z) (by omega)) fun _=>?_
  walk_at "x"
  exact k
end K51
namespace K51
open Rm
theorem x_fld {K:PySem.W.Frag} {ta:TE} {f:Str} {σ:L2.St} {H:Hp} {Q:VK} (h:ta σ H fun x H1=>∃ a C dx fs v,x = .ref a∧H1 a=some (.ins C dx fs)∧Cls K C∧NoAttr K C f∧fs.lookup f=some v∧Q v H1):tFld K ta f σ H Q:=h
theorem x_sfld {K:PySem.W.Frag} {ta tv:TE} {f:Str} {D:Ends} {σ:L2.St} {H:Hp} (h:tv σ H fun y H1=>ta σ H1 fun x H2=>∃ a C dx fs,x = .ref a∧H2 a=some (.ins C dx fs)∧Cls K C∧NoAttr K C f∧fs.length < 1000∧D.nx σ (upd H2 a (.ins C dx (putF f y fs)))):sFld K ta tv f D σ H:=h
theorem x_meth {C:Addr} {m:Str} {sp:Sp} {dvs:List V} {E:XK} {ta:TE} {t:TA} {σ:L2.St} {H:Hp} {Q:VK} (h:ta σ H fun x H1=>∃ a dx fs,x = .ref a∧H1 a=some (.ins C dx fs)∧fs.lookup m=none∧t σ H1 fun vs H2=>sp (x :: (vs ++ dvs)) H2 Q E):tMeth C m sp dvs E ta t σ H Q:=h
theorem kn:¬ (("n":Str) = "rows"):=by decide +kernel
def flds (n:Nat) (l:Addr):List (Str × V):=putF "rows" (.ref l) (putF "n" (.int n) [])
theorem flds_rows (n:Nat) (l:Addr):(flds n l).lookup ("rows":Str)=some (.ref l):=by unfold flds; rw [lookup_putF,if_pos rfl]
theorem flds_n (n:Nat) (l:Addr):(flds n l).lookup ("n":Str)=some (.int n):=by unfold flds; rw [lookup_putF,if_neg kn,lookup_putF,if_pos rfl]
theorem flds_no (n:Nat) (l:Addr) {m:Str} (h1:¬ m = "rows") (h2:¬ m = "n"):(flds n l).lookup m=none:=by
  unfold flds; rw [lookup_putF,if_neg h1,lookup_putF,if_neg h2]; rfl
structure CT (K:PySem.W.Frag) (C:Addr):Prop where
  cl:Cls K C
  n:NoAttr K C "n"
  rows:NoAttr K C "rows"
structure WA (C:Addr) (H:Hp) (p dx l:Addr) (n:Nat) (as:List Addr) (R:Nat→List Int):Prop where
  ob:H p=some (.ins C dx (flds n l))
  rl:H l=some (.lst (as.map V.ref))
  len:as.length=n
  at_:∀ i a,as[i]? = some a→H a=some (.lst ((R i).map V.int))
  ne:∀ a ∈ as,a≠l
theorem WA.get {C:Addr} {H:Hp} {p dx l:Addr} {n:Nat} {as:List Addr} {R:Nat→List Int} (W:WA C H p dx l n as R) {i:Nat} (hi:i < n):∃ a,as[i]? = some a∧H a=some (.lst ((R i).map V.int))∧a≠l:=by
  have h:i < as.length:=by rw [W.len]; exact hi
  exact ⟨as[i],List.getElem?_eq_getElem h,W.at_ i _ (List.getElem?_eq_getElem h),W.ne _ (List.getElem_mem h)⟩
theorem WA.same {C:Addr} {H H':Hp} {p dx l:Addr} {n:Nat} {as:List Addr} {R:Nat→List Int} (W:WA C H p dx l n as R) (S:Same H H'):WA C H' p dx l n as R :=
  ⟨S _ _ W.ob,S _ _ W.rl,W.len,fun i a h=>S _ _ (W.at_ i a h),W.ne⟩
def sp_Wood___init__ (K:PySem.W.Frag) (C:Addr):Sp:=fun vs H Q _=>∃ (p dx:Addr) (n:Nat),vs=[.ref p,.int n]∧H p=some (.ins C dx [])∧CT K C∧n≤1000∧∀ (l:Addr) (as:List Addr) (H':Hp),WA C H' p dx l n as (fun i=>[(i:Int)])→H l=none→SameBut1 p H H'→Q .non H'
theorem len_Wood___init__ {K:PySem.W.Frag} {C:Addr}:∀ vs H Q E,sp_Wood___init__ K C vs H Q E→vs.length=2:=by
  rintro vs H Q E ⟨p,dx,n,rfl,_⟩; rfl
theorem run_Wood___init__ {K : PySem.W.Frag} {C : Addr} : ∀ vs H Q E, sp_Wood___init__ K C vs H Q E → rd_Wood___init__ K C { nx := fun _ H' => Q .non H', rt := Q } (start ["self", "n"] vs) H := by
  rintro vs H Q E ⟨p,dx,n,rfl,hp,ct,hn,k⟩
  unfold rd_Wood___init__
  walk_at "x1"
  refine x_sfld ?_
  walk_at "x"
  refine ⟨p,C,dx,[],rfl,hp,ct.cl,ct.n,by decide,?_⟩
  dsimp only
  refine x_sfld ?_
  walk_at "x"
  refine ⟨by omega,by omega,fun acc hacc=>?_⟩
  have e0:((n:Int)).toNat=n:=by omega
  rw [e0]
  have hap:acc≠p:=fun e=>by rw [e,upd_same] at hacc; cases hacc
  have hacc0:H acc=none:=by rw [upd_ne hap] at hacc; exact hacc
  have g0:(upd H p (.ins C dx (putF "n" (.int n) []))) p=some (.ins C dx (putF "n" (.int n) [])):=upd_same
  have B0:SameBut1 p H (upd H p (.ins C dx (putF "n" (.int n) []))):=SameBut1.upd
  generalize upd H p (.ins C dx (putF "n" (.int n) []))=H0 at hacc g0 B0
  refine comp_by (n:=n) (fun t ys H1=>∃ as:List Addr,ys=as.map V.ref∧as.length=t∧H1 acc=some (.lst ys)∧Same H0 H1∧∀ (i:Nat) a,as[i]? = some a→a≠acc∧H1 a=some (.lst ([(i:Int)].map V.int))) (fun σ=>∃ o,σ = [o]) ⟨[],rfl,rfl,upd_same,Same.upd_new hacc,fun i a h=>by simp at h⟩ ⟨_,rfl⟩ ?_ ?_ ?_ ?_
  · rintro t ys H1 ⟨_,_,_,h,_⟩; exact h
  · rintro ys H1 ⟨as,rfl,hl,g1,S1,hA⟩
    refine ⟨Nat.le_refl n,?_⟩
    walk_at "x"
    refine ⟨p,C,dx,_,rfl,S1 _ _ g0,ct.cl,ct.rows,by show 1 < 1000; decide,?_⟩
    have hb:SameBut1 p H1 (upd H1 p (.ins C dx (flds n acc))):=SameBut1.upd
    have nl:∀ {b:Addr} {xs:List V},H1 b=some (.lst xs)→b≠p:=fun e z=>by rw [z,S1 _ _ g0] at e; cases e
    refine k acc as _ ⟨upd_same,hb _ _ g1 hap,hl,fun i a ha=>hb _ _ (hA i a ha).2 (nl (hA i a ha).2),fun a ha=>?_⟩ hacc0 fun b o e hne=>hb _ _ (S1 _ _ (B0 _ _ e hne)) hne
    obtain ⟨i,hi⟩:=List.mem_iff_getElem?.mp ha
    exact (hA i a hi).1
  · rintro t ys H1 ht _; exact ht
  · rintro t ys σ' H1 x H2 ht ⟨as,rfl,hl,g1,S1,hA⟩ ⟨o,rfl⟩ ⟨eH,ex⟩
    subst eH ex
    walk_at "x"
    refine iteT ?_
    walk_at "x"
    refine ⟨small_le (m:=1) (Nat.le_refl 1),fun q hq=>?_⟩
    have T:=Same.upd_new (o:=.lst [.int (0+(t:Int))]) hq
    have u:(upd H2 q (.lst [.int (0+(t:Int))])) q=some (.lst ([(t:Int)].map V.int)):=by rw [upd_same]; simp
    generalize upd H2 q (.lst [.int (0+(t:Int))])=H3 at T u
    have hqa:q≠acc:=Ne.symm (ne_of_none g1 hq)
    refine ⟨T _ _ g1,small_lt (m:=10000) (by rw [List.length_map]; omega),CNext.mk' ht ⟨_,rfl⟩ ⟨as ++ [q],by simp,by simp [hl],upd_same,fun b o e=>by rw [upd_ne (ne_of_none e hacc)]; exact T _ _ (S1 _ _ e),fun i a ha=>?_⟩⟩
    by_cases hi:i < as.length
    · rw [List.getElem?_append_left hi] at ha
      obtain ⟨h1,h2⟩:=hA i a ha
      exact ⟨h1,by rw [upd_ne h1]; exact T _ _ h2⟩
    · rw [List.getElem?_append_right (by omega)] at ha
      have:i=as.length:=by
        have:=(List.getElem?_eq_some_iff.mp ha).1
        simp at this; omega
      subst this
      simp at ha
      subst ha
      rw [hl]
      exact ⟨hqa,by rw [upd_ne hqa]; exact u⟩
end K51
namespace K51
open Rm
def sp_Wood_keep (K:PySem.W.Frag) (C:Addr):Sp:=fun vs H Q _=>∃ (p dx l q:Addr) (n:Nat) (as:List Addr) (s:List Int),vs=[.ref p,.ref q]∧CT K C∧H p=some (.ins C dx (flds n l))∧H l=some (.lst (as.map V.ref))∧as.length=n∧H q=some (.lst (s.map V.int))∧q≠l∧(∀ x ∈ s,∃ j:Nat,j < n∧x=(j:Int)) ∧
  ∀ (as':List Addr) H',as'.length=n→(∀ (i:Nat) (a:Addr),as[i]? = some a→as'[i]? = some (if (i:Int) ∈ s then q else a))→H' l=some (.lst (as'.map V.ref))→SameBut1 l H H'→Q .non H'
theorem len_Wood_keep {K:PySem.W.Frag} {C:Addr}:∀ vs H Q E,sp_Wood_keep K C vs H Q E→vs.length=2:=by
  rintro vs H Q E ⟨p,dx,l,q,n,as,s,rfl,_⟩; rfl
theorem run_Wood_keep {K : PySem.W.Frag} {C : Addr} : ∀ vs H Q E, sp_Wood_keep K C vs H Q E → rd_Wood_keep K C { nx := fun _ H' => Q .non H', rt := Q } (start ["self", "row", "place"] vs) H := by
  rintro vs H Q E ⟨p,dx,l,q,n,as,s,rfl,ct,hp,hl,hn,hq,hql,hs,k⟩
  have hpl:p≠l:=ne_of hp hl (by intro z; cases z)
  unfold rd_Wood_keep lp_Wood_keep_1
  walk_at "x"
  refine .inl ⟨⟨_,SqL.of hq⟩,for_list (K:=K) (a:=q) (xs:=s.map V.int) (fun i σ H1=>∃ (as':List Addr) (o:Option V),σ = [some (.ref p),some (.ref q),o]∧as'.length=n∧(∀ (j:Nat) (a:Addr),as[j]? = some a→as'[j]? = some (if (j:Int) ∈ s.take i then q else a))∧H1 l=some (.lst (as'.map V.ref))∧SameBut1 l H H1)
    ⟨as,_,rfl,hn,fun j a h=>by simpa using h,hl,SameBut1.refl _ _⟩ ?_ ?_ ?_⟩
  · rintro i σ H1 _ ⟨as',o,_,_,_,_,B⟩; exact SqL.of (B _ _ hq hql)
  · rintro i x σ H1 hi ⟨as',o,rfl,hn',hA,g1,B⟩
    rw [List.getElem?_map] at hi
    obtain ⟨c,hc,ex⟩:=Option.map_eq_some_iff.mp hi
    have ex:x=V.int c:=ex.symm
    subst ex
    obtain ⟨j,hj,rfl⟩:=hs c (List.mem_of_getElem? hc)
    walk_at "x"
    refine x_fld ?_
    walk_at "x"
    refine ⟨p,C,dx,_,_,rfl,B _ _ hp hpl,ct.cl,ct.rows,flds_rows _ _,?_⟩
    walk_at "x"
    refine x_setL g1 (ixN_of (j:=j) rfl (by rw [List.length_map]; omega)) ?_
    refine ⟨as'.set j q,_,rfl,by simpa using hn',fun k' a ha=>?_,?_,fun b o' e hb=>by rw [upd_ne hb]; exact B _ _ e hb⟩
    · have e1:s.take (i+1)=s.take i ++ [(j:Int)]:=by rw [List.take_succ,hc]; rfl
      rw [e1]
      by_cases hk:k'=j
      · subst hk
        rw [List.getElem?_set_self (by rw [hn',← hn]; exact (List.getElem?_eq_some_iff.mp ha).1),if_pos (by simp)]
      · rw [List.getElem?_set_ne (Ne.symm hk),hA k' a ha]
        have:((k':Int) ∈ s.take i ++ [(j:Int)])↔(k':Int) ∈ s.take i:=by
          simp only [List.mem_append,List.mem_singleton]
          exact ⟨fun h=>h.elim id fun e=>absurd (by omega) hk,.inl⟩
        by_cases c1:(k':Int) ∈ s.take i
        · rw [if_pos c1,if_pos (this.mpr c1)]
        · rw [if_neg c1,if_neg (fun h=>c1 (this.mp h))]
    · rw [upd_same,List.map_set]
  · rintro σ H1 ⟨as',o,rfl,hn',hA,g1,B⟩
    rw [List.length_map,List.take_length] at hA
    exact k as' H1 hn' hA g1 B
def sp_Wood_joined (K:PySem.W.Frag) (C:Addr):Sp:=fun vs H Q _=>∃ (p dx l:Addr) (n a b:Nat) (as:List Addr) (R:Nat→List Int),vs=[.ref p,.int a,.int b]∧CT K C∧WA C H p dx l n as R∧Wd n R∧a < n∧b < n∧Q (.bl (decide ((b:Int) ∈ R a))) H
theorem len_Wood_joined {K:PySem.W.Frag} {C:Addr}:∀ vs H Q E,sp_Wood_joined K C vs H Q E→vs.length=3:=by
  rintro vs H Q E ⟨p,dx,l,n,a,b,as,R,rfl,_⟩; rfl
theorem run_Wood_joined {K:PySem.W.Frag} {C:Addr}:∀ vs H Q E,sp_Wood_joined K C vs H Q E→rd_Wood_joined K C (sp_refuse_no_places K C) { nx:=fun _ H'=>Q .non H',rt:=Q } (start ["self","a","b"] vs) H:=by
  rintro vs H Q E ⟨p,dx,l,n,a,b,as,R,rfl,ct,W,D,ha,hb,k⟩
  obtain ⟨ra,e1,e2,_⟩:=W.get ha
  obtain ⟨rb,f1,f2,_⟩:=W.get hb
  have hd:∀ i,i < n→∃ x,(R i)[0]? = some x∧(R i).head? = some x:=fun i hi=>by
    cases h:R i with
    | nil=>exact absurd h (D.r i hi).ne
    | cons x t=>exact ⟨x,rfl,rfl⟩
  obtain ⟨x,hx,hx'⟩:=hd a ha
  obtain ⟨y,hy,hy'⟩:=hd b hb
  have hj:=D.head ha hb
  rw [hx',hy'] at hj
  unfold rd_Wood_joined
  walk_at "x"
  refine x_fld ?_
  walk_at "x"
  refine ⟨p,C,dx,_,_,rfl,W.ob,ct.cl,ct.n,flds_n _ _,?_⟩
  walk_at "x"
  refine ⟨n,a,b,rfl,ha,hb,?_⟩
  walk_at "x"
  refine x_fld ?_
  walk_at "x"
  refine ⟨p,C,dx,_,_,rfl,W.ob,ct.cl,ct.rows,flds_rows _ _,?_⟩
  walk_at "x"
  refine x_ixL (SqL.of W.rl) (atI_of (j:=a) rfl (by rw [List.getElem?_map,e1]; rfl)) ?_
  walk_at "x"
  refine x_ixI (SqL.of e2) (j:=0) rfl hx ?_
  walk_at "x"
  refine x_fld ?_
  walk_at "x"
  refine ⟨p,C,dx,_,_,rfl,W.ob,ct.cl,ct.rows,flds_rows _ _,?_⟩
  walk_at "x"
  refine x_ixL (SqL.of W.rl) (atI_of (j:=b) rfl (by rw [List.getElem?_map,f1]; rfl)) ?_
  walk_at "x"
  refine x_ixI (SqL.of f2) (j:=0) rfl hy ?_
  walk_at "x"
  have e:decide (V.int x=V.int y)=decide ((b:Int) ∈ R a):=by
    rw [Bool.eq_iff_iff,decide_eq_true_iff,decide_eq_true_iff,eq_int_iff,← hj]
    exact ⟨fun h=>by rw [h],fun h=>Option.some.inj h⟩
  rw [e]
  exact k
def sp_Wood_link (K:PySem.W.Frag) (C:Addr):Sp:=fun vs H Q _=>∃ (p dx l:Addr) (n a b:Nat) (as:List Addr) (R:Nat→List Int),vs=[.ref p,.int a,.int b]∧CT K C∧WA C H p dx l n as R∧Wd n R∧n≤200∧a < n∧b < n∧(b:Int) ∉ R a ∧
  ∀ (as':List Addr) R' H',WA C H' p dx l n as' R'→Wd n R'→(∀ (i:Nat) (x:Int),x ∈ R' i↔if (i:Int) ∈ R a∨(i:Int) ∈ R b then x ∈ R a∨x ∈ R b else x ∈ R i)→(∀ x y,Ed n R' x y↔(Ed n R x y∨(x,y)=((a:Int),(b:Int))∨(x,y)=((b:Int),(a:Int))))→SameBut1 l H H'→(∀ c ∈ as',c ∈ as∨H c=none)→Q .non H'
theorem len_Wood_link {K:PySem.W.Frag} {C:Addr}:∀ vs H Q E,sp_Wood_link K C vs H Q E→vs.length=3:=by
  rintro vs H Q E ⟨p,dx,l,n,a,b,as,R,rfl,_⟩; rfl
theorem run_Wood_link {K : PySem.W.Frag} {C : Addr} : ∀ vs H Q E, sp_Wood_link K C vs H Q E → rd_Wood_link K C (sp_refuse_no_pair K C) (sp_Wood_joined K C) (sp_Wood_keep K C) (sp_spliced K C) { nx := fun _ H' => Q .non H', rt := Q } (start ["self", "a", "b"] vs) H := by
  rintro vs H Q E ⟨p,dx,l,n,a,b,as,R,rfl,ct,W,D,hn,ha,hb,hm,k⟩
  obtain ⟨ra,e1,e2,_⟩:=W.get ha
  obtain ⟨rb,f1,f2,_⟩:=W.get hb
  have hla:=D.len ha
  have hlb:=D.len hb
  have hab:a≠b:=fun e=>hm (e ▸ D.me a ha)
  obtain ⟨T2,D2,E2⟩:=D.link ha hb hm
  unfold rd_Wood_link
  walk_at "x"
  refine x_fld ?_
  walk_at "x"
  refine ⟨p,C,dx,_,_,rfl,W.ob,ct.cl,ct.n,flds_n _ _,?_⟩
  walk_at "x"
  refine ⟨n,a,b,rfl,ha,hb,hab,?_⟩
  walk_at "x"
  refine x_meth ?_
  walk_at "x"
  refine ⟨p,dx,_,rfl,W.ob,flds_no _ _ (by decide +kernel) (by decide +kernel),?_⟩
  walk_at "x"
  refine ⟨p,dx,l,n,a,b,as,R,rfl,ct,W,D,ha,hb,?_⟩
  refine ⟨_,rfl,?_⟩
  refine ifd (fun z=>absurd z hm) fun _=>?_
  walk_at "x"
  refine x_meth ?_
  walk_at "x"
  refine ⟨p,dx,_,rfl,W.ob,flds_no _ _ (by decide +kernel) (by decide +kernel),?_⟩
  walk_at "x"
  refine x_fld ?_
  walk_at "x"
  refine ⟨p,C,dx,_,_,rfl,W.ob,ct.cl,ct.rows,flds_rows _ _,?_⟩
  walk_at "x"
  refine x_ixL (SqL.of W.rl) (atI_of (j:=a) rfl (by rw [List.getElem?_map,e1]; rfl)) ?_
  walk_at "x"
  refine x_fld ?_
  walk_at "x"
  refine ⟨p,C,dx,_,_,rfl,W.ob,ct.cl,ct.rows,flds_rows _ _,?_⟩
  walk_at "x"
  refine x_ixL (SqL.of W.rl) (atI_of (j:=b) rfl (by rw [List.getElem?_map,f1]; rfl)) ?_
  walk_at "x"
  refine ⟨ra,rb,R a,R b,a,b,rfl,SqL.of e2,SqL.of f2,D.me a ha,D.me b hb,by omega,by omega,fun q H1 S1 hq gq=>?_⟩
  walk_at "x"
  have W1:=W.same S1
  have hql:q≠l:=Ne.symm (ne_of_none W.rl hq)
  refine ⟨p,dx,l,q,n,as,_,rfl,ct,W1.ob,W1.rl,W.len,gq,hql,fun x hx=>?_,fun as' H2 hl2 hA g2 B2=>?_⟩
  · rcases (T2.mem x).mp hx with h | h
    · obtain ⟨j,hj,e,_⟩:=D.in_ a ha x h; exact ⟨j,hj,e⟩
    · obtain ⟨j,hj,e,_⟩:=D.in_ b hb x h; exact ⟨j,hj,e⟩
  · have hpl:p≠l:=ne_of W.ob W.rl (by intro z; cases z)
    have hAt:∀ (i:Nat) (c:Addr),as'[i]? = some c→∃ c0,as[i]? = some c0∧c=if (i:Int) ∈ spl (R a) (R b) a b then q else c0:=fun i c hc=>by
      have hi:i < as.length:=by rw [W.len,← hl2]; exact (List.getElem?_eq_some_iff.mp hc).1
      have:=hA i _ (List.getElem?_eq_getElem hi)
      rw [hc] at this
      exact ⟨_,List.getElem?_eq_getElem hi,Option.some.inj this⟩
    refine k as' _ H2 ⟨B2 _ _ W1.ob hpl,g2,hl2,fun i c hc=>?_,fun c hc=>?_⟩ D2 (fun i x=>by
      by_cases ci:(i:Int) ∈ spl (R a) (R b) a b
      · rw [if_pos ci,if_pos ((T2.mem _).mp ci),T2.mem]
      · rw [if_neg ci,if_neg fun h=>ci ((T2.mem _).mpr h)]) E2 (fun b' o e hne=>B2 _ _ (S1 _ _ e) hne) fun c hc=>?_
    · obtain ⟨c0,h0,ec⟩:=hAt i c hc
      by_cases ci:(i:Int) ∈ spl (R a) (R b) a b
      · rw [if_pos ci] at ec ⊢
        rw [ec]; exact B2 _ _ gq hql
      · rw [if_neg ci] at ec ⊢
        rw [ec]; exact B2 _ _ (W1.at_ i c0 h0) (W.ne _ (List.mem_of_getElem? h0))
    · obtain ⟨i,hi⟩:=List.mem_iff_getElem?.mp hc
      obtain ⟨c0,h0,ec⟩:=hAt i c hi
      by_cases ci:(i:Int) ∈ spl (R a) (R b) a b
      · rw [if_pos ci] at ec; rw [ec]; exact hql
      · rw [if_neg ci] at ec; rw [ec]; exact W.ne _ (List.mem_of_getElem? h0)
    · obtain ⟨i,hi⟩:=List.mem_iff_getElem?.mp hc
      obtain ⟨c0,h0,ec⟩:=hAt i c hi
      by_cases ci:(i:Int) ∈ spl (R a) (R b) a b
      · rw [if_pos ci] at ec; rw [ec]; exact .inr hq
      · rw [if_neg ci] at ec; rw [ec]; exact .inl (List.mem_of_getElem? h0)
end K51
namespace K51
open Rm
def sp_Wood_group (K:PySem.W.Frag) (C:Addr):Sp:=fun vs H Q _=>∃ (p dx l:Addr) (n a:Nat) (as:List Addr) (R:Nat→List Int),vs=[.ref p,.int a]∧CT K C∧WA C H p dx l n as R∧Wd n R∧(R a).length≤125∧a < n ∧
  ∀ q (ks:List Int),H q=none→ks.Pairwise (· < ·)→(∀ x,x ∈ ks↔x ∈ R a)→Q (.ref q) (upd H q (.lst (ks.map V.int)))
theorem len_Wood_group {K:PySem.W.Frag} {C:Addr}:∀ vs H Q E,sp_Wood_group K C vs H Q E→vs.length=2:=by
  rintro vs H Q E ⟨p,dx,l,n,a,as,R,rfl,_⟩; rfl
theorem run_Wood_group {K:PySem.W.Frag} {C:Addr}:∀ vs H Q E,sp_Wood_group K C vs H Q E→rd_Wood_group K C (sp_refuse_no_place K C) { nx:=fun _ H'=>Q .non H',rt:=Q } (start ["self","a"] vs) H:=by
  rintro vs H Q E ⟨p,dx,l,n,a,as,R,rfl,ct,W,D,hn,ha,k⟩
  obtain ⟨ra,e1,e2,_⟩:=W.get ha
  unfold rd_Wood_group
  walk_at "x"
  refine x_fld ?_
  walk_at "x"
  refine ⟨p,C,dx,_,_,rfl,W.ob,ct.cl,ct.n,flds_n _ _,?_⟩
  walk_at "x"
  refine ⟨n,a,rfl,ha,?_⟩
  walk_at "x"
  refine x_sortSet ?_
  walk_at "x"
  refine x_fld ?_
  walk_at "x"
  refine ⟨p,C,dx,_,_,rfl,W.ob,ct.cl,ct.rows,flds_rows _ _,?_⟩
  walk_at "x"
  refine x_ixL (SqL.of W.rl) (atI_of (j:=a) rfl (by rw [List.getElem?_map,e1]; rfl)) ?_
  walk_at "x"
  refine ⟨ra,R a,rfl,SqL.of e2,by omega,?_,fun q ks hq h1 h2=>k q ks hq h1 h2⟩
  obtain ⟨ds,d1,d2,d3⟩:=(D.r a ha).cnt
  exact ⟨ds,by omega,fun x hx=>(d2 x).mpr hx⟩
end K51
namespace K51
open Rm
def sp_Wood_ties (K:PySem.W.Frag) (C:Addr):Sp:=fun vs H Q _=>∃ (p dx l:Addr) (n:Nat) (as:List Addr) (R:Nat→List Int),vs=[.ref p]∧CT K C∧WA C H p dx l n as R∧Wd n R∧n≤200∧(∃ L,Cnt n R L∧L.length < 64) ∧
  ∀ q (zs:List Zt) H',Same H H'→H q=none→H' q=some (.lst (zs.map refZ))→(∀ z ∈ zs,PairAt H' z)→zs.Pairwise (fun z w=>lexLe (zP z) (zP w))→(zs.map zP).Nodup→(∀ t:Int × Int,t ∈ zs.map zP↔t.1 < t.2∧Ed n R t.1 t.2)→zs.length < 64→Q (.ref q) H'
theorem len_Wood_ties {K:PySem.W.Frag} {C:Addr}:∀ vs H Q E,sp_Wood_ties K C vs H Q E→vs.length=1:=by
  rintro vs H Q E ⟨p,dx,l,n,as,R,rfl,_⟩; rfl
structure Td (n:Nat) (R:Nat→List Int) (H H1:Hp) (tl:Addr) (i:Nat) (zs:List Zt) (ds:List Int):Prop where
  at_:H1 tl=some (.lst (zs.map refZ))
  pr:∀ z ∈ zs,PairAt H1 z
  sm:Same H H1
  nd:(zs.map zP).Nodup
  mem:∀ t:Int × Int,t ∈ zs.map zP↔t.1 < t.2∧∃ j,j < i∧j < n∧(R j).head? = some (j:Int)∧t ∈ al (R j)
  dn:ds.Nodup
  dm:∀ x,x ∈ ds↔∃ j,j < i∧j < n∧(R j).head? = some (j:Int)∧x ∈ R j
  len:zs.length≤ds.length
theorem run_Wood_ties {K : PySem.W.Frag} {C : Addr} : ∀ vs H Q E, sp_Wood_ties K C vs H Q E → rd_Wood_ties K C (sp_steps_along K C) { nx := fun _ H' => Q .non H', rt := Q } (start ["self", "told", "place", "row"] vs) H := by
  rintro vs H Q E ⟨p,dx,l,n,as,R,rfl,ct,W,D,hn,⟨L0,hL0,hL64⟩,k⟩
  unfold rd_Wood_ties
  walk_at "x"
  refine ⟨small_le (m:=0) (Nat.le_refl 0),fun tl htl=>?_⟩
  have S0:=Same.upd_new (o:=.lst []) htl
  have g0:(upd H tl (.lst [])) tl=some (.lst []):=upd_same
  generalize upd H tl (.lst [])=H0 at S0 g0
  have W0:=W.same S0
  walk_at "x"
  unfold lp_Wood_ties_1
  walk_at "x1"
  refine x_iEnum ?_
  walk_at "x"
  refine x_fld ?_
  walk_at "x"
  refine ⟨p,C,dx,_,_,rfl,W0.ob,ct.cl,ct.rows,flds_rows _ _,?_⟩
  walk_at "x"
  refine ⟨l,_,rfl,SqL.of W0.rl,for_enum (K:=K) (a:=l) (xs:=as.map V.ref) (fun i σ H1=>∃ zs ds o2 o3,σ = [some (.ref p),some (.ref tl),o2,o3]∧Td n R H H1 tl i zs ds) ⟨[],[],_,_,rfl,⟨g0,(fun z hz=>nomatch hz),S0,List.nodup_nil,fun t=>⟨(fun h=>nomatch h),fun ⟨_,j,hj,_⟩=>by omega⟩,List.nodup_nil,fun x=>⟨(fun h=>nomatch h),fun ⟨j,hj,_⟩=>by omega⟩,Nat.le_refl _⟩⟩ ?_ ?_ ?_⟩
  · rintro i σ H1 _ ⟨zs,ds,o2,o3,rfl,T⟩; exact SqL.of (T.sm _ _ W.rl)
  · rintro i x q σ H1 hi hq ⟨zs,ds,o2,o3,rfl,T⟩
    rw [List.getElem?_map] at hi
    obtain ⟨ra,hra,ex⟩:=Option.map_eq_some_iff.mp hi
    subst ex
    have hin:i < n:=by rw [← W.len]; exact (List.getElem?_eq_some_iff.mp hra).1
    have S1:=Same.upd_new (o:=.tup [.int (i:Int),.ref ra]) hq
    have g1:(upd H1 q (.tup [.int (i:Int),.ref ra])) q=some (.tup [.int (i:Int),.ref ra]):=upd_same
    generalize upd H1 q (.tup [.int (i:Int),.ref ra])=H2 at S1 g1
    have hrow:=S1 _ _ (T.sm _ _ (W.at_ i ra hra))
    obtain ⟨x0,hx0,hx0'⟩:∃ x,(R i)[0]? = some x∧(R i).head? = some x:=by
      cases h:R i with
      | nil=>exact absurd h (D.r i hin).ne
      | cons x t=>exact ⟨x,rfl,rfl⟩
    have hlen:=D.len hin
    refine x_tupG (.of g1) rfl ?_
    walk_at "x"
    refine x_ixI (SqL.of hrow) (j:=0) rfl hx0 ?_
    walk_at "x"
    refine ifd (fun e=>?_) fun e=>?_
    · have e:x0=(i:Int):=eq_int_iff.mp e
      subst e
      have gt2:=S1 _ _ T.at_
      walk_at "x"
      refine ⟨.inl ⟨rfl,_,SqL.of gt2⟩,?_⟩
      walk_at "x"
      refine ⟨ra,R i,rfl,SqL.of hrow,by omega,fun al1 H3 ws S3 hal gal pal eal=>?_⟩
      walk_at "x"
      have S13:=S1.trans S3
      have gt3:=S13 _ _ T.at_
      refine .inl ⟨⟨_,SqL.of gal⟩,fun acc hacc=>?_⟩
      have hwl:ws.length+1≤2 * n:=by have:=congrArg List.length eal; rw [List.length_map,al_len] at this; omega
      refine comp_by (n:=ws.length) (fun t ys H'=>∃ vs:List Zt,ys=vs.map refZ∧vs.map zP=((ws.map zP).take t).filter (fun u=>decide (u.1 < u.2))∧H' acc=some (.lst ys)∧Same H3 H'∧∀ v ∈ vs,PairAt H' v) (fun σ=>∃ o o1,σ = [o,o1]) ⟨[],rfl,by simp,upd_same,Same.upd_new hacc,(fun z hz=>nomatch hz)⟩ ⟨_,_,rfl⟩ ?_ ?_ ?_ ?_
      · rintro t ys H' ⟨_,_,_,h,_⟩; exact h
      · rintro ys H4 ⟨vs,rfl,ev,g4,S4,pv⟩
        refine ⟨⟨_,S4.seq (SqL.of gal),by rw [List.length_map]; exact Nat.le_refl _⟩,?_⟩
        rw [show ws.length=(ws.map zP).length by rw [List.length_map],List.take_length,eal] at ev
        have ev:vs.map zP=ups (R i):=ev
        have hvl:2 * vs.length+1=(R i).length:=by have:=(D.r i hin).ups_len; rw [← ev,List.length_map] at this; exact this
        obtain ⟨es,q1,q2,q3⟩:=(D.r i hin).cnt
        have gt4:=S4 _ _ gt3
        have hds:=few T.dn fun x hx=>by
          obtain ⟨j,_,hj,_,hx'⟩:=(T.dm x).mp hx
          obtain ⟨j',h1,h2,_⟩:=D.in_ j hj x hx'
          exact ⟨j',h1,h2⟩
        have hzl:=T.len
        walk_at "x"
        refine x_ext gt4 g4 (small_le (m:=1000) (by rw [List.length_map,List.length_map]; omega)) ?_
        have keep:∀ b o,b≠tl→H4 b=some o→(upd H4 tl (.lst (zs.map refZ ++ vs.map refZ))) b=some o:=fun b o hb e=>by rw [upd_ne hb]; exact e
        have S14:=S13.trans S4
        have ntl:∀ {b:Addr} {ys:List V},H4 b=some (.tup ys)→b≠tl:=fun e z=>by rw [z,gt4] at e; cases e
        have dis:∀ x,x ∈ R i→∀ j,j < i→j < n→(R j).head? = some (j:Int)→x ∉ R j:=fun x hx j hj hjn hh hx'=>by
          have e:=D.same hin hjn hx hx'
          rw [e,hh] at hx0'
          have:=Option.some.inj hx0'
          omega
        refine ⟨zs ++ vs,ds ++ es,_,_,rfl,⟨by rw [upd_same,List.map_append],fun z hz=>?_,fun b o e=>keep b o (ne_of_none e htl) (S14 _ _ (T.sm _ _ e)),?_,fun t=>?_,?_,fun x=>?_,by rw [List.length_append,List.length_append]; omega⟩⟩
        · rcases List.mem_append.mp hz with hz | hz
          · have e:=S14 _ _ (T.pr z hz); exact keep _ _ (ntl e) e
          · have e:=pv z hz; exact keep _ _ (ntl e) e
        · rw [List.map_append,List.nodup_append]
          refine ⟨T.nd,by rw [ev]; exact (D.r i hin).ups_nd,fun t ht u hu e=>?_⟩
          subst e
          rw [ev,mem_ups] at hu
          obtain ⟨_,j,hj,hjn,hh,hm⟩:=(T.mem t).mp ht
          exact dis t.1 (al_mem (x:=t.1) (y:=t.2) hu.2).1 j hj hjn hh (al_mem (x:=t.1) (y:=t.2) hm).1
        · rw [List.map_append,List.mem_append,T.mem,ev,mem_ups]
          constructor
          · rintro (⟨h1,j,h2,h3⟩ | ⟨h1,h2⟩)
            · exact ⟨h1,j,by omega,h3⟩
            · exact ⟨h1,i,by omega,hin,hx0',h2⟩
          · rintro ⟨h1,j,h2,h3,h4,h5⟩
            by_cases hj:j=i
            · subst hj; exact .inr ⟨h1,h5⟩
            · exact .inl ⟨h1,j,by omega,h3,h4,h5⟩
        · rw [List.nodup_append]
          refine ⟨T.dn,q1,fun x hx y hy e=>?_⟩
          subst e
          obtain ⟨j,hj,hjn,hh,hm⟩:=(T.dm x).mp hx
          exact dis x ((q2 x).mp hy) j hj hjn hh hm
        · rw [List.mem_append,T.dm,q2]
          constructor
          · rintro (⟨j,h2,h3⟩ | h2)
            · exact ⟨j,by omega,h3⟩
            · exact ⟨i,by omega,hin,hx0',h2⟩
          · rintro ⟨j,h2,h3,h4,h5⟩
            by_cases hj:j=i
            · subst hj; exact .inr h5
            · exact .inl ⟨j,by omega,h3,h4,h5⟩
      · rintro t ys H4 ht ⟨vs,rfl,ev,g4,S4,pv⟩
        exact ⟨_,_,S4.seq (SqL.of gal),by rw [List.getElem?_map,List.getElem?_eq_getElem ht]; rfl⟩
      · rintro t ys σ' H4 x H5 ht ⟨vs,rfl,ev,g4,S4,pv⟩ ⟨o,o1,rfl⟩ ⟨eH,ex⟩
        subst eH
        have hw:=ex _ (S4.seq (SqL.of gal))
        rw [List.getElem?_map,List.getElem?_eq_getElem ht] at hw
        have hw:=(Option.some.inj hw).symm
        subst hw
        have hpw:=S4 _ _ (pal _ (List.getElem_mem ht))
        have etk:(ws.map zP).take (t+1)=(ws.map zP).take t ++ [zP ws[t]]:=by rw [List.take_succ,List.getElem?_map,List.getElem?_eq_getElem ht]; rfl
        refine x_tupG (.of hpw) rfl ?_
        walk_at "x"
        refine ifd (fun c=>?_) fun c=>?_
        · walk_at "x"
          refine ⟨small_le (m:=2) (Nat.le_refl 2),fun u hu=>?_⟩
          have T1:=Same.upd_new (o:=.tup [.int ws[t].1,.int ws[t].2.1]) hu
          have u1:(upd H5 u (.tup [.int ws[t].1,.int ws[t].2.1])) u=some (.tup [.int ws[t].1,.int ws[t].2.1]):=upd_same
          generalize upd H5 u (.tup [.int ws[t].1,.int ws[t].2.1])=H6 at T1 u1
          have hvle:vs.length≤ws.length:=by
            have:=congrArg List.length ev
            rw [List.length_map] at this
            have h2:=List.length_filter_le (fun u:Int × Int=>decide (u.1 < u.2)) ((ws.map zP).take t)
            rw [List.length_take,List.length_map] at h2
            omega
          have nac:∀ {b:Addr} {ys:List V},H6 b=some (.tup ys)→b≠acc:=fun e z=>by rw [z,T1 _ _ g4] at e; cases e
          refine ⟨T1 _ _ g4,small_lt (m:=1000) (by rw [List.length_map]; omega),CNext.mk' ht ⟨_,_,rfl⟩ ⟨vs ++ [(ws[t].1,ws[t].2.1,u)],by simp [refZ],?_,upd_same,fun b o e=>by rw [upd_ne (ne_of_none e hacc)]; exact T1 _ _ (S4 _ _ e),fun v hv=>?_⟩⟩
          · rw [etk,List.filter_append,List.map_append,ev]
            simp [zP,c]
          · rcases List.mem_append.mp hv with hv | hv
            · have e:=T1 _ _ (pv v hv)
              show (upd H6 acc _) _=_
              rw [upd_ne (nac e)]; exact e
            · rw [List.mem_singleton.mp hv]
              show (upd H6 acc _) _=_
              rw [upd_ne (nac u1)]; exact u1
        · exact CNext.mk' ht ⟨_,_,rfl⟩ ⟨vs,rfl,by rw [etk,List.filter_append,ev]; simp [zP,c],g4,S4,pv⟩
    · walk_at "x"
      refine ⟨zs,ds,_,_,rfl,⟨S1 _ _ T.at_,fun z hz=>S1 _ _ (T.pr z hz),T.sm.trans S1,T.nd,fun t=>?_,T.dn,fun x=>?_,T.len⟩⟩
      · rw [T.mem]
        refine and_congr_right fun _=>⟨fun ⟨j,h1,h2⟩=>⟨j,by omega,h2⟩,fun ⟨j,h1,h2,h3,h4⟩=>⟨j,?_,h2,h3,h4⟩⟩
        rcases Nat.lt_succ_iff_lt_or_eq.mp h1 with h | h
        · exact h
        · subst h; rw [hx0'] at h3; exact absurd (by rw [Option.some.inj h3]) e
      · rw [T.dm]
        refine ⟨fun ⟨j,h1,h2⟩=>⟨j,by omega,h2⟩,fun ⟨j,h1,h2,h3,h4⟩=>⟨j,?_,h2,h3,h4⟩⟩
        rcases Nat.lt_succ_iff_lt_or_eq.mp h1 with h | h
        · exact h
        · subst h; rw [hx0'] at h3; exact absurd (by rw [Option.some.inj h3]) e
  · rintro σ H1 ⟨zs,ds,o2,o3,rfl,T⟩
    rw [List.length_map,W.len] at T
    have mm:∀ t:Int × Int,t ∈ zs.map zP↔t.1 < t.2∧Ed n R t.1 t.2:=fun t=>by
      rw [T.mem]
      refine and_congr_right fun _=>⟨fun ⟨j,_,h2,_,h4⟩=>⟨j,h2,h4⟩,fun ⟨j,h2,h4⟩=>?_⟩
      obtain ⟨x,hx⟩:∃ x,(R j).head? = some x:=by
        cases h:R j with
        | nil=>exact absurd h (D.r j h2).ne
        | cons x t=>exact ⟨x,rfl⟩
      obtain ⟨j',h5,rfl,h6⟩:=D.in_ j h2 x (List.mem_of_mem_head? hx)
      exact ⟨j',h5,h5,by rw [h6]; exact hx,by rw [h6]; exact h4⟩
    have hz64:=Cnt.len ⟨T.nd,mm⟩ hL0
    rw [List.length_map] at hz64
    walk_at "x"
    refine .inl ⟨tl,zs,rfl,SqL.of T.at_,T.pr,by omega,fun q zs' hq hperm hsort=>?_⟩
    have S2:=Same.upd_new (o:=.lst (zs'.map refZ)) hq
    refine k q zs' _ (T.sm.trans S2) (T.sm.free hq) upd_same (fun z hz=>S2 _ _ (T.pr z (hperm.mem_iff.mp hz))) hsort ((hperm.map zP).nodup_iff.mpr T.nd) (fun t=>by rw [(hperm.map zP).mem_iff,mm]) (by rw [hperm.length_eq]; omega)
end K51
namespace K51
open Rm
def sp_is_count (K:PySem.W.Frag) (C:Addr):Sp:=fun vs H Q _=>∃ n:Nat,vs=[.int n]∧1≤n∧n≤200∧Q (.bl true) H
theorem len_is_count {K:PySem.W.Frag} {C:Addr}:∀ vs H Q E,sp_is_count K C vs H Q E→vs.length=1:=by
  rintro vs H Q E ⟨n,rfl,_⟩; rfl
theorem run_is_count {K:PySem.W.Frag} {C:Addr}:∀ vs H Q E,sp_is_count K C vs H Q E→rd_is_count K C (sp_is_whole K C) { nx:=fun _ H'=>Q .non H',rt:=Q } (start ["thing"] vs) H:=by
  rintro vs H Q E ⟨n,rfl,h1,h2,k⟩
  unfold rd_is_count
  walk_at "x"
  refine ⟨n,rfl,?_⟩
  walk_at "x"
  refine iteT ?_
  walk_at "x"
  refine ifd (fun h=>?_) fun h=>absurd (show (1:Int)≤n by omega) h
  walk_at "x"
  rw [show decide ((n:Int)≤200)=true from decide_eq_true (by omega)]
  exact k
def Top (n:Int) (j:Nat):Prop:=(j=0∨2 * (2:Int) ^ j≤n)∧n < 4 * (2:Int) ^ j
def sp_top (K:PySem.W.Frag) (C:Addr):Sp:=fun vs H Q _=>∃ n:Int,vs=[.int n]∧∀ j:Nat,Top n j→Q (.int j) H
theorem len_top {K:PySem.W.Frag} {C:Addr}:∀ vs H Q E,sp_top K C vs H Q E→vs.length=1:=by
  rintro vs H Q E ⟨n,rfl,_⟩; rfl
theorem pow_pos' (j:Nat):(0:Int) < 2 ^ j:=Int.pow_pos (by decide)
theorem run_top {K:PySem.W.Frag} {C:Addr}:∀ vs H Q E,sp_top K C vs H Q E→rd_top K C { nx:=fun _ H'=>Q .non H',rt:=Q } (start ["n","level","needed"] vs) H:=by
  rintro vs H Q E ⟨n,rfl,k⟩
  unfold rd_top
  walk_at "x"
  unfold lp_top_1
  refine while_on (fun σ H'=>H'=H∧∃ j:Nat,σ = [some (.int n),some (.int j),some (.int (4 * 2 ^ j))]∧(j=0∨2 * (2:Int) ^ j≤n)) (fun σ _=>match σ with | [_,_,some (.int p)]=>(n+1 - p).toNat | _=>0) ⟨rfl,0,rfl,.inl rfl⟩ ?_
  rintro σ H' ⟨rfl,j,rfl,hj⟩
  have hp:=pow_pos' j
  walk_at "x"
  refine ifd (fun h=>⟨_,wN_ok,?_⟩) fun h=>?_
  · walk_at "x"
    refine ⟨⟨rfl,j+1,?_,.inr ?_⟩,?_⟩
    · have e:(4 * 2 ^ j * 2:Int)=4 * 2 ^ (j+1):=by rw [Int.pow_succ]; omega
      show [some (V.int n),some (V.int ((j:Int)+1)),some (V.int (4 * 2 ^ j * 2))]=_
      rw [e]; rfl
    · rw [Int.pow_succ]; omega
    · show (n+1 - 4 * 2 ^ j * 2).toNat < (n+1 - 4 * 2 ^ j).toNat
      omega
  · walk_at "x"
    exact k j ⟨hj,by omega⟩
def sp_tie_of (K:PySem.W.Frag) (C:Addr):Sp:=fun vs H Q _=>∃ a b:Nat,vs=[.int a,.int b]∧∀ p,H p=none→Q (.ref p) (upd H p (.tup [.int (min a b:Nat),.int (max a b:Nat)]))
theorem len_tie_of {K:PySem.W.Frag} {C:Addr}:∀ vs H Q E,sp_tie_of K C vs H Q E→vs.length=2:=by
  rintro vs H Q E ⟨a,b,rfl,_⟩; rfl
theorem run_tie_of {K:PySem.W.Frag} {C:Addr}:∀ vs H Q E,sp_tie_of K C vs H Q E→rd_tie_of K C { nx:=fun _ H'=>Q .non H',rt:=Q } (start ["a","b"] vs) H:=by
  rintro vs H Q E ⟨a,b,rfl,k⟩
  unfold rd_tie_of
  walk_at "x"
  refine ifd (fun h=>?_) fun h=>?_
  · rw [show min a b=a by omega,show max a b=b by omega] at k
    walk_at "x"
    exact ⟨small_le (m:=2) (Nat.le_refl 2),k⟩
  · rw [show min a b=b by omega,show max a b=a by omega] at k
    walk_at "x"
    exact ⟨small_le (m:=2) (Nat.le_refl 2),k⟩
abbrev pk (x y:Nat):List Key:=[Sum.inl (x:Int),Sum.inl (y:Int)]
def sp_new_tie (K:PySem.W.Frag) (C:Addr):Sp:=fun vs H Q _=>∃ (n a b:Nat) (d:Addr) (kvs:List (List Key × V)),vs=[.int n,.ref d,.int a,.int b]∧a < n∧b < n∧a≠b∧H d=some (.dT kvs)∧valV kvs (pk (min a b) (max a b))=none ∧
  ∀ p,H p=none→Q (.ref p) (upd H p (.tup [.int (min a b:Nat),.int (max a b:Nat)]))
theorem len_new_tie {K:PySem.W.Frag} {C:Addr}:∀ vs H Q E,sp_new_tie K C vs H Q E→vs.length=4:=by
  rintro vs H Q E ⟨n,a,b,d,kvs,rfl,_⟩; rfl
theorem run_new_tie {K:PySem.W.Frag} {C:Addr}:∀ vs H Q E,sp_new_tie K C vs H Q E→rd_new_tie K C (sp_refuse_no_pair K C) (sp_tie_of K C) { nx:=fun _ H'=>Q .non H',rt:=Q } (start ["n","standing","a","b","tie"] vs) H:=by
  rintro vs H Q E ⟨n,a,b,d,kvs,rfl,ha,hb,hab,hd,hk,k⟩
  unfold rd_new_tie
  walk_at "x"
  refine ⟨n,a,b,rfl,ha,hb,hab,?_⟩
  walk_at "x"
  refine ⟨a,b,rfl,fun p hp=>?_⟩
  walk_at "x"
  have gd:(upd H p (.tup [.int (min a b:Nat),.int (max a b:Nat)])) d=some (.dT kvs):=by rw [upd_ne (ne_of_none hd hp)]; exact hd
  refine .inr ⟨d,_,rfl,DGet.t (k:=pk (min a b) (max a b)) gd upd_same,?_⟩
  rw [hk]
  walk_at "x"
  rw [if_neg (by simp)]
  walk_at "x"
  exact k p hp
abbrev LT1 (Pt:Addr) (H:Hp):Prop:=LamT Pt ⟨95,28,95,61⟩ ((("in_order":Str) ++ ".<locals>.") ++ "<lambda>") H
def sp_in_order (K : PySem.W.Frag) (C : Addr) (Pt : Addr) : Sp := fun vs H Q _ => ∃ (p d : Addr) (kvs wvs : List (List Key × V)) (g : Int → Int → Int), vs = [.ref p, .ref d] ∧ H p = some (.dT kvs) ∧ H d = some (.dT wvs) ∧ (∀ q ∈ kvs, ∃ x y : Int, q.1 = [Sum.inl x, Sum.inl y] ∧ valV wvs q.1 = some (.int (g x y))) ∧ kvs.length < 64 ∧ LT1 Pt H ∧
    ∀ (l : Addr) (zs : List Zn) (H2 : Hp), H2 l = none → SameT Pt H H2 → LT1 Pt H2 → (∀ z ∈ zs, ∃ x y, z.1 = [g x y, x, y] ∧ H2 z.2 = some (.tup [.int x, .int y])) → (zs.map fun z => ([Sum.inl (z.1.getD 1 0), Sum.inl (z.1.getD 2 0)] : List Key)).Perm (kvs.map (·.1)) →
      zs.Pairwise (fun z w=>lexL w.1 z.1=false)→Q (.ref l) (upd H2 l (.lst (zs.map refN)))
theorem len_in_order {K:PySem.W.Frag} {C Pt:Addr}:∀ vs H Q E,sp_in_order K C Pt vs H Q E→vs.length=2:=by
  rintro vs H Q E ⟨p,d,kvs,wvs,g,rfl,_⟩; rfl
theorem run_in_order {K:PySem.W.Frag} {C Pt:Addr}:∀ vs H Q E,sp_in_order K C Pt vs H Q E→rd_in_order K C Pt { nx:=fun _ H'=>Q .non H',rt:=Q } (start ["ties","weight_of"] vs) H:=by
  rintro vs H Q E ⟨p,d,kvs,wvs,g,rfl,hp,hd,hkv,hl,hT,k⟩
  unfold rd_in_order
  walk_at "x"
  unfold tSortW
  walk_at "x"
  exact ⟨p,d,kvs,wvs,g,rfl,hp,rfl,hd,hkv,hl,hT,k⟩
end K51
namespace K51
open Rm
theorem putF_ne {f g:Str} {v x:V} {r:List (Str × V)} (h:¬ g=f):putF f v ((g,x) :: r)=(g,x) :: putF f v r:=by show (if g=f then _ else _)=_; rw [if_neg h]
theorem putF_eq {f:Str} {v x:V} {r:List (Str × V)}:putF f v ((f,x) :: r)=(f,v) :: r:=by show (if f=f then _ else _)=_; rw [if_pos rfl]
theorem lk_eq {f:Str} {x:V} {r:List (Str × V)}:List.lookup f ((f,x) :: r)=some x:=by rw [List.lookup_cons,beq_self_eq_true]
theorem lk_ne {f g:Str} {x:V} {r:List (Str × V)} (h:¬ g=f):List.lookup g ((f,x) :: r)=List.lookup g r:=by
  rw [List.lookup_cons]
  have:(g == f)=false:=by simpa using h
  rw [this]
structure CTs (K:PySem.W.Frag) (C:Addr) (A:CA):Prop where
  w:CT K C
  lc:Cls K A.Levels
  l1:NoAttr K A.Levels "level_of"
  l2:NoAttr K A.Levels "wooden"
  l3:NoAttr K A.Levels "weight_of"
  l4:NoAttr K A.Levels "woods"
  kc:Cls K A.Lightest
  k1:NoAttr K A.Lightest "n"
  k2:NoAttr K A.Lightest "levels"
  k3:NoAttr K A.Lightest "wood"
  k4:NoAttr K A.Lightest "came"
  k5:NoAttr K A.Lightest "looked"
  k6:NoAttr K A.Lightest "risen"
  k7:NoAttr K A.Lightest "lost"
structure AL where
  (q dq d1 d2 d3 L w dw l:Addr) (rest:List V)
def fL (d1 d2 d3 L:Addr):List (Str × V):=[("level_of",.ref d1),("wooden",.ref d2),("weight_of",.ref d3),("woods",.ref L)]
theorem fL1 {d1 d2 d3 L:Addr}:(fL d1 d2 d3 L).lookup ("level_of":Str)=some (.ref d1):=lk_eq
theorem fL2 {d1 d2 d3 L:Addr}:(fL d1 d2 d3 L).lookup ("wooden":Str)=some (.ref d2):=by unfold fL; rw [lk_ne (by decide +kernel)]; exact lk_eq
theorem fL3 {d1 d2 d3 L:Addr}:(fL d1 d2 d3 L).lookup ("weight_of":Str)=some (.ref d3):=by unfold fL; rw [lk_ne (by decide +kernel),lk_ne (by decide +kernel)]; exact lk_eq
theorem fL4 {d1 d2 d3 L:Addr}:(fL d1 d2 d3 L).lookup ("woods":Str)=some (.ref L):=by unfold fL; rw [lk_ne (by decide +kernel),lk_ne (by decide +kernel),lk_ne (by decide +kernel)]; exact lk_eq
theorem fL0 {d1 d2 d3 L:Addr} {m:Str} (h1:¬ m = "level_of") (h2:¬ m = "wooden") (h3:¬ m = "weight_of") (h4:¬ m = "woods"):(fL d1 d2 d3 L).lookup m=none:=by unfold fL; rw [lk_ne h1,lk_ne h2,lk_ne h3,lk_ne h4]; rfl
structure LV (C:Addr) (A:CA) (H:Hp) (a:AL) (n:Nat) (kl kw kv:List (List Key × V)) (as:List Addr) (R:Nat→List Int):Prop where
  ob:H a.q=some (.ins A.Levels a.dq (fL a.d1 a.d2 a.d3 a.L))
  e1:H a.d1=some (.dT kl)
  e2:H a.d2=some (.dT kw)
  e3:H a.d3=some (.dT kv)
  ls:H a.L=some (.lst (.ref a.w :: a.rest))
  wd:WA C H a.w a.dw a.l n as R
  n12:a.d1≠a.d2
  n13:a.d1≠a.d3
  n23:a.d2≠a.d3
  nL:a.L≠a.l
theorem LV.same {C:Addr} {A:CA} {H H':Hp} {a:AL} {n:Nat} {kl kw kv:List (List Key × V)} {as:List Addr} {R:Nat→List Int} (h:LV C A H a n kl kw kv as R) (S:Same H H'):LV C A H' a n kl kw kv as R :=
  ⟨S _ _ h.ob,S _ _ h.e1,S _ _ h.e2,S _ _ h.e3,S _ _ h.ls,h.wd.same S,h.n12,h.n13,h.n23,h.nL⟩
theorem WA.dict {C:Addr} {H:Hp} {p dx l d:Addr} {n:Nat} {as:List Addr} {R:Nat→List Int} {ks ks':List (List Key × V)} (W:WA C H p dx l n as R) (hd:H d=some (.dT ks)):WA C (upd H d (.dT ks')) p dx l n as R:=by
  have ne:∀ {b:Addr} {o:HO},H b=some o→(∀ ks,o≠.dT ks)→upd H d (.dT ks') b=some o:=fun {b o} e h=>by
    rw [upd_ne]; exact e
    rintro rfl; rw [hd] at e; cases e; exact h _ rfl
  exact ⟨ne W.ob (fun _ z=>nomatch z),ne W.rl (fun _ z=>nomatch z),W.len,fun i a h=>ne (W.at_ i a h) (fun _ z=>nomatch z),W.ne⟩
section
variable {C:Addr} {A:CA} {H:Hp} {a:AL} {n:Nat} {kl kw kv ks:List (List Key × V)} {as:List Addr} {R:Nat→List Int}
theorem LV.set1 (h:LV C A H a n kl kw kv as R):LV C A (upd H a.d1 (.dT ks)) a n ks kw kv as R :=
  ⟨by rw [upd_ne (ne_of h.ob h.e1 (by intro z; cases z))]; exact h.ob,upd_same,by rw [upd_ne h.n12.symm]; exact h.e2,by rw [upd_ne h.n13.symm]; exact h.e3,by rw [upd_ne (ne_of h.ls h.e1 (by intro z; cases z))]; exact h.ls,h.wd.dict h.e1,h.n12,h.n13,h.n23,h.nL⟩
theorem LV.set2 (h:LV C A H a n kl kw kv as R):LV C A (upd H a.d2 (.dT ks)) a n kl ks kv as R :=
  ⟨by rw [upd_ne (ne_of h.ob h.e2 (by intro z; cases z))]; exact h.ob,by rw [upd_ne h.n12]; exact h.e1,upd_same,by rw [upd_ne h.n23.symm]; exact h.e3,by rw [upd_ne (ne_of h.ls h.e2 (by intro z; cases z))]; exact h.ls,h.wd.dict h.e2,h.n12,h.n13,h.n23,h.nL⟩
theorem LV.set3 (h:LV C A H a n kl kw kv as R):LV C A (upd H a.d3 (.dT ks)) a n kl kw ks as R :=
  ⟨by rw [upd_ne (ne_of h.ob h.e3 (by intro z; cases z))]; exact h.ob,by rw [upd_ne h.n13]; exact h.e1,by rw [upd_ne h.n23]; exact h.e2,upd_same,by rw [upd_ne (ne_of h.ls h.e3 (by intro z; cases z))]; exact h.ls,h.wd.dict h.e3,h.n12,h.n13,h.n23,h.nL⟩
end
def SB (a:AL) (H H':Hp):Prop:=∀ b o,b≠a.d1→b≠a.d2→b≠a.d3→b≠a.l→H b=some o→H' b=some o
theorem SB.trans {a:AL} {H H1 H2:Hp} (x:SB a H H1) (y:SB a H1 H2):SB a H H2:=fun b o h1 h2 h3 h4 e=>y b o h1 h2 h3 h4 (x b o h1 h2 h3 h4 e)
theorem SB.of {a:AL} {H H':Hp} (S:Same H H'):SB a H H':=fun b o _ _ _ _ e=>S b o e
theorem SB.d1 {a:AL} {H:Hp} {o:HO}:SB a H (upd H a.d1 o):=fun b o' h _ _ _ e=>by rw [upd_ne h]; exact e
theorem SB.d2 {a:AL} {H:Hp} {o:HO}:SB a H (upd H a.d2 o):=fun b o' _ h _ _ e=>by rw [upd_ne h]; exact e
theorem SB.d3 {a:AL} {H:Hp} {o:HO}:SB a H (upd H a.d3 o):=fun b o' _ _ h _ e=>by rw [upd_ne h]; exact e
theorem SB.but {a:AL} {H H':Hp} (S:SameBut1 a.l H H'):SB a H H':=fun b o _ _ _ h e=>S b o e h
def sp_Levels_told (K:PySem.W.Frag) (C:Addr) (A:CA):Sp:=fun vs H Q _=>∃ (q dq d1 d2 d3 L t:Addr) (kl kw:List (List Key × V)) (x y:Int) (v1 v2:V),vs=[.ref q,.ref t]∧CTs K C A∧H q=some (.ins A.Levels dq (fL d1 d2 d3 L))∧Rd H d1 (.dT kl)∧Rd H d2 (.dT kw)∧H t=some (.tup [.int x,.int y]) ∧
  valV kl [Sum.inl x,Sum.inl y]=some v1∧valV kw [Sum.inl x,Sum.inl y]=some v2∧∀ p,H p=none→Q (.ref p) (upd H p (.tup [.int x,.int y,v1,v2]))
theorem len_Levels_told {K:PySem.W.Frag} {C:Addr} {A:CA}:∀ vs H Q E,sp_Levels_told K C A vs H Q E→vs.length=2:=by
  rintro vs H Q E ⟨q,dq,d1,d2,d3,L,t,kl,kw,x,y,v1,v2,rfl,_⟩; rfl
theorem run_Levels_told {K:PySem.W.Frag} {C:Addr} {A:CA}:∀ vs H Q E,sp_Levels_told K C A vs H Q E→rd_Levels_told K C A { nx:=fun _ H'=>Q .non H',rt:=Q } (start ["self","tie"] vs) H:=by
  rintro vs H Q E ⟨q,dq,d1,d2,d3,L,t,kl,kw,x,y,v1,v2,rfl,ct,hq,r1,r2,ht,h1,h2,k⟩
  unfold rd_Levels_told
  walk_at "x"
  refine x_ixT (SqT.of ht) (atI_of (j:=0) rfl rfl) ?_
  walk_at "x"
  refine x_ixT (SqT.of ht) (atI_of (j:=1) rfl rfl) ?_
  walk_at "x"
  refine x_fld ?_
  walk_at "x"
  refine ⟨q,A.Levels,dq,_,_,rfl,hq,ct.lc,ct.l1,fL1,?_⟩
  walk_at "x"
  refine .inr ⟨d1,v1,rfl,.inr ⟨kl,[Sum.inl x,Sum.inl y],t,r1,rfl,ht,h1.symm⟩,?_⟩
  walk_at "x"
  refine x_fld ?_
  walk_at "x"
  refine ⟨q,A.Levels,dq,_,_,rfl,hq,ct.lc,ct.l2,fL2,?_⟩
  walk_at "x"
  refine .inr ⟨d2,v2,rfl,.inr ⟨kw,[Sum.inl x,Sum.inl y],t,r2,rfl,ht,h2.symm⟩,?_⟩
  walk_at "x"
  exact ⟨small_le (m:=4) (Nat.le_refl 4),k⟩
end K51
namespace K51
open Rm
theorem cut1 (x:V) (r:List V):cutV (x :: r) none (some ((0:Int)+1))=[x]:=by
  unfold cutV
  have:HT.sIx (x :: r).length (x :: r).length (some ((0:Int)+1))=1:=by
    have:=HT.sIx_nat (x :: r).length (x :: r).length 1
    rw [show ((0:Int)+1)=((1:Nat):Int) by rfl,this]
    simp
  rw [this,HT.sIx_none]
  rfl
theorem putK_last {kvs:List (List Key × V)} {k:List Key} {v w:V} (h:valV kvs k=none):putK (kvs ++ [(k,v)]) k w=kvs ++ [(k,w)]:=by
  unfold putK
  rw [if_pos (by simp)]
  rw [List.map_append]
  have:kvs.map (fun kv=>if kv.1=k then (kv.1,w) else kv)=kvs:=by
    conv=>rhs; rw [← List.map_id kvs]
    refine List.map_congr_left fun kv hkv=>?_
    have hne:¬ kv.1=k:=fun e=>valV_not h (by rw [← e]; exact List.mem_map_of_mem hkv)
    rw [if_neg hne]
    rfl
  rw [this]
  simp
def Mg (R R':Nat→List Int) (x y:Nat):Prop:=∀ (i:Nat) (z:Int),z ∈ R' i↔if (i:Int) ∈ R x∨(i:Int) ∈ R y then z ∈ R x∨z ∈ R y else z ∈ R i
def Eg (n:Nat) (R R':Nat→List Int) (x y:Nat):Prop:=∀ u v,Ed n R' u v↔(Ed n R u v∨(u,v)=((x:Int),(y:Int))∨(u,v)=((y:Int),(x:Int)))
def sp_Levels_adopt (K:PySem.W.Frag) (C:Addr) (A:CA):Sp:=fun vs H Q _=>∃ (a:AL) (n:Nat) (kl kw kv:List (List Key × V)) (as:List Addr) (R:Nat→List Int) (t:Addr) (x y:Nat),vs=[.ref a.q,.ref t]∧CTs K C A∧LV C A H a n kl kw kv as R∧Wd n R∧n≤200∧x < n∧y < n∧(y:Int) ∉ R x ∧
  H t=some (.tup [.int x,.int y])∧valV kl (pk x y)=some (.int 0)∧kw.length < 100∧∀ (as':List Addr) R' H',LV C A H' a n kl (putK kw (pk x y) (.bl true)) kv as' R'→Wd n R'→Mg R R' x y→Eg n R R' x y→SB a H H'→Q .non H'
theorem len_Levels_adopt {K:PySem.W.Frag} {C:Addr} {A:CA}:∀ vs H Q E,sp_Levels_adopt K C A vs H Q E→vs.length=2:=by
  rintro vs H Q E ⟨a,n,kl,kw,kv,as,R,t,x,y,rfl,_⟩; rfl
theorem run_Levels_adopt {K : PySem.W.Frag} {C : Addr} {A : CA} : ∀ vs H Q E, sp_Levels_adopt K C A vs H Q E → rd_Levels_adopt K C A (sp_Wood_link K C) { nx := fun _ H' => Q .non H', rt := Q } (start ["self", "tie", "wood"] vs) H := by
  rintro vs H Q E ⟨a,n,kl,kw,kv,as,R,t,x,y,rfl,ct,h,D,hn,hx,hy,hxy,ht,hl0,hkw,k⟩
  unfold rd_Levels_adopt
  walk_at "x"
  refine x_fld ?_
  walk_at "x"
  refine ⟨a.q,A.Levels,a.dq,_,_,rfl,h.ob,ct.lc,ct.l2,fL2,?_⟩
  walk_at "x"
  refine .inr ⟨a.d2,_,rfl,DPut.t (k:=pk x y) h.e2 ht (small_lt (m:=100) hkw),?_⟩
  have h1:=h.set2 (ks:=putK kw (pk x y) (.bl true))
  have ht1:(upd H a.d2 (.dT (putK kw (pk x y) (.bl true)))) t=some (.tup [.int x,.int y]):=by rw [upd_ne (ne_of ht h.e2 (by intro z; cases z))]; exact ht
  have S1:SB a H (upd H a.d2 (.dT (putK kw (pk x y) (.bl true)))):=SB.d2
  generalize upd H a.d2 (.dT (putK kw (pk x y) (.bl true)))=H1 at h1 ht1 S1
  unfold lp_Levels_adopt_1
  walk_at "x"
  refine x_fld ?_
  walk_at "x"
  refine ⟨a.q,A.Levels,a.dq,_,_,rfl,h1.ob,ct.lc,ct.l4,fL4,?_⟩
  walk_at "x"
  refine x_fld ?_
  walk_at "x"
  refine ⟨a.q,A.Levels,a.dq,_,_,rfl,h1.ob,ct.lc,ct.l1,fL1,?_⟩
  walk_at "x"
  refine .inr ⟨a.d1,.int 0,rfl,.inr ⟨kl,pk x y,t,.inl h1.e1,rfl,ht1,hl0.symm⟩,?_⟩
  walk_at "x"
  refine x_slL (SqL.of h1.ls) fun s hs=>?_
  rw [cut1]
  have S2:=Same.upd_new (o:=.lst [.ref a.w]) hs
  have gs:(upd H1 s (.lst [.ref a.w])) s=some (.lst [.ref a.w]):=upd_same
  have nsl:s≠a.l:=Ne.symm (ne_of_none h1.wd.rl hs)
  generalize upd H1 s (.lst [.ref a.w])=H2 at S2 gs
  have h2:=h1.same S2
  have ht2:=S2 _ _ ht1
  refine ⟨s,rfl,?_⟩
  refine .inl ⟨⟨_,SqL.of gs⟩,for_list (K:=K) (a:=s) (xs:=[.ref a.w])
    (fun i σ H3=>H3 s=some (.lst [.ref a.w])∧((i=0∧H3=H2∧∃ o,σ = [some (.ref a.q),some (.ref t),o])∨(i=1∧∃ (as':List Addr) (R':Nat→List Int),LV C A H3 a n kl (putK kw (pk x y) (.bl true)) kv as' R'∧Wd n R'∧Mg R R' x y∧Eg n R R' x y∧SB a H2 H3)))
    ⟨gs,.inl ⟨rfl,rfl,_,rfl⟩⟩ ?_ ?_ ?_⟩
  · rintro i σ H3 _ ⟨g,_⟩; exact SqL.of g
  · rintro i z σ H3 hi ⟨g,hc⟩
    rcases hc with ⟨rfl,rfl,o,rfl⟩ | ⟨rfl,_⟩
    · cases hi
      walk_at "x"
      refine x_meth ?_
      walk_at "x"
      refine ⟨a.w,a.dw,_,rfl,h2.wd.ob,flds_no _ _ (by decide +kernel) (by decide +kernel),?_⟩
      walk_at "x"
      refine x_ixT (SqT.of ht2) (atI_of (j:=0) rfl rfl) ?_
      walk_at "x"
      refine x_ixT (SqT.of ht2) (atI_of (j:=1) rfl rfl) ?_
      walk_at "x"
      refine ⟨a.w,a.dw,a.l,n,x,y,as,R,rfl,ct.w,h2.wd,D,hn,hx,hy,hxy,fun as' R' H4 W' D' M' E' B' _=>?_⟩
      have kp:∀ {b:Addr} {o:HO},b≠a.l→H3 b=some o→H4 b=some o:=fun hb e=>B' _ _ e hb
      have nl:∀ {b:Addr} {o:HO},H3 b=some o→(∀ xs,o≠.lst xs)→b≠a.l:=fun {b o} e hno q=>by
        rw [q,h2.wd.rl] at e; cases e; exact hno _ rfl
      refine ⟨kp nsl gs,.inr ⟨rfl,as',R',⟨kp (nl h2.ob (fun _ z=>nomatch z)) h2.ob,kp (nl h2.e1 (fun _ z=>nomatch z)) h2.e1,kp (nl h2.e2 (fun _ z=>nomatch z)) h2.e2,kp (nl h2.e3 (fun _ z=>nomatch z)) h2.e3,kp h2.nL h2.ls,W',h2.n12,h2.n13,h2.n23,h2.nL⟩,D',M',E',SB.but B'⟩⟩
    · cases hi
  · rintro σ H3 ⟨g,hc⟩
    rcases hc with ⟨z,_⟩ | ⟨_,as',R',L',D',M',E',B'⟩
    · cases z
    · exact k as' R' H3 L' D' M' E' ((S1.trans (SB.of S2)).trans B')
def sp_Levels_add (K:PySem.W.Frag) (C:Addr) (A:CA):Sp:=fun vs H Q _=>∃ (a:AL) (n:Nat) (kl kw kv:List (List Key × V)) (as:List Addr) (R:Nat→List Int) (t:Addr) (x y:Nat) (wt:Int),vs=[.ref a.q,.ref t,.int wt]∧CTs K C A∧LV C A H a n kl kw kv as R∧Wd n R∧n≤200∧x < n∧y < n ∧
  H t=some (.tup [.int x,.int y])∧valV kl (pk x y)=none∧valV kw (pk x y)=none∧valV kv (pk x y)=none∧kl.length < 99∧kw.length < 99∧kv.length < 99 ∧
  ∀ (as':List Addr) R' H',LV C A H' a n (kl ++ [(pk x y,.int 0)]) (kw ++ [(pk x y,.bl (decide ((y:Int) ∉ R x)))]) (kv ++ [(pk x y,.int wt)]) as' R'→Wd n R'→(if (y:Int) ∈ R x then R'=R else Mg R R' x y∧Eg n R R' x y)→SB a H H'→Q (.bl (decide ((y:Int) ∉ R x))) H'
theorem len_Levels_add {K:PySem.W.Frag} {C:Addr} {A:CA}:∀ vs H Q E,sp_Levels_add K C A vs H Q E→vs.length=3:=by
  rintro vs H Q E ⟨a,n,kl,kw,kv,as,R,t,x,y,wt,rfl,_⟩; rfl
theorem run_Levels_add {K:PySem.W.Frag} {C:Addr} {A:CA}:∀ vs H Q E,sp_Levels_add K C A vs H Q E→rd_Levels_add K C A (sp_Wood_joined K C) (sp_Levels_adopt K C A) { nx:=fun _ H'=>Q .non H',rt:=Q } (start ["self","tie","weight"] vs) H:=by
  rintro vs H Q E ⟨a,n,kl,kw,kv,as,R,t,x,y,wt,rfl,ct,h,D,hn,hx,hy,ht,v1,v2,v3,l1,l2,l3,k⟩
  have tn:∀ {H:Hp} {d:Addr} {ks ks':List (List Key × V)},H t=some (.tup [.int x,.int y])→H d=some (.dT ks)→upd H d (.dT ks') t=some (.tup [.int x,.int y]):=fun e1 e2=>by rw [upd_ne (ne_of e1 e2 (by intro z; cases z))]; exact e1
  unfold rd_Levels_add
  walk_at "x"
  refine x_fld ?_
  walk_at "x"
  refine ⟨a.q,A.Levels,a.dq,_,_,rfl,h.ob,ct.lc,ct.l1,fL1,?_⟩
  walk_at "x"
  refine .inr ⟨a.d1,_,rfl,DPut.t (k:=pk x y) h.e1 ht (small_lt (m:=100) (by omega)),?_⟩
  rw [putK_new _ v1]
  have h1:=h.set1 (ks:=kl ++ [(pk x y,.int 0)])
  have ht1:=tn (ks':=kl ++ [(pk x y,.int 0)]) ht h.e1
  have S1:SB a H (upd H a.d1 (.dT (kl ++ [(pk x y,.int 0)]))):=SB.d1
  generalize upd H a.d1 (.dT (kl ++ [(pk x y,.int 0)]))=H1 at h1 ht1 S1
  walk_at "x"
  refine x_fld ?_
  walk_at "x"
  refine ⟨a.q,A.Levels,a.dq,_,_,rfl,h1.ob,ct.lc,ct.l2,fL2,?_⟩
  walk_at "x"
  refine .inr ⟨a.d2,_,rfl,DPut.t (k:=pk x y) h1.e2 ht1 (small_lt (m:=100) (by omega)),?_⟩
  rw [putK_new _ v2]
  have h2:=h1.set2 (ks:=kw ++ [(pk x y,.bl false)])
  have ht2:=tn (ks':=kw ++ [(pk x y,.bl false)]) ht1 h1.e2
  have S2:SB a H1 (upd H1 a.d2 (.dT (kw ++ [(pk x y,.bl false)]))):=SB.d2
  generalize upd H1 a.d2 (.dT (kw ++ [(pk x y,.bl false)]))=H2 at h2 ht2 S2
  walk_at "x"
  refine x_fld ?_
  walk_at "x"
  refine ⟨a.q,A.Levels,a.dq,_,_,rfl,h2.ob,ct.lc,ct.l3,fL3,?_⟩
  walk_at "x"
  refine .inr ⟨a.d3,_,rfl,DPut.t (k:=pk x y) h2.e3 ht2 (small_lt (m:=100) (by omega)),?_⟩
  rw [putK_new _ v3]
  have h3:=h2.set3 (ks:=kv ++ [(pk x y,.int wt)])
  have ht3:=tn (ks':=kv ++ [(pk x y,.int wt)]) ht2 h2.e3
  have S3:SB a H2 (upd H2 a.d3 (.dT (kv ++ [(pk x y,.int wt)]))):=SB.d3
  generalize upd H2 a.d3 (.dT (kv ++ [(pk x y,.int wt)]))=H3 at h3 ht3 S3
  have S:=(S1.trans S2).trans S3
  walk_at "x"
  refine x_meth ?_
  walk_at "x"
  refine x_fld ?_
  walk_at "x"
  refine ⟨a.q,A.Levels,a.dq,_,_,rfl,h3.ob,ct.lc,ct.l4,fL4,?_⟩
  walk_at "x"
  refine x_ixL (SqL.of h3.ls) (atI_of (j:=0) rfl rfl) ?_
  refine ⟨a.w,a.dw,_,rfl,h3.wd.ob,flds_no _ _ (by decide +kernel) (by decide +kernel),?_⟩
  walk_at "x"
  refine x_ixT (SqT.of ht3) (atI_of (j:=0) rfl rfl) ?_
  walk_at "x"
  refine x_ixT (SqT.of ht3) (atI_of (j:=1) rfl rfl) ?_
  walk_at "x"
  refine ⟨a.w,a.dw,a.l,n,x,y,as,R,rfl,ct.w,h3.wd,D,hx,hy,?_⟩
  refine ⟨_,rfl,?_⟩
  by_cases hj:(y:Int) ∈ R x
  · rw [decide_eq_true hj]
    rw [if_neg (by simp)]
    walk_at "x"
    refine x_fld ?_
    walk_at "x"
    refine ⟨a.q,A.Levels,a.dq,_,_,rfl,h3.ob,ct.lc,ct.l2,fL2,?_⟩
    walk_at "x"
    refine .inr ⟨a.d2,.bl false,rfl,.inr ⟨_,pk x y,t,.inl h3.e2,rfl,ht3,by rw [valV_snoc _ _ _ _ v2,if_pos rfl]⟩,?_⟩
    rw [show decide ((y:Int) ∉ R x)=false from decide_eq_false fun z=>z hj] at k
    exact k as R H3 h3 D (by rw [if_pos hj]) S
  · rw [decide_eq_false hj]
    rw [if_pos (by simp)]
    walk_at "x"
    refine x_meth ?_
    walk_at "x"
    refine ⟨a.q,a.dq,_,rfl,h3.ob,fL0 (by decide +kernel) (by decide +kernel) (by decide +kernel) (by decide +kernel),?_⟩
    walk_at "x"
    refine ⟨a,n,_,_,_,as,R,t,x,y,rfl,ct,h3,D,hn,hx,hy,hj,ht3,by rw [valV_snoc _ _ _ _ v1,if_pos rfl],by simp; omega,fun as' R' H4 h4 D' M' E' S4=>?_⟩
    rw [putK_last v2] at h4
    have ht4:H4 t=some (.tup [.int x,.int y]):=S4 _ _ (ne_of ht3 h3.e1 (by intro z; cases z)) (ne_of ht3 h3.e2 (by intro z; cases z)) (ne_of ht3 h3.e3 (by intro z; cases z)) (ne_of ht3 h3.wd.rl (by intro z; cases z)) ht3
    walk_at "x"
    refine x_fld ?_
    walk_at "x"
    refine ⟨a.q,A.Levels,a.dq,_,_,rfl,h4.ob,ct.lc,ct.l2,fL2,?_⟩
    walk_at "x"
    refine .inr ⟨a.d2,.bl true,rfl,.inr ⟨_,pk x y,t,.inl h4.e2,rfl,ht4,by rw [valV_snoc _ _ _ _ v2,if_pos rfl]⟩,?_⟩
    rw [show decide ((y:Int) ∉ R x)=true from decide_eq_true hj] at k
    exact k as' R' H4 h4 D' (by rw [if_neg hj]; exact ⟨M',E'⟩) (S.trans S4)
end K51
namespace K51
open Rm
theorem x_make {C:Addr} {sp:Sp} {dvs:List V} {E:XK} {t:TA} {σ:L2.St} {H:Hp} {Q:VK} (h:t σ H fun vs H1=>∀ x dx,H1 x=none→H1 dx=none→dx≠x→sp (.ref x :: (vs ++ dvs)) (upd (upd H1 dx (.own x)) x (.ins C dx [])) (fun v H2=>v = .non∧Q (.ref x) H2) E):tMake C sp dvs E t σ H Q:=h
theorem x_dnewT {σ:L2.St} {H:Hp} {Q:VK} (h:∀ p,H p=none→Q (.ref p) (upd H p (.dT []))):tDNewT σ H Q:=h
theorem Top.small {n : Int} {j : Nat} (h : Top n j) (hn : n ≤ 200) : j < 8 := by
  rcases h.1 with z | z
  · omega
  · by_cases c:j < 8
    · exact c
    · have:(2:Int) ^ 8≤2 ^ j:=by
        have e:(2:Int) ^ j=2 ^ (j - 8) * 2 ^ 8:=by rw [← Int.pow_add]; congr 1; omega
        have h1:(1:Int)≤2 ^ (j - 8):=pow_pos' (j - 8)
        rw [e]
        have:=Int.mul_le_mul_of_nonneg_right h1 (show (0:Int)≤2 ^ 8 by decide)
        omega
      have e8:(2:Int) ^ 8=256:=by decide
      omega
theorem WA.out {C:Addr} {H:Hp} {p dx l c:Addr} {n:Nat} {as:List Addr} {R:Nat→List Int} {o:HO} (W:WA C H p dx l n as R) (h1:p≠c) (h2:l≠c) (h3:∀ a ∈ as,a≠c):WA C (upd H c o) p dx l n as R :=
  ⟨by rw [upd_ne h1]; exact W.ob,by rw [upd_ne h2]; exact W.rl,W.len,fun i a h=>by rw [upd_ne (h3 a (List.mem_of_getElem? h))]; exact W.at_ i a h,W.ne⟩
def sp_Levels___init__ (K:PySem.W.Frag) (C:Addr) (A:CA):Sp:=fun vs H Q _=>∃ (q dq:Addr) (n:Nat),vs=[.ref q,.int n]∧H q=some (.ins A.Levels dq [])∧CTs K C A∧1≤n∧n≤200 ∧
  ∀ (a:AL) (as:List Addr) (H':Hp),a.q=q→a.dq=dq→LV C A H' a n [] [] [] as (fun i=>[(i:Int)])→SameBut1 q H H'→H a.d1=none→H a.d2=none→H a.d3=none→H a.l=none→Q .non H'
theorem len_Levels___init__ {K:PySem.W.Frag} {C:Addr} {A:CA}:∀ vs H Q E,sp_Levels___init__ K C A vs H Q E→vs.length=2:=by
  rintro vs H Q E ⟨q,dq,n,rfl,_⟩; rfl
theorem run_Levels___init__ {K:PySem.W.Frag} {C:Addr} {A:CA}:∀ vs H Q E,sp_Levels___init__ K C A vs H Q E→rd_Levels___init__ K C A (sp_Wood___init__ K C) (sp_top K C) { nx:=fun _ H'=>Q .non H',rt:=Q } (start ["self","n"] vs) H:=by
  rintro vs H Q E ⟨q,dq,n,rfl,hq,ct,hn1,hn2,k⟩
  unfold rd_Levels___init__
  walk_at "x1"
  refine x_sfld (x_dnewT fun d1 hd1=>?_)
  walk_at "x"
  have nq1:q≠d1:=ne_of_none hq hd1
  refine ⟨q,A.Levels,dq,[],rfl,by rw [upd_ne nq1]; exact hq,ct.lc,ct.l1,by decide,?_⟩
  have g1:(upd (upd H d1 (.dT [])) q (.ins A.Levels dq (putF "level_of" (.ref d1) []))) q=some (.ins A.Levels dq [("level_of",.ref d1)]):=upd_same
  have e1:(upd (upd H d1 (.dT [])) q (.ins A.Levels dq (putF "level_of" (.ref d1) []))) d1=some (.dT []):=by rw [upd_ne (Ne.symm nq1)]; exact upd_same
  have B1:SameBut1 q H (upd (upd H d1 (.dT [])) q (.ins A.Levels dq (putF "level_of" (.ref d1) []))):=fun b o e hb=>by rw [upd_ne hb,upd_ne (ne_of_none e hd1)]; exact e
  generalize upd (upd H d1 (.dT [])) q (.ins A.Levels dq (putF "level_of" (.ref d1) []))=H1 at g1 e1 B1
  dsimp only
  walk_at "x1"
  refine x_sfld (x_dnewT fun d2 hd2=>?_)
  walk_at "x"
  have nq2:q≠d2:=ne_of_none g1 hd2
  refine ⟨q,A.Levels,dq,_,rfl,by rw [upd_ne nq2]; exact g1,ct.lc,ct.l2,by show 1 < 1000; decide,?_⟩
  rw [putF_ne (by decide +kernel)]
  have g2:(upd (upd H1 d2 (.dT [])) q (.ins A.Levels dq (("level_of",.ref d1) :: putF "wooden" (.ref d2) []))) q=some (.ins A.Levels dq [("level_of",.ref d1),("wooden",.ref d2)]):=upd_same
  have e2:(upd (upd H1 d2 (.dT [])) q (.ins A.Levels dq (("level_of",.ref d1) :: putF "wooden" (.ref d2) []))) d2=some (.dT []):=by rw [upd_ne (Ne.symm nq2)]; exact upd_same
  have B2:SameBut1 q H1 (upd (upd H1 d2 (.dT [])) q (.ins A.Levels dq (("level_of",.ref d1) :: putF "wooden" (.ref d2) []))):=fun b o e hb=>by rw [upd_ne hb,upd_ne (ne_of_none e hd2)]; exact e
  have n12:d1≠d2:=ne_of_none e1 hd2
  generalize upd (upd H1 d2 (.dT [])) q (.ins A.Levels dq (("level_of",.ref d1) :: putF "wooden" (.ref d2) []))=H2 at g2 e2 B2
  dsimp only
  walk_at "x1"
  refine x_sfld (x_dnewT fun d3 hd3=>?_)
  walk_at "x"
  have nq3:q≠d3:=ne_of_none g2 hd3
  refine ⟨q,A.Levels,dq,_,rfl,by rw [upd_ne nq3]; exact g2,ct.lc,ct.l3,by show 2 < 1000; decide,?_⟩
  rw [putF_ne (by decide +kernel),putF_ne (by decide +kernel)]
  have g3:(upd (upd H2 d3 (.dT [])) q (.ins A.Levels dq (("level_of",.ref d1) :: ("wooden",.ref d2) :: putF "weight_of" (.ref d3) []))) q=some (.ins A.Levels dq [("level_of",.ref d1),("wooden",.ref d2),("weight_of",.ref d3)]):=upd_same
  have e3:(upd (upd H2 d3 (.dT [])) q (.ins A.Levels dq (("level_of",.ref d1) :: ("wooden",.ref d2) :: putF "weight_of" (.ref d3) []))) d3=some (.dT []):=by rw [upd_ne (Ne.symm nq3)]; exact upd_same
  have B3:SameBut1 q H2 (upd (upd H2 d3 (.dT [])) q (.ins A.Levels dq (("level_of",.ref d1) :: ("wooden",.ref d2) :: putF "weight_of" (.ref d3) []))):=fun b o e hb=>by rw [upd_ne hb,upd_ne (ne_of_none e hd3)]; exact e
  have n23:d2≠d3:=ne_of_none e2 hd3
  have n13:d1≠d3:=ne_of_none (B2 _ _ e1 (Ne.symm nq1)) hd3
  generalize upd (upd H2 d3 (.dT [])) q (.ins A.Levels dq (("level_of",.ref d1) :: ("wooden",.ref d2) :: putF "weight_of" (.ref d3) []))=H3 at g3 e3 B3
  have B:=(B1.trans B2).trans B3
  have f1:=B3 _ _ (B2 _ _ e1 (Ne.symm nq1)) (Ne.symm nq1)
  have f2:=B3 _ _ e2 (Ne.symm nq2)
  have fr:∀ {b:Addr},b≠q→H3 b=none→H b=none:=fun {b} hb e=>by
    cases z:H b with
    | none=>rfl
    | some o=>rw [B _ _ z hb] at e; cases e
  have fr2:∀ {b:Addr},b≠q→H2 b=none→H b=none:=fun {b} hb e=>by
    cases z:H b with
    | none=>rfl
    | some o=>rw [(B1.trans B2) _ _ z hb] at e; cases e
  have fr1:∀ {b:Addr},b≠q→H1 b=none→H b=none:=fun {b} hb e=>by
    cases z:H b with
    | none=>rfl
    | some o=>rw [B1 _ _ z hb] at e; cases e
  dsimp only
  refine x_sfld ?_
  walk_at "x"
  refine ⟨n,rfl,fun j hj=>?_⟩
  have hj8:=hj.small (by omega)
  walk_at "x"
  refine ⟨by omega,by omega,fun acc hacc=>?_⟩
  have e0:(((j:Int)+1)).toNat=j+1:=by omega
  rw [e0]
  refine comp_by (n:=j+1) (fun t ys H4=>H4 acc=some (.lst ys)∧Same H3 H4∧((t=0∧ys=[])∨∃ (w dw l:Addr) (as:List Addr) (rest:List V),ys = .ref w :: rest∧WA C H4 w dw l n as (fun i=>[(i:Int)])∧w≠acc∧l≠acc∧(∀ a ∈ as,a≠acc)∧H3 l=none)∧ys.length=t) (fun σ=>∃ o,σ = [o,some (.int n)]) ⟨upd_same,Same.upd_new hacc,.inl ⟨rfl,rfl⟩,rfl⟩ ⟨_,rfl⟩ ?_ ?_ ?_ ?_
  · rintro t ys H4 ⟨h,_⟩; exact h
  · rintro ys H4 ⟨g4,S4,hc,hl⟩
    refine ⟨Nat.le_refl _,?_⟩
    rcases hc with ⟨z,_⟩ | ⟨w,dw,l,as,rest,rfl,W,n1,n2,n3,hl0⟩
    · cases z
    walk_at "x"
    refine ⟨q,A.Levels,dq,_,rfl,S4 _ _ g3,ct.lc,ct.l4,by show 3 < 1000; decide,?_⟩
    rw [putF_ne (by decide +kernel),putF_ne (by decide +kernel),putF_ne (by decide +kernel)]
    have naq:acc≠q:=fun z=>by rw [z,g3] at hacc; cases hacc
    have hb:SameBut1 q H4 (upd H4 q (.ins A.Levels dq (("level_of",.ref d1) :: ("wooden",.ref d2) :: ("weight_of",.ref d3) :: putF "woods" (.ref acc) []))):=SameBut1.upd
    have nl:∀ {b:Addr} {o:HO},H4 b=some o→(∀ x y z,o≠.ins x y z)→b≠q:=fun {b o} e hno z=>by rw [z,S4 _ _ g3] at e; cases e; exact hno _ _ _ rfl
    have nwq:w≠q:=fun z=>by
      have:=W.ob
      rw [z,S4 _ _ g3] at this
      cases this
    refine k ⟨q,dq,d1,d2,d3,acc,w,dw,l,rest⟩ as _ rfl rfl ⟨upd_same,hb _ _ (S4 _ _ f1) (Ne.symm nq1),hb _ _ (S4 _ _ f2) (Ne.symm nq2),hb _ _ (S4 _ _ e3) (Ne.symm nq3),hb _ _ g4 naq,?_,n12,n13,n23,Ne.symm n2⟩ (fun b o e hne=>hb _ _ (S4 _ _ (B _ _ e hne)) hne) hd1 (fr1 (Ne.symm nq2) hd2) (fr2 (Ne.symm nq3) hd3) (fr (nl W.rl (fun _ _ _ z=>nomatch z)) hl0)
    exact W.out nwq (nl W.rl (fun _ _ _ z=>nomatch z)) fun a ha=>by
      obtain ⟨i,hi⟩:=List.mem_iff_getElem?.mp ha
      exact nl (W.at_ i a hi) (fun _ _ _ z=>nomatch z)
  · rintro t ys H4 ht _; exact ht
  · rintro t ys σ' H4 x H5 ht ⟨g4,S4,hc,hl⟩ ⟨o,rfl⟩ ⟨eH,ex⟩
    subst eH ex
    walk_at "x"
    refine iteT ?_
    refine x_make ?_
    walk_at "x"
    intro xw dxw hx hdx hne
    have T0:Same H5 (upd (upd H5 dxw (.own xw)) xw (.ins C dxw [])):=fun b o e=>by rw [upd_ne (ne_of_none e hx),upd_ne (ne_of_none e hdx)]; exact e
    refine ⟨xw,dxw,n,rfl,upd_same,ct.w,by omega,fun l as H6 W hl6 B6=>⟨rfl,?_⟩⟩
    have T:Same H5 H6:=fun b o e=>B6 _ _ (T0 _ _ e) (ne_of_none e hx)
    have fr5:∀ {b:Addr},H6 b=none→H5 b=none:=fun {b} e=>by
      cases z:H5 b with
      | none=>rfl
      | some o=>rw [T _ _ z] at e; cases e
    have hl5:H5 l=none:=by
      cases z:H5 l with
      | none=>rfl
      | some o=>rw [T0 _ _ z] at hl6; cases hl6
    have h3l:H3 l=none:=by
      cases z:H3 l with
      | none=>rfl
      | some o=>rw [S4 _ _ z] at hl5; cases hl5
    have nxa:xw≠acc:=Ne.symm (ne_of_none g4 hx)
    have nla:l≠acc:=Ne.symm (ne_of_none g4 hl5)
    have naa:∀ a ∈ as,a≠acc:=fun a ha z=>by
      obtain ⟨i,hi⟩:=List.mem_iff_getElem?.mp ha
      have h1:=W.at_ i a hi
      rw [z,T _ _ g4] at h1
      rcases hc with ⟨_,rfl⟩ | ⟨w,dw,l',as',rest,rfl,_⟩
      · cases h1
      · cases h1
    have SA:Same H3 (upd H6 acc (.lst (ys ++ [.ref xw]))):=fun b o e=>by rw [upd_ne (ne_of_none e hacc)]; exact T _ _ (S4 _ _ e)
    refine ⟨T _ _ g4,small_lt (m:=100) (by omega),CNext.mk' ht ⟨_,rfl⟩ ⟨upd_same,SA,.inr ?_,by simp [hl]⟩⟩
    rcases hc with ⟨_,rfl⟩ | ⟨w,dw,l',as',rest,rfl,W',m1,m2,m3,m4⟩
    · exact ⟨xw,dxw,l,as,[],rfl,W.out nxa nla naa,nxa,nla,naa,h3l⟩
    · exact ⟨w,dw,l',as',rest ++ [.ref xw],by simp,(W'.same T).out m1 m2 m3,m1,m2,m3,m4⟩
end K51
namespace K51
open Rm
theorem x_fldaug {K:PySem.W.Frag} {ta tv:TE} {rd:V→V→Hp→VK→Prop} {f:Str} {D:Ends} {σ:L2.St} {H:Hp} (h:ta σ H fun x H1=>∃ a C dx fs v,x = .ref a∧H1 a=some (.ins C dx fs)∧Cls K C∧NoAttr K C f∧fs.lookup f=some v ∧
  tv σ H1 fun y H2=>rd v y H2 fun z H3=>∃ dx' fs',H3 a=some (.ins C dx' fs')∧fs'.length < 1000∧D.nx σ (upd H3 a (.ins C dx' (putF f z fs')))):sFldAug K ta tv rd f D σ H:=h
def fK (n:Nat) (q w:Addr) (c:Int):List (Str × V):=[("n",.int n),("levels",.ref q),("wood",.ref w),("came",.int c),("looked",.int 0),("risen",.int 0),("lost",.int 0)]
theorem fK2 {n:Nat} {q w:Addr} {c:Int}:(fK n q w c).lookup ("levels":Str)=some (.ref q):=by unfold fK; rw [lk_ne (by decide +kernel)]; exact lk_eq
theorem fK3 {n:Nat} {q w:Addr} {c:Int}:(fK n q w c).lookup ("wood":Str)=some (.ref w):=by unfold fK; rw [lk_ne (by decide +kernel),lk_ne (by decide +kernel)]; exact lk_eq
theorem fK4 {n:Nat} {q w:Addr} {c:Int}:(fK n q w c).lookup ("came":Str)=some (.int c):=by unfold fK; rw [lk_ne (by decide +kernel),lk_ne (by decide +kernel),lk_ne (by decide +kernel)]; exact lk_eq
theorem fK0 {n:Nat} {q w:Addr} {c:Int} {m:Str} (h1:¬ m = "n":=by decide +kernel) (h2:¬ m = "levels":=by decide +kernel) (h3:¬ m = "wood":=by decide +kernel) (h4:¬ m = "came":=by decide +kernel) (h5:¬ m = "looked":=by decide +kernel) (h6:¬ m = "risen":=by decide +kernel) (h7:¬ m = "lost":=by decide +kernel):(fK n q w c).lookup m=none:=by unfold fK; rw [lk_ne h1,lk_ne h2,lk_ne h3,lk_ne h4,lk_ne h5,lk_ne h6,lk_ne h7]; rfl
theorem fKp {n:Nat} {q w:Addr} {c c':Int}:putF "came" (.int c') (fK n q w c)=fK n q w c':=by unfold fK; rw [putF_ne (by decide +kernel),putF_ne (by decide +kernel),putF_ne (by decide +kernel),putF_eq]
structure KA (C:Addr) (A:CA) (H:Hp) (p dx:Addr) (c:Int) (a:AL) (n:Nat) (kl kw kv:List (List Key × V)) (as:List Addr) (R:Nat→List Int):Prop where
  ob:H p=some (.ins A.Lightest dx (fK n a.q a.w c))
  lv:LV C A H a n kl kw kv as R
  npq:p≠a.q
  npw:p≠a.w
section
variable {C:Addr} {A:CA} {H H':Hp} {p dx:Addr} {c:Int} {a:AL} {n:Nat} {kl kw kv:List (List Key × V)} {as:List Addr} {R:Nat→List Int}
theorem KA.same (h:KA C A H p dx c a n kl kw kv as R) (S:Same H H'):KA C A H' p dx c a n kl kw kv as R:=⟨S _ _ h.ob,h.lv.same S,h.npq,h.npw⟩
theorem LV.outI {y:Addr} {x z:Addr} {fs fs':List (Str × V)} (h:LV C A H a n kl kw kv as R) (hp:H p=some (.ins x y fs)) (h1:p≠a.q) (h2:p≠a.w) {y':Addr}:LV C A (upd H p (.ins z y' fs')) a n kl kw kv as R:=by
  have ne:∀ {b:Addr} {o:HO},H b=some o→(∀ x y z,o≠.ins x y z)→b≠p:=fun {b o} e hno q=>by rw [q,hp] at e; cases e; exact hno _ _ _ rfl
  refine ⟨by rw [upd_ne (Ne.symm h1)]; exact h.ob,by rw [upd_ne (ne h.e1 (fun _ _ _ z=>nomatch z))]; exact h.e1,by rw [upd_ne (ne h.e2 (fun _ _ _ z=>nomatch z))]; exact h.e2,by rw [upd_ne (ne h.e3 (fun _ _ _ z=>nomatch z))]; exact h.e3,by rw [upd_ne (ne h.ls (fun _ _ _ z=>nomatch z))]; exact h.ls,?_,h.n12,h.n13,h.n23,h.nL⟩
  exact h.wd.out (Ne.symm h2) (ne h.wd.rl (fun _ _ _ z=>nomatch z)) fun b hb=>by
    obtain ⟨i,hi⟩:=List.mem_iff_getElem?.mp hb
    exact ne (h.wd.at_ i b hi) (fun _ _ _ z=>nomatch z)
end
def sp_Kept___init__ (K:PySem.W.Frag) (C:Addr) (A:CA):Sp:=fun vs H Q _=>∃ (p dx:Addr) (n:Nat),vs=[.ref p,.int n]∧H p=some (.ins A.Lightest dx [])∧CTs K C A∧1≤n∧n≤200 ∧
  ∀ (a:AL) (as:List Addr) (H':Hp),KA C A H' p dx 0 a n [] [] [] as (fun i=>[(i:Int)])→SameBut1 p H H'→H a.d1=none→H a.d2=none→H a.d3=none→H a.l=none→Q .non H'
theorem len_Kept___init__ {K:PySem.W.Frag} {C:Addr} {A:CA}:∀ vs H Q E,sp_Kept___init__ K C A vs H Q E→vs.length=2:=by
  rintro vs H Q E ⟨q,dq,n,rfl,_⟩; rfl
theorem run_Kept___init__ {K:PySem.W.Frag} {C:Addr} {A:CA}:∀ vs H Q E,sp_Kept___init__ K C A vs H Q E→rd_Kept___init__ K C A (sp_Levels___init__ K C A) (sp_is_count K C) { nx:=fun _ H'=>Q .non H',rt:=Q } (start ["self","n"] vs) H:=by
  rintro vs H Q E ⟨p,dx,n,rfl,hp,ct,hn1,hn2,k⟩
  unfold rd_Kept___init__
  walk_at "x"
  refine ⟨n,rfl,hn1,hn2,?_⟩
  refine ⟨_,rfl,?_⟩
  rw [if_neg (by simp)]
  walk_at "x"
  refine x_sfld ?_
  walk_at "x"
  refine ⟨p,A.Lightest,dx,[],rfl,hp,ct.kc,ct.k1,by decide,?_⟩
  have g1:(upd H p (.ins A.Lightest dx (putF "n" (.int n) []))) p=some (.ins A.Lightest dx [("n",.int n)]):=upd_same
  have B1:SameBut1 p H (upd H p (.ins A.Lightest dx (putF "n" (.int n) []))):=SameBut1.upd
  generalize upd H p (.ins A.Lightest dx (putF "n" (.int n) []))=H1 at g1 B1
  dsimp only
  walk_at "x1"
  refine x_sfld (x_make ?_)
  walk_at "x"
  intro q dq hq hdq hne
  have T0:Same H1 (upd (upd H1 dq (.own q)) q (.ins A.Levels dq [])):=fun b o e=>by rw [upd_ne (ne_of_none e hq),upd_ne (ne_of_none e hdq)]; exact e
  have npq:p≠q:=ne_of_none g1 hq
  refine ⟨q,dq,n,rfl,upd_same,ct,hn1,hn2,fun a as H2 ea ed L B2 m1 m2 m3 m4=>⟨rfl,?_⟩⟩
  subst ea ed
  have T1:Same H1 H2:=fun b o e=>B2 _ _ (T0 _ _ e) (ne_of_none e hq)
  have fr:∀ {b:Addr},b≠p→(upd (upd H1 a.dq (.own a.q)) a.q (.ins A.Levels a.dq [])) b=none→H b=none:=fun {b} hb e=>by
    cases z:H b with
    | none=>rfl
    | some o=>rw [T0 _ _ (B1 _ _ z hb)] at e; cases e
  have g2:=T1 _ _ g1
  have npw:p≠a.w:=fun z=>by
    have:=L.wd.ob
    rw [← z,g2] at this
    cases this
  have ni:∀ {b:Addr} {o:HO},H2 b=some o→(∀ x y z,o≠.ins x y z)→b≠p:=fun {b o} e hno z=>by rw [z,g2] at e; cases e; exact hno _ _ _ rfl
  have F1:=fr (ni L.e1 (fun _ _ _ z=>nomatch z)) m1
  have F2:=fr (ni L.e2 (fun _ _ _ z=>nomatch z)) m2
  have F3:=fr (ni L.e3 (fun _ _ _ z=>nomatch z)) m3
  have F4:=fr (ni L.wd.rl (fun _ _ _ z=>nomatch z)) m4
  have BB:SameBut1 p H H2:=fun b o e hb=>T1 _ _ (B1 _ _ e hb)
  walk_at "x"
  refine ⟨p,A.Lightest,dx,_,rfl,g2,ct.kc,ct.k2,by show 1 < 1000; decide,?_⟩
  rw [putF_ne (by decide +kernel)]
  have L3:=L.outI (z:=A.Lightest) (y':=dx) (fs':=("n",.int n) :: putF "levels" (.ref a.q) []) g2 npq npw
  have g3:(upd H2 p (.ins A.Lightest dx (("n",.int n) :: putF "levels" (.ref a.q) []))) p=some (.ins A.Lightest dx [("n",.int n),("levels",.ref a.q)]):=upd_same
  have B3:SameBut1 p H (upd H2 p (.ins A.Lightest dx (("n",.int n) :: putF "levels" (.ref a.q) []))):=BB.trans SameBut1.upd
  generalize upd H2 p (.ins A.Lightest dx (("n",.int n) :: putF "levels" (.ref a.q) []))=H3 at L3 g3 B3
  dsimp only
  walk_at "x1"
  refine x_sfld ?_
  walk_at "x"
  refine x_fld ?_
  refine x_fld ?_
  walk_at "x"
  refine ⟨p,A.Lightest,dx,_,_,rfl,g3,ct.kc,ct.k2,by rw [lk_ne (by decide +kernel)]; exact lk_eq,?_⟩
  refine ⟨a.q,A.Levels,a.dq,_,_,rfl,L3.ob,ct.lc,ct.l4,fL4,?_⟩
  walk_at "x"
  refine x_ixL (SqL.of L3.ls) (atI_of (j:=0) rfl rfl) ?_
  walk_at "x"
  refine ⟨p,A.Lightest,dx,_,rfl,g3,ct.kc,ct.k3,by show 2 < 1000; decide,?_⟩
  rw [putF_ne (by decide +kernel),putF_ne (by decide +kernel)]
  have L4:=L3.outI (z:=A.Lightest) (y':=dx) (fs':=("n",.int n) :: ("levels",.ref a.q) :: putF "wood" (.ref a.w) []) g3 npq npw
  have g4:(upd H3 p (.ins A.Lightest dx (("n",.int n) :: ("levels",.ref a.q) :: putF "wood" (.ref a.w) []))) p=some (.ins A.Lightest dx [("n",.int n),("levels",.ref a.q),("wood",.ref a.w)]):=upd_same
  have B4:SameBut1 p H (upd H3 p (.ins A.Lightest dx (("n",.int n) :: ("levels",.ref a.q) :: putF "wood" (.ref a.w) []))):=B3.trans SameBut1.upd
  generalize upd H3 p (.ins A.Lightest dx (("n",.int n) :: ("levels",.ref a.q) :: putF "wood" (.ref a.w) []))=H4 at L4 g4 B4
  dsimp only
  walk_at "x1"
  refine x_sfld ?_
  walk_at "x"
  refine ⟨p,A.Lightest,dx,_,rfl,g4,ct.kc,ct.k4,by show 3 < 1000; decide,?_⟩
  rw [putF_ne (by decide +kernel),putF_ne (by decide +kernel),putF_ne (by decide +kernel)]
  have L5:=L4.outI (z:=A.Lightest) (y':=dx) (fs':=("n",.int n) :: ("levels",.ref a.q) :: ("wood",.ref a.w) :: putF "came" (.int 0) []) g4 npq npw
  have g5:(upd H4 p (.ins A.Lightest dx (("n",.int n) :: ("levels",.ref a.q) :: ("wood",.ref a.w) :: putF "came" (.int 0) []))) p=some (.ins A.Lightest dx [("n",.int n),("levels",.ref a.q),("wood",.ref a.w),("came",.int 0)]):=upd_same
  have B5:SameBut1 p H (upd H4 p (.ins A.Lightest dx (("n",.int n) :: ("levels",.ref a.q) :: ("wood",.ref a.w) :: putF "came" (.int 0) []))):=B4.trans SameBut1.upd
  generalize upd H4 p (.ins A.Lightest dx (("n",.int n) :: ("levels",.ref a.q) :: ("wood",.ref a.w) :: putF "came" (.int 0) []))=H5 at L5 g5 B5
  dsimp only
  walk_at "x1"
  refine x_sfld ?_
  walk_at "x"
  refine ⟨p,A.Lightest,dx,_,rfl,g5,ct.kc,ct.k5,by show 4 < 1000; decide,?_⟩
  rw [putF_ne (by decide +kernel),putF_ne (by decide +kernel),putF_ne (by decide +kernel),putF_ne (by decide +kernel)]
  have L6:=L5.outI (z:=A.Lightest) (y':=dx) (fs':=("n",.int n) :: ("levels",.ref a.q) :: ("wood",.ref a.w) :: ("came",.int 0) :: putF "looked" (.int 0) []) g5 npq npw
  have g6:(upd H5 p (.ins A.Lightest dx (("n",.int n) :: ("levels",.ref a.q) :: ("wood",.ref a.w) :: ("came",.int 0) :: putF "looked" (.int 0) []))) p=some (.ins A.Lightest dx [("n",.int n),("levels",.ref a.q),("wood",.ref a.w),("came",.int 0),("looked",.int 0)]):=upd_same
  have B6:SameBut1 p H (upd H5 p (.ins A.Lightest dx (("n",.int n) :: ("levels",.ref a.q) :: ("wood",.ref a.w) :: ("came",.int 0) :: putF "looked" (.int 0) []))):=B5.trans SameBut1.upd
  generalize upd H5 p (.ins A.Lightest dx (("n",.int n) :: ("levels",.ref a.q) :: ("wood",.ref a.w) :: ("came",.int 0) :: putF "looked" (.int 0) []))=H6 at L6 g6 B6
  dsimp only
  walk_at "x1"
  refine x_sfld ?_
  walk_at "x"
  refine ⟨p,A.Lightest,dx,_,rfl,g6,ct.kc,ct.k6,by show 5 < 1000; decide,?_⟩
  rw [putF_ne (by decide +kernel),putF_ne (by decide +kernel),putF_ne (by decide +kernel),putF_ne (by decide +kernel),putF_ne (by decide +kernel)]
  have L7:=L6.outI (z:=A.Lightest) (y':=dx) (fs':=("n",.int n) :: ("levels",.ref a.q) :: ("wood",.ref a.w) :: ("came",.int 0) :: ("looked",.int 0) :: putF "risen" (.int 0) []) g6 npq npw
  have g7:(upd H6 p (.ins A.Lightest dx (("n",.int n) :: ("levels",.ref a.q) :: ("wood",.ref a.w) :: ("came",.int 0) :: ("looked",.int 0) :: putF "risen" (.int 0) []))) p=some (.ins A.Lightest dx [("n",.int n),("levels",.ref a.q),("wood",.ref a.w),("came",.int 0),("looked",.int 0),("risen",.int 0)]):=upd_same
  have B7:SameBut1 p H (upd H6 p (.ins A.Lightest dx (("n",.int n) :: ("levels",.ref a.q) :: ("wood",.ref a.w) :: ("came",.int 0) :: ("looked",.int 0) :: putF "risen" (.int 0) []))):=B6.trans SameBut1.upd
  generalize upd H6 p (.ins A.Lightest dx (("n",.int n) :: ("levels",.ref a.q) :: ("wood",.ref a.w) :: ("came",.int 0) :: ("looked",.int 0) :: putF "risen" (.int 0) []))=H7 at L7 g7 B7
  dsimp only
  refine x_sfld ?_
  walk_at "x"
  refine ⟨p,A.Lightest,dx,_,rfl,g7,ct.kc,ct.k7,by show 6 < 1000; decide,?_⟩
  rw [putF_ne (by decide +kernel),putF_ne (by decide +kernel),putF_ne (by decide +kernel),putF_ne (by decide +kernel),putF_ne (by decide +kernel),putF_ne (by decide +kernel)]
  exact k a as _ ⟨upd_same,L7.outI g7 npq npw,npq,npw⟩ (B7.trans SameBut1.upd) F1 F2 F3 F4
end K51
namespace K51
open Rm
def SP (p:Addr) (a:AL) (H H':Hp):Prop:=∀ b o,b≠p→b≠a.d1→b≠a.d2→b≠a.d3→b≠a.l→H b=some o→H' b=some o
def sp_Kept_receive (K:PySem.W.Frag) (C:Addr) (A:CA):Sp:=fun vs H Q _=>∃ (p dx:Addr) (c:Int) (a:AL) (n:Nat) (kl kw kv:List (List Key × V)) (as:List Addr) (R:Nat→List Int) (t:Addr) (x y:Nat) (wt:Int),vs=[.ref p,.ref t,.int wt]∧CTs K C A∧KA C A H p dx c a n kl kw kv as R∧Wd n R∧n≤200∧x < n∧y < n ∧
  H t=some (.tup [.int x,.int y])∧valV kl (pk x y)=none∧valV kw (pk x y)=none∧valV kv (pk x y)=none∧kl.length < 99∧kw.length < 99∧kv.length < 99 ∧
  ∀ (as':List Addr) R' H',KA C A H' p dx (c+1) a n (kl ++ [(pk x y,.int 0)]) (kw ++ [(pk x y,.bl (decide ((y:Int) ∉ R x)))]) (kv ++ [(pk x y,.int wt)]) as' R'→Wd n R'→(if (y:Int) ∈ R x then R'=R else Mg R R' x y∧Eg n R R' x y)→SP p a H H'→Q (.bl (decide ((y:Int) ∉ R x))) H'
theorem len_Kept_receive {K:PySem.W.Frag} {C:Addr} {A:CA}:∀ vs H Q E,sp_Kept_receive K C A vs H Q E→vs.length=3:=by
  rintro vs H Q E ⟨p,dx,c,a,n,kl,kw,kv,as,R,t,x,y,wt,rfl,_⟩; rfl
theorem run_Kept_receive {K:PySem.W.Frag} {C:Addr} {A:CA}:∀ vs H Q E,sp_Kept_receive K C A vs H Q E→rd_Kept_receive K C A (sp_Levels_add K C A) { nx:=fun _ H'=>Q .non H',rt:=Q } (start ["self","tie","weight"] vs) H:=by
  rintro vs H Q E ⟨p,dx,c,a,n,kl,kw,kv,as,R,t,x,y,wt,rfl,ct,h,D,hn,hx,hy,ht,v1,v2,v3,l1,l2,l3,k⟩
  unfold rd_Kept_receive
  walk_at "x"
  refine x_fldaug ?_
  walk_at "x"
  refine ⟨p,A.Lightest,dx,_,_,rfl,h.ob,ct.kc,ct.k4,fK4,?_⟩
  walk_at "x"
  refine ⟨c,1,rfl,rfl,dx,_,h.ob,by show 7 < 1000; decide,?_⟩
  rw [fKp]
  have ni:∀ {b:Addr} {o:HO},H b=some o→(∀ x y z,o≠.ins x y z)→b≠p:=fun {b o} e hno z=>by rw [z,h.ob] at e; cases e; exact hno _ _ _ rfl
  have h1:KA C A (upd H p (.ins A.Lightest dx (fK n a.q a.w (c+1)))) p dx (c+1) a n kl kw kv as R:=⟨upd_same,h.lv.outI h.ob h.npq h.npw,h.npq,h.npw⟩
  have ht1:(upd H p (.ins A.Lightest dx (fK n a.q a.w (c+1)))) t=some (.tup [.int x,.int y]):=by rw [upd_ne (ni ht (fun _ _ _ z=>nomatch z))]; exact ht
  have B1:SameBut1 p H (upd H p (.ins A.Lightest dx (fK n a.q a.w (c+1)))):=SameBut1.upd
  generalize upd H p (.ins A.Lightest dx (fK n a.q a.w (c+1)))=H1 at h1 ht1 B1
  dsimp only
  walk_at "x"
  refine x_meth ?_
  refine x_fld ?_
  walk_at "x"
  refine ⟨p,A.Lightest,dx,_,_,rfl,h1.ob,ct.kc,ct.k2,fK2,?_⟩
  refine ⟨a.q,a.dq,_,rfl,h1.lv.ob,fL0 (by decide +kernel) (by decide +kernel) (by decide +kernel) (by decide +kernel),?_⟩
  walk_at "x"
  refine ⟨a,n,kl,kw,kv,as,R,t,x,y,wt,rfl,ct,h1.lv,D,hn,hx,hy,ht1,v1,v2,v3,l1,l2,l3,fun as' R' H2 L' D' hif S'=>?_⟩
  have hp2:H2 p=some (.ins A.Lightest dx (fK n a.q a.w (c+1))):=S' _ _ (ne_of h1.ob h1.lv.e1 (by intro z; cases z)) (ne_of h1.ob h1.lv.e2 (by intro z; cases z)) (ne_of h1.ob h1.lv.e3 (by intro z; cases z)) (ne_of h1.ob h1.lv.wd.rl (by intro z; cases z)) h1.ob
  exact k as' R' H2 ⟨hp2,L',h.npq,h.npw⟩ D' hif fun b o hb b1 b2 b3 b4 e=>S' b o b1 b2 b3 b4 (B1 _ _ e hb)
def sp_Kept_joined (K:PySem.W.Frag) (C:Addr) (A:CA):Sp:=fun vs H Q _=>∃ (p dx:Addr) (c:Int) (a:AL) (n:Nat) (kl kw kv:List (List Key × V)) (as:List Addr) (R:Nat→List Int) (x y:Nat),vs=[.ref p,.int x,.int y]∧CTs K C A∧KA C A H p dx c a n kl kw kv as R∧Wd n R∧x < n∧y < n∧Q (.bl (decide ((y:Int) ∈ R x))) H
theorem len_Kept_joined {K:PySem.W.Frag} {C:Addr} {A:CA}:∀ vs H Q E,sp_Kept_joined K C A vs H Q E→vs.length=3:=by
  rintro vs H Q E ⟨p,dx,c,a,n,kl,kw,kv,as,R,x,y,rfl,_⟩; rfl
theorem run_Kept_joined {K:PySem.W.Frag} {C:Addr} {A:CA}:∀ vs H Q E,sp_Kept_joined K C A vs H Q E→rd_Kept_joined K C A (sp_Wood_joined K C) { nx:=fun _ H'=>Q .non H',rt:=Q } (start ["self","a","b"] vs) H:=by
  rintro vs H Q E ⟨p,dx,c,a,n,kl,kw,kv,as,R,x,y,rfl,ct,h,D,hx,hy,k⟩
  unfold rd_Kept_joined
  walk_at "x"
  refine x_meth ?_
  refine x_fld ?_
  walk_at "x"
  refine ⟨p,A.Lightest,dx,_,_,rfl,h.ob,ct.kc,ct.k3,fK3,?_⟩
  refine ⟨a.w,a.dw,_,rfl,h.lv.wd.ob,flds_no _ _ (by decide +kernel) (by decide +kernel),?_⟩
  walk_at "x"
  exact ⟨a.w,a.dw,a.l,n,x,y,as,R,rfl,ct.w,h.lv.wd,D,hx,hy,k⟩
def sp_Kept_side (K:PySem.W.Frag) (C:Addr) (A:CA):Sp:=fun vs H Q _=>∃ (p dx:Addr) (c:Int) (a:AL) (n:Nat) (kl kw kv:List (List Key × V)) (as:List Addr) (R:Nat→List Int) (x:Nat),vs=[.ref p,.int x]∧CTs K C A∧KA C A H p dx c a n kl kw kv as R∧Wd n R∧n≤60∧x < n ∧
  ∀ q (ks:List Int),H q=none→ks.Pairwise (· < ·)→(∀ z,z ∈ ks↔z ∈ R x)→Q (.ref q) (upd H q (.lst (ks.map V.int)))
theorem len_Kept_side {K:PySem.W.Frag} {C:Addr} {A:CA}:∀ vs H Q E,sp_Kept_side K C A vs H Q E→vs.length=2:=by
  rintro vs H Q E ⟨p,dx,c,a,n,kl,kw,kv,as,R,x,rfl,_⟩; rfl
theorem run_Kept_side {K:PySem.W.Frag} {C:Addr} {A:CA}:∀ vs H Q E,sp_Kept_side K C A vs H Q E→rd_Kept_side K C A (sp_Wood_group K C) { nx:=fun _ H'=>Q .non H',rt:=Q } (start ["self","a"] vs) H:=by
  rintro vs H Q E ⟨p,dx,c,a,n,kl,kw,kv,as,R,x,rfl,ct,h,D,hn,hx,k⟩
  have hlen:=D.len hx
  unfold rd_Kept_side
  walk_at "x"
  refine x_meth ?_
  refine x_fld ?_
  walk_at "x"
  refine ⟨p,A.Lightest,dx,_,_,rfl,h.ob,ct.kc,ct.k3,fK3,?_⟩
  refine ⟨a.w,a.dw,_,rfl,h.lv.wd.ob,flds_no _ _ (by decide +kernel) (by decide +kernel),?_⟩
  walk_at "x"
  exact ⟨a.w,a.dw,a.l,n,x,as,R,rfl,ct.w,h.lv.wd,D,by omega,hx,k⟩
def sp_Lightest_weight (K:PySem.W.Frag) (C:Addr) (A:CA):Sp:=fun vs H Q _=>∃ (p dx:Addr) (c:Int) (a:AL) (n:Nat) (kl kw kv:List (List Key × V)) (as:List Addr) (R:Nat→List Int) (g:Int→Int→Int),vs=[.ref p]∧CTs K C A∧KA C A H p dx c a n kl kw kv as R∧Wd n R∧n≤200∧(∃ L,Cnt n R L∧L.length < 64) ∧
  (∀ x y,x < y→Ed n R x y→valV kv [Sum.inl x,Sum.inl y]=some (.int (g x y)))∧∀ (L:List (Int × Int)) H',Same H H'→L.Nodup→(∀ t:Int × Int,t ∈ L↔t.1 < t.2∧Ed n R t.1 t.2)→Q (.int (L.map fun t=>g t.1 t.2).sum) H'
theorem len_Lightest_weight {K:PySem.W.Frag} {C:Addr} {A:CA}:∀ vs H Q E,sp_Lightest_weight K C A vs H Q E→vs.length=1:=by
  rintro vs H Q E ⟨p,dx,c,a,n,kl,kw,kv,as,R,g,rfl,_⟩; rfl
theorem run_Lightest_weight {K : PySem.W.Frag} {C : Addr} {A : CA} : ∀ vs H Q E, sp_Lightest_weight K C A vs H Q E → rd_Lightest_weight K C A (sp_Wood_ties K C) { nx := fun _ H' => Q .non H', rt := Q } (start ["self"] vs) H := by
  rintro vs H Q E ⟨p,dx,c,a,n,kl,kw,kv,as,R,g,rfl,ct,h,D,hn,hc,hg,k⟩
  unfold rd_Lightest_weight
  walk_at "x"
  refine x_meth ?_
  refine x_fld ?_
  walk_at "x"
  refine ⟨p,A.Lightest,dx,_,_,rfl,h.ob,ct.kc,ct.k3,fK3,?_⟩
  refine ⟨a.w,a.dw,_,rfl,h.lv.wd.ob,flds_no _ _ (by decide +kernel) (by decide +kernel),?_⟩
  walk_at "x"
  refine ⟨a.w,a.dw,a.l,n,as,R,rfl,ct.w,h.lv.wd,D,hn,hc,fun q zs H1 S1 hq gq pr _ nd mem hl=>?_⟩
  have h1:=h.same S1
  refine ⟨q,rfl,.inl ⟨⟨_,SqL.of gq⟩,fun acc hacc=>?_⟩⟩
  refine comp_lst (fun i y _=>∃ z,zs[i]? = some z∧y = .int (g z.1 z.2.1)) (fun σ=>∃ o,σ = [o,some (.ref p)]) (SqL.of gq) hacc ⟨_,rfl⟩ (by rw [List.length_map]; omega) (fun i y H2 H3 ws _ _ e=>e) (fun i x σ' H2 G hi hx S2 hS done=>?_) fun ys H2 hly gy S2 hE=>?_
  · obtain ⟨o,rfl⟩:=hS
    rw [List.getElem?_map] at hx
    obtain ⟨z,hz,rfl⟩:=Option.map_eq_some_iff.mp hx
    have h2:=h1.same S2
    have hzt:=S2 _ _ (pr z (List.mem_of_getElem? hz))
    obtain ⟨m1,m2⟩:=(mem (zP z)).mp (List.mem_map_of_mem (List.mem_of_getElem? hz))
    walk_at "x"
    refine x_fld ?_
    refine x_fld ?_
    walk_at "x"
    refine ⟨p,A.Lightest,dx,_,_,rfl,h2.ob,ct.kc,ct.k2,fK2,?_⟩
    refine ⟨a.q,A.Levels,a.dq,_,_,rfl,h2.lv.ob,ct.lc,ct.l3,fL3,?_⟩
    walk_at "x"
    refine .inr ⟨a.d3,.int (g z.1 z.2.1),rfl,.inr ⟨kv,[Sum.inl z.1,Sum.inl z.2.1],z.2.2,.inl h2.lv.e3,rfl,hzt,(hg z.1 z.2.1 m1 m2).symm⟩,?_⟩
    exact done _ _ _ ⟨_,rfl⟩ (fun _ _ e=>e) ⟨z,hz,rfl⟩
  · have ey:ys=(zs.map fun z=>g z.1 z.2.1).map V.int:=by
      apply List.ext_getElem?
      intro i
      cases e:ys[i]? with
      | some y =>
        obtain ⟨z,hz,rfl⟩:=hE i y e
        simp [hz]
      | none =>
        have:=List.getElem?_eq_none_iff.mp e
        rw [hly,List.length_map] at this
        exact (List.getElem?_eq_none (by simpa using this)).symm
    subst ey
    walk_at "x"
    refine ⟨acc,zs.map fun z=>g z.1 z.2.1,rfl,SqL.of gy,?_⟩
    have:=k (zs.map zP) H2 (fun b o e=>S2 _ _ (S1 _ _ e)) nd mem
    rw [List.map_map] at this
    exact this
end K51
namespace K51
open Rm
def rowT (gw:Int→Int→Bool):List Key→List Int
  | [Sum.inl x,Sum.inl y]=>[x,y,0,b2i (gw x y)]
  | _=>[]
structure TB (kl kw:List (List Key × V)) (gw:Int→Int→Bool):Prop where
  nd:(kl.map (·.1)).Nodup
  len:kl.length < 64
  at_:∀ q ∈ kl,∃ x y:Int,q=([Sum.inl x,Sum.inl y],.int 0)∧valV kw [Sum.inl x,Sum.inl y]=some (.bl (gw x y))
def spf_Kept_ties (K:PySem.W.Frag) (C:Addr) (A:CA):Sp:=fun vs H Q _=>∃ (p dx:Addr) (c:Int) (a:AL) (n:Nat) (kl kw kv:List (List Key × V)) (as:List Addr) (R:Nat→List Int) (gw:Int→Int→Bool),vs=[.ref p]∧CTs K C A∧KA C A H p dx c a n kl kw kv as R∧TB kl kw gw ∧
  ∀ (q:Addr) (zs:List Zn) (o:Obj) H',H q=none→H' q=some (.lst (zs.map refN))→(∀ z ∈ zs,FlatAt [false,false,true] H' z)→(zs.map (·.1)).Perm (kl.map fun q=>rowT gw q.1)→zs.Pairwise (fun z w=>lexL w.1 z.1=false)→H' a.d1=some (.frz o (.dT kl))→SameBut1 a.d1 H H'→Q (.ref q) H'
def sp_Kept_ties (K:PySem.W.Frag) (C:Addr) (A:CA):Sp:=fun vs H Q _=>∃ (p dx:Addr) (c:Int) (a:AL) (n:Nat) (kl kw kv:List (List Key × V)) (as:List Addr) (R:Nat→List Int) (gw:Int→Int→Bool),vs=[.ref p]∧CTs K C A∧KA C A H p dx c a n kl kw kv as R∧TB kl kw gw ∧
  ∀ (q:Addr) (zs:List Zn) H',H q=none→H' q=some (.lst (zs.map refN))→(∀ z ∈ zs,FlatAt [false,false,true] H' z)→(zs.map (·.1)).Perm (kl.map fun q=>rowT gw q.1)→zs.Pairwise (fun z w=>lexL w.1 z.1=false)→Same H H'→Q (.ref q) H'
theorem lenf_Kept_ties {K:PySem.W.Frag} {C:Addr} {A:CA}:∀ vs H Q E,spf_Kept_ties K C A vs H Q E→vs.length=1:=by
  rintro vs H Q E ⟨p,dx,c,a,n,kl,kw,kv,as,R,gw,rfl,_⟩; rfl
theorem thaw_Kept_ties {K:PySem.W.Frag} {C:Addr} {A:CA}:∀ vs H Q E,sp_Kept_ties K C A vs H Q E→spf_Kept_ties K C A vs H (Thaw H Q) E:=by
  rintro vs H Q E ⟨p,dx,c,a,n,kl,kw,kv,as,R,gw,rfl,ct,h,tb,k⟩
  refine ⟨p,dx,c,a,n,kl,kw,kv,as,R,gw,rfl,ct,h,tb,fun q zs o H' hq gq fl pm so gd B=>.inr ⟨a.d1,o,kl,(fun o' u' e=>by rw [h.lv.e1] at e; cases e),gd,?_⟩⟩
  have hqd:q≠a.d1:=Ne.symm (ne_of_none h.lv.e1 hq)
  refine k q zs _ hq (by rw [upd_ne hqd]; exact gq) (fun z hz=>?_) pm so fun b ob e=>?_
  · obtain ⟨xs,h1,h2⟩:=fl z hz
    refine ⟨xs,?_,h2⟩
    rw [upd_ne (ne_of h1 gd (by intro z; cases z))]; exact h1
  · by_cases hb:b=a.d1
    · subst hb; rw [upd_same,← h.lv.e1,e]
    · rw [upd_ne hb]; exact B _ _ e hb
theorem runf_Kept_ties {K : PySem.W.Frag} {C : Addr} {A : CA} : ∀ vs H Q E, spf_Kept_ties K C A vs H Q E → rd_Kept_ties K C A (sp_Levels_told K C A) { nx := fun _ H' => Q .non H', rt := Q } (start ["self"] vs) H := by
  rintro vs H Q E ⟨p,dx,c,a,n,kl,kw,kv,as,R,gw,rfl,ct,h,tb,k⟩
  unfold rd_Kept_ties
  walk_at "x"
  refine x_iDT ?_
  refine x_fld ?_
  refine x_fld ?_
  walk_at "x"
  refine ⟨p,A.Lightest,dx,_,_,rfl,h.ob,ct.kc,ct.k2,fK2,?_⟩
  refine ⟨a.q,A.Levels,a.dq,_,_,rfl,h.lv.ob,ct.lc,ct.l1,fL1,?_⟩
  refine ⟨a.d1,kl,rfl,.inl ⟨h.lv.e1,fun o=>?_⟩⟩
  have g1:(upd H a.d1 (.frz o (.dT kl))) a.d1=some (.frz o (.dT kl)):=upd_same
  have B1:SameBut1 a.d1 H (upd H a.d1 (.frz o (.dT kl))):=SameBut1.upd
  generalize upd H a.d1 (.frz o (.dT kl))=H1 at g1 B1
  have p1:H1 p=some (.ins A.Lightest dx (fK n a.q a.w c)):=B1 _ _ h.ob (ne_of h.ob h.lv.e1 (by intro z; cases z))
  have q1:H1 a.q=some (.ins A.Levels a.dq (fL a.d1 a.d2 a.d3 a.L)):=B1 _ _ h.lv.ob (ne_of h.lv.ob h.lv.e1 (by intro z; cases z))
  have w1:H1 a.d2=some (.dT kw):=B1 _ _ h.lv.e2 (Ne.symm h.lv.n12)
  intro acc hacc
  refine comp_by (n:=kl.length) (fun t ys H4=>H4 acc=some (.lst ys)∧Same H1 H4∧∃ zs:List Zn,ys=zs.map refN∧zs.map (·.1)=(kl.take t).map (fun q=>rowT gw q.1)∧∀ z ∈ zs,FlatAt [false,false,true] H4 z) (fun σ=>∃ o,σ = [o,some (.ref p)]) ⟨upd_same,Same.upd_new hacc,[],rfl,rfl,fun z hz=>nomatch hz⟩ ⟨_,rfl⟩ ?_ ?_ ?_ ?_
  · rintro t ys H4 ⟨e,_⟩; exact e
  · rintro ys H4 ⟨g4,S4,zs,rfl,hz,fl⟩
    refine ⟨⟨Nat.le_refl _,S4 _ _ g1⟩,?_⟩
    rw [List.take_of_length_le (Nat.le_refl _)] at hz
    have hzl:zs.length=kl.length:=by have:=congrArg List.length hz; simpa using this
    walk_at "x"
    refine .inr ⟨acc,zs,[false,false,true],rfl,SqL.of g4,fl,by have:=tb.len; omega,fun l zs' hl hperm hsort=>?_⟩
    have hlf:H l=none:=by
      cases z:H l with
      | none=>rfl
      | some ob =>
        by_cases hb:l=a.d1
        · rw [hb,S4 _ _ g1] at hl; cases hl
        · rw [S4 _ _ (B1 _ _ z hb)] at hl; cases hl
    have hld:a.d1≠l:=ne_of_none (S4 _ _ g1) hl
    refine k l zs' o _ hlf upd_same (fun z hz'=>?_) (by rw [← hz]; exact hperm.map _) hsort (by rw [upd_ne hld]; exact S4 _ _ g1) fun b ob e hb=>?_
    · obtain ⟨xs,h1,h2⟩:=fl z (hperm.mem_iff.mp hz')
      exact ⟨xs,by rw [upd_ne (ne_of_none h1 hl)]; exact h1,h2⟩
    · have:=S4 _ _ (B1 _ _ e hb)
      rw [upd_ne (ne_of_none this hl)]; exact this
  · rintro t ys H4 ht ⟨_,S4,_⟩; exact ⟨ht,S4 _ _ g1⟩
  · rintro t ys σ' H4 x H5 ht ⟨g4,S4,zs,rfl,hz,fl⟩ ⟨o',rfl⟩ ⟨eH,key,v,b,hk,ex,hb⟩
    subst eH ex
    obtain ⟨xx,yy,eq,hv⟩:=tb.at_ _ (List.mem_of_getElem? hk)
    cases eq
    walk_at "x"
    refine iteT ?_
    refine x_meth ?_
    refine x_fld ?_
    walk_at "x"
    refine ⟨p,A.Lightest,dx,_,_,rfl,S4 _ _ p1,ct.kc,ct.k2,fK2,?_⟩
    refine ⟨a.q,a.dq,_,rfl,S4 _ _ q1,fL0 (by decide +kernel) (by decide +kernel) (by decide +kernel) (by decide +kernel),?_⟩
    walk_at "x"
    refine ⟨a.q,a.dq,a.d1,a.d2,a.d3,a.L,b,kl,kw,xx,yy,.int 0,.bl (gw xx yy),rfl,ct,S4 _ _ q1,.inr ⟨o,S4 _ _ g1⟩,.inl (S4 _ _ w1),hb,valV_of_get tb.nd hk,hv,fun r hr=>?_⟩
    have T:=Same.upd_new (o:=.tup [.int xx,.int yy,.int 0,.bl (gw xx yy)]) hr
    have gr:(upd H5 r (.tup [.int xx,.int yy,.int 0,.bl (gw xx yy)])) r=some (.tup [.int xx,.int yy,.int 0,.bl (gw xx yy)]):=upd_same
    generalize upd H5 r (.tup [.int xx,.int yy,.int 0,.bl (gw xx yy)])=H6 at T gr
    have hra:r≠acc:=Ne.symm (ne_of_none g4 hr)
    have hzl:zs.length=t:=by
      have:=congrArg List.length hz
      rw [List.length_map,List.length_map,List.length_take] at this
      omega
    refine ⟨T _ _ g4,small_lt (m:=100) (by rw [List.length_map]; have:=tb.len; omega),CNext.mk' ht ⟨_,rfl⟩ ⟨upd_same,fun b' ob e=>by rw [upd_ne (ne_of_none e hacc)]; exact T _ _ (S4 _ _ e),zs ++ [([xx,yy,0,b2i (gw xx yy)],r)],by simp [refN],?_,fun z hz'=>?_⟩⟩
    · rw [List.map_append,hz,List.take_add_one,hk]
      simp [rowT]
    · rcases List.mem_append.mp hz' with hz' | hz'
      · obtain ⟨xs,h1,h2⟩:=fl z hz'
        refine ⟨xs,?_,h2⟩
        rw [upd_ne (ne_of (T _ _ h1) (T _ _ g4) (by intro z; cases z))]
        exact T _ _ h1
      · rw [List.mem_singleton.mp hz']
        exact ⟨_,by rw [upd_ne hra]; exact gr,.int _ (.int _ (.int _ (.bl _ .nil)))⟩
end K51
namespace K51
open Rm
abbrev Tr:=Nat × Nat × Int × Addr
def lo (t:Tr):Nat:=min t.1 t.2.1
def up (t:Tr):Nat:=max t.1 t.2.1
def kvT (t:Tr):List Key × V:=(pk (lo t) (up t),.int t.2.2.1)
def esT (t:Tr):Int × Nat × Nat:=(t.2.2.1,lo t,up t)
def refT (t:Tr):V:=.ref t.2.2.2
def TrAt (H:Hp) (t:Tr):Prop:=H t.2.2.2=some (.tup [.int t.1,.int t.2.1,.int t.2.2.1])
structure Told (n:Nat) (ts:List Tr):Prop where
  lt:∀ t ∈ ts,t.1 < n∧t.2.1 < n∧t.1≠t.2.1
  nd:(ts.map fun t=>(kvT t).1).Nodup
  len:ts.length < 64
inductive Kr (n:Nat):List (Int × Nat × Nat)→(Nat→List Int)→List (List Key × V)→List (List Key × V)→List (List Key × V)→Prop
  | nil:Kr n [] (fun i=>[(i:Int)]) [] [] []
  | snoc {es:List (Int × Nat × Nat)} {R:Nat→List Int} {kl kw kv:List (List Key × V)} (wt:Int) (x y:Nat) (R':Nat→List Int):Kr n es R kl kw kv→Wd n R→x < n→y < n→valV kl (pk x y)=none→(if (y:Int) ∈ R x then R'=R else Mg R R' x y∧Eg n R R' x y) →
      Kr n (es ++ [(wt,x,y)]) R' (kl ++ [(pk x y,.int 0)]) (kw ++ [(pk x y,.bl (decide ((y:Int) ∉ R x)))]) (kv ++ [(pk x y,.int wt)])
theorem Kr.len {n:Nat} {es:List (Int × Nat × Nat)} {R:Nat→List Int} {kl kw kv:List (List Key × V)} (h:Kr n es R kl kw kv):kl.length=es.length∧kw.length=es.length∧kv.length=es.length:=by
  induction h with
  | nil=>exact ⟨rfl,rfl,rfl⟩
  | snoc wt x y R' _ _ _ _ _ _ ih=>simp [ih.1,ih.2.1,ih.2.2]
theorem Kr.keys {n:Nat} {es:List (Int × Nat × Nat)} {R:Nat→List Int} {kl kw kv:List (List Key × V)} (h:Kr n es R kl kw kv):kl.map (·.1)=es.map (fun e=>pk e.2.1 e.2.2)∧kw.map (·.1)=es.map (fun e=>pk e.2.1 e.2.2)∧kv.map (·.1)=es.map (fun e=>pk e.2.1 e.2.2):=by
  induction h with
  | nil=>exact ⟨rfl,rfl,rfl⟩
  | snoc wt x y R' _ _ _ _ _ _ ih=>simp [ih.1,ih.2.1,ih.2.2]
theorem valV_nk {kvs:List (List Key × V)} {k:List Key} (h:k ∉ kvs.map (·.1)):valV kvs k=none:=by
  cases e:valV kvs k with
  | none=>rfl
  | some v=>exact absurd (valV_in e) h
def wtOf (kvs:List (List Key × V)) (x y:Int):Int:=match valV kvs [Sum.inl x,Sum.inl y] with | some (.int w)=>w | _=>0
theorem KA.keep {C:Addr} {A:CA} {H H':Hp} {p dx:Addr} {c:Int} {a:AL} {n:Nat} {kl kw kv:List (List Key × V)} {as:List Addr} {R:Nat→List Int} (h:KA C A H p dx c a n kl kw kv as R) (kp:∀ {b:Addr} {o:HO},H b=some o→(∀ ps,o≠.tbl ps)→H' b=some o):KA C A H' p dx c a n kl kw kv as R :=
  ⟨kp h.ob (fun _ z=>nomatch z),⟨kp h.lv.ob (fun _ z=>nomatch z),kp h.lv.e1 (fun _ z=>nomatch z),kp h.lv.e2 (fun _ z=>nomatch z),kp h.lv.e3 (fun _ z=>nomatch z),kp h.lv.ls (fun _ z=>nomatch z),⟨kp h.lv.wd.ob (fun _ z=>nomatch z),kp h.lv.wd.rl (fun _ z=>nomatch z),h.lv.wd.len,fun i b hb=>kp (h.lv.wd.at_ i b hb) (fun _ z=>nomatch z),h.lv.wd.ne⟩,h.lv.n12,h.lv.n13,h.lv.n23,h.lv.nL⟩,h.npq,h.npw⟩
def esZ (z:Zn):Int × Nat × Nat:=(z.1.getD 0 0,(z.1.getD 1 0).toNat,(z.1.getD 2 0).toNat)
def keyZ (z:Zn):List Key:=[Sum.inl (z.1.getD 1 0),Sum.inl (z.1.getD 2 0)]
def fE (kvs:List (List Key × V)):List Key→Int × Nat × Nat
  | [Sum.inl x,Sum.inl y]=>(wtOf kvs x y,x.toNat,y.toNat)
  | _=>(0,0,0)
def sp_Lightest___init__ (K : PySem.W.Frag) (C : Addr) (A : CA) (Pt : Addr) : Sp := fun vs H Q _ => ∃ (p dx W : Addr) (n : Nat) (ts : List Tr), vs = [.ref p, .int n, .ref W] ∧ H p = some (.ins A.Lightest dx []) ∧ CTs K C A ∧ 1 ≤ n ∧ n ≤ 200 ∧ H W = some (.lst (ts.map refT)) ∧ (∀ t ∈ ts, TrAt H t) ∧ Told n ts ∧ LT1 Pt H ∧
  ∀ (a : AL) (c : Int) (kl kw kv : List (List Key × V)) (as : List Addr) (R : Nat → List Int) (es : List (Int × Nat × Nat)) H', KA C A H' p dx c a n kl kw kv as R → Wd n R → Kr n es R kl kw kv → es.Perm (ts.map esT) → es.Pairwise (fun e f => lexL [f.1, (f.2.1 : Int), (f.2.2 : Int)] [e.1, (e.2.1 : Int), (e.2.2 : Int)] = false) →
    (∀ b o,b≠p→b≠Pt→H b=some o→H' b=some o)→Q .non H'
theorem len_Lightest___init__ {K:PySem.W.Frag} {C:Addr} {A:CA} {Pt:Addr}:∀ vs H Q E,sp_Lightest___init__ K C A Pt vs H Q E→vs.length=3:=by
  rintro vs H Q E ⟨p,dx,W,n,ts,rfl,_⟩; rfl
theorem run_Lightest___init__ {K : PySem.W.Frag} {C : Addr} {A : CA} {Pt : Addr} : ∀ vs H Q E, sp_Lightest___init__ K C A Pt vs H Q E → rd_Lightest___init__ K C A (sp_Kept___init__ K C A) (sp_in_order K C Pt) (sp_new_tie K C) (sp_Kept_receive K C A) { nx := fun _ H' => Q .non H', rt := Q } (start ["self", "n", "weighed", "weights", "a", "b", "weight", "tie"] vs) H := by
  rintro vs H Q E ⟨p,dx,W,n,ts,rfl,hp,ct,hn1,hn2,hW,htr,td,hT,k⟩
  unfold rd_Lightest___init__
  walk_at "x"
  refine ⟨p,dx,n,rfl,hp,ct,hn1,hn2,fun a as H1 h1 B1 f1 f2 f3 f4=>?_⟩
  have pP:p≠Pt:=fun z=>by obtain ⟨ps,e⟩:=hT.tbl; rw [← z,hp] at e; cases e
  have ni:∀ {b:Addr} {o:HO},H b=some o→(∀ x y z,o≠.ins x y z)→b≠p:=fun {b o} e hno z=>by rw [z,hp] at e; cases e; exact hno _ _ _ rfl
  have hW1:=B1 _ _ hW (ni hW (fun _ _ _ z=>nomatch z))
  have htr1:∀ t ∈ ts,TrAt H1 t:=fun t ht=>B1 _ _ (htr t ht) (ni (htr t ht) (fun _ _ _ z=>nomatch z))
  have hT1:LT1 Pt H1:=by
    rcases hT with hT | ⟨c',oc,vs,t,q1,q2,q3,q4⟩
    · exact .inl (B1 _ _ hT (Ne.symm pP))
    · exact .inr ⟨c',oc,vs,t,B1 _ _ q1 (Ne.symm pP),B1 _ _ q2 (ni q2 (fun _ _ _ z=>nomatch z)),q3,q4⟩
  have fH:∀ {b:Addr} {o:HO},H b=some o→b≠a.d1∧b≠a.d2∧b≠a.d3∧b≠a.l:=fun {b o} e=>⟨ne_of_none e f1,ne_of_none e f2,ne_of_none e f3,ne_of_none e f4⟩
  walk_at "x"
  refine x_dnewT fun dW hdW=>?_
  walk_at "x"
  have S2:=Same.upd_new (o:=.dT []) hdW
  have gd:(upd H1 dW (.dT [])) dW=some (.dT []):=upd_same
  have nd1:dW≠a.d1:=Ne.symm (ne_of_none h1.lv.e1 hdW)
  have nd2:dW≠a.d2:=Ne.symm (ne_of_none h1.lv.e2 hdW)
  have nd3:dW≠a.d3:=Ne.symm (ne_of_none h1.lv.e3 hdW)
  generalize upd H1 dW (.dT [])=H2 at S2 gd
  have hdW0:H dW=none:=by
    cases z:H dW with
    | none=>rfl
    | some o =>
      by_cases hb:dW=p
      · rw [hb,h1.ob] at hdW; cases hdW
      · rw [B1 _ _ z hb] at hdW; cases hdW
  unfold lp_Lightest___init___1
  walk_at "x"
  refine .inl ⟨⟨_,SqL.of (S2 _ _ hW1)⟩,for_list (K:=K) (a:=W) (xs:=ts.map refT)
    (fun i σ H3=>(∀ b o,b≠dW→H2 b=some o→H3 b=some o)∧H3 dW=some (.dT ((ts.take i).map kvT))∧∃ o4 o5 o6 o7,σ = [some (.ref p),some (.int n),some (.ref W),some (.ref dW),o4,o5,o6,o7])
    ⟨fun b o _ e=>e,gd,_,_,_,_,rfl⟩ ?_ ?_ ?_⟩
  · rintro i σ H3 _ ⟨B,_⟩
    exact SqL.of (B _ _ (ne_of (S2 _ _ hW1) gd (by intro z; cases z)) (S2 _ _ hW1))
  · rintro i z σ H3 hi ⟨B,g3,o4,o5,o6,o7,rfl⟩
    rw [List.getElem?_map] at hi
    obtain ⟨t,ht,rfl⟩:=Option.map_eq_some_iff.mp hi
    have hm:=List.mem_of_getElem? ht
    obtain ⟨b1,b2,b3⟩:=td.lt t hm
    have g2:H2 t.2.2.2=some (.tup [.int t.1,.int t.2.1,.int t.2.2.1]):=S2 _ _ (htr1 t hm)
    have g4:H3 t.2.2.2=some (.tup [.int t.1,.int t.2.1,.int t.2.2.1]):=B _ _ (ne_of g2 gd (by intro z; cases z)) g2
    refine ⟨t.2.2.2,_,rfl,SqT.of g4,rfl,?_⟩
    walk_at "x"
    have hkn:(kvT t).1 ∉ ((ts.take i).map kvT).map (·.1):=fun hmem=>by
      rw [List.map_map] at hmem
      obtain ⟨t',ht',e⟩:=List.mem_map.mp hmem
      obtain ⟨j,hj,ej⟩:=List.getElem_of_mem ht'
      rw [List.length_take] at hj
      have hit:=(List.getElem?_eq_some_iff.mp ht).1
      have e1:(ts.map fun t=>(kvT t).1)[j]? = (ts.map fun t=>(kvT t).1)[i]?:=by
        rw [List.getElem?_map,List.getElem?_map,ht]
        have:ts[j]? = some t':=by rw [← ej,List.getElem_take,List.getElem?_eq_getElem (by omega)]
        rw [this]
        exact congrArg some e
      have:=(List.getElem?_inj (by rw [List.length_map]; omega) td.nd).mp e1
      omega
    refine ⟨n,t.1,t.2.1,dW,_,rfl,b1,b2,b3,g3,valV_nk hkn,fun r hr=>?_⟩
    walk_at "x"
    have nr:dW≠r:=ne_of_none g3 hr
    refine .inr ⟨dW,_,rfl,DPut.t (k:=pk (lo t) (up t)) (by rw [upd_ne nr]; exact g3) upd_same (small_lt (m:=100) (by rw [List.length_map,List.length_take]; have:=td.len; omega)),?_⟩
    refine ⟨fun b o hb e=>?_,?_,_,_,_,_,rfl⟩
    · have e3:=B b o hb e
      rw [upd_ne hb,upd_ne (ne_of_none e3 hr)]; exact e3
    · rw [upd_same,show pk (lo t) (up t)=(kvT t).1 from rfl,putK_new _ (valV_nk hkn),List.take_add_one,ht]
      simp [kvT]
  · rintro σ H3 ⟨B3,g3,o4,o5,o6,o7,rfl⟩
    rw [List.take_of_length_le (by rw [List.length_map]; exact Nat.le_refl _)] at g3
    have kp3:∀ {b:Addr} {o:HO},b≠dW→H1 b=some o→H3 b=some o:=fun hb e=>B3 _ _ hb (S2 _ _ e)
    have S13:Same H1 H3:=fun b o e=>kp3 (ne_of_none e hdW) e
    have h3:=h1.same S13
    have hT3:LT1 Pt H3:=hT1.same S13
    unfold lp_Lightest___init___2
    walk_at "x"
    have hkeys:(ts.map kvT).map (·.1)=ts.map fun t=>(kvT t).1:=by rw [List.map_map]; rfl
    refine ⟨dW,dW,ts.map kvT,ts.map kvT,wtOf (ts.map kvT),rfl,g3,g3,fun q hq=>?_,by rw [List.length_map]; exact td.len,hT3,fun l zs H4 hl S4 hT4 hz pm so=>?_⟩
    · obtain ⟨t,ht,rfl⟩:=List.mem_map.mp hq
      refine ⟨(lo t:Nat),(up t:Nat),rfl,?_⟩
      obtain ⟨j,hj⟩:=List.mem_iff_getElem?.mp hq
      have hv:valV (ts.map kvT) (kvT t).1=some (.int t.2.2.1):=valV_of_get (by rw [hkeys]; exact td.nd) hj
      have:wtOf (ts.map kvT) (lo t:Nat) (up t:Nat)=t.2.2.1:=by
        unfold wtOf
        rw [show valV (ts.map kvT) [Sum.inl ((lo t:Nat):Int),Sum.inl ((up t:Nat):Int)]=some (.int t.2.2.1) from hv]
      rw [this]
      exact hv
    have hvT:∀ t ∈ ts,valV (ts.map kvT) (kvT t).1=some (.int t.2.2.1):=fun t ht=>by
      obtain ⟨j,hj⟩:=List.mem_iff_getElem?.mp (List.mem_map_of_mem (f:=kvT) ht)
      exact valV_of_get (by rw [hkeys]; exact td.nd) hj
    have hwT:∀ t ∈ ts,wtOf (ts.map kvT) (lo t:Nat) (up t:Nat)=t.2.2.1:=fun t ht=>by
      unfold wtOf
      rw [show valV (ts.map kvT) [Sum.inl ((lo t:Nat):Int),Sum.inl ((up t:Nat):Int)]=some (.int t.2.2.1) from hvT t ht]
    have hzt:∀ z ∈ zs,∃ t ∈ ts,z.1=[t.2.2.1,(lo t:Int),(up t:Int)]∧H4 z.2=some (.tup [.int (lo t:Nat),.int (up t:Nat)]):=fun z hzm=>by
      obtain ⟨x,y,e1,e2⟩:=hz z hzm
      have hk:([Sum.inl (z.1.getD 1 0),Sum.inl (z.1.getD 2 0)]:List Key) ∈ (ts.map kvT).map (·.1):=pm.mem_iff.mp (List.mem_map_of_mem (f:=fun z:Zn=>([Sum.inl (z.1.getD 1 0),Sum.inl (z.1.getD 2 0)]:List Key)) hzm)
      rw [hkeys] at hk
      obtain ⟨t,ht,et⟩:=List.mem_map.mp hk
      rw [e1] at et
      have et:([Sum.inl ((lo t:Nat):Int),Sum.inl ((up t:Nat):Int)]:List Key)=[Sum.inl x,Sum.inl y]:=et
      injection et with ex et
      injection et with ey _
      injection ex with ex
      injection ey with ey
      subst ex ey
      exact ⟨t,ht,by rw [e1,hwT t ht],e2⟩
    have hes:∀ z ∈ zs,fE (ts.map kvT) (keyZ z)=esZ z:=fun z hzm=>by
      obtain ⟨t,ht,e1,_⟩:=hzt z hzm
      unfold keyZ esZ
      rw [e1]
      show (wtOf (ts.map kvT) (lo t:Nat) (up t:Nat),((lo t:Nat):Int).toNat,((up t:Nat):Int).toNat)=(t.2.2.1,((lo t:Nat):Int).toNat,((up t:Nat):Int).toNat)
      rw [hwT t ht]
    have hperm:(zs.map esZ).Perm (ts.map esT):=by
      have:=pm.map (fE (ts.map kvT))
      rw [hkeys,List.map_map,List.map_map] at this
      have a1:zs.map (fE (ts.map kvT) ∘ fun z=>([Sum.inl (z.1.getD 1 0),Sum.inl (z.1.getD 2 0)]:List Key))=zs.map esZ:=List.map_congr_left hes
      have a2:ts.map (fE (ts.map kvT) ∘ fun t=>(kvT t).1)=ts.map esT:=List.map_congr_left fun t ht=>by
        show (wtOf (ts.map kvT) (lo t:Nat) (up t:Nat),((lo t:Nat):Int).toNat,((up t:Nat):Int).toNat)=(t.2.2.1,lo t,up t)
        rw [hwT t ht]; simp
      rwa [a1,a2] at this
    have hzl:zs.length=ts.length:=by have:=hperm.length_eq; simpa using this
    have hpw:(zs.map esZ).Pairwise (fun e f=>lexL [f.1,(f.2.1:Int),(f.2.2:Int)] [e.1,(e.2.1:Int),(e.2.2:Int)]=false):=by
      rw [List.pairwise_map]
      refine so.imp_of_mem fun {z w} hz' hw' h=>?_
      obtain ⟨t,ht,e1,_⟩:=hzt z hz'
      obtain ⟨u,hu,e2,_⟩:=hzt w hw'
      unfold esZ
      rw [e1,e2] at h ⊢
      simpa using h
    have hnd:(zs.map keyZ).Nodup:=(pm.nodup_iff).mpr (by rw [hkeys]; exact td.nd)
    obtain ⟨tps,hPt⟩:=hT3.tbl
    have kp4:∀ {b:Addr} {o:HO},H3 b=some o→(∀ ps,o≠.tbl ps)→H4 b=some o:=fun {b o} e hno=>S4 _ _ (fun z=>by rw [z,hPt] at e; cases e; exact hno _ rfl) e
    have S5:=Same.upd_new (o:=.lst (zs.map refN)) hl
    have gl:(upd H4 l (.lst (zs.map refN))) l=some (.lst (zs.map refN)):=upd_same
    generalize upd H4 l (.lst (zs.map refN))=H5 at S5 gl
    have h5:KA C A H5 p dx 0 a n [] [] [] as (fun i=>[(i:Int)]):=(h3.keep kp4).same S5
    have g5:H5 dW=some (.dT (ts.map kvT)):=S5 _ _ (kp4 g3 (fun _ z=>nomatch z))
    have nll:l≠a.l:=Ne.symm (ne_of_none (kp4 h3.lv.wd.rl (fun _ z=>nomatch z)) hl)
    have zt5:∀ z ∈ zs,∃ t ∈ ts,z.1=[t.2.2.1,(lo t:Int),(up t:Int)]∧H5 z.2=some (.tup [.int (lo t:Nat),.int (up t:Nat)]):=fun z hzm=>by
      obtain ⟨t,ht,e1,e2⟩:=hzt z hzm
      exact ⟨t,ht,e1,S5 _ _ e2⟩
    refine ⟨l,rfl,.inl ⟨⟨_,SqL.of gl⟩,for_list (K:=K) (a:=l) (xs:=zs.map refN)
      (fun i σ H6=>∃ (c:Int) (as:List Addr) (R:Nat→List Int) (kl kw kv:List (List Key × V)),KA C A H6 p dx c a n kl kw kv as R∧Wd n R∧Kr n ((zs.take i).map esZ) R kl kw kv∧(∀ b o,b≠p→b≠a.d1→b≠a.d2→b≠a.d3→b≠a.l→H5 b=some o→H6 b=some o)∧∃ o4 o5 o6 o7,σ = [some (.ref p),some (.int n),some (.ref W),some (.ref dW),o4,o5,o6,o7])
      ⟨0,as,_,[],[],[],h5,Wd.start n,.nil,fun b o _ _ _ _ _ e=>e,_,_,_,_,rfl⟩ ?_ ?_ ?_⟩⟩
    · rintro i σ H6 _ ⟨c,as6,R,kl,kw,kv,h6,D6,K6,B6,_⟩
      exact SqL.of (B6 _ _ (ne_of gl h5.ob (by intro z; cases z)) (ne_of gl h5.lv.e1 (by intro z; cases z)) (ne_of gl h5.lv.e2 (by intro z; cases z)) (ne_of gl h5.lv.e3 (by intro z; cases z)) nll gl)
    · rintro i zv σ H6 hi ⟨c,as6,R,kl,kw,kv,h6,D6,K6,B6,o4,o5,o6,o7,rfl⟩
      rw [List.getElem?_map] at hi
      obtain ⟨z,hzi,rfl⟩:=Option.map_eq_some_iff.mp hi
      have hzm:=List.mem_of_getElem? hzi
      obtain ⟨t,ht,e1,e2⟩:=zt5 z hzm
      have e6:H6 z.2=some (.tup [.int (lo t:Nat),.int (up t:Nat)]):=B6 _ _ (ne_of e2 h5.ob (by intro z; cases z)) (ne_of e2 h5.lv.e1 (by intro z; cases z)) (ne_of e2 h5.lv.e2 (by intro z; cases z)) (ne_of e2 h5.lv.e3 (by intro z; cases z)) (ne_of e2 h5.lv.wd.rl (by intro z; cases z)) e2
      have d6:H6 dW=some (.dT (ts.map kvT)):=B6 _ _ (ne_of g5 h5.ob (by intro z; cases z)) nd1 nd2 nd3 (ne_of g5 h5.lv.wd.rl (by intro z; cases z)) g5
      obtain ⟨b1,b2,b3⟩:=td.lt t ht
      have hlo:lo t < n:=by unfold lo; omega
      have hhi:up t < n:=by unfold up; omega
      obtain ⟨ll1,ll2,ll3⟩:=K6.len
      obtain ⟨kk1,kk2,kk3⟩:=K6.keys
      have hilt:i < zs.length:=(List.getElem?_eq_some_iff.mp hzi).1
      have tl:((zs.take i).map esZ).length=i:=by rw [List.length_map,List.length_take]; omega
      have hnew:pk (lo t) (up t) ∉ ((zs.take i).map esZ).map (fun e=>pk e.2.1 e.2.2):=fun hmem=>by
        rw [List.map_map] at hmem
        obtain ⟨z',hz',e'⟩:=List.mem_map.mp hmem
        obtain ⟨jj,hjj,ej⟩:=List.getElem_of_mem hz'
        rw [List.length_take] at hjj
        have hjz:zs[jj]? = some z':=by rw [← ej,List.getElem_take,List.getElem?_eq_getElem (by omega)]
        obtain ⟨t',ht',e1',_⟩:=zt5 z' (List.mem_of_getElem? hjz)
        have q1:keyZ z'=keyZ z:=by
          have e'':pk (esZ z').2.1 (esZ z').2.2=pk (lo t) (up t):=e'
          unfold esZ at e''
          unfold keyZ
          rw [e1'] at e'' ⊢
          rw [e1]
          simpa [pk] using e''
        have:=(List.getElem?_inj (l:=zs.map keyZ) (i:=jj) (j:=i) (by rw [List.length_map]; omega) hnd).mp (by rw [List.getElem?_map,List.getElem?_map,hjz,hzi]; exact congrArg some q1)
        omega
      walk_at "x"
      refine x_meth ?_
      walk_at "x"
      refine ⟨p,dx,_,rfl,h6.ob,fK0,?_⟩
      walk_at "x"
      refine .inr ⟨dW,.int t.2.2.1,rfl,.inr ⟨ts.map kvT,pk (lo t) (up t),z.2,.inl d6,rfl,e6,(hvT t ht).symm⟩,?_⟩
      walk_at "x"
      have tl64:=td.len
      refine ⟨p,dx,c,a,n,kl,kw,kv,as6,R,z.2,lo t,up t,t.2.2.1,rfl,ct,h6,D6,hn2,hlo,hhi,e6,valV_nk (by rw [kk1]; exact hnew),valV_nk (by rw [kk2]; exact hnew),valV_nk (by rw [kk3]; exact hnew),by omega,by omega,by omega,fun as7 R7 H7 h7 D7 hif SP7=>?_⟩
      refine ⟨c+1,as7,R7,_,_,_,h7,D7,?_,fun b o q1 q2 q3 q4 q5 e=>SP7 b o q1 q2 q3 q4 q5 (B6 b o q1 q2 q3 q4 q5 e),_,_,_,_,rfl⟩
      have ee:(zs.take (i+1)).map esZ=(zs.take i).map esZ ++ [(t.2.2.1,lo t,up t)]:=by
        rw [List.take_add_one,hzi,List.map_append]
        unfold esZ
        simp [e1]
      rw [ee]
      exact .snoc t.2.2.1 (lo t) (up t) R7 K6 D6 hlo hhi (valV_nk (by rw [kk1]; exact hnew)) hif
    · rintro σ H6 ⟨c,as6,R,kl,kw,kv,h6,D6,K6,B6,_⟩
      rw [List.take_of_length_le (by rw [List.length_map]; exact Nat.le_refl _)] at K6
      refine k a c kl kw kv as6 R _ H6 h6 D6 K6 hperm hpw fun b o hb hbP e=>?_
      obtain ⟨m1,m2,m3,m4⟩:=fH e
      refine B6 b o hb m1 m2 m3 m4 (S5 _ _ (S4 _ _ hbP (S13 _ _ (B1 _ _ e hb))))
end K51
namespace K51
def sp__law_cell_at (K:PySem.W.Frag) (C:Addr):Sp:=fun vs H Q _=>∃ (a:Addr) (ns:List Int) (k:Nat),vs=[.ref a,.int k]∧SqL K H a (ns.map V.int)∧∀ z:Int,Q (.int z) H
theorem len__law_cell_at {K:PySem.W.Frag} {C:Addr}:∀ vs H Q E,sp__law_cell_at K C vs H Q E→vs.length=2:=by
  rintro vs H Q E ⟨a,ns,k,rfl,_⟩; rfl
theorem run__law_cell_at {K:PySem.W.Frag} {C:Addr}:∀ vs H Q E,sp__law_cell_at K C vs H Q E→rd__law_cell_at K C { nx:=fun _ H'=>Q .non H',rt:=Q } (start ["_law_script","_law_k"] vs) H:=by
  rintro vs H Q E ⟨a,ns,k,rfl,hS,q⟩
  unfold rd__law_cell_at
  walk_at "x"
  refine x_lenI hS ?_
  walk_at "x"
  refine ifd (fun h=>?_) fun h=>?_
  · walk_at "x"
    have hk:k < ns.length:=by omega
    refine x_ixI hS rfl (List.getElem?_eq_getElem hk) ?_
    exact q _
  · walk_at "x"
    exact q _
end K51
namespace K51
open Rm
def sp__law_whole (K:PySem.W.Frag) (C:Addr):Sp:=fun vs H Q _=>∃ i:Int,vs=[.int i]∧Q (.bl true) H
theorem len__law_whole {K:PySem.W.Frag} {C:Addr}:∀ vs H Q E,sp__law_whole K C vs H Q E→vs.length=1:=by
  rintro vs H Q E ⟨i,rfl,_⟩; rfl
theorem run__law_whole {K:PySem.W.Frag} {C:Addr}:∀ vs H Q E,sp__law_whole K C vs H Q E→rd__law_whole K C { nx:=fun _ H'=>Q .non H',rt:=Q } (start ["_law_found"] vs) H:=by
  rintro vs H Q E ⟨i,rfl,k⟩
  unfold rd__law_whole
  walk_at "x"
  refine x_isi (.int i) kit_ii ?_
  walk_at "x"
  refine iteT ?_
  walk_at "x"
  refine x_isi (.int i) kit_ib ?_
  walk_at "x"
  exact k
def sp__law_weight (K:PySem.W.Frag) (C:Addr):Sp:=fun vs H Q _=>∃ (c:Int) (k:Nat),vs=[.int c,.int k]∧k≤1000∧∀ z:Int,Q (.int z) H
theorem len__law_weight {K:PySem.W.Frag} {C:Addr}:∀ vs H Q E,sp__law_weight K C vs H Q E→vs.length=2:=by
  rintro vs H Q E ⟨c,k,rfl,_⟩; rfl
theorem run__law_weight {K:PySem.W.Frag} {C:Addr}:∀ vs H Q E,sp__law_weight K C vs H Q E→rd__law_weight K C { nx:=fun _ H'=>Q .non H',rt:=Q } (start ["_law_cell","_law_k","_law_way"] vs) H:=by
  rintro vs H Q E ⟨c,k,rfl,hk,q⟩
  have hm:CMul 3 (k:Int):=.inl ⟨by decide,by decide⟩
  have hm2:CMul (k:Int) (k:Int):=.inl ⟨by omega,by omega⟩
  have hpw:CPow 10 60:=⟨by decide,by decide,by decide⟩
  have hp60:(0:Int) < 10 ^ (60:Int).toNat:=by decide
  unfold rd__law_weight
  walk_at "x"
  refine ifd (fun _=>?_) fun _=>?_
  · walk_at "x"
    exact q _
  walk_at "x"
  refine ifd (fun _=>?_) fun _=>?_
  · walk_at "x"
    exact q _
  walk_at "x"
  refine ifd (fun _=>?_) fun _=>?_
  · walk_at "x"
    exact q _
  walk_at "x"
  exact q _
def mgN (nm:List Int) (x y:Nat):List Int:=nm.map fun v=>if v=nm.getD y 0 then nm.getD x 0 else v
def sp__law_merged (K:PySem.W.Frag) (C:Addr):Sp:=fun vs H Q _=>∃ (l:Addr) (nm:List Int) (x y:Nat),vs=[.ref l,.int x,.int y]∧H l=some (.lst (nm.map V.int))∧nm.length≤1000∧x < nm.length∧y < nm.length∧∀ q H',Same H H'→H q=none→H' q=some (.lst ((mgN nm x y).map V.int))→Q (.ref q) H'
theorem len__law_merged {K:PySem.W.Frag} {C:Addr}:∀ vs H Q E,sp__law_merged K C vs H Q E→vs.length=3:=by
  rintro vs H Q E ⟨l,nm,x,y,rfl,_⟩; rfl
theorem run__law_merged {K : PySem.W.Frag} {C : Addr} : ∀ vs H Q E, sp__law_merged K C vs H Q E → rd__law_merged K C { nx := fun _ H' => Q .non H', rt := Q } (start ["_law_names", "_law_a", "_law_b", "_law_kept", "_law_gone"] vs) H := by
  rintro vs H Q E ⟨l,nm,x,y,rfl,hl,hle,hx,hy,k⟩
  have gx:nm.getD x 0=nm[x]:=by simp [hx]
  have gy:nm.getD y 0=nm[y]:=by simp [hy]
  unfold rd__law_merged
  walk_at "x"
  refine x_ixI (SqL.of hl) rfl (List.getElem?_eq_getElem hx) ?_
  walk_at "x"
  refine x_ixI (SqL.of hl) rfl (List.getElem?_eq_getElem hy) ?_
  walk_at "x"
  refine .inl ⟨⟨_,SqL.of hl⟩,fun acc hacc=>?_⟩
  refine comp_lst (fun i y' _=>∃ v,nm[i]? = some v∧y' = .int (if v=nm[y] then nm[x] else v)) (fun σ=>∃ o,σ = [o,some (.int nm[x]),some (.int nm[y])]) (SqL.of hl) hacc ⟨_,rfl⟩ (by rw [List.length_map]; omega) (fun i y' H2 H3 ws _ _ e=>e) (fun i xv σ' H2 G hi hxv S2 hS done=>?_) fun ys H2 hly gy' S2 hE=>?_
  · obtain ⟨o,rfl⟩:=hS
    rw [List.getElem?_map] at hxv
    obtain ⟨v,hv,rfl⟩:=Option.map_eq_some_iff.mp hxv
    walk_at "x"
    refine ifV (p:=v=nm[y]) (by rw [decide_eq_true_iff,eq_int_iff]) (fun e=>?_) fun e=>?_
    · walk_at "x"
      exact done _ _ _ ⟨_,rfl⟩ (fun _ _ e=>e) ⟨v,hv,by rw [if_pos e]⟩
    · walk_at "x"
      exact done _ _ _ ⟨_,rfl⟩ (fun _ _ e=>e) ⟨v,hv,by rw [if_neg e]⟩
  · have ey:ys=(mgN nm x y).map V.int:=by
      apply List.ext_getElem?
      intro i
      cases e:ys[i]? with
      | some y' =>
        obtain ⟨v,hv,rfl⟩:=hE i y' e
        unfold mgN
        rw [gx,gy]
        simp [hv]
      | none =>
        have:=List.getElem?_eq_none_iff.mp e
        rw [hly,List.length_map] at this
        exact (List.getElem?_eq_none (by unfold mgN; simpa using this)).symm
    subst ey
    exact k acc H2 S2 hacc gy'
def sp__law_kinds (K:PySem.W.Frag) (C:Addr):Sp:=fun vs H Q _=>∃ (l:Addr) (zs:List Zn),vs=[.ref l]∧H l=some (.lst (zs.map refN))∧(∀ z ∈ zs,FlatAt [false,false,true] H z)∧Q (.bl true) H
theorem len__law_kinds {K:PySem.W.Frag} {C:Addr}:∀ vs H Q E,sp__law_kinds K C vs H Q E→vs.length=1:=by
  rintro vs H Q E ⟨l,zs,rfl,_⟩; rfl
theorem flat4 {xs : List V} {ks : List Int} (h : Flat [false, false, false, true] xs ks) : ∃ a b c d, xs = [.int a, .int b, .int c, .bl d] ∧ ks = [a, b, c, b2i d] := by
  cases h with
  | int a h => cases h with
    | int b h => cases h with
      | int c h => cases h with
        | bl d h=>cases h; exact ⟨a,b,c,d,rfl,rfl⟩
theorem run__law_kinds {K:PySem.W.Frag} {C:Addr}:∀ vs H Q E,sp__law_kinds K C vs H Q E→rd__law_kinds K C (sp__law_whole K C) { nx:=fun _ H'=>Q .non H',rt:=Q } (start ["_law_rows","_law_row"] vs) H:=by
  rintro vs H Q E ⟨l,zs,rfl,hl,fl,k⟩
  unfold rd__law_kinds
  walk_at "x"
  refine x_isi (.lst hl) kit_ll ?_
  refine ⟨_,rfl,?_⟩
  rw [if_neg (by simp)]
  walk_at "x"
  unfold lp__law_kinds_1
  walk_at "x"
  refine .inl ⟨⟨_,SqL.of hl⟩,for_list (K:=K) (a:=l) (xs:=zs.map refN) (fun i σ H'=>H'=H∧∃ o,σ = [some (.ref l),o]) ⟨rfl,_,rfl⟩ ?_ ?_ ?_⟩
  · rintro i σ H' _ ⟨rfl,_⟩; exact SqL.of hl
  · rintro i zv σ H' hi ⟨rfl,o,rfl⟩
    rw [List.getElem?_map] at hi
    obtain ⟨z,hz,rfl⟩:=Option.map_eq_some_iff.mp hi
    obtain ⟨xs,ht,hf⟩:=fl z (List.mem_of_getElem? hz)
    obtain ⟨a,b,c,d,rfl,_⟩:=flat4 hf
    walk_at "x"
    refine x_isi (.tup ht) kit_tt ?_
    refine ⟨_,rfl,?_⟩
    rw [if_neg (by simp)]
    walk_at "x"
    refine x_lenT (SqT.of ht) ?_
    walk_at "x"
    rw [if_neg (by simp)]
    walk_at "x"
    refine x_ixT (SqT.of ht) (atI_of (j:=3) rfl rfl) ?_
    walk_at "x"
    refine x_isi (.bl d) kit_bb ?_
    refine ⟨_,rfl,?_⟩
    rw [if_neg (by simp)]
    walk_at "x"
    refine x_ixT (SqT.of ht) (atI_of (j:=0) rfl rfl) ?_
    walk_at "x"
    refine ⟨a,rfl,?_⟩
    refine ⟨_,rfl,?_⟩
    rw [if_neg (by simp)]
    walk_at "x"
    refine x_ixT (SqT.of ht) (atI_of (j:=1) rfl rfl) ?_
    walk_at "x"
    refine ⟨b,rfl,?_⟩
    refine ⟨_,rfl,?_⟩
    rw [if_neg (by simp)]
    walk_at "x"
    refine x_ixT (SqT.of ht) (atI_of (j:=2) rfl rfl) ?_
    walk_at "x"
    refine ⟨c,rfl,?_⟩
    refine ⟨_,rfl,?_⟩
    rw [if_neg (by simp)]
    walk_at "x"
    exact ⟨rfl,_,rfl⟩
  · rintro σ H' ⟨rfl,o,rfl⟩
    walk_at "x"
    exact k
end K51
namespace K51
open Rm
theorem x_iRng2 {ta:TA} {σ:L2.St} {H:Hp} {R:It→Hp→Prop} (h:ta σ H fun vs H1=>∃ i j:Int,vs=[.int i,.int j]∧(-(2 ^ 62)≤i∧i < 2 ^ 62∧-(2 ^ 62)≤j∧j < 2 ^ 62)∧R (Itr i (j - i).toNat) H1):iRng2 ta σ H R:=h
def Pr (n:Nat) (H:Hp) (v:V):Prop:=∃ (b:Addr) (x y:Int),v = .ref b∧H b=some (.tup [.int x,.int y])∧0≤x∧x < n∧0≤y∧y < n
theorem Pr.same {n:Nat} {H H':Hp} {v:V} (h:Pr n H v) (S:Same H H'):Pr n H' v:=let ⟨b,x,y,e,g,r⟩:=h; ⟨b,x,y,e,S _ _ g,r⟩
theorem Pr.but {n:Nat} {H H':Hp} {v:V} {c:Addr} {zs:List V} (h:Pr n H v) (hc:H c=some (.lst zs)) (S:SameBut1 c H H'):Pr n H' v:=let ⟨b,x,y,e,g,r⟩:=h; ⟨b,x,y,e,S _ _ g (ne_of g hc (by intro z; cases z)),r⟩
def PL (n k:Nat) (H:Hp) (l:Addr):Prop:=∃ ys,H l=some (.lst ys)∧ys.length≤k∧∀ y ∈ ys,Pr n H y
theorem comp_pr {n:Nat} {σ0:L2.St} {g:TG} {te:TE} {lo:Int} {m:Nat} {acc:Addr} {H:Hp} {R:Hp→Prop} (S:L2.St→Prop) (ha:H acc=none) (s0:S σ0) (hn:m≤100)
    (turn:∀ (i:Nat) (σ':L2.St) (H':Hp) (G:V→L2.St→Hp→Prop),i < m→S σ'→(∀ y σ2 H5,S σ2→Same H' H5→Pr n H5 y→G y σ2 H5)→g (.int (lo+i)) σ' H' fun σ2 H3=>te σ2 H3 fun y H5=>G y σ2 H5)
    (fin:∀ H',Same H H'→PL n m H' acc→R H') :
    ∃ W:Nat→Nat→List V→L2.St→Hp→Prop,(∃ m,W 0 m [] σ0 (upd H acc (.lst [])))∧∀ i m' ys σ' H',W i m' ys σ' H'→H' acc=some (.lst ys) ∧
    (((Itr lo m).stop i H'∧R H')∨((Itr lo m).go i H'∧∀ x H2,(Itr lo m).yld i H' x H2→g x σ' H2 fun σ2 H3=>tYes σ2 H3 fun b H4 =>
      if b=true then te σ2 H4 fun y H5=>H5 acc=some (.lst ys)∧ys.length < sizeLine∧∃ m'',m'' < m'∧W (i+1) m'' (ys ++ [y]) σ2 (upd H5 acc (.lst (ys ++ [y]))) else ∃ m'',m'' < m'∧W (i+1) m'' ys σ2 H4)) :=
  comp_rng (fun _ y H'=>Pr n H' y) S ha s0 (by omega) (fun i y H1 H2 zs h1 h2 h3=>h3.but h1 h2) (fun i σ' H' G hi _ hS done=>turn i σ' H' G hi hS done)
    fun ys H' hl gy S' hE=>fin H' S' ⟨ys,gy,by omega,fun y hy=>by obtain ⟨i,hi⟩:=List.mem_iff_getElem?.mp hy; exact hE i y hi⟩
def sp__law_shape (K:PySem.W.Frag) (C:Addr):Sp:=fun vs H Q _=>∃ (n:Nat) (w:Int),vs=[.int n,.int w]∧1≤n∧n≤20∧∀ l H',Same H H'→H l=none→PL n 60 H' l→Q (.ref l) H'
theorem len__law_shape {K:PySem.W.Frag} {C:Addr}:∀ vs H Q E,sp__law_shape K C vs H Q E→vs.length=2:=by
  rintro vs H Q E ⟨n,w,rfl,_⟩; rfl
theorem none_of {H H':Hp} {b:Addr} (S:Same H H') (h:H' b=none):H b=none:=by
  cases z:H b with
  | none=>rfl
  | some o=>rw [S _ _ z] at h; cases h
theorem PL.cat {n k m r:Nat} {H:Hp} {l b p:Addr} {xs zs:List V} (h1:H l=some (.lst xs)) (h2:H b=some (.lst zs)) (p1:xs.length≤k∧∀ y ∈ xs,Pr n H y) (p2:zs.length≤m∧∀ y ∈ zs,Pr n H y) (hp:H p=none) (hr:k+m≤r):PL n r (upd H p (.lst (xs ++ zs))) p :=
  ⟨_,upd_same,by rw [List.length_append]; omega,fun y hy=>by
    rcases List.mem_append.mp hy with h | h
    · exact (p1.2 y h).same (Same.upd_new hp)
    · exact (p2.2 y h).same (Same.upd_new hp)⟩
theorem run__law_shape {K : PySem.W.Frag} {C : Addr} : ∀ vs H Q E, sp__law_shape K C vs H Q E → rd__law_shape K C { nx := fun _ H' => Q .non H', rt := Q } (start ["_law_n", "_law_way", "_law_net"] vs) H := by
  rintro vs H Q E ⟨n,w,rfl,hn1,hn2,k⟩
  have hmod:∀ z:Int,0≤z % (n:Int)∧z % (n:Int) < n:=fun z=>⟨Int.emod_nonneg z (by omega),Int.emod_lt_of_pos z (by omega)⟩
  unfold rd__law_shape
  walk_at "x"
  refine ifd (fun _=>?_) fun _=>?_
  · walk_at "x"
    refine ⟨by omega,by omega,fun acc hacc=>?_⟩
    rw [show ((n:Int)).toNat=n by omega]
    refine comp_pr (n:=n) (fun σ=>∃ o,σ = [o,some (.int n)]) hacc ⟨_,rfl⟩ (by omega) (fun i σ' H' G hi hS done=>?_) fun H' S' hP=>?_
    · obtain ⟨o,rfl⟩:=hS
      walk_at "x"
      refine ⟨small_le (m:=2) (Nat.le_refl 2),fun q hq=>done _ _ _ ⟨_,rfl⟩ (Same.upd_new hq) ⟨q,_,_,rfl,upd_same,by omega,by omega,(hmod _).1,(hmod _).2⟩⟩
    · obtain ⟨ys,g,hl,hy⟩:=hP
      exact k acc H' S' hacc ⟨ys,g,by omega,hy⟩
  walk_at "x"
  refine ifd (fun _=>?_) fun _=>?_
  · walk_at "x"
    refine ⟨by omega,by omega,fun acc hacc=>?_⟩
    refine comp_by (n:=36) (fun t ys H1=>H1 acc=some (.lst ys)∧Same H H1∧ys.length≤t∧∀ y ∈ ys,Pr n H1 y) (fun σ=>∃ o,σ = [o,some (.int n)]) ⟨upd_same,Same.upd_new hacc,Nat.le_refl 0,fun y hy=>nomatch hy⟩ ⟨_,rfl⟩ ?_ ?_ ?_ ?_
    · rintro t ys H1 ⟨e,_⟩; exact e
    · rintro ys H1 ⟨g1,S1,hl,hy⟩
      refine ⟨Nat.le_refl _,?_⟩
      walk_at "x"
      refine x_iRng2 ?_
      walk_at "x"
      refine ⟨6,n,rfl,by omega,fun acc2 hacc2=>?_⟩
      refine comp_pr (n:=n) (fun σ=>∃ o,σ = [o]) hacc2 ⟨_,rfl⟩ (by omega) (fun i σ' H' G hi hS done=>?_) fun H2 S2 hP=>?_
      · obtain ⟨o,rfl⟩:=hS
        walk_at "x"
        refine ⟨small_le (m:=2) (Nat.le_refl 2),fun q hq=>done _ _ _ ⟨_,rfl⟩ (Same.upd_new hq) ⟨q,_,_,rfl,upd_same,by omega,by omega,by omega,by omega⟩⟩
      · obtain ⟨zs,g2,hl2,hy2⟩:=hP
        refine x_cat (S2 _ _ g1) g2 (small_le (m:=100) (by omega)) fun p hp=>?_
        refine k p _ (fun b o e=>Same.upd_new hp _ _ (S2 _ _ (S1 _ _ e))) (none_of (fun b o e=>S2 _ _ (S1 _ _ e)) hp) (PL.cat (k:=36) (m:=20) (S2 _ _ g1) g2 ⟨hl,fun y h=>(hy y h).same S2⟩ ⟨by omega,hy2⟩ hp (by omega))
    · rintro t ys H1 ht _; exact ht
    · rintro t ys σ' H1 x H2 ht ⟨g1,S1,hl,hy⟩ ⟨o,rfl⟩ ⟨eH,ex⟩
      subst eH ex
      have skip:∃ m',m' < 36 - t∧CNext 36 (t+1) (fun σ=>∃ o,σ = [o,some (.int n)]) (fun ys H1=>H1 acc=some (.lst ys)∧Same H H1∧ys.length≤t+1∧∀ y ∈ ys,Pr n H1 y) m' ys [some (.int (0+(t:Int))),some (.int n)] H2:=CNext.mk' ht ⟨_,rfl⟩ ⟨g1,S1,by omega,hy⟩
      walk_at "x"
      refine ifd (fun c1=>?_) fun _=>?_
      · walk_at "x"
        refine ifd (fun c2=>?_) fun _=>?_
        · walk_at "x"
          refine ⟨small_le (m:=2) (Nat.le_refl 2),fun q hq=>?_⟩
          have T:=Same.upd_new (o:=.tup [.int ((0+(t:Int)) / 6),.int ((0+(t:Int)) % 6)]) hq
          have gq:(upd H2 q (.tup [.int ((0+(t:Int)) / 6),.int ((0+(t:Int)) % 6)])) q=some (.tup [.int ((0+(t:Int)) / 6),.int ((0+(t:Int)) % 6)]):=upd_same
          generalize upd H2 q (.tup [.int ((0+(t:Int)) / 6),.int ((0+(t:Int)) % 6)])=H3 at T gq
          have pq:Pr n H3 (.ref q):=⟨q,_,_,rfl,gq,by omega,by omega,by omega,by omega⟩
          refine ⟨T _ _ g1,small_lt (m:=100) (by omega),CNext.mk' ht ⟨_,rfl⟩ ⟨upd_same,fun b o e=>by rw [upd_ne (ne_of_none e hacc)]; exact T _ _ (S1 _ _ e),by rw [List.length_append]; simp; omega,fun y h=>?_⟩⟩
          rcases List.mem_append.mp h with h | h
          · exact ((hy y h).same T).but (T _ _ g1) SameBut1.upd
          · rw [List.mem_singleton.mp h]; exact pq.but (T _ _ g1) SameBut1.upd
        · exact skip
      · exact skip
  walk_at "x"
  refine ifd (fun _=>?_) fun _=>?_
  · walk_at "x"
    refine ⟨by omega,by omega,fun acc hacc=>?_⟩
    refine comp_pr (n:=n) (fun σ=>∃ o,σ = [o]) hacc ⟨_,rfl⟩ (by omega) (fun i σ' H' G hi hS done=>?_) fun H1 S1 hP=>?_
    · obtain ⟨o,rfl⟩:=hS
      walk_at "x"
      refine ⟨small_le (m:=2) (Nat.le_refl 2),fun q hq=>done _ _ _ ⟨_,rfl⟩ (Same.upd_new hq) ⟨q,_,_,rfl,upd_same,by omega,by omega,by omega,by omega⟩⟩
    obtain ⟨xs,g1,hl,hy⟩:=hP
    walk_at "x"
    refine ⟨by omega,by omega,fun acc2 hacc2=>?_⟩
    refine comp_pr (n:=n) (fun σ=>∃ o,σ = [o]) hacc2 ⟨_,rfl⟩ (by omega) (fun i σ' H' G hi hS done=>?_) fun H2 S2 hP=>?_
    · obtain ⟨o,rfl⟩:=hS
      walk_at "x"
      refine ⟨small_le (m:=2) (Nat.le_refl 2),fun q hq=>done _ _ _ ⟨_,rfl⟩ (Same.upd_new hq) ⟨q,_,_,rfl,upd_same,by omega,by omega,by omega,by omega⟩⟩
    obtain ⟨zs,g2,hl2,hy2⟩:=hP
    refine x_cat (S2 _ _ g1) g2 (small_le (m:=100) (by omega)) fun p hp=>?_
    exact k p _ (fun b o e=>Same.upd_new hp _ _ (S2 _ _ (S1 _ _ e))) (none_of (fun b o e=>S2 _ _ (S1 _ _ e)) hp) (PL.cat (k:=20) (m:=20) (S2 _ _ g1) g2 ⟨by omega,fun y h=>(hy y h).same S2⟩ ⟨by omega,hy2⟩ hp (by omega))
  walk_at "x"
  refine ifd (fun _=>?_) fun _=>?_
  · walk_at "x"
    refine ⟨by omega,by omega,fun acc hacc=>?_⟩
    refine comp_pr (n:=n) (fun σ=>∃ o,σ = [o]) hacc ⟨_,rfl⟩ (by omega) (fun i σ' H' G hi hS done=>?_) fun H1 S1 hP=>?_
    · obtain ⟨o,rfl⟩:=hS
      walk_at "x"
      refine ⟨small_le (m:=2) (Nat.le_refl 2),fun q hq=>done _ _ _ ⟨_,rfl⟩ (Same.upd_new hq) ⟨q,_,_,rfl,upd_same,by omega,by omega,by omega,by omega⟩⟩
    obtain ⟨xs,g1,hl,hy⟩:=hP
    walk_at "x"
    refine ⟨by omega,by omega,fun acc2 hacc2=>?_⟩
    refine comp_pr (n:=n) (fun σ=>∃ o,σ = [o]) hacc2 ⟨_,rfl⟩ (by omega) (fun i σ' H' G hi hS done=>?_) fun H2 S2 hP=>?_
    · obtain ⟨o,rfl⟩:=hS
      walk_at "x"
      refine ⟨small_le (m:=2) (Nat.le_refl 2),fun q hq=>done _ _ _ ⟨_,rfl⟩ (Same.upd_new hq) ⟨q,_,_,rfl,upd_same,by omega,by omega,by omega,by omega⟩⟩
    obtain ⟨zs,g2,hl2,hy2⟩:=hP
    refine x_cat (S2 _ _ g1) g2 (small_le (m:=100) (by omega)) fun p hp=>?_
    exact k p _ (fun b o e=>Same.upd_new hp _ _ (S2 _ _ (S1 _ _ e))) (none_of (fun b o e=>S2 _ _ (S1 _ _ e)) hp) (PL.cat (k:=20) (m:=20) (S2 _ _ g1) g2 ⟨by omega,fun y h=>(hy y h).same S2⟩ ⟨by omega,hy2⟩ hp (by omega))
  walk_at "x"
  refine ifd (fun _=>?_) fun _=>?_
  · walk_at "x"
    refine x_iRng2 ?_
    walk_at "x"
    refine ⟨1,n,rfl,by omega,fun acc hacc=>?_⟩
    refine comp_pr (n:=n) (fun σ=>∃ o,σ = [o]) hacc ⟨_,rfl⟩ (by omega) (fun i σ' H' G hi hS done=>?_) fun H' S' hP=>?_
    · obtain ⟨o,rfl⟩:=hS
      walk_at "x"
      refine ⟨small_le (m:=2) (Nat.le_refl 2),fun q hq=>done _ _ _ ⟨_,rfl⟩ (Same.upd_new hq) ⟨q,_,_,rfl,upd_same,by omega,by omega,by omega,by omega⟩⟩
    · obtain ⟨ys,g,hl,hy⟩:=hP
      exact k acc H' S' hacc ⟨ys,g,by omega,hy⟩
  walk_at "x"
  refine ⟨small_le (m:=0) (Nat.le_refl 0),fun l hl=>?_⟩
  exact k l _ (Same.upd_new hl) hl ⟨[],upd_same,Nat.zero_le _,fun y hy=>nomatch hy⟩
end K51
namespace K51
end K51
namespace K51
open Rm
theorem cut_ints (ns:List Int) (lo hi:Option Int):∃ ms:List Int,cutV (ns.map V.int) lo hi=ms.map V.int∧ms.length≤ns.length:=by
  refine ⟨(ns.drop (HT.sIx (ns.map V.int).length 0 lo)).take (HT.sIx (ns.map V.int).length (ns.map V.int).length hi - HT.sIx (ns.map V.int).length 0 lo),?_,?_⟩
  · unfold cutV
    rw [← List.map_drop,← List.map_take]
  · rw [List.length_take,List.length_drop]; omega
theorem perm_map {α β:Type} {f:α→β}:∀ {ys:List β} {zs:List β},ys.Perm zs→∀ l:List α,zs=l.map f→∃ l':List α,ys=l'.map f∧l'.Perm l:=by
  intro ys zs h
  induction h with
  | nil=>intro l e; exact ⟨l,e,.refl _⟩
  | cons x _ ih =>
    intro l e
    match l,e with
    | a :: l, e =>
      injection e with e1 e2
      obtain ⟨l',h1,h2⟩:=ih l e2
      exact ⟨a :: l',by rw [h1,e1]; rfl,h2.cons a⟩
  | swap x y _ =>
    intro l e
    match l,e with
    | a :: b :: l, e =>
      injection e with e1 e2
      injection e2 with e2 e3
      exact ⟨b :: a :: l,by rw [e1,e2,e3]; rfl,.swap a b l⟩
  | trans _ _ ih1 ih2 =>
    intro l e
    obtain ⟨l1,h1,h2⟩:=ih2 l e
    obtain ⟨l2,h3,h4⟩:=ih1 l1 h1
    exact ⟨l2,h3,h4.trans h2⟩
theorem Told.perm {n:Nat} {ts us:List Tr} (h:Told n ts) (p:us.Perm ts):Told n us:=⟨fun t ht=>h.lt t (p.mem_iff.mp ht),(p.map _).nodup_iff.mpr h.nd,by rw [p.length_eq]; exact h.len⟩
abbrev LT2 (Pt:Addr) (H:Hp):Prop:=LamT Pt ⟨239,47,239,130⟩ ((("_law_told":Str) ++ ".<locals>.") ++ "<lambda>") H
def knT (t:Tr):List Key × V:=(pk (lo t) (up t),.bl true)
theorem sq_same {K:PySem.W.Frag} {H H':Hp} {a:Addr} {xs:List V} (h:SqL K H a xs) (S:Same H H'):SqL K H' a xs:=by
  rcases h with (h | ⟨o,h⟩) | h
  · exact .inl (.inl (S _ _ h))
  · exact .inl (.inr ⟨o,S _ _ h⟩)
  · exact .inr h
def sp__law_told (K:PySem.W.Frag) (C:Addr) (Pt:Addr):Sp:=fun vs H Q _=>∃ (S:Addr) (ns:List Int),vs=[.ref S]∧SqL K H S (ns.map V.int)∧ns.length≤63∧LT2 Pt H ∧
  ∀ (r l:Addr) (n:Nat) (ts:List Tr) H',H' r=some (.tup [.int n,.ref l])→1≤n→n≤20→H' l=some (.lst (ts.map refT))→(∀ t ∈ ts,TrAt H' t)→Told n ts→ts.length≤36→SameT Pt H H'→Q (.ref r) H'
theorem len__law_told {K:PySem.W.Frag} {C Pt:Addr}:∀ vs H Q E,sp__law_told K C Pt vs H Q E→vs.length=1:=by
  rintro vs H Q E ⟨S,ns,rfl,_⟩; rfl
theorem run__law_told {K : PySem.W.Frag} {C Pt : Addr} : ∀ vs H Q E, sp__law_told K C Pt vs H Q E → rd__law_told K C Pt (sp__law_cell_at K C) (sp__law_shape K C) (sp__law_weight K C) { nx := fun _ H' => Q .non H', rt := Q } (start ["_law_script", "_law_first", "_law_n", "_law_pairs", "_law_cell", "_law_told_here", "_law_known", "_law_k", "_law_a", "_law_b", "_law_tie", "_law_weight_here", "_law_turn"] vs) H := by
  rintro vs H Q E ⟨S,ns,rfl,hS,hns,hT,k⟩
  unfold rd__law_told
  walk_at "x"
  refine ⟨S,ns,0,rfl,hS,fun z=>?_⟩
  walk_at "x"
  obtain ⟨n,hn⟩:∃ n:Nat,1+z % 20=(n:Int):=⟨(1+z % 20).toNat,by omega⟩
  rw [hn]
  have hn1:1≤n:=by omega
  have hn2:n≤20:=by omega
  have hmod:∀ z:Int,0≤z % (n:Int)∧z % (n:Int) < n:=fun z=>⟨Int.emod_nonneg z (by omega),Int.emod_lt_of_pos z (by omega)⟩
  refine ⟨n,_,rfl,hn1,hn2,fun pl H1 S1 hpl hP=>?_⟩
  walk_at "x"
  unfold lp__law_told_1
  walk_at "x"
  refine x_slL (sq_same hS S1) fun s hs=>?_
  obtain ⟨ms,em,hm⟩:=cut_ints ns (some 2) (some 26)
  rw [em]
  have S2:=Same.upd_new (o:=.lst (ms.map V.int)) hs
  have gs:(upd H1 s (.lst (ms.map V.int))) s=some (.lst (ms.map V.int)):=upd_same
  generalize upd H1 s (.lst (ms.map V.int))=H2 at S2 gs
  have nsp:s≠pl:=Ne.symm (by obtain ⟨ys,g,_⟩:=hP; exact ne_of_none g hs)
  have hP2:PL n 60 H2 pl:=by obtain ⟨ys,g,hl,hy⟩:=hP; exact ⟨ys,S2 _ _ g,hl,fun y h=>(hy y h).same S2⟩
  refine ⟨s,rfl,.inl ⟨⟨_,SqL.of gs⟩,for_list (K:=K) (a:=s) (xs:=ms.map V.int)
    (fun i σ H3=>Same H H3∧H3 s=some (.lst (ms.map V.int))∧PL n (60+i) H3 pl∧∃ o4 o5 o6 o7 o8 o9 o10 o11 o12,σ = [some (.ref S),some (.int z),some (.int n),some (.ref pl),o4,o5,o6,o7,o8,o9,o10,o11,o12])
    ⟨fun b o e=>S2 _ _ (S1 _ _ e),gs,hP2,_,_,_,_,_,_,_,_,_,rfl⟩ ?_ ?_ ?_⟩⟩
  · rintro i σ H3 _ ⟨_,g,_⟩; exact SqL.of g
  · rintro i cv σ H3 hi ⟨S3,g3,⟨ys,gp,hl,hy⟩,o4,o5,o6,o7,o8,o9,o10,o11,o12,rfl⟩
    rw [List.getElem?_map] at hi
    obtain ⟨c,hc,rfl⟩:=Option.map_eq_some_iff.mp hi
    have hi63:i < 63:=by have:=(List.getElem?_eq_some_iff.mp hc).1; omega
    walk_at "x"
    refine ⟨.inl ⟨rfl,_,SqL.of gp⟩,?_⟩
    walk_at "x"
    refine ⟨small_le (m:=2) (Nat.le_refl 2),fun q hq=>?_⟩
    have T:=Same.upd_new (o:=.tup [.int (c % n),.int (c * 48271 % 2147483647 % n)]) hq
    have gq:(upd H3 q (.tup [.int (c % n),.int (c * 48271 % 2147483647 % n)])) q=some (.tup [.int (c % n),.int (c * 48271 % 2147483647 % n)]):=upd_same
    generalize upd H3 q (.tup [.int (c % n),.int (c * 48271 % 2147483647 % n)])=H4 at T gq
    have pq:Pr n H4 (.ref q):=⟨q,_,_,rfl,gq,(hmod _).1,(hmod _).2,(hmod _).1,(hmod _).2⟩
    walk_at "x"
    refine x_append (T _ _ gp) (small_lt (m:=1000) (by omega)) ?_
    refine ⟨fun b o e=>?_,by rw [upd_ne nsp]; exact T _ _ g3,⟨ys ++ [.ref q],upd_same,by rw [List.length_append]; simp; omega,fun y h=>?_⟩,_,_,_,_,_,_,_,_,_,rfl⟩
    · rw [upd_ne (ne_of_none e hpl)]; exact T _ _ (S3 _ _ e)
    · rcases List.mem_append.mp h with h | h
      · exact ((hy y h).same T).but (T _ _ gp) SameBut1.upd
      · rw [List.mem_singleton.mp h]; exact pq.but (T _ _ gp) SameBut1.upd
  · rintro σ H3 ⟨S3,_,⟨ys,gp,hl,hy⟩,o4,o5,o6,o7,o8,o9,o10,o11,o12,rfl⟩
    rw [List.length_map] at hl
    walk_at "x"
    refine ⟨small_le (m:=0) (Nat.le_refl 0),fun tl htl=>?_⟩
    have T4:=Same.upd_new (o:=.lst []) htl
    have gt:(upd H3 tl (.lst [])) tl=some (.lst []):=upd_same
    generalize upd H3 tl (.lst [])=H4 at T4 gt
    walk_at "x"
    refine x_dnewT fun dk hdk=>?_
    have T5:=Same.upd_new (o:=.dT []) hdk
    have gk:(upd H4 dk (.dT [])) dk=some (.dT []):=upd_same
    generalize upd H4 dk (.dT [])=H5 at T5 gk
    have S5:Same H H5:=fun b o e=>T5 _ _ (T4 _ _ (S3 _ _ e))
    have htl0:H tl=none:=none_of S3 htl
    have hdk0:H dk=none:=none_of (fun b o e=>T4 _ _ (S3 _ _ e)) hdk
    have gp5:H5 pl=some (.lst ys):=T5 _ _ (T4 _ _ gp)
    have hy5:∀ y ∈ ys,Pr n H5 y:=fun y h=>((hy y h).same T4).same T5
    have npt:pl≠tl:=ne_of_none gp htl
    have ntk:tl≠dk:=ne_of_none gt hdk
    have gt5:=T5 _ _ gt
    walk_at "x"
    unfold lp__law_told_2
    walk_at "x"
    refine x_lenL (SqL.of gp5) ?_
    walk_at "x"
    refine ⟨by omega,by omega,?_⟩
    rw [show ((ys.length:Int)).toNat=ys.length by omega]
    refine for_range (fun i σ H6=>Same H H6∧H6 pl=some (.lst ys)∧(∀ y ∈ ys,Pr n H6 y)∧(∃ ts:List Tr,H6 tl=some (.lst (ts.map refT))∧H6 dk=some (.dT (ts.map knT))∧(∀ t ∈ ts,TrAt H6 t)∧Told n ts∧ts.length≤36)∧∃ o4 o7 o8 o9 o10 o11 o12,σ = [some (.ref S),some (.int z),some (.int n),some (.ref pl),o4,some (.ref tl),some (.ref dk),o7,o8,o9,o10,o11,o12])
      ⟨S5,gp5,hy5,⟨[],gt5,gk,fun t ht=>(nomatch ht),⟨fun t ht=>(nomatch ht),List.nodup_nil,by decide⟩,Nat.zero_le _⟩,_,_,_,_,_,_,_,rfl⟩ ?_ ?_
    · rintro i σ H6 hi ⟨S6,gp6,hy6,⟨ts,gtl,gdk,trs,td,hl36⟩,o4,o7,o8,o9,o10,o11,o12,rfl⟩
      have hS6:=sq_same hS S6
      obtain ⟨yv,hyv⟩:∃ yv,ys[i]? = some yv:=⟨_,List.getElem?_eq_getElem hi⟩
      obtain ⟨b,x,y,rfl,gb,x0,x1,y0,y1⟩:=hy6 yv (List.mem_of_getElem? hyv)
      obtain ⟨X,rfl⟩:∃ X:Nat,x=(X:Int):=⟨x.toNat,by omega⟩
      obtain ⟨Y,rfl⟩:∃ Y:Nat,y=(Y:Int):=⟨y.toNat,by omega⟩
      walk_at "x"
      refine x_ixL (SqL.of gp6) (atI_of (j:=i) (by simp) hyv) ?_
      refine ⟨b,_,rfl,SqT.of gb,rfl,?_⟩
      walk_at "x"
      refine ⟨small_le (m:=2) (Nat.le_refl 2),fun q hq=>?_⟩
      have emin:(if (Y:Int) < X then (Y:Int) else X)=((min X Y:Nat):Int):=by split <;> omega
      have emax:(if (Y:Int) > X then (Y:Int) else X)=((max X Y:Nat):Int):=by split <;> omega
      rw [emin,emax]
      have T7:=Same.upd_new (o:=.tup [.int ((min X Y:Nat):Int),.int ((max X Y:Nat):Int)]) hq
      have gq:(upd H6 q (.tup [.int ((min X Y:Nat):Int),.int ((max X Y:Nat):Int)])) q=some (.tup [.int ((min X Y:Nat):Int),.int ((max X Y:Nat):Int)]):=upd_same
      generalize upd H6 q (.tup [.int ((min X Y:Nat):Int),.int ((max X Y:Nat):Int)])=H7 at T7 gq
      have S7:Same H H7:=fun b o e=>T7 _ _ (S6 _ _ e)
      have keep7:Same H H7∧H7 pl=some (.lst ys)∧(∀ y ∈ ys,Pr n H7 y)∧(∃ ts:List Tr,H7 tl=some (.lst (ts.map refT))∧H7 dk=some (.dT (ts.map knT))∧(∀ t ∈ ts,TrAt H7 t)∧Told n ts∧ts.length≤36):=⟨S7,T7 _ _ gp6,fun y h=>(hy6 y h).same T7,ts,T7 _ _ gtl,T7 _ _ gdk,fun t ht=>T7 _ _ (trs t ht),td,hl36⟩
      walk_at "x"
      have eXY:(!decide (V.int (X:Int)=V.int (Y:Int)))=decide (X≠Y):=by
        by_cases e:X=Y
        · subst e; simp
        · rw [decide_eq_true (show X≠Y from e)]
          have:¬ (V.int (X:Int)=V.int (Y:Int)):=fun z=>e (by injection z with z; omega)
          simp [this]
      rw [eXY]
      refine ifd (fun hXY=>?_) fun _=>?_
      rotate_left
      · rw [if_neg (by simp)]
        walk_at "x"
        exact ⟨keep7.1,keep7.2.1,keep7.2.2.1,keep7.2.2.2,_,_,_,_,_,_,_,rfl⟩
      walk_at "x"
      refine .inr ⟨dk,_,rfl,DGet.t (k:=pk (min X Y) (max X Y)) (T7 _ _ gdk) gq,?_⟩
      have knk:(ts.map knT).map (·.1)=ts.map fun t=>(kvT t).1:=by rw [List.map_map]; rfl
      cases hv:valV (ts.map knT) (pk (min X Y) (max X Y)) with
      | some v =>
        refine ⟨_,rfl,?_⟩
        rw [if_neg (by simp)]
        rw [if_neg (by simp)]
        walk_at "x"
        exact ⟨keep7.1,keep7.2.1,keep7.2.2.1,keep7.2.2.2,_,_,_,_,_,_,_,rfl⟩
      | none =>
        refine ⟨_,rfl,?_⟩
        rw [if_pos (by simp)]
        walk_at "x"
        refine x_lenL (SqL.of (T7 _ _ gtl)) ?_
        rw [List.length_map]
        walk_at "x"
        refine ifd (fun h36=>?_) fun _=>?_
        rotate_left
        · first | rw [if_neg (by simp)] | skip
          walk_at "x"
          exact ⟨keep7.1,keep7.2.1,keep7.2.2.1,keep7.2.2.2,_,_,_,_,_,_,_,rfl⟩
        walk_at "x"
        refine .inr ⟨dk,_,rfl,DPut.t (k:=pk (min X Y) (max X Y)) (T7 _ _ gdk) gq (small_lt (m:=100) (by rw [List.length_map]; omega)),?_⟩
        rw [putK_new _ hv]
        have ndk:∀ {b:Addr} {o:HO},H7 b=some o→(∀ ks,o≠.dT ks)→(upd H7 dk (.dT (ts.map knT ++ [(pk (min X Y) (max X Y),.bl true)]))) b=some o:=fun {b o} e hno=>by
          rw [upd_ne]; exact e
          rintro rfl; rw [T7 _ _ gdk] at e; cases e; exact hno _ rfl
        have gdk8:(upd H7 dk (.dT (ts.map knT ++ [(pk (min X Y) (max X Y),.bl true)]))) dk=some (.dT (ts.map knT ++ [(pk (min X Y) (max X Y),.bl true)])):=upd_same
        have S8:Same H (upd H7 dk (.dT (ts.map knT ++ [(pk (min X Y) (max X Y),.bl true)]))):=fun b o e=>by rw [upd_ne (ne_of_none e hdk0)]; exact S7 _ _ e
        generalize upd H7 dk (.dT (ts.map knT ++ [(pk (min X Y) (max X Y),.bl true)]))=H8 at ndk gdk8 S8
        have gtl8:=ndk (T7 _ _ gtl) (fun _ z=>nomatch z)
        have gq8:=ndk gq (fun _ z=>nomatch z)
        have fin:∀ (o4 o7 o8 o9 o10 o12:Option V) (wt:Int) (r:Addr),H8 r=none→(fun (σ:L2.St) (H6:Hp)=>Same H H6∧H6 pl=some (.lst ys)∧(∀ y ∈ ys,Pr n H6 y)∧(∃ ts:List Tr,H6 tl=some (.lst (ts.map refT))∧H6 dk=some (.dT (ts.map knT))∧(∀ t ∈ ts,TrAt H6 t)∧Told n ts∧ts.length≤36)∧∃ o4 o7 o8 o9 o10 o11 o12,σ = [some (.ref S),some (.int z),some (.int n),some (.ref pl),o4,some (.ref tl),some (.ref dk),o7,o8,o9,o10,o11,o12])
            [some (.ref S),some (.int z),some (.int n),some (.ref pl),o4,some (.ref tl),some (.ref dk),o7,o8,o9,o10,some (.int wt),o12] (upd (upd H8 r (.tup [.int (X:Int),.int (Y:Int),.int wt])) tl (.lst (ts.map refT ++ [.ref r]))):=by
          intro o4 o7 o8 o9 o10 o12 wt r hr
          have T9:=Same.upd_new (o:=.tup [.int (X:Int),.int (Y:Int),.int wt]) hr
          have gr:(upd H8 r (.tup [.int (X:Int),.int (Y:Int),.int wt])) r=some (.tup [.int (X:Int),.int (Y:Int),.int wt]):=upd_same
          generalize upd H8 r (.tup [.int (X:Int),.int (Y:Int),.int wt])=H9 at T9 gr
          have gtl9:=T9 _ _ gtl8
          have nt:∀ {b:Addr} {o:HO},b≠tl→H9 b=some o→(upd H9 tl (.lst (ts.map refT ++ [.ref r]))) b=some o:=fun hb e=>by rw [upd_ne hb]; exact e
          have ntp:∀ {b:Addr} {o:HO},H9 b=some o→(∀ xs,o≠.lst xs)→b≠tl:=fun {b o} e hno q=>by rw [q,gtl9] at e; cases e; exact hno _ rfl
          have tr9:∀ t ∈ ts,H9 t.2.2.2=some (.tup [.int t.1,.int t.2.1,.int t.2.2.1]):=fun t ht=>T9 _ _ (ndk (T7 _ _ (trs t ht)) (fun _ z=>nomatch z))
          have lt36:ts.length < 36:=by omega
          refine ⟨fun b o e=>nt (ne_of_none e htl0) (T9 _ _ (S8 _ _ e)),nt npt (T9 _ _ (ndk (T7 _ _ gp6) (fun _ z=>nomatch z))),fun y h=>?_,⟨ts ++ [(X,Y,wt,r)],by rw [upd_same]; simp [refT],?_,fun t ht=>?_,⟨fun t ht=>?_,?_,?_⟩,?_⟩,_,_,_,_,_,_,_,rfl⟩
          · obtain ⟨b',x',y',e',g',r'⟩:=hy6 y h
            have g9:=T9 _ _ (ndk (T7 _ _ g') (fun _ z=>nomatch z))
            exact ⟨b',x',y',e',nt (ntp g9 (fun _ z=>nomatch z)) g9,r'⟩
          · rw [upd_ne (Ne.symm ntk),T9 _ _ gdk8]; simp [knT,lo,up]
          · rcases List.mem_append.mp ht with ht | ht
            · exact nt (ntp (tr9 t ht) (fun _ z=>nomatch z)) (tr9 t ht)
            · rw [List.mem_singleton.mp ht]; exact nt (ntp gr (fun _ z=>nomatch z)) gr
          · rcases List.mem_append.mp ht with ht | ht
            · exact td.lt t ht
            · rw [List.mem_singleton.mp ht]; exact ⟨by show X < n; omega,by show Y < n; omega,hXY⟩
          · rw [List.map_append,List.nodup_append]
            refine ⟨td.nd,by simp,fun k1 h1 k2 h2 e=>?_⟩
            have e2:k2=pk (min X Y) (max X Y):=by simpa [kvT,lo,up] using h2
            have:=valV_not hv
            rw [knk] at this
            exact this (by rw [← e2,← e]; exact h1)
          · rw [List.length_append]; simp; omega
          · rw [List.length_append]; simp; omega
        walk_at "x"
        refine ⟨S,ns,1+i % 30,by simp,sq_same hS S8,fun cz=>?_⟩
        walk_at "x"
        refine ⟨cz,i,by simp,by omega,fun wt=>?_⟩
        walk_at "x"
        refine ifd (fun _=>?_) fun _=>?_
        · walk_at "x"
          refine x_ixT (SqT.of gq8) (atI_of (j:=1) rfl rfl) ?_
          walk_at "x"
          refine x_ixT (SqT.of gq8) (atI_of (j:=0) rfl rfl) ?_
          walk_at "x"
          refine ifd (fun _=>?_) fun _=>?_
          · walk_at "x"
            refine ⟨.inl ⟨rfl,_,SqL.of gtl8⟩,?_⟩
            walk_at "x"
            refine ⟨small_le (m:=3) (Nat.le_refl 3),fun r hr=>?_⟩
            walk_at "x"
            refine x_append (by rw [upd_ne (ne_of_none gtl8 hr)]; exact gtl8) (small_lt (m:=100) (by rw [List.length_map]; omega)) ?_
            exact fin _ _ _ _ _ _ _ r hr
          · first | rw [if_neg (by simp)] | skip
            walk_at "x"
            refine ⟨.inl ⟨rfl,_,SqL.of gtl8⟩,?_⟩
            walk_at "x"
            refine ⟨small_le (m:=3) (Nat.le_refl 3),fun r hr=>?_⟩
            walk_at "x"
            refine x_append (by rw [upd_ne (ne_of_none gtl8 hr)]; exact gtl8) (small_lt (m:=100) (by rw [List.length_map]; omega)) ?_
            exact fin _ _ _ _ _ _ _ r hr
        · first | rw [if_neg (by simp)] | skip
          walk_at "x"
          refine ⟨.inl ⟨rfl,_,SqL.of gtl8⟩,?_⟩
          walk_at "x"
          refine ⟨small_le (m:=3) (Nat.le_refl 3),fun r hr=>?_⟩
          walk_at "x"
          refine x_append (by rw [upd_ne (ne_of_none gtl8 hr)]; exact gtl8) (small_lt (m:=100) (by rw [List.length_map]; omega)) ?_
          exact fin _ _ _ _ _ _ _ r hr
    · rintro σ H6 ⟨S6,gp6,hy6,⟨ts,gtl,gdk,trs,td,hl36⟩,o4,o7,o8,o9,o10,o11,o12,rfl⟩
      walk_at "x"
      refine ⟨S,ns,1,rfl,sq_same hS S6,fun cz=>?_⟩
      walk_at "x"
      unfold tSortI
      walk_at "x"
      refine ⟨tl,ts.map refT,cz,rfl,gtl,rfl,by rw [List.length_map]; omega,fun x hx=>?_,hT.same S6,fun q us H7 hpm hq S7 T7=>?_⟩
      · obtain ⟨t,ht,rfl⟩:=List.mem_map.mp hx
        exact ⟨t.2.2.2,_,_,_,rfl,trs t ht,trivial⟩
      obtain ⟨ts',rfl,hp'⟩:=perm_map hpm ts rfl
      obtain ⟨tps,hPt⟩:=(hT.same S6).tbl
      have U8:=Same.upd_new (o:=.lst (ts'.map refT)) hq
      have gq8:(upd H7 q (.lst (ts'.map refT))) q=some (.lst (ts'.map refT)):=upd_same
      generalize upd H7 q (.lst (ts'.map refT))=H8 at U8 gq8
      walk_at "x"
      refine ⟨small_le (m:=2) (Nat.le_refl 2),fun r hr=>?_⟩
      have U9:=Same.upd_new (o:=.tup [.int (n:Int),.ref q]) hr
      have nPt:∀ {b:Addr} {o:HO},H6 b=some o→(∀ ps,o≠.tbl ps)→b≠Pt:=fun {b o} e hno z=>by rw [z,hPt] at e; cases e; exact hno _ rfl
      refine k r q n ts' _ upd_same hn1 hn2 (U9 _ _ gq8) (fun t ht=>?_) (td.perm hp') (by rw [hp'.length_eq]; exact hl36) fun b o hb e=>U9 _ _ (U8 _ _ (S7 _ _ hb (S6 _ _ e)))
      have ht6:=trs t (hp'.mem_iff.mp ht)
      exact U9 _ _ (U8 _ _ (S7 _ _ (nPt ht6 (fun _ z=>nomatch z)) ht6))
end K51
namespace K51
open Rm
def Nm (n:Nat) (nm:List Int) (R:Nat→List Int):Prop:=nm.length=n∧∀ i j:Nat,i < n→j < n→(nm[i]? = nm[j]?↔(j:Int) ∈ R i)
theorem rng_rise (n:Nat) (p:Nat→Bool):(((List.range n).filter p).map fun i:Nat=>(i:Int)).Pairwise (· < ·):=by
  rw [List.pairwise_map]
  exact ((List.pairwise_lt_range (n:=n)).filter p).imp fun h=>by omega
def sp__law_sides (K:PySem.W.Frag) (C:Addr) (A:CA):Sp:=fun vs H Q _=>∃ (p dx:Addr) (c:Int) (a:AL) (n:Nat) (kl kw kv:List (List Key × V)) (as:List Addr) (R:Nat→List Int) (N:Addr) (nm:List Int),vs=[.ref p,.ref N]∧CTs K C A∧KA C A H p dx c a n kl kw kv as R∧Wd n R∧n≤60∧H N=some (.lst (nm.map V.int))∧Nm n nm R∧∀ H',Same H H'→Q (.bl true) H'
theorem len__law_sides {K:PySem.W.Frag} {C:Addr} {A:CA}:∀ vs H Q E,sp__law_sides K C A vs H Q E→vs.length=2:=by
  rintro vs H Q E ⟨p,dx,c,a,n,kl,kw,kv,as,R,N,nm,rfl,_⟩; rfl
theorem run__law_sides {K : PySem.W.Frag} {C : Addr} {A : CA} : ∀ vs H Q E, sp__law_sides K C A vs H Q E → rd__law_sides K C A (sp_Kept_side K C A) (sp_Kept_joined K C A) { nx := fun _ H' => Q .non H', rt := Q } (start ["_law_wood", "_law_names", "_law_a", "_law_side", "_law_due", "_law_b", "_law_joined"] vs) H := by
  rintro vs H Q E ⟨p,dx,c,a,n,kl,kw,kv,as,R,N,nm,rfl,ct,h,D,hn,hN,⟨hnl,hnm⟩,k⟩
  unfold rd__law_sides
  walk_at "x"
  unfold lp__law_sides_1
  walk_at "x"
  refine x_lenI (SqL.of hN) ?_
  walk_at "x"
  refine ⟨by omega,by omega,?_⟩
  rw [show ((nm.length:Int)).toNat=n by omega]
  refine for_range (fun i σ H1=>Same H H1∧∃ o2 o3 o4 o5 o6,σ = [some (.ref p),some (.ref N),o2,o3,o4,o5,o6]) ⟨fun _ _ e=>e,_,_,_,_,_,rfl⟩ ?_ ?_
  · rintro i σ H1 hi ⟨S1,o2,o3,o4,o5,o6,rfl⟩
    have h1:=h.same S1
    have N1:=S1 _ _ hN
    have ei:(0:Int)+(i:Int)=((i:Nat):Int):=by omega
    rw [ei]
    walk_at "x"
    refine x_meth ?_
    walk_at "x"
    refine ⟨p,dx,_,rfl,h1.ob,fK0,?_⟩
    walk_at "x"
    refine ⟨p,dx,c,a,n,kl,kw,kv,as,R,i,rfl,ct,h1,D,hn,hi,fun q ks hq kr km=>?_⟩
    have T2:=Same.upd_new (o:=.lst (ks.map V.int)) hq
    have gq:(upd H1 q (.lst (ks.map V.int))) q=some (.lst (ks.map V.int)):=upd_same
    generalize upd H1 q (.lst (ks.map V.int))=H2 at T2 gq
    have N2:=T2 _ _ N1
    have hq0:H q=none:=none_of S1 hq
    walk_at "x"
    refine x_lenI (SqL.of N2) ?_
    walk_at "x"
    refine ⟨by omega,by omega,fun acc hacc=>?_⟩
    rw [show ((nm.length:Int)).toNat=n by omega]
    have gi:nm[i]? = some nm[i]:=List.getElem?_eq_getElem (by omega)
    refine comp_by (n:=n) (fun t ys H3=>H3 acc=some (.lst ys)∧Same H2 H3∧ys=(((List.range t).filter fun j=>nm[j]? == nm[i]?).map fun j:Nat=>(j:Int)).map V.int∧ys.length≤t) (fun σ=>∃ o,σ = [o,some (.ref N),some (.int i)]) ⟨upd_same,Same.upd_new hacc,rfl,Nat.le_refl 0⟩ ⟨_,rfl⟩ ?_ ?_ ?_ ?_
    · rintro t ys H3 ⟨e,_⟩; exact e
    · rintro ys H3 ⟨g3,S3,rfl,_⟩
      refine ⟨Nat.le_refl _,?_⟩
      have ek:ks=((List.range n).filter fun j=>nm[j]? == nm[i]?).map fun j:Nat=>(j:Int):=rise_ext kr (rng_rise n _) fun t=>by
        rw [km]
        constructor
        · intro ht
          obtain ⟨j,hj,e,_⟩:=D.in_ i hi t ht
          subst e
          exact List.mem_map.mpr ⟨j,List.mem_filter.mpr ⟨List.mem_range.mpr hj,by rw [beq_iff_eq]; exact ((hnm i j hi hj).mpr ht).symm⟩,rfl⟩
        · intro ht
          obtain ⟨j,hj,e⟩:=List.mem_map.mp ht
          obtain ⟨h1,h2⟩:=List.mem_filter.mp hj
          subst e
          exact (hnm i j hi (List.mem_range.mp h1)).mp (beq_iff_eq.mp h2).symm
      rw [← ek] at g3
      have gq3:=S3 _ _ gq
      have nqa:q≠acc:=ne_of_none gq hacc
      walk_at "x"
      refine x_isi (.lst gq3) kit_ll ?_
      refine ⟨_,rfl,?_⟩
      rw [if_neg (by simp)]
      walk_at "x"
      refine x_neD (rep_ints (SqL.of gq3)) (rep_ints (SqL.of g3)) (fine_ints _) (fine_ints _) ?_
      rw [eqv_ints,decide_eq_true rfl]
      refine ⟨_,rfl,?_⟩
      rw [if_neg (by simp)]
      walk_at "x"
      refine ⟨.inl ⟨rfl,_,SqL.of gq3⟩,?_⟩
      walk_at "x"
      refine x_append gq3 (small_lt (m:=10000) (by rw [List.length_map,ek,List.length_map]; have:=List.length_filter_le (fun j=>nm[j]? == nm[i]?) (List.range n); rw [List.length_range] at this; omega)) ?_
      have S4:Same H (upd H3 q (.lst (ks.map V.int ++ [.int i]))):=fun b o e=>by rw [upd_ne (ne_of_none e hq0)]; exact S3 _ _ (T2 _ _ (S1 _ _ e))
      generalize upd H3 q (.lst (ks.map V.int ++ [.int i]))=H4 at S4
      have h4:=h.same S4
      have N4:=S4 _ _ hN
      walk_at "x"
      refine x_lenI (SqL.of N4) ?_
      have hm2:CMul (i:Int) (i:Int):=.inl ⟨by omega,by omega⟩
      walk_at "x"
      obtain ⟨j,hj⟩:∃ j:Nat,(i:Int) * i % (nm.length:Int)=(j:Int):=⟨((i:Int) * i % (nm.length:Int)).toNat,by have:=Int.emod_nonneg ((i:Int) * i) (show (nm.length:Int)≠0 by omega); omega⟩
      have hjn:j < n:=by have:=Int.emod_lt_of_pos ((i:Int) * i) (show (0:Int) < nm.length by omega); omega
      rw [hj]
      refine x_meth ?_
      walk_at "x"
      refine ⟨p,dx,_,rfl,h4.ob,fK0,?_⟩
      walk_at "x"
      refine ⟨p,dx,c,a,n,kl,kw,kv,as,R,i,j,rfl,ct,h4,D,hi,hjn,?_⟩
      walk_at "x"
      refine x_isi (.bl _) kit_bb ?_
      refine ⟨_,rfl,?_⟩
      rw [if_neg (by simp)]
      walk_at "x"
      refine x_ixI (SqL.of N4) rfl gi ?_
      walk_at "x"
      refine x_ixI (SqL.of N4) rfl (List.getElem?_eq_getElem (show j < nm.length by omega)) ?_
      walk_at "x"
      refine .inl ⟨rfl,?_⟩
      refine ⟨_,rfl,?_⟩
      have e1:decide ((j:Int) ∈ R i)=decide (V.int nm[i]=V.int nm[j]):=by
        rw [decide_eq_decide,eq_int_iff,← hnm i j hi hjn,gi,List.getElem?_eq_getElem (show j < nm.length by omega)]
        exact ⟨fun z=>Option.some.inj z,fun z=>by rw [z]⟩
      rw [e1,if_neg (by simp)]
      walk_at "x"
      exact ⟨S4,_,_,_,_,_,rfl⟩
    · rintro t ys H3 ht _; exact ht
    · rintro t ys σ' H3 x H4 ht ⟨g3,S3,hys,hlen⟩ ⟨o,rfl⟩ ⟨eH,ex⟩
      subst eH ex
      have et:(0:Int)+(t:Int)=((t:Nat):Int):=by omega
      rw [et]
      have gt:nm[t]? = some nm[t]:=List.getElem?_eq_getElem (by omega)
      walk_at "x"
      refine x_ixI (SqL.of (S3 _ _ N2)) rfl gt ?_
      walk_at "x"
      refine x_ixI (SqL.of (S3 _ _ N2)) rfl gi ?_
      walk_at "x"
      refine ifV (p:=nm[t]? = nm[i]?) (by rw [decide_eq_true_iff,eq_int_iff,gt,gi]; exact ⟨fun z=>by rw [z],fun z=>Option.some.inj z⟩) (fun e=>?_) fun e=>?_
      · walk_at "x"
        refine ⟨g3,small_lt (m:=1000) (by omega),CNext.mk' ht ⟨_,rfl⟩ ⟨upd_same,fun b o e=>by rw [upd_ne (ne_of_none e hacc)]; exact S3 _ _ e,?_,by rw [List.length_append]; simp; omega⟩⟩
        rw [hys,List.range_succ,List.filter_append,List.map_append,List.map_append]
        simp [e]
      · refine CNext.mk' ht ⟨_,rfl⟩ ⟨g3,S3,?_,by omega⟩
        rw [hys,List.range_succ,List.filter_append,List.map_append,List.map_append]
        simp [e]
  · rintro σ H1 ⟨S1,_⟩
    walk_at "x"
    exact k H1 S1
end K51
namespace K51
open Rm
abbrev LS:=List Int × List Bool × Int
def stepL (s:LS) (e:Int × Nat × Nat):LS:=if s.1.getD e.2.1 0≠s.1.getD e.2.2 0 then (mgN s.1 e.2.1 e.2.2,s.2.1 ++ [true],s.2.2+e.1) else (s.1,s.2.1 ++ [false],s.2.2)
def startL (n:Nat):LS:=((List.range n).map (fun i:Nat=>(i:Int)),[],0)
def foldL (n:Nat) (es:List (Int × Nat × Nat)):LS:=es.foldl stepL (startL n)
theorem foldL_snoc (n:Nat) (es:List (Int × Nat × Nat)) (e:Int × Nat × Nat):foldL n (es ++ [e])=stepL (foldL n es) e:=by unfold foldL; rw [List.foldl_append]; rfl
theorem mgN_get {nm:List Int} {x y i:Nat} (hi:i < nm.length):(mgN nm x y)[i]? = some (if nm[i]=nm.getD y 0 then nm.getD x 0 else nm[i]):=by
  unfold mgN
  rw [List.getElem?_map,List.getElem?_eq_getElem hi]
  rfl
theorem Kr.nm {n : Nat} {es : List (Int × Nat × Nat)} {R : Nat → List Int} {kl kw kv : List (List Key × V)} (h : Kr n es R kl kw kv) : Nm n (foldL n es).1 R := by
  induction h with
  | nil =>
    refine ⟨by simp [foldL,startL],fun i j hi hj=>?_⟩
    simp [foldL,startL,hi,hj]
    omega
  | @snoc es R kl kw kv wt x y R' K W hx hy _ hif ih =>
    obtain ⟨hl,hn⟩:=ih
    rw [foldL_snoc]
    generalize (foldL n es)=s at hl hn
    obtain ⟨nm,fl,w0⟩:=s
    have hl:nm.length=n:=hl
    have gx:nm.getD x 0=nm[x]:=by simp [show x < nm.length by omega]
    have gy:nm.getD y 0=nm[y]:=by simp [show y < nm.length by omega]
    have eq:∀ i j (hi:i < n) (hj:j < n),(nm[i]? = nm[j]?↔nm[i]=nm[j]):=fun i j hi hj=>by
      rw [List.getElem?_eq_getElem (show i < nm.length by omega),List.getElem?_eq_getElem (show j < nm.length by omega)]
      exact ⟨fun z=>Option.some.inj z,fun z=>by rw [z]⟩
    have hn':∀ i j (hi:i < n) (hj:j < n),(nm[i]=nm[j]↔(j:Int) ∈ R i):=fun i j hi hj=>by rw [← eq i j hi hj]; exact hn i j hi hj
    by_cases hj:(y:Int) ∈ R x
    · rw [if_pos hj] at hif
      subst hif
      unfold stepL
      rw [if_neg (by rw [gx,gy]; exact fun z=>z ((hn' x y hx hy).mpr hj))]
      exact ⟨hl,hn⟩
    · rw [if_neg hj] at hif
      have hne:nm[x]≠nm[y]:=fun z=>hj ((hn' x y hx hy).mp z)
      unfold stepL
      rw [if_pos (by rw [gx,gy]; exact hne)]
      refine ⟨by show (mgN nm x y).length=n; unfold mgN; rw [List.length_map]; exact hl,fun i j hi hj'=>?_⟩
      show (mgN nm x y)[i]? = (mgN nm x y)[j]?↔_
      rw [mgN_get (show i < nm.length by omega),mgN_get (show j < nm.length by omega),hif.1 i j,gx,gy,Option.some.injEq]
      have c1:=hn' x i hx hi
      have c2:=hn' y i hy hi
      have c3:=hn' x j hx hj'
      have c4:=hn' y j hy hj'
      have c5:=hn' i j hi hj'
      by_cases ci:(i:Int) ∈ R x∨(i:Int) ∈ R y
      · rw [if_pos ci,← c3,← c4]
        rw [← c1,← c2] at ci
        generalize nm[i]=a at ci
        generalize nm[j]=b
        generalize nm[x]=s at hne ci
        generalize nm[y]=t at hne ci
        by_cases a1:a=t
        · rw [if_pos a1]
          by_cases b1:b=t
          · rw [if_pos b1]; omega
          · rw [if_neg b1]; omega
        · rw [if_neg a1]
          by_cases b1:b=t
          · rw [if_pos b1]; omega
          · rw [if_neg b1]; omega
      · rw [if_neg ci,← c5]
        rw [← c1,← c2] at ci
        generalize nm[i]=a at ci
        generalize nm[j]=b
        generalize nm[x]=s at hne ci
        generalize nm[y]=t at hne ci
        rw [if_neg (show ¬ a=t by omega)]
        by_cases b1:b=t
        · rw [if_pos b1]; omega
        · rw [if_neg b1]
theorem Kr.fl {n : Nat} {es : List (Int × Nat × Nat)} {R : Nat → List Int} {kl kw kv : List (List Key × V)} (h : Kr n es R kl kw kv) :
    kl=es.map (fun e=>(pk e.2.1 e.2.2,.int 0))∧kv=es.map (fun e=>(pk e.2.1 e.2.2,.int e.1))∧(foldL n es).2.1.length=es.length∧kw=List.zipWith (fun e b=>(pk e.2.1 e.2.2,V.bl b)) es (foldL n es).2.1∧(es.map fun e=>pk e.2.1 e.2.2).Nodup:=by
  induction h with
  | nil=>exact ⟨rfl,rfl,rfl,rfl,List.nodup_nil⟩
  | @snoc es R kl kw kv wt x y R' K W hx hy hv hif ih =>
    obtain ⟨h1,h2,h3,h4,h5⟩:=ih
    obtain ⟨hl,hn⟩:=K.nm
    have hb:∃ b,(foldL n (es ++ [(wt,x,y)])).2.1=(foldL n es).2.1 ++ [b]∧b=decide ((y:Int) ∉ R x):=by
      rw [foldL_snoc]
      generalize (foldL n es)=s at hl hn
      obtain ⟨nm,fl,w0⟩:=s
      have hl:nm.length=n:=hl
      have gx:nm.getD x 0=nm[x]:=by simp [show x < nm.length by omega]
      have gy:nm.getD y 0=nm[y]:=by simp [show y < nm.length by omega]
      have e:nm[x]=nm[y]↔(y:Int) ∈ R x:=by
        rw [← hn x y hx hy]
        show _↔nm[x]? = nm[y]?
        rw [List.getElem?_eq_getElem (show x < nm.length by omega),List.getElem?_eq_getElem (show y < nm.length by omega)]
        exact ⟨fun z=>by rw [z],fun z=>Option.some.inj z⟩
      by_cases hj:(y:Int) ∈ R x
      · refine ⟨false,?_,by simp [hj]⟩
        unfold stepL
        rw [if_neg (by rw [gx,gy]; exact fun z=>z (e.mpr hj))]
      · refine ⟨true,?_,by simp [hj]⟩
        unfold stepL
        rw [if_pos (by rw [gx,gy]; exact fun z=>hj (e.mp z))]
    obtain ⟨b,eb,hb⟩:=hb
    rw [eb]
    refine ⟨by rw [h1]; simp,by rw [h2]; simp,by simp [h3],?_,?_⟩
    · rw [List.zipWith_append h3.symm,← h4,← hb]; rfl
    · rw [List.map_append,List.nodup_append]
      refine ⟨h5,by simp,fun k1 q1 k2 q2 e=>?_⟩
      have e2:k2=pk x y:=by simpa using q2
      have:=valV_not hv
      rw [h1,List.map_map] at this
      exact this (by rw [← e2,← e]; exact q1)
theorem Kr.wood {n : Nat} {es : List (Int × Nat × Nat)} {R : Nat → List Int} {kl kw kv : List (List Key × V)} (h : Kr n es R kl kw kv) :
    ∃ L:List (Int × Nat × Nat),L.Sublist es∧(foldL n es).2.2=(L.map (·.1)).sum∧∀ u v,Ed n R u v↔∃ e ∈ L,(u,v)=((e.2.1:Int),(e.2.2:Int))∨(u,v)=((e.2.2:Int),(e.2.1:Int)):=by
  induction h with
  | nil=>exact ⟨[],List.Sublist.refl _,rfl,fun u v=>⟨fun ⟨i,_,hm⟩=>by simp [al] at hm,fun ⟨e,he,_⟩=>nomatch he⟩⟩
  | @snoc es R kl kw kv wt x y R' K W hx hy hv hif ih =>
    obtain ⟨L,h1,h2,h3⟩:=ih
    obtain ⟨hl,hn⟩:=K.nm
    rw [foldL_snoc]
    generalize (foldL n es)=s at hl hn h2
    obtain ⟨nm,fl,w0⟩:=s
    have hl:nm.length=n:=hl
    have h2:w0=(L.map (·.1)).sum:=h2
    have gx:nm.getD x 0=nm[x]:=by simp [show x < nm.length by omega]
    have gy:nm.getD y 0=nm[y]:=by simp [show y < nm.length by omega]
    have e:nm[x]=nm[y]↔(y:Int) ∈ R x:=by
      rw [← hn x y hx hy]
      show _↔nm[x]? = nm[y]?
      rw [List.getElem?_eq_getElem (show x < nm.length by omega),List.getElem?_eq_getElem (show y < nm.length by omega)]
      exact ⟨fun z=>by rw [z],fun z=>Option.some.inj z⟩
    by_cases hj:(y:Int) ∈ R x
    · rw [if_pos hj] at hif
      subst hif
      unfold stepL
      rw [if_neg (by rw [gx,gy]; exact fun z=>z (e.mpr hj))]
      exact ⟨L,h1.trans (List.sublist_append_left _ _),h2,h3⟩
    · rw [if_neg hj] at hif
      unfold stepL
      rw [if_pos (by rw [gx,gy]; exact fun z=>hj (e.mp z))]
      refine ⟨L ++ [(wt,x,y)],h1.append (List.Sublist.refl _),?_,fun u v=>?_⟩
      · show w0+wt=_
        rw [List.map_append,List.sum_append,← h2]
        simp
      · rw [hif.2 u v,h3 u v]
        constructor
        · rintro (⟨e,he,q⟩ | q)
          · exact ⟨e,List.mem_append_left _ he,q⟩
          · exact ⟨(wt,x,y),List.mem_append_right _ (List.mem_singleton.mpr rfl),q⟩
        · rintro ⟨e,he,q⟩
          rcases List.mem_append.mp he with he | he
          · exact .inl ⟨e,he,q⟩
          · rw [List.mem_singleton.mp he] at q; exact .inr q
theorem perm_sum {l m:List Int} (h:l.Perm m):l.sum=m.sum:=by
  induction h with
  | nil=>rfl
  | cons x _ ih=>simp [ih]
  | swap x y l=>simp; omega
  | trans _ _ h1 h2=>rw [h1,h2]
theorem order_one {es fs:List (Int × Nat × Nat)} (p:es.Perm fs) (h1:es.Pairwise (fun e f=>lexL [f.1,(f.2.1:Int),(f.2.2:Int)] [e.1,(e.2.1:Int),(e.2.2:Int)]=false)) (h2:fs.Pairwise (fun e f=>lexL [f.1,(f.2.1:Int),(f.2.2:Int)] [e.1,(e.2.1:Int),(e.2.2:Int)]=false)):es=fs:=by
  refine p.eq_of_pairwise (fun a b _ _ q1 q2=>?_) h1 h2
  rcases lexL_total q1 with z | z
  · rw [z] at q2; cases q2
  · injection z with z1 z
    injection z with z2 z
    injection z with z3 _
    obtain ⟨a1,a2,a3⟩:=a
    obtain ⟨b1,b2,b3⟩:=b
    simp only at z1 z2 z3
    have e1:a2=b2:=by omega
    have e2:a3=b3:=by omega
    rw [← z1,e1,e2]
end K51
namespace K51
open Rm
def rowD:List Bool→List Int→List PyData
  | false :: m,k :: ks=>.int k :: rowD m ks
  | true :: m,k :: ks=>.bool (k != 0) :: rowD m ks
  | _,_=>[]
theorem rep_flat {K:PySem.W.Frag} {H:Hp} {m:List Bool} {xs:List V} {ks:List Int} (h:Flat m xs ks):RepAll K H (rowD m ks) xs:=by
  induction h with
  | nil=>exact .nil
  | int i _ ih=>exact .cons (.int i) ih
  | bl b _ ih=>exact .cons (by simp only [Rep]; cases b <;> rfl) ih
def tupD (m:List Bool) (ks:List Int):PyData:=.tuple (rowD (false :: m) ks)
theorem rep_rows {K:PySem.W.Frag} {H:Hp} {m:List Bool}:∀ {zs:List Zn},(∀ z ∈ zs,FlatAt m H z)→RepAll K H ((zs.map (·.1)).map (tupD m)) (zs.map refN)
  | [],_=>.nil
  | z :: zs, h => by
    obtain ⟨xs,h1,h2⟩:=h z List.mem_cons_self
    exact .cons (.tup (.of h1) (rep_flat h2)) (rep_rows fun y hy=>h y (List.mem_cons_of_mem _ hy))
theorem rep_ns {K:PySem.W.Frag} {H:Hp} {l:Addr} {m:List Bool} {zs:List Zn} (hl:H l=some (.lst (zs.map refN))) (h:∀ z ∈ zs,FlatAt m H z):Rep K H (.list ((zs.map (·.1)).map (tupD m))) (.ref l):=.lst (SqL.of hl) (rep_rows h)
theorem plain_row:∀ (m:List Bool) (ks:List Int),PyData.canLayAll0 (rowD m ks)=true
  | [],_=>by simp [rowD,PyData.canLayAll0]
  | false :: m,[]=>by simp [rowD,PyData.canLayAll0]
  | true :: m,[]=>by simp [rowD,PyData.canLayAll0]
  | false :: m,k :: ks=>by simp only [rowD,PyData.canLayAll0,Bool.and_eq_true]; exact ⟨by simp [PyData.canLay0],plain_row m ks⟩
  | true :: m,k :: ks=>by simp only [rowD,PyData.canLayAll0,Bool.and_eq_true]; exact ⟨by simp [PyData.canLay0],plain_row m ks⟩
theorem depth_row:∀ (m:List Bool) (ks:List Int),PyData.depthAll (rowD m ks)≤1
  | [],_=>by simp [rowD,PyData.depthAll]
  | false :: m,[]=>by simp [rowD,PyData.depthAll]
  | true :: m,[]=>by simp [rowD,PyData.depthAll]
  | false :: m, k :: ks => by
    have:=depth_row m ks
    simp only [rowD,PyData.depthAll]
    have e:(PyData.int k).depth≤1:=by simp [PyData.depth]
    omega
  | true :: m, k :: ks => by
    have:=depth_row m ks
    simp only [rowD,PyData.depthAll]
    have e:(PyData.bool (k != 0)).depth≤1:=by simp [PyData.depth]
    omega
theorem plain_rows (m:List Bool):∀ L:List (List Int),PyData.canLayAll0 (L.map (tupD m))=true
  | []=>rfl
  | t :: ts=>by simp only [List.map_cons,PyData.canLayAll0,Bool.and_eq_true]; exact ⟨by simp only [tupD,PyData.canLay0]; exact plain_row _ _,plain_rows m ts⟩
theorem depth_rows (m:List Bool):∀ L:List (List Int),PyData.depthAll (L.map (tupD m))≤2
  | []=>by simp [PyData.depthAll]
  | t :: ts => by
    have:=depth_rows m ts
    simp only [List.map_cons,PyData.depthAll]
    have e:(tupD m t).depth≤2:=by have:=depth_row (false :: m) t; simp only [tupD,PyData.depth]; omega
    omega
theorem fine_rows (m:List Bool) (L:List (List Int)):Fine (.list (L.map (tupD m))):=⟨by simp only [PyData.canLay0]; exact plain_rows m L,by have:=depth_rows m L; simp only [PyData.depth]; omega⟩
theorem eqv_rows {m:List Bool} {L M:List (List Int)} (e:L=M):PyData.eqv (.list (L.map (tupD m))) (.list (M.map (tupD m)))=true:=by rw [e]; exact SeqAt.eqv_refl _ (fine_rows m M).lay
theorem foldl_len:∀ (es:List (Int × Nat × Nat)) (s:LS),(es.foldl stepL s).1.length=s.1.length∧(es.foldl stepL s).2.1.length=s.2.1.length+es.length
  | [],s=>⟨rfl,rfl⟩
  | e :: es, s => by
    obtain ⟨h1,h2⟩:=foldl_len es (stepL s e)
    rw [List.foldl_cons,h1,h2]
    unfold stepL
    split
    · simp [mgN]; omega
    · simp; omega
theorem foldL_len (n:Nat) (es:List (Int × Nat × Nat)):(foldL n es).1.length=n∧(foldL n es).2.1.length=es.length:=by
  obtain ⟨h1,h2⟩:=foldl_len es (startL n)
  refine ⟨by unfold foldL; rw [h1]; simp [startL],by unfold foldL; rw [h2]; simp [startL]⟩
def rowE (e:Int × Nat × Nat) (b:Bool):List Int:=[(e.2.1:Int),(e.2.2:Int),0,b2i b]
theorem flat3 {xs:List V} {a b c:Int} (h:Flat [false,false,false] xs [a,b,c]):xs=[.int a,.int b,.int c]:=by
  cases h with
  | int a h => cases h with
    | int b h => cases h with
      | int c h=>cases h; rfl
theorem flat_but {m:List Bool} {H H':Hp} {D:Addr} {xs:List V} {z:Zn} (h:FlatAt m H z) (hD:H D=some (.lst xs)) (kp:∀ b o,b≠D→H b=some o→H' b=some o):FlatAt m H' z:=by
  obtain ⟨ys,h1,h2⟩:=h
  exact ⟨ys,kp _ _ (fun e=>by rw [e,hD] at h1; cases h1) h1,h2⟩
theorem law_1 {K : PySem.W.Frag} {C : Addr} {A : CA} {s1 s2 s3 s5 s6 s7 s8 : Sp} {D : Ends} {H : Hp} {n : Nat} {N Du p S l : Addr} {zs0 : List Zn} {o7 o8 o9 o10 o11 o12 : Option V}
    (hn:n≤200) (hN:H N=some (.lst ((startL n).1.map V.int))) (hD:H Du=some (.lst [])) (hND:N≠Du) (hp:H p=some (.lst (zs0.map refN))) (hf:∀ z ∈ zs0,FlatAt [false,false] H z) (hl:zs0.length≤36) (hz:∀ z ∈ zs0,∃ (w:Int) (x y:Nat),z.1=[w,(x:Int),(y:Int)]∧x < n∧y < n)
    (fin:∀ H' N' (zs dz:List Zn) o7 o8 o9,zs.Perm zs0→zs.Pairwise (fun z w=>lexL w.1 z.1=false)→H' N'=some (.lst ((foldL n (zs.map esZ)).1.map V.int))→N'≠Du→H' Du=some (.lst (dz.map refN))→(∀ z ∈ dz,FlatAt [false,false,true] H' z)→dz.map (·.1)=List.zipWith rowE (zs.map esZ) (foldL n (zs.map esZ)).2.1→(∀ b o,b≠Du→H b=some o→H' b=some o) →
      D.nx [some (.ref S),some (.int n),some (.ref l),some (.ref N'),some (.ref Du),some (.int (foldL n (zs.map esZ)).2.2),some (.ref p),o7,o8,o9,o10,o11,o12] H') :
    lp_law_1 K C A s1 s2 s3 (sp__law_merged K C) s5 s6 s7 s8 D [some (.ref S),some (.int n),some (.ref l),some (.ref N),some (.ref Du),some (.int 0),some (.ref p),o7,o8,o9,o10,o11,o12] H:=by
  unfold lp_law_1
  walk_at "x"
  refine .inr ⟨p,zs0,[false,false],rfl,SqL.of hp,hf,by omega,fun q zs hq hpm hso=>?_⟩
  have T1:=Same.upd_new (o:=.lst (zs.map refN)) hq
  have gq:(upd H q (.lst (zs.map refN))) q=some (.lst (zs.map refN)):=upd_same
  generalize upd H q (.lst (zs.map refN))=H1 at T1 gq
  have hDq:q≠Du:=Ne.symm (ne_of_none hD hq)
  have hzl:zs.length≤36:=by rw [hpm.length_eq]; exact hl
  refine ⟨q,rfl,.inl ⟨⟨_,SqL.of gq⟩,for_list (K:=K) (a:=q) (xs:=zs.map refN)
    (fun i σ H2=>∃ (N':Addr) (dz:List Zn),(∀ b o,b≠Du→H1 b=some o→H2 b=some o)∧H2 N'=some (.lst ((foldL n ((zs.take i).map esZ)).1.map V.int))∧N'≠Du∧H2 Du=some (.lst (dz.map refN))∧(∀ z ∈ dz,FlatAt [false,false,true] H2 z)∧dz.map (·.1)=List.zipWith rowE ((zs.take i).map esZ) (foldL n ((zs.take i).map esZ)).2.1∧dz.length≤i ∧
      ∃ o7 o8 o9,σ = [some (.ref S),some (.int n),some (.ref l),some (.ref N'),some (.ref Du),some (.int (foldL n ((zs.take i).map esZ)).2.2),some (.ref p),o7,o8,o9,o10,o11,o12])
    ⟨N,[],fun b o _ e=>e,T1 _ _ hN,hND,T1 _ _ hD,fun z hz=>(nomatch hz),rfl,Nat.le_refl _,_,_,_,rfl⟩ ?_ ?_ ?_⟩⟩
  · rintro i σ H2 _ ⟨N',dz,kp,_⟩
    exact SqL.of (kp _ _ hDq gq)
  · rintro i zv σ H2 hi ⟨N',dz,kp,gN,nND,gD,fl,hdz,hdl,o7,o8,o9,rfl⟩
    rw [List.getElem?_map] at hi
    obtain ⟨z,hzi,rfl⟩:=Option.map_eq_some_iff.mp hi
    have hzm:=hpm.mem_iff.mp (List.mem_of_getElem? hzi)
    have hi36:i < 36:=by have:=(List.getElem?_eq_some_iff.mp hzi).1; omega
    obtain ⟨w,x,y,ez,hx,hy⟩:=hz z hzm
    obtain ⟨xs,hz1,hz2⟩:=hf z hzm
    rw [ez] at hz2
    have hxs:=flat3 hz2
    subst hxs
    have ee:(zs.take (i+1)).map esZ=(zs.take i).map esZ ++ [(w,x,y)]:=by
      rw [List.take_add_one,hzi,List.map_append]
      unfold esZ
      simp [ez]
    rw [ee,foldL_snoc]
    obtain ⟨l1,l2⟩:=foldL_len n ((zs.take i).map esZ)
    have zl:(((zs.take i).map esZ)).length=(foldL n ((zs.take i).map esZ)).2.1.length:=l2.symm
    generalize hFS:foldL n ((zs.take i).map esZ)=s at *
    obtain ⟨nm,bs,w0⟩:=s
    have l1:nm.length=n:=l1
    have l2:bs.length=_:=l2
    have hdz:dz.map (·.1)=List.zipWith rowE ((zs.take i).map esZ) bs:=hdz
    have gN:H2 N'=some (.lst (nm.map V.int)):=gN
    have g1:H2 z.2=some (.tup [.int w,.int x,.int y]):=kp _ _ (fun e=>by rw [e,hD] at hz1; cases hz1) (T1 _ _ hz1)
    have gx:nm[x]? = some nm[x]:=List.getElem?_eq_getElem (by omega)
    have gy:nm[y]? = some nm[y]:=List.getElem?_eq_getElem (by omega)
    have dx:nm.getD x 0=nm[x]:=by simp [show x < nm.length by omega]
    have dy:nm.getD y 0=nm[y]:=by simp [show y < nm.length by omega]
    refine ⟨z.2,_,rfl,SqT.of g1,rfl,?_⟩
    walk_at "x"
    refine ⟨.inl ⟨rfl,_,SqL.of gD⟩,?_⟩
    walk_at "x"
    refine x_ixI (SqL.of gN) rfl gx ?_
    walk_at "x"
    refine x_ixI (SqL.of gN) rfl gy ?_
    walk_at "x"
    refine ⟨small_le (m:=4) (Nat.le_refl 4),fun r hr=>?_⟩
    have eb:(!decide (V.int nm[x]=V.int nm[y]))=decide (nm[x]≠nm[y]):=by
      by_cases e:nm[x]=nm[y]
      · simp [e]
      · have:¬ (V.int nm[x]=V.int nm[y]):=fun z=>e (by injection z)
        simp [this,e]
    rw [eb]
    have T3:=Same.upd_new (o:=.tup [.int (x:Int),.int (y:Int),.int 0,.bl (decide (nm[x]≠nm[y]))]) hr
    have gr:(upd H2 r (.tup [.int (x:Int),.int (y:Int),.int 0,.bl (decide (nm[x]≠nm[y]))])) r=some (.tup [.int (x:Int),.int (y:Int),.int 0,.bl (decide (nm[x]≠nm[y]))]):=upd_same
    generalize upd H2 r (.tup [.int (x:Int),.int (y:Int),.int 0,.bl (decide (nm[x]≠nm[y]))])=H3 at T3 gr
    walk_at "x"
    refine x_append (T3 _ _ gD) (small_lt (m:=1000) (by rw [List.length_map]; omega)) ?_
    have kp3:∀ b o,b≠Du→H3 b=some o→(upd H3 Du (.lst (dz.map refN ++ [.ref r]))) b=some o:=fun b o hb e=>by rw [upd_ne hb]; exact e
    have gD4:(upd H3 Du (.lst (dz.map refN ++ [.ref r]))) Du=some (.lst ((dz ++ [([(x:Int),(y:Int),0,b2i (decide (nm[x]≠nm[y]))],r)]).map refN)):=by rw [upd_same,List.map_append]; rfl
    generalize upd H3 Du (.lst (dz.map refN ++ [.ref r]))=H4 at kp3 gD4
    have kp4:∀ b o,b≠Du→H1 b=some o→H4 b=some o:=fun b o hb e=>kp3 _ _ hb (T3 _ _ (kp _ _ hb e))
    have gN4:=kp3 _ _ nND (T3 _ _ gN)
    have fl4:∀ z' ∈ dz ++ [([(x:Int),(y:Int),0,b2i (decide (nm[x]≠nm[y]))],r)],FlatAt [false,false,true] H4 z':=fun z' hz'=>by
      rcases List.mem_append.mp hz' with hz' | hz'
      · obtain ⟨ys,q1,q2⟩:=fl z' hz'
        exact flat_but ⟨ys,T3 _ _ q1,q2⟩ (T3 _ _ gD) kp3
      · rw [List.mem_singleton.mp hz']
        exact flat_but ⟨_,gr,.int _ (.int _ (.int _ (.bl _ .nil)))⟩ (T3 _ _ gD) kp3
    have hd4:(dz ++ [([(x:Int),(y:Int),0,b2i (decide (nm[x]≠nm[y]))],r)]).map (·.1)=List.zipWith rowE ((zs.take i).map esZ ++ [(w,x,y)]) (bs ++ [decide (nm[x]≠nm[y])]):=by
      rw [List.map_append,List.zipWith_append zl,hdz]; rfl
    have dl4:(dz ++ [([(x:Int),(y:Int),0,b2i (decide (nm[x]≠nm[y]))],r)]).length≤i+1:=by rw [List.length_append]; simp; omega
    walk_at "x"
    refine x_ixI (SqL.of gN4) rfl gx ?_
    walk_at "x"
    refine x_ixI (SqL.of gN4) rfl gy ?_
    walk_at "x"
    rw [eb]
    refine ifd (fun hxy=>?_) fun hxy=>?_
    · rw [decide_eq_true hxy] at hd4 gD4 fl4 dl4
      walk_at "x"
      refine ⟨N',nm,x,y,rfl,gN4,by omega,by omega,by omega,fun N5 H5 S5 hN5 gN5=>?_⟩
      walk_at "x"
      unfold stepL
      rw [if_pos (by show nm.getD x 0≠nm.getD y 0; rw [dx,dy]; exact hxy)]
      refine ⟨N5,_,fun b o hb e=>S5 _ _ (kp4 b o hb e),gN5,Ne.symm (ne_of_none gD4 hN5),S5 _ _ gD4,fun z' hz'=>?_,hd4,dl4,_,_,_,rfl⟩
      obtain ⟨ys,q1,q2⟩:=fl4 z' hz'
      exact ⟨ys,S5 _ _ q1,q2⟩
    · rw [decide_eq_false hxy] at hd4 gD4 fl4 dl4
      first | rw [if_neg (by simp)] | skip
      walk_at "x"
      unfold stepL
      rw [if_neg (by show ¬ nm.getD x 0≠nm.getD y 0; rw [dx,dy]; exact hxy)]
      exact ⟨N',_,kp4,gN4,nND,gD4,fl4,hd4,dl4,_,_,_,rfl⟩
  · rintro σ H2 ⟨N',dz,kp,gN,nND,gD,fl,hdz,hdl,o7,o8,o9,rfl⟩
    rw [List.take_of_length_le (by rw [List.length_map]; exact Nat.le_refl _)] at *
    exact fin H2 N' zs dz _ _ _ hpm hso gN nND gD fl hdz fun b o hb e=>kp b o hb (T1 _ _ e)
end K51
namespace K51
open Rm
theorem rows_one {L M:List (List Int)} (p:L.Perm M) (h1:L.Pairwise (fun z w=>lexL w z=false)) (h2:M.Pairwise (fun z w=>lexL w z=false)):L=M:=by
  refine p.eq_of_pairwise (fun a b _ _ q1 q2=>?_) h1 h2
  rcases lexL_total q1 with z | z
  · rw [z] at q2; cases q2
  · exact z.symm
def gwOf (kw:List (List Key × V)) (x y:Int):Bool:=decide (valV kw [Sum.inl x,Sum.inl y]=some (.bl true))
theorem Kr.tb {n:Nat} {es:List (Int × Nat × Nat)} {R:Nat→List Int} {kl kw kv:List (List Key × V)} (h:Kr n es R kl kw kv) (hl:es.length≤36):TB kl kw (gwOf kw)∧(kl.map fun q=>rowT (gwOf kw) q.1)=List.zipWith rowE es (foldL n es).2.1:=by
  obtain ⟨h1,h2,h3,h4,h5⟩:=h.fl
  obtain ⟨k1,k2,k3⟩:=h.keys
  obtain ⟨e1,e2,e3⟩:=h.len
  have hv:∀ (j:Nat) (e:Int × Nat × Nat) (b:Bool),es[j]? = some e→(foldL n es).2.1[j]? = some b→valV kw (pk e.2.1 e.2.2)=some (.bl b)∧gwOf kw e.2.1 e.2.2=b:=fun j e b he hb=>by
    have hj:kw[j]? = some (pk e.2.1 e.2.2,V.bl b):=by rw [h4,List.getElem?_zipWith,he,hb]
    have q:valV kw (pk e.2.1 e.2.2)=some (.bl b):=valV_of_get (by rw [k2]; exact h5) hj
    refine ⟨q,?_⟩
    unfold gwOf
    rw [show valV kw [Sum.inl (e.2.1:Int),Sum.inl (e.2.2:Int)]=some (.bl b) from q]
    cases b <;> simp
  refine ⟨⟨by rw [k1]; exact h5,by omega,fun q hq=>?_⟩,?_⟩
  · rw [h1] at hq
    obtain ⟨e,he,rfl⟩:=List.mem_map.mp hq
    obtain ⟨j,hj⟩:=List.mem_iff_getElem?.mp he
    have hj2:j < (foldL n es).2.1.length:=by have:=(List.getElem?_eq_some_iff.mp hj).1; omega
    obtain ⟨q1,q2⟩:=hv j e _ hj (List.getElem?_eq_getElem hj2)
    refine ⟨e.2.1,e.2.2,rfl,?_⟩
    rw [q2]
    exact q1
  · rw [h1,List.map_map]
    apply List.ext_getElem?
    intro j
    rw [List.getElem?_map,List.getElem?_zipWith]
    cases he:es[j]? with
    | none=>rfl
    | some e =>
      have hj2:j < (foldL n es).2.1.length:=by have:=(List.getElem?_eq_some_iff.mp he).1; omega
      rw [List.getElem?_eq_getElem hj2]
      obtain ⟨q1,q2⟩:=hv j e _ he (List.getElem?_eq_getElem hj2)
      show some [(e.2.1:Int),(e.2.2:Int),0,b2i (gwOf kw e.2.1 e.2.2)]=some (rowE e _)
      rw [q2]; rfl
theorem Kr.wt {n : Nat} {es : List (Int × Nat × Nat)} {R : Nat → List Int} {kl kw kv : List (List Key × V)} (h : Kr n es R kl kw kv) (hl : es.length ≤ 36) (hlt : ∀ e ∈ es, e.2.1 < e.2.2) : (∃ L, Cnt n R L ∧ L.length < 64) ∧ (∀ x y, x < y → Ed n R x y → valV kv [Sum.inl x, Sum.inl y] = some (.int (wtOf kv x y))) ∧ ∀ L' : List (Int × Int), L'.Nodup → (∀ t : Int × Int, t ∈ L' ↔ t.1 < t.2 ∧ Ed n R t.1 t.2) → (L'.map fun t => wtOf kv t.1 t.2).sum = (foldL n es).2.2 := by
  obtain ⟨h1,h2,h3,h4,h5⟩:=h.fl
  obtain ⟨k1,k2,k3⟩:=h.keys
  obtain ⟨L,s1,s2,s3⟩:=h.wood
  have hv:∀ e ∈ es,valV kv (pk e.2.1 e.2.2)=some (.int e.1)∧wtOf kv e.2.1 e.2.2=e.1:=fun e he=>by
    obtain ⟨j,hj⟩:=List.mem_iff_getElem?.mp he
    have q:valV kv (pk e.2.1 e.2.2)=some (.int e.1):=valV_of_get (j:=j) (by rw [k3]; exact h5) (by rw [h2,List.getElem?_map,hj]; rfl)
    refine ⟨q,?_⟩
    unfold wtOf
    rw [show valV kv [Sum.inl (e.2.1:Int),Sum.inl (e.2.2:Int)]=some (.int e.1) from q]
  have mem:∀ t:Int × Int,t ∈ L.map (fun e=>((e.2.1:Int),(e.2.2:Int)))↔t.1 < t.2∧Ed n R t.1 t.2:=fun t=>by
    rw [s3]
    constructor
    · intro ht
      obtain ⟨e,he,rfl⟩:=List.mem_map.mp ht
      have:=hlt e (s1.subset he)
      exact ⟨by show (e.2.1:Int) < e.2.2; omega,e,he,.inl rfl⟩
    · rintro ⟨q,e,he,q2 | q2⟩
      · exact List.mem_map.mpr ⟨e,he,q2.symm⟩
      · have:=hlt e (s1.subset he)
        obtain ⟨a,b⟩:=t
        obtain ⟨e1,e2⟩:=Prod.mk.inj q2
        simp only at q e1 e2
        omega
  have nd:(L.map (fun e=>((e.2.1:Int),(e.2.2:Int)))).Nodup:=by
    have:(L.map fun e=>pk e.2.1 e.2.2).Nodup:=(s1.map _).nodup h5
    have e2:(L.map fun e=>pk e.2.1 e.2.2)=(L.map (fun e=>((e.2.1:Int),(e.2.2:Int)))).map (fun t=>([Sum.inl t.1,Sum.inl t.2]:List Key)):=by rw [List.map_map]; rfl
    rw [e2] at this
    exact List.Pairwise.of_map _ (fun a b hab e=>hab (by rw [e])) this
  have ll:L.length≤es.length:=s1.length_le
  refine ⟨⟨_,⟨nd,mem⟩,by rw [List.length_map]; omega⟩,fun x y hxy hE=>?_,fun L' nd' mem'=>?_⟩
  · obtain ⟨e,he,ee⟩:=List.mem_map.mp ((mem (x,y)).mpr ⟨hxy,hE⟩)
    cases ee
    obtain ⟨q1,q2⟩:=hv e (s1.subset he)
    rw [q2]; exact q1
  · have pm:=perm_of nd' nd fun t=>by rw [mem',mem]
    rw [perm_sum (pm.map _),s2,List.map_map]
    congr 1
    exact List.map_congr_left fun e he=>(hv e (s1.subset he)).2
theorem law_2 {K:PySem.W.Frag} {C:Addr} {A:CA} {s1 s2 s4:Sp} {D:Ends} {H:Hp} {n:Nat} {N Du p dx S l:Addr} {c:Int} {a:AL} {kl kw kv:List (List Key × V)} {as:List Addr} {R:Nat→List Int} {es:List (Int × Nat × Nat)} {dz:List Zn} {o6 o7 o8 o9 o10 o12:Option V} (ct:CTs K C A)
    (hn:n≤20) (h:KA C A H p dx c a n kl kw kv as R) (W:Wd n R) (Kk:Kr n es R kl kw kv) (hl:es.length≤36) (hlt:∀ e ∈ es,e.2.1 < e.2.2) (hN:H N=some (.lst ((foldL n es).1.map V.int))) (hD:H Du=some (.lst (dz.map refN))) (hf:∀ z ∈ dz,FlatAt [false,false,true] H z) (hdz:dz.map (·.1)=List.zipWith rowE es (foldL n es).2.1)
    (fin:∀ σ H',D.nx σ H') :
    lp_law_2 K C A s1 s2 (sp_Kept_ties K C A) s4 (sp__law_sides K C A) (sp__law_kinds K C) (sp__law_whole K C) (sp_Lightest_weight K C A) D [some (.ref S),some (.int n),some (.ref l),some (.ref N),some (.ref Du),some (.int (foldL n es).2.2),o6,o7,o8,o9,o10,some (.ref p),o12] H:=by
  obtain ⟨tb,rows⟩:=Kk.tb hl
  obtain ⟨cnt,hg,hsum⟩:=Kk.wt hl hlt
  have hnm:=Kk.nm
  unfold lp_law_2
  walk_at "x"
  refine ⟨by omega,by omega,?_⟩
  rw [show ((2:Int)).toNat=2 from rfl]
  refine for_range (fun i σ H1=>Same H H1∧∃ o6 o12,σ = [some (.ref S),some (.int n),some (.ref l),some (.ref N),some (.ref Du),some (.int (foldL n es).2.2),o6,o7,o8,o9,o10,some (.ref p),o12]) ⟨fun _ _ e=>e,_,_,rfl⟩ ?_ ?_
  · rintro i σ H1 hi ⟨S1,o6,o12,rfl⟩
    have h1:=h.same S1
    walk_at "x"
    refine x_meth ?_
    walk_at "x"
    refine ⟨p,dx,_,rfl,h1.ob,fK0,?_⟩
    walk_at "x"
    refine ⟨p,dx,c,a,n,kl,kw,kv,as,R,gwOf kw,rfl,ct,h1,tb,fun q zs H2 hq gq fl pm so S2=>?_⟩
    walk_at "x"
    refine ⟨q,zs,rfl,gq,fl,?_⟩
    refine ⟨_,rfl,?_⟩
    rw [if_neg (by simp)]
    walk_at "x"
    have S02:Same H H2:=fun b o e=>S2 _ _ (S1 _ _ e)
    have dl:dz.length≤36:=by have:=congrArg List.length hdz; simp at this; omega
    have hf2:∀ z ∈ dz,FlatAt [false,false,true] H2 z:=fun z hz=>by obtain ⟨ys,q1,q2⟩:=hf z hz; exact ⟨ys,S02 _ _ q1,q2⟩
    refine .inr ⟨Du,dz,[false,false,true],rfl,SqL.of (S02 _ _ hD),hf2,by omega,fun q2 dz' hq2 pm2 so2=>?_⟩
    have T3:=Same.upd_new (o:=.lst (dz'.map refN)) hq2
    have g3:(upd H2 q2 (.lst (dz'.map refN))) q2=some (.lst (dz'.map refN)):=upd_same
    generalize upd H2 q2 (.lst (dz'.map refN))=H3 at T3 g3
    have ez:zs.map (·.1)=dz'.map (·.1):=by
      refine rows_one ?_ (List.pairwise_map.mpr so) (List.pairwise_map.mpr so2)
      refine pm.trans ?_
      rw [rows,← hdz]
      exact (pm2.map _).symm
    refine x_neD (rep_ns (m:=[false,false,true]) (T3 _ _ gq) (fun z hz=>?_)) (rep_ns (m:=[false,false,true]) g3 (fun z hz=>?_)) (fine_rows _ _) (fine_rows _ _) ?_
    · obtain ⟨ys,q1,q2⟩:=fl z hz; exact ⟨ys,T3 _ _ q1,q2⟩
    · obtain ⟨ys,q1,q2⟩:=hf2 z (pm2.mem_iff.mp hz); exact ⟨ys,T3 _ _ q1,q2⟩
    rw [eqv_rows ez]
    refine ⟨_,rfl,?_⟩
    rw [if_neg (by simp)]
    walk_at "x"
    refine x_bm0 ?_
    walk_at "x"
    refine ⟨.inl ⟨rfl,_,SqL.of (T3 _ _ gq)⟩,?_⟩
    refine ⟨q,_,rfl,rfl,T3 _ _ gq,?_⟩
    have hq0:H q=none:=none_of S1 hq
    have S4:Same H (upd H3 q (.lst [])):=fun b o e=>by rw [upd_ne (ne_of_none e hq0)]; exact T3 _ _ (S02 _ _ e)
    generalize upd H3 q (.lst [])=H4 at S4
    have h4:=h.same S4
    walk_at "x"
    refine x_meth ?_
    walk_at "x"
    refine ⟨p,dx,_,rfl,h4.ob,fK0,?_⟩
    walk_at "x"
    refine ⟨p,dx,c,a,n,kl,kw,kv,as,R,wtOf kv,rfl,ct,h4,W,by omega,cnt,hg,fun L5 H5 S5 nd5 mem5=>?_⟩
    rw [hsum L5 nd5 mem5]
    walk_at "x"
    refine ⟨_,rfl,?_⟩
    refine ⟨_,rfl,?_⟩
    rw [if_neg (by simp)]
    have S05:Same H H5:=fun b o e=>S5 _ _ (S4 _ _ e)
    have h5:=h.same S05
    walk_at "x"
    refine x_meth ?_
    walk_at "x"
    refine ⟨p,dx,_,rfl,h5.ob,fK0,?_⟩
    walk_at "x"
    refine ⟨p,dx,c,a,n,kl,kw,kv,as,R,wtOf kv,rfl,ct,h5,W,by omega,cnt,hg,fun L6 H6 S6 nd6 mem6=>?_⟩
    rw [hsum L6 nd6 mem6]
    walk_at "x"
    rw [if_neg (by simp)]
    have S06:Same H H6:=fun b o e=>S6 _ _ (S05 _ _ e)
    have h6:=h.same S06
    walk_at "x"
    refine ⟨p,dx,c,a,n,kl,kw,kv,as,R,N,_,rfl,ct,h6,W,by omega,S06 _ _ hN,hnm,fun H7 S7=>?_⟩
    refine ⟨_,rfl,?_⟩
    rw [if_neg (by simp)]
    walk_at "x"
    exact ⟨fun b o e=>S7 _ _ (S06 _ _ e),_,_,rfl⟩
  · rintro σ H1 ⟨S1,_⟩
    exact fin _ _
end K51
namespace K51
open Rm
def sp_law (K:PySem.W.Frag) (Pt1 Pt2:Addr):Sp:=fun vs H Q _=>∃ (a:Addr) (ns:List Int),vs=[.ref a]∧SqL K H a (ns.map V.int)∧ns.length≤63∧Pt1≠Pt2∧LT1 Pt1 H∧LT2 Pt2 H∧∀ H',Q (.bl true) H'
theorem len_law {K:PySem.W.Frag} {Pt1 Pt2:Addr}:∀ vs H Q E,sp_law K Pt1 Pt2 vs H Q E→vs.length=1:=by
  rintro vs H Q E ⟨a,ns,rfl,_⟩; rfl
def znT (t:Tr):Zn:=([(t.1:Int),(t.2.1:Int),t.2.2.1],t.2.2.2)
theorem lam_keep {Pt Pt2:Addr} {p p2:Pos} {q q2:Str} {H H':Hp} (h:LamT Pt p q H) (h2:LamT Pt2 p2 q2 H) (hne:Pt≠Pt2) (S:SameT Pt2 H H'):LamT Pt p q H':=by
  obtain ⟨ps,hp⟩:=h2.tbl
  rcases h with h | ⟨c',oc,vs,t,q1,q2,q3,q4⟩
  · exact .inl (S _ _ hne h)
  · exact .inr ⟨c',oc,vs,t,S _ _ hne q1,S _ _ (fun z=>by rw [z,hp] at q2; cases q2) q2,q3,q4⟩
theorem KA.clr {C : Addr} {A : CA} {H : Hp} {p dx b : Addr} {c : Int} {a : AL} {n : Nat} {kl kw kv : List (List Key × V)} {as : List Addr} {R : Nat → List Int} {ts : List Tr} (h : KA C A H p dx c a n kl kw kv as R) (W : Wd n R) (hn : 1 ≤ n) (hb : H b = some (.lst (ts.map refT))) (htr : ∀ t ∈ ts, TrAt H t) : KA C A (upd H b (.lst [])) p dx c a n kl kw kv as R := by
  have nb:∀ {x:Addr} {o:HO},H x=some o→(∀ xs,o≠.lst xs)→(upd H b (.lst [])) x=some o:=fun {x o} e hno=>by
    rw [upd_ne (fun z=>by rw [z,hb] at e; cases e; exact hno _ rfl)]; exact e
  have hd:∀ (x y:Addr) (v:List V) (o:HO),H x=some (.lst (.ref y :: v))→H y=some o→(∀ xs,o≠.tup xs)→x≠b:=fun x y v o e1 e2 hno z=>by
    rw [z,hb] at e1
    cases ts with
    | nil=>cases e1
    | cons t ts =>
      injection e1 with e1
      injection e1 with e1
      injection e1 with e3 _
      injection e3 with e4
      have:=htr t List.mem_cons_self
      unfold TrAt at this
      rw [show t.2.2.2=y from e4,e2] at this
      cases this
      exact hno _ rfl
  have n1:a.L≠b:=hd _ _ _ _ h.lv.ls h.lv.wd.ob (fun _ z=>nomatch z)
  have n2:a.l≠b:=by
    obtain ⟨y,hy,gy,_⟩:=h.lv.wd.get (i:=0) (by omega)
    have gl:=h.lv.wd.rl
    cases as with
    | nil=>cases hy
    | cons y' as =>
      cases hy
      exact hd _ _ _ _ gl gy (fun _ z=>nomatch z)
  have n3:∀ x ∈ as,x≠b:=fun x hx z=>by
    obtain ⟨i,hi⟩:=List.mem_iff_getElem?.mp hx
    have hin:i < n:=by have:=(List.getElem?_eq_some_iff.mp hi).1; have:=h.lv.wd.len; omega
    have g:=h.lv.wd.at_ i x hi
    rw [z,hb] at g
    have hne:=(W.r i hin).ne
    cases hR:R i with
    | nil=>exact hne hR
    | cons u us =>
      rw [hR] at g
      cases ts with
      | nil=>cases g
      | cons t ts =>
        injection g with g
        injection g with g
        injection g with g _
        cases g
  exact ⟨nb h.ob (fun _ z=>nomatch z),⟨nb h.lv.ob (fun _ z=>nomatch z),nb h.lv.e1 (fun _ z=>nomatch z),nb h.lv.e2 (fun _ z=>nomatch z),nb h.lv.e3 (fun _ z=>nomatch z),by rw [upd_ne n1]; exact h.lv.ls,h.lv.wd.out (fun z=>by have:=h.lv.wd.ob; rw [z,hb] at this; cases this) n2 n3,h.lv.n12,h.lv.n13,h.lv.n23,h.lv.nL⟩,h.npq,h.npw⟩
theorem run_law {K : PySem.W.Frag} {C : Addr} {A : CA} {Pt1 Pt2 : Addr} (ct : CTs K C A) : ∀ vs H Q E, sp_law K Pt1 Pt2 vs H Q E → rd_law K C A (sp__law_told K C Pt2) (sp_Lightest___init__ K C A Pt1) (sp_Kept_ties K C A) (sp__law_merged K C) (sp__law_sides K C A) (sp__law_kinds K C) (sp__law_whole K C) (sp_Lightest_weight K C A) { nx := fun _ H' => Q .non H', rt := Q } (start ["_law_script", "_law_n", "_law_told_here", "_law_names", "_law_due", "_law_weight_here", "_law_rows", "_law_number", "_law_a", "_law_b", "_law_handed", "_law_wood", "_law_turn"] vs) H := by
  rintro vs H Q E ⟨S,ns,rfl,hS,hns,hPP,hT1,hT2,k⟩
  unfold rd_law
  walk_at "x"
  refine ⟨S,ns,rfl,hS,hns,hT2,fun r l n ts H1 gr hn1 hn2 gl htr td hl36 S1=>?_⟩
  have hT1':LT1 Pt1 H1:=lam_keep hT1 hT2 hPP S1
  refine ⟨r,_,rfl,SqT.of gr,rfl,?_⟩
  walk_at "x"
  unfold tListRng
  walk_at "x"
  refine ⟨by omega,fun N hN=>?_⟩
  have T2:=Same.upd_new (o:=.lst ((List.range n).map fun i:Nat=>V.int (i:Int))) hN
  have gN:(upd H1 N (.lst ((List.range n).map fun i:Nat=>V.int (i:Int)))) N=some (.lst ((startL n).1.map V.int)):=by rw [upd_same]; simp [startL,Function.comp_def]
  generalize upd H1 N (.lst ((List.range n).map fun i:Nat=>V.int (i:Int)))=H2 at T2 gN
  walk_at "x"
  refine ⟨small_le (m:=0) (Nat.le_refl 0),fun Du hDu=>?_⟩
  have T3:=Same.upd_new (o:=.lst []) hDu
  have gD:(upd H2 Du (.lst [])) Du=some (.lst []):=upd_same
  generalize upd H2 Du (.lst [])=H3 at T3 gD
  have S13:Same H1 H3:=fun b o e=>T3 _ _ (T2 _ _ e)
  have gN3:=T3 _ _ gN
  have nND:N≠Du:=ne_of_none gN hDu
  have gl3:=S13 _ _ gl
  have hDu1:H1 Du=none:=none_of T2 hDu
  walk_at "x"
  refine .inl ⟨⟨_,SqL.of gl3⟩,fun acc hacc=>?_⟩
  refine comp_lst (fun i y H4=>∃ t b,ts[i]? = some t∧y = .ref b∧H4 b=some (.tup [.int t.2.2.1,.int (lo t:Nat),.int (up t:Nat)])) (fun σ=>∃ o,σ = [o]) (SqL.of gl3) hacc ⟨_,rfl⟩ (by rw [List.length_map]; omega) (fun i y H4 H5 ws ha hb e=>?_) (fun i xv σ' H4 G hi hxv S4 hS' done=>?_) fun ys H4 hly gy S4 hE=>?_
  · obtain ⟨t,b,e1,e2,e3⟩:=e
    exact ⟨t,b,e1,e2,hb _ _ e3 (ne_of e3 ha (by intro z; cases z))⟩
  · obtain ⟨o,rfl⟩:=hS'
    rw [List.getElem?_map] at hxv
    obtain ⟨t,ht,rfl⟩:=Option.map_eq_some_iff.mp hxv
    have gt:=S4 _ _ (S13 _ _ (htr t (List.mem_of_getElem? ht)))
    walk_at "x"
    refine x_ixT (SqT.of gt) (atI_of (j:=2) rfl rfl) ?_
    walk_at "x"
    refine x_ixT (SqT.of gt) (atI_of (j:=0) rfl rfl) ?_
    walk_at "x"
    refine x_ixT (SqT.of gt) (atI_of (j:=1) rfl rfl) ?_
    walk_at "x"
    refine x_ixT (SqT.of gt) (atI_of (j:=0) rfl rfl) ?_
    walk_at "x"
    refine x_ixT (SqT.of gt) (atI_of (j:=1) rfl rfl) ?_
    walk_at "x"
    refine ⟨small_le (m:=3) (Nat.le_refl 3),fun b hb=>?_⟩
    have emin:(if (t.2.1:Int) < t.1 then (t.2.1:Int) else t.1)=((lo t:Nat):Int):=by unfold lo; split <;> omega
    have emax:(if (t.2.1:Int) > t.1 then (t.2.1:Int) else t.1)=((up t:Nat):Int):=by unfold up; split <;> omega
    rw [emin,emax]
    exact done _ _ _ ⟨_,rfl⟩ (Same.upd_new hb) ⟨t,b,ht,rfl,upd_same⟩
  obtain ⟨zs0,ez0,hzs0⟩:∃ zs0:List Zn,ys=zs0.map refN∧(zs0.map (·.1)=ts.map fun t=>[t.2.2.1,(lo t:Int),(up t:Int)])∧∀ z ∈ zs0,FlatAt [false,false] H4 z:=by
    rw [List.length_map] at hly
    have key:∀ m,m≤ts.length→∃ zs0:List Zn,ys.take m=zs0.map refN∧(zs0.map (·.1)=(ts.take m).map fun t=>[t.2.2.1,(lo t:Int),(up t:Int)])∧∀ z ∈ zs0,FlatAt [false,false] H4 z:=fun m=>by
      induction m with
      | zero=>exact fun _=>⟨[],rfl,rfl,fun z hz=>nomatch hz⟩
      | succ m ih =>
        intro hm
        obtain ⟨zs0,q1,q2,q3⟩:=ih (by omega)
        have hy:ys[m]? = some ys[m]:=List.getElem?_eq_getElem (by omega)
        obtain ⟨t,b,e1,e2,e3⟩:=hE m _ hy
        refine ⟨zs0 ++ [([t.2.2.1,(lo t:Int),(up t:Int)],b)],?_,?_,fun z hz=>?_⟩
        · rw [List.take_add_one,hy,q1,e2]; simp [refN]
        · rw [List.take_add_one,e1,List.map_append,q2]; simp
        · rcases List.mem_append.mp hz with hz | hz
          · exact q3 z hz
          · rw [List.mem_singleton.mp hz]; exact ⟨_,e3,.int _ (.int _ (.int _ .nil))⟩
    obtain ⟨zs0,q1,q2,q3⟩:=key ts.length (Nat.le_refl _)
    rw [List.take_of_length_le (by omega)] at q1 q2
    exact ⟨zs0,q1,q2,q3⟩
  subst ez0
  obtain ⟨hz1,hzf⟩:=hzs0
  have hz0l:zs0.length=ts.length:=by have:=congrArg List.length hz1; simpa using this
  have hz0:zs0.map esZ=ts.map esT:=by
    have e:zs0.map esZ=(zs0.map (·.1)).map (fun v=>(v.getD 0 0,(v.getD 1 0).toNat,(v.getD 2 0).toNat)):=by rw [List.map_map]; rfl
    rw [e,hz1,List.map_map]
    refine List.map_congr_left fun t _=>?_
    simp [esT]
  have hzt:∀ z ∈ zs0,∃ t ∈ ts,z.1=[t.2.2.1,(lo t:Int),(up t:Int)]:=fun z hz=>by
    have:=List.mem_map_of_mem (f:=(·.1)) hz
    rw [hz1] at this
    obtain ⟨t,ht,e⟩:=List.mem_map.mp this
    exact ⟨t,ht,e.symm⟩
  have hlu:∀ t ∈ ts,lo t < n∧up t < n∧lo t < up t:=fun t ht=>by
    obtain ⟨q1,q2,q3⟩:=td.lt t ht
    unfold lo up
    omega
  have S14:Same H1 H4:=fun b o e=>S4 _ _ (S13 _ _ e)
  walk_at "x1"
  walk_at "x1"
  refine law_1 (n:=n) (zs0:=zs0) (by omega) (S4 _ _ gN3) (S4 _ _ gD) nND gy hzf (by omega) (fun z hz=>?_) fun H5 N5 zs dz o7 o8 o9 hpm hso gN5 nND5 gD5 fl5 hdz kp5=>?_
  · obtain ⟨t,ht,e⟩:=hzt z hz
    exact ⟨_,_,_,e,(hlu t ht).1,(hlu t ht).2.1⟩
  have S15:Same H1 H5:=fun b o e=>kp5 _ _ (ne_of_none e hDu1) (S14 _ _ e)
  have gl5:=S15 _ _ gl
  walk_at "x"
  refine x_list (SqL.of gl5) fun hd hhd=>?_
  have T6:=Same.upd_new (o:=.lst (ts.map refT)) hhd
  have gh:(upd H5 hd (.lst (ts.map refT))) hd=some (.lst (ts.map refT)):=upd_same
  generalize upd H5 hd (.lst (ts.map refT))=H6 at T6 gh
  have S16:Same H1 H6:=fun b o e=>T6 _ _ (S15 _ _ e)
  walk_at "x"
  refine x_make ?_
  walk_at "x"
  intro p dx hp hdx hne
  have S67:Same H6 (upd (upd H6 dx (.own p)) p (.ins A.Lightest dx [])):=fun b o e=>by rw [upd_ne (ne_of_none e hp),upd_ne (ne_of_none e hdx)]; exact e
  have gp7:(upd (upd H6 dx (.own p)) p (.ins A.Lightest dx [])) p=some (.ins A.Lightest dx []):=upd_same
  generalize upd (upd H6 dx (.own p)) p (.ins A.Lightest dx [])=H7 at S67 gp7
  have S17:Same H1 H7:=fun b o e=>S67 _ _ (S16 _ _ e)
  refine ⟨p,dx,hd,n,ts,rfl,gp7,ct,hn1,by omega,S67 _ _ gh,fun t ht=>S17 _ _ (htr t ht),td,hT1'.same S17,fun a c kl kw kv as R es H8 h8 W8 K8 hpm8 hso8 kp8=>⟨rfl,?_⟩⟩
  obtain ⟨tps,hPt⟩:=hT1'.tbl
  have keep:∀ {b:Addr} {o:HO},H6 b=some o→(∀ ps,o≠.tbl ps)→H8 b=some o:=fun {b o} e hno=>kp8 _ _ (ne_of_none e hp) (fun z=>by rw [z,S16 _ _ hPt] at e; cases e; exact hno _ rfl) (S67 _ _ e)
  have gh8:=keep gh (fun _ z=>nomatch z)
  have gl8:=keep (T6 _ _ gl5) (fun _ z=>nomatch z)
  have tr8:∀ t ∈ ts,TrAt H8 t:=fun t ht=>keep (S16 _ _ (htr t ht)) (fun _ z=>nomatch z)
  have fz:∀ z ∈ ts.map znT,FlatAt [false,false] H8 z:=fun z hz=>by
    obtain ⟨t,ht,rfl⟩:=List.mem_map.mp hz
    exact ⟨_,tr8 t ht,.int _ (.int _ (.int _ .nil))⟩
  have er:(ts.map znT).map refN=ts.map refT:=by rw [List.map_map]; rfl
  walk_at "x"
  refine x_neD (rep_ns (zs:=ts.map znT) (m:=[false,false]) (by rw [er]; exact gh8) fz) (rep_ns (zs:=ts.map znT) (m:=[false,false]) (by rw [er]; exact gl8) fz) (fine_rows _ _) (fine_rows _ _) ?_
  rw [eqv_rows rfl]
  refine ⟨_,rfl,?_⟩
  rw [if_neg (by simp)]
  walk_at "x"
  refine x_bm0 ?_
  walk_at "x"
  refine ⟨.inl ⟨rfl,_,SqL.of gh8⟩,?_⟩
  refine ⟨hd,_,rfl,rfl,gh8,?_⟩
  have hes:es=zs.map esZ:=by
    refine order_one (hpm8.trans ?_) hso8 ?_
    · rw [← hz0]; exact (hpm.map _).symm
    · rw [List.pairwise_map]
      refine hso.imp_of_mem fun {z w} hz' hw' q=>?_
      obtain ⟨t,ht,e1⟩:=hzt z (hpm.mem_iff.mp hz')
      obtain ⟨u,hu,e2⟩:=hzt w (hpm.mem_iff.mp hw')
      unfold esZ
      rw [e1,e2] at q ⊢
      simpa using q
  subst hes
  have nh:∀ {b:Addr} {o:HO},H5 b=some o→b≠hd:=fun e=>ne_of_none e hhd
  have keep9:∀ {b:Addr} {o:HO},H5 b=some o→(∀ ps,o≠.tbl ps)→(upd H8 hd (.lst [])) b=some o:=fun {b o} e hno=>by rw [upd_ne (nh e)]; exact keep (T6 _ _ e) hno
  have h9:KA C A (upd H8 hd (.lst [])) p dx c a n kl kw kv as R:=h8.clr W8 hn1 gh8 tr8
  generalize upd H8 hd (.lst [])=H9 at keep9 h9
  walk_at "x1"
  refine law_2 ct hn2 h9 W8 K8 ?_ (fun e he=>?_) (keep9 gN5 (fun _ z=>nomatch z)) (keep9 gD5 (fun _ z=>nomatch z)) (fun z hz=>?_) hdz fun σ H'=>?_
  · rw [List.length_map,hpm.length_eq]; omega
  · obtain ⟨z,hz,rfl⟩:=List.mem_map.mp he
    obtain ⟨t,ht,e1⟩:=hzt z (hpm.mem_iff.mp hz)
    unfold esZ
    rw [e1]
    have:=(hlu t ht).2.2
    simpa using this
  · obtain ⟨ys,q1,q2⟩:=fl5 z hz
    exact ⟨ys,keep9 q1 (fun _ z=>nomatch z),q2⟩
  · walk_at "x"
    exact k _
end K51
namespace K51
theorem all_mk {l:PySem.W.OpenLaw} {w:World} {K:PySem.W.Frag} {h:Heap} {mg:Str→Option Value} {fa:Addr} (X:K.In h) (G:h.Ns mainGlobals mg) (hfa:mg "law" = some (.ref fa)) {c1 Pt1 c2 Pt2:Addr} {C A_Levels A_Lightest A_Kept:Addr}
    (aC_Wood:PySem.W.nsIn K mainGlobals "Wood" = some (some (.ref C))) (pg_Wood:PySem.W.plainGet K C Str.empty=true) (hd_Wood:PySem.W.hasDictIn K C=true) (po_Wood:PySem.W.plainOver K C=true) (sa_Wood:PySem.W.findIn K (.ref C) "__setattr__" = some (some (.builtin "object.__setattr__"))) (mk_Wood:PySem.W.makesIn K C=true) (kc_Wood:PySem.W.keepIn K (.ref C)=true)
    (n_Wood_n:PySem.W.findIn K (.ref C) "n" = some none)
    (n_Wood_rows:PySem.W.findIn K (.ref C) "rows" = some none)
    (aC_Levels:PySem.W.nsIn K mainGlobals "Levels" = some (some (.ref A_Levels))) (pg_Levels:PySem.W.plainGet K A_Levels Str.empty=true) (hd_Levels:PySem.W.hasDictIn K A_Levels=true) (po_Levels:PySem.W.plainOver K A_Levels=true) (sa_Levels:PySem.W.findIn K (.ref A_Levels) "__setattr__" = some (some (.builtin "object.__setattr__"))) (mk_Levels:PySem.W.makesIn K A_Levels=true) (kc_Levels:PySem.W.keepIn K (.ref A_Levels)=true)
    (n_Levels_level_of:PySem.W.findIn K (.ref A_Levels) "level_of" = some none)
    (n_Levels_weight_of:PySem.W.findIn K (.ref A_Levels) "weight_of" = some none)
    (n_Levels_wooden:PySem.W.findIn K (.ref A_Levels) "wooden" = some none)
    (n_Levels_woods:PySem.W.findIn K (.ref A_Levels) "woods" = some none)
    (aC_Lightest:PySem.W.nsIn K mainGlobals "Lightest" = some (some (.ref A_Lightest))) (pg_Lightest:PySem.W.plainGet K A_Lightest Str.empty=true) (hd_Lightest:PySem.W.hasDictIn K A_Lightest=true) (po_Lightest:PySem.W.plainOver K A_Lightest=true) (sa_Lightest:PySem.W.findIn K (.ref A_Lightest) "__setattr__" = some (some (.builtin "object.__setattr__"))) (mk_Lightest:PySem.W.makesIn K A_Lightest=true) (kc_Lightest:PySem.W.keepIn K (.ref A_Lightest)=true)
    (n_Lightest_came:PySem.W.findIn K (.ref A_Lightest) "came" = some none)
    (n_Lightest_levels:PySem.W.findIn K (.ref A_Lightest) "levels" = some none)
    (n_Lightest_looked:PySem.W.findIn K (.ref A_Lightest) "looked" = some none)
    (n_Lightest_lost:PySem.W.findIn K (.ref A_Lightest) "lost" = some none)
    (n_Lightest_n:PySem.W.findIn K (.ref A_Lightest) "n" = some none)
    (n_Lightest_risen:PySem.W.findIn K (.ref A_Lightest) "risen" = some none)
    (n_Lightest_wood:PySem.W.findIn K (.ref A_Lightest) "wood" = some none)
    (aC_Kept:PySem.W.nsIn K mainGlobals "Kept" = some (some (.ref A_Kept)))
    (d_is_whole:Dfn K mg "is_whole" sis_whole ["thing"])
    (d_is_count:Dfn K mg "is_count" sis_count ["thing"])
    (d_is_place:Dfn K mg "is_place" sis_place ["n","thing"])
    (d_top:Dfn K mg "top" stop ["n"])
    (d_tie_of:Dfn K mg "tie_of" stie_of ["a","b"])
    (d_steps_along:Dfn K mg "steps_along" ssteps_along ["row"])
    (d_turned:Dfn K mg "turned" sturned ["row","a"])
    (d_spliced:Dfn K mg "spliced" sspliced ["row","other","a","b"])
    (d_refuse_no_place:Dfn K mg "refuse_no_place" srefuse_no_place ["n","thing"])
    (d_refuse_no_places:Dfn K mg "refuse_no_places" srefuse_no_places ["n","a","b"])
    (d_refuse_no_pair:Dfn K mg "refuse_no_pair" srefuse_no_pair ["n","a","b"])
    (d_in_order:Dfn K mg "in_order" sin_order ["ties","weight_of"])
    (d_new_tie:Dfn K mg "new_tie" snew_tie ["n","standing","a","b"])
    (d__law_cell_at:Dfn K mg "_law_cell_at" s_law_cell_at ["_law_script","_law_k"])
    (d__law_whole:Dfn K mg "_law_whole" s_law_whole ["_law_found"])
    (d__law_shape:Dfn K mg "_law_shape" s_law_shape ["_law_n","_law_way"])
    (d__law_weight:Dfn K mg "_law_weight" s_law_weight ["_law_cell","_law_k"])
    (d__law_told:Dfn K mg "_law_told" s_law_told ["_law_script"])
    (d__law_merged:Dfn K mg "_law_merged" s_law_merged ["_law_names","_law_a","_law_b"])
    (d__law_kinds:Dfn K mg "_law_kinds" s_law_kinds ["_law_rows"])
    (d__law_sides:Dfn K mg "_law_sides" s_law_sides ["_law_wood","_law_names"])
    (d_law:Dfn K mg "law" slaw ["_law_script"])
    (d_Wood___init__:DfnM K C "__init__" "Wood.__init__" sWood___init__ ["self","n"])
    (d_Wood_keep:DfnM K C "keep" "Wood.keep" sWood_keep ["self","row"])
    (d_Wood_link:DfnM K C "link" "Wood.link" sWood_link ["self","a","b"])
    (d_Wood_joined:DfnM K C "joined" "Wood.joined" sWood_joined ["self","a","b"])
    (d_Wood_group:DfnM K C "group" "Wood.group" sWood_group ["self","a"])
    (d_Wood_ties:DfnM K C "ties" "Wood.ties" sWood_ties ["self"])
    (d_Levels___init__:DfnM K A_Levels "__init__" "Levels.__init__" sLevels___init__ ["self","n"])
    (d_Levels_add:DfnM K A_Levels "add" "Levels.add" sLevels_add ["self","tie","weight"])
    (d_Levels_adopt:DfnM K A_Levels "adopt" "Levels.adopt" sLevels_adopt ["self","tie"])
    (d_Levels_told:DfnM K A_Levels "told" "Levels.told" sLevels_told ["self","tie"])
    (d_Kept___init__:DfnM K A_Kept "__init__" "Kept.__init__" sKept___init__ ["self","n"])
    (d_Kept_receive:DfnM K A_Lightest "receive" "Kept.receive" sKept_receive ["self","tie","weight"])
    (d_Kept_joined:DfnM K A_Lightest "joined" "Kept.joined" sKept_joined ["self","a","b"])
    (d_Kept_side:DfnM K A_Lightest "side" "Kept.side" sKept_side ["self","a"])
    (d_Kept_ties:DfnM K A_Lightest "ties" "Kept.ties" sKept_ties ["self"])
    (d_Lightest___init__:DfnM K A_Lightest "__init__" "Lightest.__init__" sLightest___init__ ["self","n","weighed"])
    (d_Lightest_weight:DfnM K A_Lightest "weight" "Lightest.weight" sLightest_weight ["self"])
    {f_K:Addr} (e_K:d_Kept___init__.f=f_K) (g_K:PySem.W.specialIn K (.ref A_Kept) "__getattribute__" = some (some (.builtin "type.__getattribute__"))) (r_K:PySem.W.readsIn K A_Kept (.type "type")=true) (t_K:PySem.W.findCls K (.ref A_Kept) (.type "type") "__init__" = some (.val (.ref f_K)))
    (q_in_order:d_in_order.d.code = .ref c1)
    (q__law_told:d__law_told.d.code = .ref c2)
    (z_bool:PySem.W.nsIn K mainGlobals "bool" = some none)
    (z_enumerate:PySem.W.nsIn K mainGlobals "enumerate" = some none)
    (z_int:PySem.W.nsIn K mainGlobals "int" = some none)
    (z_isinstance:PySem.W.nsIn K mainGlobals "isinstance" = some none)
    (z_len:PySem.W.nsIn K mainGlobals "len" = some none)
    (z_list:PySem.W.nsIn K mainGlobals "list" = some none)
    (z_max:PySem.W.nsIn K mainGlobals "max" = some none)
    (z_min:PySem.W.nsIn K mainGlobals "min" = some none)
    (z_range:PySem.W.nsIn K mainGlobals "range" = some none)
    (z_set:PySem.W.nsIn K mainGlobals "set" = some none)
    (z_sorted:PySem.W.nsIn K mainGlobals "sorted" = some none)
    (z_sum:PySem.W.nsIn K mainGlobals "sum" = some none)
    (z_tuple:PySem.W.nsIn K mainGlobals "tuple" = some none)
    (z_zip:PySem.W.nsIn K mainGlobals "zip" = some none)
    {t_MOST_PLACES:Tok} (z_MOST_PLACES:PySem.W.nsIn K mainGlobals "MOST_PLACES" = some (some (.int 200 t_MOST_PLACES)))
    : ∃ fd:FuncData,(∀ (s:Shared) (v:Value),BindsTo s fd ⟨[v],[]⟩ [("_law_script",v)])∧∀ base:Heap,K.In base→base.Ns mainGlobals mg→PySem.W.CodeHd base c1 Pt1→base.BuiltinsAt mg Pt1→PySem.W.CodeHd base c2 Pt2→base.BuiltinsAt mg Pt2→FnOk l.prog w K mg base CX0 12 fa fd ["_law_script"] (sp_law K Pt1 Pt2):=by
  have e:=d_law.law hfa
  subst e
  have T:Txt K mg C (⟨A_Levels,A_Lightest,A_Kept⟩:CA):=⟨⟨pg_Wood,hd_Wood,po_Wood,sa_Wood⟩,PySem.W.mg_of X G aC_Wood,n_Wood_n,n_Wood_rows,⟨pg_Levels,hd_Levels,po_Levels,sa_Levels⟩,PySem.W.mg_of X G aC_Levels,n_Levels_level_of,n_Levels_weight_of,n_Levels_wooden,n_Levels_woods,⟨pg_Lightest,hd_Lightest,po_Lightest,sa_Lightest⟩,PySem.W.mg_of X G aC_Lightest,n_Lightest_came,n_Lightest_levels,n_Lightest_looked,n_Lightest_lost,n_Lightest_n,n_Lightest_risen,n_Lightest_wood,PySem.W.mg_of X G aC_Kept,PySem.W.mg_none_of X G z_bool,PySem.W.mg_none_of X G z_enumerate,PySem.W.mg_none_of X G z_int,PySem.W.mg_none_of X G z_isinstance,PySem.W.mg_none_of X G z_len,PySem.W.mg_none_of X G z_list,PySem.W.mg_none_of X G z_max,PySem.W.mg_none_of X G z_min,PySem.W.mg_none_of X G z_range,PySem.W.mg_none_of X G z_set,PySem.W.mg_none_of X G z_sorted,PySem.W.mg_none_of X G z_sum,PySem.W.mg_none_of X G z_tuple,PySem.W.mg_none_of X G z_zip,⟨_,PySem.W.mg_of X G z_MOST_PLACES⟩⟩
  have ct:CTs K C (⟨A_Levels,A_Lightest,A_Kept⟩:CA):=⟨⟨T.cl_Wood,T.n_Wood_n,T.n_Wood_rows⟩,T.cl_Levels,T.n_Levels_level_of,T.n_Levels_wooden,T.n_Levels_weight_of,T.n_Levels_woods,T.cl_Lightest,T.n_Lightest_n,T.n_Lightest_levels,T.n_Lightest_wood,T.n_Lightest_came,T.n_Lightest_looked,T.n_Lightest_risen,T.n_Lightest_lost⟩
  refine ⟨d_law.d,fun s v=>d_law.bt s [v] rfl,fun base _ _ CH1 B1 CH2 B2=>?_⟩
  have c_is_whole:Cal l.prog w K mg base CX0 1 "is_whole" ["thing"] (sp_is_whole K C):=⟨d_is_whole.f,d_is_whole.d,ok_is_whole d_is_whole.F T len_is_whole run_is_whole,d_is_whole.m,d_is_whole.F.kp,d_is_whole.b⟩
  have c_top:Cal l.prog w K mg base CX0 1 "top" ["n"] (sp_top K C):=⟨d_top.f,d_top.d,ok_top d_top.F T len_top run_top,d_top.m,d_top.F.kp,d_top.b⟩
  have c_tie_of:Cal l.prog w K mg base CX0 1 "tie_of" ["a","b"] (sp_tie_of K C):=⟨d_tie_of.f,d_tie_of.d,ok_tie_of d_tie_of.F T len_tie_of run_tie_of,d_tie_of.m,d_tie_of.F.kp,d_tie_of.b⟩
  have c_steps_along:Cal l.prog w K mg base CX0 1 "steps_along" ["row"] (sp_steps_along K C):=⟨d_steps_along.f,d_steps_along.d,ok_steps_along d_steps_along.F T len_steps_along run_steps_along,d_steps_along.m,d_steps_along.F.kp,d_steps_along.b⟩
  have c_turned:Cal l.prog w K mg base CX0 1 "turned" ["row","a"] (sp_turned K C):=⟨d_turned.f,d_turned.d,ok_turned d_turned.F T len_turned run_turned,d_turned.m,d_turned.F.kp,d_turned.b⟩
  have c_in_order:Cal l.prog w K mg base CX0 1 "in_order" ["ties","weight_of"] (sp_in_order K C Pt1):=⟨d_in_order.f,d_in_order.d,ok_in_order d_in_order.F T q_in_order CH1 B1 len_in_order run_in_order,d_in_order.m,d_in_order.F.kp,d_in_order.b⟩
  have c__law_cell_at:Cal l.prog w K mg base CX0 1 "_law_cell_at" ["_law_script","_law_k"] (sp__law_cell_at K C):=⟨d__law_cell_at.f,d__law_cell_at.d,ok__law_cell_at d__law_cell_at.F T len__law_cell_at run__law_cell_at,d__law_cell_at.m,d__law_cell_at.F.kp,d__law_cell_at.b⟩
  have c__law_whole:Cal l.prog w K mg base CX0 1 "_law_whole" ["_law_found"] (sp__law_whole K C):=⟨d__law_whole.f,d__law_whole.d,ok__law_whole d__law_whole.F T len__law_whole run__law_whole,d__law_whole.m,d__law_whole.F.kp,d__law_whole.b⟩
  have c__law_shape:Cal l.prog w K mg base CX0 1 "_law_shape" ["_law_n","_law_way"] (sp__law_shape K C):=⟨d__law_shape.f,d__law_shape.d,ok__law_shape d__law_shape.F T len__law_shape run__law_shape,d__law_shape.m,d__law_shape.F.kp,d__law_shape.b⟩
  have c__law_weight:Cal l.prog w K mg base CX0 1 "_law_weight" ["_law_cell","_law_k"] (sp__law_weight K C):=⟨d__law_weight.f,d__law_weight.d,ok__law_weight d__law_weight.F T len__law_weight run__law_weight,d__law_weight.m,d__law_weight.F.kp,d__law_weight.b⟩
  have c__law_merged:Cal l.prog w K mg base CX0 1 "_law_merged" ["_law_names","_law_a","_law_b"] (sp__law_merged K C):=⟨d__law_merged.f,d__law_merged.d,ok__law_merged d__law_merged.F T len__law_merged run__law_merged,d__law_merged.m,d__law_merged.F.kp,d__law_merged.b⟩
  have c_Wood___init__:CalI l.prog w K mg base CX0 1 C ["self","n"] (sp_Wood___init__ K C):=⟨d_Wood___init__.f,d_Wood___init__.d,ok_Wood___init__ d_Wood___init__.F T len_Wood___init__ run_Wood___init__,⟨mk_Wood,d_Wood___init__.a,d_Wood___init__.i,kc_Wood⟩,d_Wood___init__.b⟩
  have c_Wood_keep:CalM l.prog w K mg base CX0 1 C "keep" ["self","row"] (sp_Wood_keep K C):=⟨d_Wood_keep.f,d_Wood_keep.d,ok_Wood_keep d_Wood_keep.F T len_Wood_keep run_Wood_keep,⟨d_Wood_keep.a,d_Wood_keep.i,d_Wood_keep.F.kp⟩,d_Wood_keep.b⟩
  have c_Levels_told:CalM l.prog w K mg base CX0 1 A_Levels "told" ["self","tie"] (sp_Levels_told K C (⟨A_Levels,A_Lightest,A_Kept⟩:CA)):=⟨d_Levels_told.f,d_Levels_told.d,ok_Levels_told d_Levels_told.F T len_Levels_told run_Levels_told,⟨d_Levels_told.a,d_Levels_told.i,d_Levels_told.F.kp⟩,d_Levels_told.b⟩
  have c_is_count:Cal l.prog w K mg base CX0 2 "is_count" ["thing"] (sp_is_count K C):=⟨d_is_count.f,d_is_count.d,ok_is_count d_is_count.F T c_is_whole len_is_count run_is_count,d_is_count.m,d_is_count.F.kp,d_is_count.b⟩
  have c_is_place:Cal l.prog w K mg base CX0 2 "is_place" ["n","thing"] (sp_is_place K C):=⟨d_is_place.f,d_is_place.d,ok_is_place d_is_place.F T c_is_whole len_is_place run_is_place,d_is_place.m,d_is_place.F.kp,d_is_place.b⟩
  have c_spliced:Cal l.prog w K mg base CX0 2 "spliced" ["row","other","a","b"] (sp_spliced K C):=⟨d_spliced.f,d_spliced.d,ok_spliced d_spliced.F T c_turned len_spliced run_spliced,d_spliced.m,d_spliced.F.kp,d_spliced.b⟩
  have c__law_told:Cal l.prog w K mg base CX0 2 "_law_told" ["_law_script"] (sp__law_told K C Pt2):=⟨d__law_told.f,d__law_told.d,ok__law_told d__law_told.F T q__law_told CH2 B2 c__law_cell_at c__law_shape c__law_weight len__law_told run__law_told,d__law_told.m,d__law_told.F.kp,d__law_told.b⟩
  have c__law_kinds:Cal l.prog w K mg base CX0 2 "_law_kinds" ["_law_rows"] (sp__law_kinds K C):=⟨d__law_kinds.f,d__law_kinds.d,ok__law_kinds d__law_kinds.F T c__law_whole len__law_kinds run__law_kinds,d__law_kinds.m,d__law_kinds.F.kp,d__law_kinds.b⟩
  have c_Wood_ties:CalM l.prog w K mg base CX0 2 C "ties" ["self"] (sp_Wood_ties K C):=⟨d_Wood_ties.f,d_Wood_ties.d,ok_Wood_ties d_Wood_ties.F T c_steps_along len_Wood_ties run_Wood_ties,⟨d_Wood_ties.a,d_Wood_ties.i,d_Wood_ties.F.kp⟩,d_Wood_ties.b⟩
  have c_Kept_ties:CalM l.prog w K mg base CX0 2 A_Lightest "ties" ["self"] (sp_Kept_ties K C (⟨A_Levels,A_Lightest,A_Kept⟩:CA)):=⟨d_Kept_ties.f,d_Kept_ties.d,FnOk.thaw (ok_Kept_ties d_Kept_ties.F T c_Levels_told lenf_Kept_ties runf_Kept_ties) thaw_Kept_ties,⟨d_Kept_ties.a,d_Kept_ties.i,d_Kept_ties.F.kp⟩,d_Kept_ties.b⟩
  have c_refuse_no_place:Cal l.prog w K mg base CX0 3 "refuse_no_place" ["n","thing"] (sp_refuse_no_place K C):=⟨d_refuse_no_place.f,d_refuse_no_place.d,ok_refuse_no_place d_refuse_no_place.F T c_is_place len_refuse_no_place run_refuse_no_place,d_refuse_no_place.m,d_refuse_no_place.F.kp,d_refuse_no_place.b⟩
  have c_Levels___init__:CalI l.prog w K mg base CX0 3 A_Levels ["self","n"] (sp_Levels___init__ K C (⟨A_Levels,A_Lightest,A_Kept⟩:CA)):=⟨d_Levels___init__.f,d_Levels___init__.d,ok_Levels___init__ d_Levels___init__.F T c_Wood___init__ c_top len_Levels___init__ run_Levels___init__,⟨mk_Levels,d_Levels___init__.a,d_Levels___init__.i,kc_Levels⟩,d_Levels___init__.b⟩
  have c_Lightest_weight:CalM l.prog w K mg base CX0 3 A_Lightest "weight" ["self"] (sp_Lightest_weight K C (⟨A_Levels,A_Lightest,A_Kept⟩:CA)):=⟨d_Lightest_weight.f,d_Lightest_weight.d,ok_Lightest_weight d_Lightest_weight.F T c_Wood_ties len_Lightest_weight run_Lightest_weight,⟨d_Lightest_weight.a,d_Lightest_weight.i,d_Lightest_weight.F.kp⟩,d_Lightest_weight.b⟩
  have c_refuse_no_places:Cal l.prog w K mg base CX0 4 "refuse_no_places" ["n","a","b"] (sp_refuse_no_places K C):=⟨d_refuse_no_places.f,d_refuse_no_places.d,ok_refuse_no_places d_refuse_no_places.F T c_refuse_no_place len_refuse_no_places run_refuse_no_places,d_refuse_no_places.m,d_refuse_no_places.F.kp,d_refuse_no_places.b⟩
  have c_Wood_group:CalM l.prog w K mg base CX0 4 C "group" ["self","a"] (sp_Wood_group K C):=⟨d_Wood_group.f,d_Wood_group.d,ok_Wood_group d_Wood_group.F T c_refuse_no_place len_Wood_group run_Wood_group,⟨d_Wood_group.a,d_Wood_group.i,d_Wood_group.F.kp⟩,d_Wood_group.b⟩
  have c_refuse_no_pair:Cal l.prog w K mg base CX0 5 "refuse_no_pair" ["n","a","b"] (sp_refuse_no_pair K C):=⟨d_refuse_no_pair.f,d_refuse_no_pair.d,ok_refuse_no_pair d_refuse_no_pair.F T c_refuse_no_places len_refuse_no_pair run_refuse_no_pair,d_refuse_no_pair.m,d_refuse_no_pair.F.kp,d_refuse_no_pair.b⟩
  have c_Wood_joined:CalM l.prog w K mg base CX0 5 C "joined" ["self","a","b"] (sp_Wood_joined K C):=⟨d_Wood_joined.f,d_Wood_joined.d,ok_Wood_joined d_Wood_joined.F T c_refuse_no_places len_Wood_joined run_Wood_joined,⟨d_Wood_joined.a,d_Wood_joined.i,d_Wood_joined.F.kp⟩,d_Wood_joined.b⟩
  have c_Kept___init__:CalB l.prog w K mg base CX0 5 A_Kept "__init__" ["self","n"] (sp_Kept___init__ K C (⟨A_Levels,A_Lightest,A_Kept⟩:CA)):=⟨d_Kept___init__.f,d_Kept___init__.d,ok_Kept___init__ d_Kept___init__.F T c_Levels___init__ c_is_count len_Kept___init__ run_Kept___init__,.type "type",g_K,r_K,(by rw [e_K]; exact t_K),d_Kept___init__.F.kp,d_Kept___init__.b⟩
  have c_Kept_side:CalM l.prog w K mg base CX0 5 A_Lightest "side" ["self","a"] (sp_Kept_side K C (⟨A_Levels,A_Lightest,A_Kept⟩:CA)):=⟨d_Kept_side.f,d_Kept_side.d,ok_Kept_side d_Kept_side.F T c_Wood_group len_Kept_side run_Kept_side,⟨d_Kept_side.a,d_Kept_side.i,d_Kept_side.F.kp⟩,d_Kept_side.b⟩
  have c_new_tie:Cal l.prog w K mg base CX0 6 "new_tie" ["n","standing","a","b"] (sp_new_tie K C):=⟨d_new_tie.f,d_new_tie.d,ok_new_tie d_new_tie.F T c_refuse_no_pair c_tie_of len_new_tie run_new_tie,d_new_tie.m,d_new_tie.F.kp,d_new_tie.b⟩
  have c_Wood_link:CalM l.prog w K mg base CX0 6 C "link" ["self","a","b"] (sp_Wood_link K C):=⟨d_Wood_link.f,d_Wood_link.d,ok_Wood_link d_Wood_link.F T c_refuse_no_pair c_Wood_joined c_Wood_keep c_spliced len_Wood_link run_Wood_link,⟨d_Wood_link.a,d_Wood_link.i,d_Wood_link.F.kp⟩,d_Wood_link.b⟩
  have c_Kept_joined:CalM l.prog w K mg base CX0 6 A_Lightest "joined" ["self","a","b"] (sp_Kept_joined K C (⟨A_Levels,A_Lightest,A_Kept⟩:CA)):=⟨d_Kept_joined.f,d_Kept_joined.d,ok_Kept_joined d_Kept_joined.F T c_Wood_joined len_Kept_joined run_Kept_joined,⟨d_Kept_joined.a,d_Kept_joined.i,d_Kept_joined.F.kp⟩,d_Kept_joined.b⟩
  have c__law_sides:Cal l.prog w K mg base CX0 7 "_law_sides" ["_law_wood","_law_names"] (sp__law_sides K C (⟨A_Levels,A_Lightest,A_Kept⟩:CA)):=⟨d__law_sides.f,d__law_sides.d,ok__law_sides d__law_sides.F T c_Kept_side c_Kept_joined len__law_sides run__law_sides,d__law_sides.m,d__law_sides.F.kp,d__law_sides.b⟩
  have c_Levels_adopt:CalM l.prog w K mg base CX0 7 A_Levels "adopt" ["self","tie"] (sp_Levels_adopt K C (⟨A_Levels,A_Lightest,A_Kept⟩:CA)):=⟨d_Levels_adopt.f,d_Levels_adopt.d,ok_Levels_adopt d_Levels_adopt.F T c_Wood_link len_Levels_adopt run_Levels_adopt,⟨d_Levels_adopt.a,d_Levels_adopt.i,d_Levels_adopt.F.kp⟩,d_Levels_adopt.b⟩
  have c_Levels_add:CalM l.prog w K mg base CX0 8 A_Levels "add" ["self","tie","weight"] (sp_Levels_add K C (⟨A_Levels,A_Lightest,A_Kept⟩:CA)):=⟨d_Levels_add.f,d_Levels_add.d,ok_Levels_add d_Levels_add.F T c_Wood_joined c_Levels_adopt len_Levels_add run_Levels_add,⟨d_Levels_add.a,d_Levels_add.i,d_Levels_add.F.kp⟩,d_Levels_add.b⟩
  have c_Kept_receive:CalM l.prog w K mg base CX0 9 A_Lightest "receive" ["self","tie","weight"] (sp_Kept_receive K C (⟨A_Levels,A_Lightest,A_Kept⟩:CA)):=⟨d_Kept_receive.f,d_Kept_receive.d,ok_Kept_receive d_Kept_receive.F T c_Levels_add len_Kept_receive run_Kept_receive,⟨d_Kept_receive.a,d_Kept_receive.i,d_Kept_receive.F.kp⟩,d_Kept_receive.b⟩
  have c_Lightest___init__:CalI l.prog w K mg base CX0 10 A_Lightest ["self","n","weighed"] (sp_Lightest___init__ K C (⟨A_Levels,A_Lightest,A_Kept⟩:CA) Pt1):=⟨d_Lightest___init__.f,d_Lightest___init__.d,ok_Lightest___init__ d_Lightest___init__.F T c_Kept___init__ c_in_order c_new_tie c_Kept_receive len_Lightest___init__ run_Lightest___init__,⟨mk_Lightest,d_Lightest___init__.a,d_Lightest___init__.i,kc_Lightest⟩,d_Lightest___init__.b⟩
  exact ok_law d_law.F T c__law_told c_Lightest___init__ c_Kept_ties c__law_merged c__law_sides c__law_kinds c__law_whole c_Lightest_weight len_law (run_law ct)
theorem walk {l:PySem.W.OpenLaw} {q:Program} {loose:List Str} {XP:(Str→Option Value)→Heap→Prop} {YP:World→Heap→Prop} {d dy1 dy2:DefRec} {K:Params→PySem.W.Frag} {c1 Pt1 c2 Pt2:Addr} (hn:l.most=some 63) (hdf:d.params.defaults=[])
    (hY:∀ (w:World) (h:Heap),YP w h→(K w.params).In h)
    (hrec1:(recsOf q).find? (fun e=>e.name == ("in_order":Str))=some dy1) (htab1:∀ w:World,PySem.W.tabIn (K w.params) "in_order" = some (c1,Pt1))
    (hrec2:(recsOf q).find? (fun e=>e.name == ("_law_told":Str))=some dy2) (htab2:∀ w:World,PySem.W.tabIn (K w.params) "_law_told" = some (c2,Pt2))
    (hnt:∀ w:World,PySem.W.noTabs (K w.params)=true) (hne:Pt1≠Pt2)
    (F:∀ (w:World) (mg:Str→Option Value) (fa:Addr) (h:Heap),(K w.params).In h→h.Ns mainGlobals mg→mg d.name=some (.ref fa) →
      ∃ fd:FuncData,(∀ (s:Shared) (u:Value),BindsTo s fd ⟨[u],[]⟩ [("_law_script",u)])∧∀ base:Heap,(K w.params).In base→base.Ns mainGlobals mg→PySem.W.CodeHd base c1 Pt1→base.BuiltinsAt mg Pt1→PySem.W.CodeHd base c2 Pt2→base.BuiltinsAt mg Pt2→FnOk l.prog w (K w.params) mg base CX0 12 fa fd ["_law_script"] (sp_law (K w.params) Pt1 Pt2)) :
    PySem.W.WalkO q loose XP YP l.row.toRowW d [] (fun f vs=>PySem.call f vs):=by
  have m1:(c1,Pt1) ∈ [(c1,Pt1),(c2,Pt2)]:=List.mem_cons_self
  have m2:(c2,Pt2) ∈ [(c1,Pt1),(c2,Pt2)]:=List.mem_cons_of_mem _ List.mem_cons_self
  refine L2.walk_ofL (n:=63) (k:=12) (x:="_law_script") (Ps:=[(c1,Pt1),(c2,Pt2)]) (sp:=fun w=>sp_law (K w.params) Pt1 Pt2) hn (by decide) hdf ⟨rfl,by decide,by decide⟩ hY (fun p hp=>?_) hnt (fun w mg fa h a b c=>?_) (fun _ _ a ns hl hT hS=>⟨a,ns,rfl,hS,hl,hne,.inl (hT _ m1),.inl (hT _ m2),fun _=>rfl⟩) fun _ _ _ _ z=>z
  · rcases List.mem_cons.mp hp with e | hp
    · subst e; exact ⟨_,dy1,hrec1,htab1⟩
    · rw [List.mem_singleton.mp hp]; exact ⟨_,dy2,hrec2,htab2⟩
  · obtain ⟨fd,q1,q2⟩:=F w mg fa h a b c
    exact ⟨fd,q1,fun base i1 i2 hP=>q2 base i1 i2 (hP _ m1).1 (hP _ m1).2 (hP _ m2).1 (hP _ m2).2⟩
end K51
end
inductive PySem.W.Fast|tw17489060124336368159|tw8411573927308201415|tw1288778706973817096|tw6860037569376406939|tw10948157750294949975|tw5057612914502989224|tw17841210841099057904|tw237515838800651844|tw15654692010040865841|tw15764158445341241641|tw6698735133422688327|tw16781369530964672419|tw8318717524455654449|tw14342437387658832120|tw6340907400339557511|tw927187651973298632|tw18017633527700164824|tw18237518569463909149|tw17514877932417850949|tw2502294707593145530|tw7208520859095098768|tw7375117999875405701|tw9853670014573778819|tw4557582782982856215|tw10083143274934361666|tw4461464276502857084|tw11806889058192217732|tw9611066264526675050|tw13828635801608590352|tw9325632190972983389|tw4146928857252757916|tw11927921585991110980|tw4738744109180458181|tw7542358091226050139|tw13115762265938315060|tw15730499655275041987|tw8197407053011359964|tw15762591285402894831|tw14115750818421999485|tw6594914874146670781|tw13021350500506755114|tw15257389264580089646|tw4035415038390783387|tw11386799592221180004|tw9515500109394027638|tw11580624914225224468|tw10652566524422262699|tw8789169600234079169|tw3067741121068832520|tw1633298954997322740|tw7861365864300796797|tw3108850294578241836|tw6691445291247360019|tw4350154358343109416|tw1728812113308755142|tw47082707006894819|tw13462285601268012258|tw95309661023247588|tw11389422056751796594|tw16328100182221262971|tw17334844301675309552|tw13184819068346531900|tw6227069093214935302|tw1902484835215594618|tw1970283510271438057|tw16266549044718494109|tw1521722932447430391|tw10431073411725125787|tw1176594518730817945|tw10665369259984794675|tw260798125481664669|tw4616986315897446168|tw543552991418313091|tw4962017435581815764|tw16447785442334250850|tw12206110413253716145|tw12077639293056156645|tw11574274447541294968|tw3902724844515427887|tw4578631959162325917|tw12991877931658406462|tw15900067560853691581|tw8272403768089725258|tw7878804693527283889|tw17885921995154445760|tw4721588107272375058|tw11526899714985357649|tw5584073501405874979|tw11437441158795728134|tw12081311824674959389|tw14689295283848099268|tw16927778607049756089|tw9614145665670672236|tw18021915743425753845|tw6948726957751346365|tw373166113052635704|tw11023557717749022581|tw8027981376847393983|tw9142233032106376152|tw7639353694003190502|tw11440092016317426858|tw15614945112852714163|tw963376345566161348|tw5086067768488859028|tw11303432838748659928|tw17645602116803246507|tw12330554147453125442|tw8012553602095556371|tw15234021796584061681|tw17121764146205863538|tw12233236062739598412|tw8728865786305960835|tw16144163609494702027|tw692079394995324986|tw1216935356667501389|tw10725549933305105149|tw4700565899148575509|tw6339683218979980124|tw949260803325069608|tw16808709971221914808|tw7360250745906767518|tw9295219643204411328|tw13777927333187226178|tw2701272687531528724|tw7667445993945935848|tw10080707642727072031|tw17830659482104937452|tw560948049494571793|tw12223080693765573263|tw10088849287515036789|tw13572058797172837931|tw2864579680791734539|tw13418055745959238908|tw12315200538402452753|tw10932004215420706101|tw12129626277427824384|tw13831709523767660865|tw6262871252178530881|tw13251715331717187883|tw8725801120138868271|tw4108524115816931695|tw13715520397944096570|tw10065531406024745614|tw12176804204534879868|tw17588503084622919780|tw15064945219081391261|tw12163568636526596660|tw4035835752851661279|tw5675933473172931723|tw10402681928258660968|tw16537951849314188862|tw9425893951935745833|tw17263962563473083612|tw18168635958455545048|tw2442434644748159020|tw14185832350361481333|tw16159716774788684088|tw11386781527643493154|tw2795985734651062514|tw3779879151834174750|tw5257181067326986362|tw6334506604090931940|tw3986364909389868066|tw5565524433405436789|tw7873111419239197734|tw4359828592865750482|tw17802596362623240758|tw16426202509359440408|tw6165870204642993910|tw281468209528381006|tw13681503911399709141|tw1771378266771197092|tw16435501223580127094|tw17542057251775464072|tw8863014017588175063|tw12672177815426411814|tw10541769172654413649|tw7122924928416515865|tw1624879746463014824|tw3659521469251117570|tw12970670037285208209|tw7926991361852326327|tw13321928802662835277|tw16538479514042029360|tw678701123238033073|tw3900066380185981772|tw583071491419572525|tw14562683807009300028|tw7532290473124253741|tw6138179686698634565|tw9147776564607392526|tw16275937200957472315|tw4226066061011664427|tw1042522177950777255|tw17016851317429255817|tw10997036579535851152|tw7061566328585800525|tw12285837593574880357|tw1891116386599059582|tw13137118472006067685|tw12215943125510413315|tw11605256724618215896|tw9492025225149121542|tw3457314474529855277|tw13831575797500236936|tw9293929595526865313|tw7625052549426154372|tw323305284161952185|tw12876853017841358558|tw13373224846506097729|tw3209327941365483993|tw11887011937545077320|tw12549889213771604669|tw10473307391638201963|tw8369088960083096977|tw4362671839585509722|tw11674334515098267731|tw6424933167930853317|tw14080457249886421500|tw9251419681007672981|tw8624397948153297471|tw14434206562777611055|tw2304021656507428285|tw6416988598605261385|tw5046465036938032046|tw357227005422457340|tw515846994550391979|tw2275117677468070274|tw7747103885068730794|tw3259325776662373277|tw9814490969033053087|tw14299962285357333781|tw7684430985098824722|tw2105641146764328396|tw997004475120398498|tw12720504395869676818|tw12496675672039294969|tw9310356350877186191|tw15427038693624557397|tw4686096644133771917|tw11161352810649121799|tw1910826091847878004|tw11676819785974983228|tw15498906627012196068|tw1346547271723764326|tw18375152284421598092|tw14497788223001616928|tw8003415438230029958|tw4536046640772163426|tw12140908424018864559|tw16429567792836896058|tw941861374077833959|tw186322872212710909|tw14723162854223682621|tw17299027679501921032|tw15853180229032630116|tw6841487957317683529|tw4059883957027246164|tw11294129558406471759|tw5499614718858304442|tw10876217969292368369|tw18198043315312653656|tw7667667933630434761|tw2793340500943530158|tw7916225935708000753|tw4859275186475322108|tw1898143222123810060|tw2358288682293852117|tw8598203146575813151|tw11412638648534502887|tw8092276441003381836|tw11069430526160183459|tw1207749392902650876|tw4272296329961697677|tw3220528938578553195|tw16734533713316446025|tw3187314678529545972|tw16611889739390805259|tw13426218649385097494|tw5213245851963858458|tw15860441147243054376|tw8745384847112999726|tw13446063362190599951|tw12123829501987474157|tw6028778029074015264|tw17200409260395795270|tw17792889245559172815|tw10793972280891793453|tw18436239707123550520|tw4238969196787117020|tw6501630800035471551|tw14607440660538406464|tw16336095956867493176|tw17224964605794038165|tw6014838409840775611|tw8042815038949032843|tw4802330971650436219|tw13324716763920197709|tw2050273378436754686|tw889289625428617370|tw9831043519010305089|tw1760121959350178475|tw6369420708398494446|tw3450049786931545451|tw17354763200621979884|tw4985946446963515502|tw2104128232345685477|tw12024189030995401510|tw15198971171141942075|tw5999666743599617875|tw702267050229101168|tw16175728726676375636|tw6926437713810721082|tw12167263349926403294|tw9880967978091431247|tw9476766880781802539|tw1200838680589863901|tw15581883861023343880|tw16684357215522110232|tw11515267600120048205|tw9346472336602034177|tw1247571891821745590|tw9885910655527580537|tw9114766118682574300|tw7982614003302864844|tw6272563116516885592|tw6661921485192467519|tw13434631917483726813|tw12839849892477831048|tw8722573729208164026|tw7019196291425062986|tw9729985642137587846|tw2866790854581147912|tw16413509759291705672|tw16956331477037899152|tw8693473614848542991|tw9832127767113741866|tw9094180460176578618|tw1066959527658965414|tw6538566286676160278|tw565939023693507394|tw393501373248496534|tw5100766753365223193|tw13579449282214617604|tw14327345641459543423|tw14666512952938742076|tw11489020105457181542|tw8002480427255391309|tw14164941157772231860|tw1012235817372664143|tw2373112779604738096|tw14344897562910508061|tw3942776452937249325|tw9993254091675732866|tw924953575967770109|tw5722325328885674243|tw2964306277191419820|tw11078701018372558955|tw16868721377239266914|tw5412455301972019592|tw16446504600745672578|tw835225185112945077|tw3702867633229704820|tw6640866297084177200|tw12815269691838238651|tw17044809930487993388|tw6265103493790866382|tw17635873119807485605|tw17854442819238598070|tw9709145731677644260|tw14251994739772912089|tw7112794928809854117|tw17578300341082954585|tw8983288361388131518|tw16199410311846580564|tw17997944338433025128|tw2669622028481805991|tw15064063165548505838|tw18424060535076500123|tw6317295502336476335|tw1745444624734351979|tw16920230439993095093|tw16834224200775479325|tw16801413922057566614|tw8785444913697592304|tw3994316243163041515|tw16798434509416498592|tw4157238869036647165|tw14501846146449232882|tw3461950923136214954|tw15160310073055894312|tw15249384603575490659|tw12225211490239864006|tw8169836476625129030|tw2954411257376859717|tw10558256129845032623|tw16419859835170077030|tw1064305753253935069|tw8082708944246452854|tw17810363028434720608|tw7806751906660206742|tw17146930453129559454|tw18419353631141397370|tw3865962698959068032|tw11234891846793334902|tw12848634110792982694|tw14612626503135403010|tw14171228401693628919|tw3746850832805935906|tw12636555688011463747|tw5992355127421931075|tw10426474937078363050|tw14560562601756322112|tw7492833230968758871|tw17175852448879543272|tw179476066430382018|tw10584879915414759221|tw356157283368121819|tw16387218052800580945|tw17852732974872625644|tw8559289602454051280|tw7424067711994376588|tw10682780230705008859|tw8283963386819537043|tw8359502285703828565|tw5697051059630301934|tw15065706523744663756|tw2614327454981067576|tw17869183163493695118|tw11146221595695366665|tw4334998234266204933|tw4731862800620462324|tw7735335331197871645|tw3878578816277720652|tw6714714542735174030|tw12652508960851227296|tw14295657894643442657|tw1560970842415841834|tw11703144927259574359|tw1266250123741865608|tw1606052241505493483|tw8420941777012488155|tw8228797720378658206|tw13668822888172546614|tw15176017324297130414|tw16595136078680381800|tw10802175105414088203|tw8366177295475597369|tw12063039535799014289|tw1462085292723272517|tw7207599064422282348|tw4802349092296615724|tw10424043531333930691|tw7077093413170108832|tw17207204084793715983|tw13212774233524492477|tw8573136286696219665|tw7727904925612199025|tw11519716052203233516|tw2017424680587667294|tw5908354247319733959|tw11500466302922615067|tw14532411331299206687|tw4105176894112046825|tw17625871490394071091|tw3141541831645756102|tw10584719508689952163|tw16034965197628388654|tw299176451750062092|tw13720668131788973994
open PySem PySem.W PyProof.Rows
set_option maxRecDepth 100000 in
set_option maxHeartbeats 0 in
theorem PySem.Challenge.cw_tiewood_k51_the_first_wood_holds : PySem.Challenge.rw_tiewood_k51_the_first_wood.Holds := by
  w_on; o_law; k_head; (case hw=>w_witness2)
  k_fill
  refine' K51.walk (l:=PySem.Challenge.rw_tiewood_k51_the_first_wood) rfl rfl (fun w h Y=>PySem.W.km_in_of Y) ?hrec1 ?htab1 ?hrec2 ?htab2 ?hnt ?hne ?F
  case hrec1=>exact rfl
  case htab1=>intro w; exact rfl
  case hrec2=>exact rfl
  case htab2=>intro w; exact rfl
  case hnt=>intro w; exact rfl
  case hne=>decide
  case F =>
    intro w mg fa h KX G hmg
    refine' K51.all_mk KX G hmg ?aC_Wood ?pg_Wood ?hd_Wood ?po_Wood ?sa_Wood ?mk_Wood ?kc_Wood ?n_Wood_n ?n_Wood_rows ?aC_Levels ?pg_Levels ?hd_Levels ?po_Levels ?sa_Levels ?mk_Levels ?kc_Levels ?n_Levels_level_of ?n_Levels_weight_of ?n_Levels_wooden ?n_Levels_woods ?aC_Lightest ?pg_Lightest ?hd_Lightest ?po_Lightest ?sa_Lightest ?mk_Lightest ?kc_Lightest ?n_Lightest_came ?n_Lightest_levels ?n_Lightest_looked ?n_Lightest_lost ?n_Lightest_n ?n_Lightest_risen ?n_Lightest_wood ?aC_Kept (L2.mkD KX G ?a_is_whole ?l_is_whole ?c_is_whole ?k_is_whole fun _ _ _ _ _ _ us hl=>match us,hl with | [_],_=>rfl) (L2.mkD KX G ?a_is_count ?l_is_count ?c_is_count ?k_is_count fun _ _ _ _ _ _ us hl=>match us,hl with | [_],_=>rfl) (L2.mkD KX G ?a_is_place ?l_is_place ?c_is_place ?k_is_place fun _ _ _ _ _ _ us hl=>match us,hl with | [_,_],_=>rfl) (L2.mkD KX G ?a_top ?l_top ?c_top ?k_top fun _ _ _ _ _ _ us hl=>match us,hl with | [_],_=>rfl) (L2.mkD KX G ?a_tie_of ?l_tie_of ?c_tie_of ?k_tie_of fun _ _ _ _ _ _ us hl=>match us,hl with | [_,_],_=>rfl) (L2.mkD KX G ?a_steps_along ?l_steps_along ?c_steps_along ?k_steps_along fun _ _ _ _ _ _ us hl=>match us,hl with | [_],_=>rfl) (L2.mkD KX G ?a_turned ?l_turned ?c_turned ?k_turned fun _ _ _ _ _ _ us hl=>match us,hl with | [_,_],_=>rfl) (L2.mkD KX G ?a_spliced ?l_spliced ?c_spliced ?k_spliced fun _ _ _ _ _ _ us hl=>match us,hl with | [_,_,_,_],_=>rfl) (L2.mkD KX G ?a_refuse_no_place ?l_refuse_no_place ?c_refuse_no_place ?k_refuse_no_place fun _ _ _ _ _ _ us hl=>match us,hl with | [_,_],_=>rfl) (L2.mkD KX G ?a_refuse_no_places ?l_refuse_no_places ?c_refuse_no_places ?k_refuse_no_places fun _ _ _ _ _ _ us hl=>match us,hl with | [_,_,_],_=>rfl) (L2.mkD KX G ?a_refuse_no_pair ?l_refuse_no_pair ?c_refuse_no_pair ?k_refuse_no_pair fun _ _ _ _ _ _ us hl=>match us,hl with | [_,_,_],_=>rfl) (L2.mkD KX G ?a_in_order ?l_in_order ?c_in_order ?k_in_order fun _ _ _ _ _ _ us hl=>match us,hl with | [_,_],_=>rfl) (L2.mkD KX G ?a_new_tie ?l_new_tie ?c_new_tie ?k_new_tie fun _ _ _ _ _ _ us hl=>match us,hl with | [_,_,_,_],_=>rfl) (L2.mkD KX G ?a__law_cell_at ?l__law_cell_at ?c__law_cell_at ?k__law_cell_at fun _ _ _ _ _ _ us hl=>match us,hl with | [_,_],_=>rfl) (L2.mkD KX G ?a__law_whole ?l__law_whole ?c__law_whole ?k__law_whole fun _ _ _ _ _ _ us hl=>match us,hl with | [_],_=>rfl) (L2.mkD KX G ?a__law_shape ?l__law_shape ?c__law_shape ?k__law_shape fun _ _ _ _ _ _ us hl=>match us,hl with | [_,_],_=>rfl) (L2.mkD KX G ?a__law_weight ?l__law_weight ?c__law_weight ?k__law_weight fun _ _ _ _ _ _ us hl=>match us,hl with | [_,_],_=>rfl) (L2.mkD KX G ?a__law_told ?l__law_told ?c__law_told ?k__law_told fun _ _ _ _ _ _ us hl=>match us,hl with | [_],_=>rfl) (L2.mkD KX G ?a__law_merged ?l__law_merged ?c__law_merged ?k__law_merged fun _ _ _ _ _ _ us hl=>match us,hl with | [_,_,_],_=>rfl) (L2.mkD KX G ?a__law_kinds ?l__law_kinds ?c__law_kinds ?k__law_kinds fun _ _ _ _ _ _ us hl=>match us,hl with | [_],_=>rfl) (L2.mkD KX G ?a__law_sides ?l__law_sides ?c__law_sides ?k__law_sides fun _ _ _ _ _ _ us hl=>match us,hl with | [_,_],_=>rfl) (L2.mkD KX G ?a_law ?l_law ?c_law ?k_law fun _ _ _ _ _ _ us hl=>match us,hl with | [_],_=>rfl) (L2.mkM ?a_Wood___init__ ?i_Wood___init__ ?l_Wood___init__ ?c_Wood___init__ ?k_Wood___init__ fun _ _ _ _ _ _ us hl=>match us,hl with | [_,_],_=>rfl) (L2.mkM ?a_Wood_keep ?i_Wood_keep ?l_Wood_keep ?c_Wood_keep ?k_Wood_keep fun _ _ _ _ _ _ us hl=>match us,hl with | [_,_],_=>rfl) (L2.mkM ?a_Wood_link ?i_Wood_link ?l_Wood_link ?c_Wood_link ?k_Wood_link fun _ _ _ _ _ _ us hl=>match us,hl with | [_,_,_],_=>rfl) (L2.mkM ?a_Wood_joined ?i_Wood_joined ?l_Wood_joined ?c_Wood_joined ?k_Wood_joined fun _ _ _ _ _ _ us hl=>match us,hl with | [_,_,_],_=>rfl) (L2.mkM ?a_Wood_group ?i_Wood_group ?l_Wood_group ?c_Wood_group ?k_Wood_group fun _ _ _ _ _ _ us hl=>match us,hl with | [_,_],_=>rfl) (L2.mkM ?a_Wood_ties ?i_Wood_ties ?l_Wood_ties ?c_Wood_ties ?k_Wood_ties fun _ _ _ _ _ _ us hl=>match us,hl with | [_],_=>rfl) (L2.mkM ?a_Levels___init__ ?i_Levels___init__ ?l_Levels___init__ ?c_Levels___init__ ?k_Levels___init__ fun _ _ _ _ _ _ us hl=>match us,hl with | [_,_],_=>rfl) (L2.mkM ?a_Levels_add ?i_Levels_add ?l_Levels_add ?c_Levels_add ?k_Levels_add fun _ _ _ _ _ _ us hl=>match us,hl with | [_,_,_],_=>rfl) (L2.mkM ?a_Levels_adopt ?i_Levels_adopt ?l_Levels_adopt ?c_Levels_adopt ?k_Levels_adopt fun _ _ _ _ _ _ us hl=>match us,hl with | [_,_],_=>rfl) (L2.mkM ?a_Levels_told ?i_Levels_told ?l_Levels_told ?c_Levels_told ?k_Levels_told fun _ _ _ _ _ _ us hl=>match us,hl with | [_,_],_=>rfl) (L2.mkM ?a_Kept___init__ ?i_Kept___init__ ?l_Kept___init__ ?c_Kept___init__ ?k_Kept___init__ fun _ _ _ _ _ _ us hl=>match us,hl with | [_,_],_=>rfl) (L2.mkM ?a_Kept_receive ?i_Kept_receive ?l_Kept_receive ?c_Kept_receive ?k_Kept_receive fun _ _ _ _ _ _ us hl=>match us,hl with | [_,_,_],_=>rfl) (L2.mkM ?a_Kept_joined ?i_Kept_joined ?l_Kept_joined ?c_Kept_joined ?k_Kept_joined fun _ _ _ _ _ _ us hl=>match us,hl with | [_,_,_],_=>rfl) (L2.mkM ?a_Kept_side ?i_Kept_side ?l_Kept_side ?c_Kept_side ?k_Kept_side fun _ _ _ _ _ _ us hl=>match us,hl with | [_,_],_=>rfl) (L2.mkM ?a_Kept_ties ?i_Kept_ties ?l_Kept_ties ?c_Kept_ties ?k_Kept_ties fun _ _ _ _ _ _ us hl=>match us,hl with | [_],_=>rfl) (L2.mkM ?a_Lightest___init__ ?i_Lightest___init__ ?l_Lightest___init__ ?c_Lightest___init__ ?k_Lightest___init__ fun _ _ _ _ _ _ us hl=>match us,hl with | [_,_,_],_=>rfl) (L2.mkM ?a_Lightest_weight ?i_Lightest_weight ?l_Lightest_weight ?c_Lightest_weight ?k_Lightest_weight fun _ _ _ _ _ _ us hl=>match us,hl with | [_],_=>rfl) ?e_K ?g_K ?r_K ?t_K ?q_in_order ?q__law_told ?z_bool ?z_enumerate ?z_int ?z_isinstance ?z_len ?z_list ?z_max ?z_min ?z_range ?z_set ?z_sorted ?z_sum ?z_tuple ?z_zip ?z_MOST_PLACES
    case aC_Wood|pg_Wood|hd_Wood|po_Wood|sa_Wood|mk_Wood|kc_Wood|n_Wood_n|n_Wood_rows|aC_Levels|pg_Levels|hd_Levels|po_Levels|sa_Levels|mk_Levels|kc_Levels|n_Levels_level_of|n_Levels_weight_of|n_Levels_wooden|n_Levels_woods|aC_Lightest|pg_Lightest|hd_Lightest|po_Lightest|sa_Lightest|mk_Lightest|kc_Lightest|n_Lightest_came|n_Lightest_levels|n_Lightest_looked|n_Lightest_lost|n_Lightest_n|n_Lightest_risen|n_Lightest_wood|aC_Kept|a_is_whole|l_is_whole|c_is_whole|k_is_whole|a_is_count|l_is_count|c_is_count|k_is_count|a_is_place|l_is_place|c_is_place|k_is_place|a_top|l_top|c_top|k_top|a_tie_of|l_tie_of|c_tie_of|k_tie_of|a_steps_along|l_steps_along|c_steps_along|k_steps_along|a_turned|l_turned|c_turned|k_turned|a_spliced|l_spliced|c_spliced|k_spliced|a_refuse_no_place|l_refuse_no_place|c_refuse_no_place|k_refuse_no_place|a_refuse_no_places|l_refuse_no_places|c_refuse_no_places|k_refuse_no_places|a_refuse_no_pair|l_refuse_no_pair|c_refuse_no_pair|k_refuse_no_pair|a_in_order|l_in_order|c_in_order|k_in_order|a_new_tie|l_new_tie|c_new_tie|k_new_tie|a__law_cell_at|l__law_cell_at|c__law_cell_at|k__law_cell_at|a__law_whole|l__law_whole|c__law_whole|k__law_whole|a__law_shape|l__law_shape|c__law_shape|k__law_shape|a__law_weight|l__law_weight|c__law_weight|k__law_weight|a__law_told|l__law_told|c__law_told|k__law_told|a__law_merged|l__law_merged|c__law_merged|k__law_merged|a__law_kinds|l__law_kinds|c__law_kinds|k__law_kinds|a__law_sides|l__law_sides|c__law_sides|k__law_sides|a_law|l_law|c_law|k_law|a_Wood___init__|i_Wood___init__|l_Wood___init__|c_Wood___init__|k_Wood___init__|a_Wood_keep|i_Wood_keep|l_Wood_keep|c_Wood_keep|k_Wood_keep|a_Wood_link|i_Wood_link|l_Wood_link|c_Wood_link|k_Wood_link|a_Wood_joined|i_Wood_joined|l_Wood_joined|c_Wood_joined|k_Wood_joined|a_Wood_group|i_Wood_group|l_Wood_group|c_Wood_group|k_Wood_group|a_Wood_ties|i_Wood_ties|l_Wood_ties|c_Wood_ties|k_Wood_ties|a_Levels___init__|i_Levels___init__|l_Levels___init__|c_Levels___init__|k_Levels___init__|a_Levels_add|i_Levels_add|l_Levels_add|c_Levels_add|k_Levels_add|a_Levels_adopt|i_Levels_adopt|l_Levels_adopt|c_Levels_adopt|k_Levels_adopt|a_Levels_told|i_Levels_told|l_Levels_told|c_Levels_told|k_Levels_told|a_Kept___init__|i_Kept___init__|l_Kept___init__|c_Kept___init__|k_Kept___init__|a_Kept_receive|i_Kept_receive|l_Kept_receive|c_Kept_receive|k_Kept_receive|a_Kept_joined|i_Kept_joined|l_Kept_joined|c_Kept_joined|k_Kept_joined|a_Kept_side|i_Kept_side|l_Kept_side|c_Kept_side|k_Kept_side|a_Kept_ties|i_Kept_ties|l_Kept_ties|c_Kept_ties|k_Kept_ties|a_Lightest___init__|i_Lightest___init__|l_Lightest___init__|c_Lightest___init__|k_Lightest___init__|a_Lightest_weight|i_Lightest_weight|l_Lightest_weight|c_Lightest_weight|k_Lightest_weight=>k_is
    case e_K|q_in_order|q__law_told=>exact rfl
    case g_K|r_K|t_K|z_bool|z_enumerate|z_int|z_isinstance|z_len|z_list|z_max|z_min|z_range|z_set|z_sorted|z_sum|z_tuple|z_zip|z_MOST_PLACES=>k_is
