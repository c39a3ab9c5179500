import PyProof.Rows.All
import Wide.All
import OpenK.AllK
import Wide.FinOn
import Lean
import PyProof.EqAt
import PyProof.EqKinds
import PyProof.TupleCall
import PyProof.Rows.Range3
import PyProof.Rows.SeqMore2
import PyProof.SeqI3
import KE.KSortTup
import PyProof.ZipIter
import KE.KItemsList
import KE.KDictList
import KE.KRevIter
import PyProof.Rows.SetFrom
import PyProof.EnumMake
import PyProof.EnumStmt
import PyProof.EnumFor
import KE.KTryMore
import KE.KTryOn
import PySem.Challenge.RW_tiewood_k23_refusals_of_a_wood
set_option Elab.async false
set_option linter.all false
set_option maxRecDepth 100000
set_option maxHeartbeats 4000000
namespace L2
open PySem PySem.Spec PyProof.Rows
abbrev Key:=Sum Int Str
def keyIs:Key→Value→Bool
  | .inl k,v=>Value.isInt k v
  | .inr x,v=>Value.isStrOf x v
def keyH (w:World):Key→Int
  | .inl k=>hashInt k
  | .inr x=>hashStr w x
theorem keyIs_shape:∀ {k:Key} {v:Value},keyIs k v=true→(∃ i t,k=Sum.inl i∧v=Value.int i t)∨(∃ x t,k=Sum.inr x∧v=Value.str x t)
  | .inl i, v, h => by
    obtain ⟨t,e⟩:=Value.isInt_shape (k:=i) (v:=v) h
    exact .inl ⟨i,t,rfl,e⟩
  | .inr x, v, h => by
    obtain ⟨t,e⟩:=Value.isStrOf_shape (x:=x) (v:=v) h
    exact .inr ⟨x,t,rfl,e⟩
theorem keyIs_int (i:Int) (t:Tok):keyIs (.inl i) (.int i t)=true:=by simp [keyIs,Value.isInt]
theorem keyIs_str (x:Str) (t:Tok):keyIs (.inr x) (.str x t)=true:=by simp [keyIs,Value.isStrOf]
theorem key_ll (a b:Int):decide ((Sum.inl a:Key)=Sum.inl b)=(a == b):=by
  by_cases e:a=b
  · subst e; simp
  · have h:¬ (Sum.inl a:Key)=Sum.inl b:=fun q=>e (Sum.inl.inj q)
    rw [decide_eq_false h]
    exact (beq_eq_false_iff_ne.mpr e).symm
theorem key_rr (a b:Str):decide ((Sum.inr a:Key)=Sum.inr b)=decide (a=b):=by
  by_cases e:a=b
  · subst e; simp
  · have h:¬ (Sum.inr a:Key)=Sum.inr b:=fun q=>e (Sum.inr.inj q)
    rw [decide_eq_false h,decide_eq_false e]
theorem key_lr (a:Int) (b:Str):decide ((Sum.inl a:Key)=Sum.inr b)=false:=decide_eq_false (fun q=>nomatch q)
theorem key_rl (a:Str) (b:Int):decide ((Sum.inr a:Key)=Sum.inl b)=false:=decide_eq_false (fun q=>nomatch q)
def mixKind (prog : Program) (w : World) : PySem.KeyKind prog w Key where
  is:=keyIs
  hash:=keyH w
  inj := fun v a b ha hb => by
    rcases keyIs_shape ha with ⟨i,t,rfl,rfl⟩ | ⟨x,t,rfl,rfl⟩
    · rcases keyIs_shape hb with ⟨j,u,rfl,e⟩ | ⟨y,u,rfl,e⟩
      · injection e with e1 _; rw [e1]
      · exact nomatch e
    · rcases keyIs_shape hb with ⟨j,u,rfl,e⟩ | ⟨y,u,rfl,e⟩
      · exact nomatch e
      · injection e with e1 _; rw [e1]
  byValue:=fun k v h=>by
    rcases keyIs_shape h with ⟨i,t,rfl,rfl⟩ | ⟨x,t,rfl,rfl⟩ <;> rfl
  pyHash:=fun hv h=>by
    rcases keyIs_shape hv with ⟨i,t,rfl,rfl⟩ | ⟨x,t,rfl,rfl⟩
    · exact wpAny_pyHash_int h
    · exact wpAny_pyHash_str h
  eqBool:=fun hu hv h=>by
    rcases keyIs_shape hu with ⟨i,t,rfl,rfl⟩ | ⟨x,t,rfl,rfl⟩
    · rcases keyIs_shape hv with ⟨j,u,rfl,rfl⟩ | ⟨y,u,rfl,rfl⟩
      · rw [key_ll] at h; exact wpAny_eqBool_int h
      · rw [key_lr] at h; exact SeqAt.EqAt.int_str i t y u _ _ _ _ h
    · rcases keyIs_shape hv with ⟨j,u,rfl,rfl⟩ | ⟨y,u,rfl,rfl⟩
      · rw [key_rl] at h; exact SeqAt.EqAt.str_int x t j u _ _ _ _ h
      · rw [key_rr] at h; exact wpAny_eqBool_str h
  «strs»:=fun k x t v h=>by
    rcases keyIs_shape h with ⟨i,u,rfl,e⟩ | ⟨y,u,rfl,e⟩
    · exact nomatch e
    · injection e with e1 _
      subst e1
      cases v <;> rfl
theorem mixKind_int (prog:Program) (w:World) (i:Int) (t:Tok):(mixKind prog w).is (.inl i) (.int i t)=true:=keyIs_int i t
theorem mixKind_str (prog:Program) (w:World) (x:Str) (t:Tok):(mixKind prog w).is (.inr x) (.str x t)=true:=keyIs_str x t
end L2
namespace L2
open PySem PySem.Spec PyProof.Rows
inductive V where
  | non | bl (b:Bool) | int (i:Int) | str (x:Str) | byt (b:Array UInt8) | flt (b:UInt64) | ref (a:Addr) | ty (n:String)
  deriving DecidableEq
def RelV:V→Value→Prop
  | .non,u=>u=Value.none
  | .bl b,u=>u=Value.bool b
  | .int i,u=>∃ t,u=Value.int i t
  | .str x,u=>∃ t,u=Value.str x t
  | .byt b,u=>∃ t,u=Value.bytes b t
  | .flt b,u=>∃ t,u=Value.float b t
  | .ref a,u=>u=Value.ref a
  | .ty n,u=>u=Value.type n
abbrev Vals:List V→List Value→Prop:=Paired RelV
theorem Vals.length {xs:List V} {us:List Value} (r:Vals xs us):xs.length=us.length:=Paired.length r
theorem Vals.get:∀ {xs:List V} {us:List Value} {i:Nat} {x:V},Vals xs us→xs[i]? = some x→∃ u,us[i]? = some u∧RelV x u
  | _,_,_,_,.nil,e=>by simp at e
  | _,_,0,_,.cons r _,e=>by simp at e; subst e; exact ⟨_,rfl,r⟩
  | _, _, i + 1, x, .cons _ t, e => by
    obtain ⟨u,h1,h2⟩:=Vals.get (i:=i) (x:=x) t (by simpa using e)
    exact ⟨u,by simpa using h1,h2⟩
theorem Vals.set {x:V} {u:Value} (r:RelV x u):∀ {xs:List V} {us:List Value} (i:Nat),Vals xs us→Vals (xs.set i x) (us.set i u)
  | _,_,_,.nil=>.nil
  | _,_,0,.cons _ t=>.cons r t
  | _,_,i+1,.cons q t=>.cons q (Vals.set r i t)
theorem Vals.append:∀ {xs ys:List V} {us ws:List Value},Vals xs us→Vals ys ws→Vals (xs ++ ys) (us ++ ws)
  | _,_,_,_,.nil,s=>s
  | _,_,_,_,.cons r t,s=>.cons r (Vals.append t s)
theorem Vals.take:∀ {xs:List V} {us:List Value} (n:Nat),Vals xs us→Vals (xs.take n) (us.take n)
  | _,_,0,_=>.nil
  | _,_,_+1,.nil=>.nil
  | _,_,n+1,.cons r t=>.cons r (Vals.take n t)
theorem Vals.drop:∀ {xs:List V} {us:List Value} (n:Nat),Vals xs us→Vals (xs.drop n) (us.drop n)
  | _,_,0,r=>r
  | _,_,_+1,.nil=>.nil
  | _,_,n+1,.cons _ t=>Vals.drop n t
def RelO:Option V→Option Value→Prop
  | some v,some u=>RelV v u
  | none,none=>True
  | _,_=>False
def KV {κ:Type}:List (κ × V)→List (κ × Value)→Prop:=Paired fun (p:κ × V) (q:κ × Value)=>p.1=q.1∧RelV p.2 q.2
def kV:Key→V
  | .inl i=>.int i
  | .inr x=>.str x
inductive HO where
    | lst (xs:List V)
    | tup (xs:List V)
    | dK (kvs:List (Key × V)) | dT (kvs:List (List Key × V))
    | set (S:Int→Bool) (n:Nat)
    | ins (C dx:Addr) (fs:List (Str × V))
    | own (x:Addr)
    | xd (fs:List (Str × V))
    | met (f x:Addr)
    | rng (lo hi:Int)
    | frz (o:Obj) (u:HO)
    | tbl (ps:Array Value)
    | ext (φ:Heap→Prop)
abbrev Hp:=Addr→Option HO
def upd (H:Hp) (a:Addr) (o:HO):Hp:=fun b=>if b=a then some o else H b
theorem upd_same {H:Hp} {a:Addr} {o:HO}:upd H a o a=some o:=by unfold upd; rw [if_pos rfl]
theorem upd_ne {H:Hp} {a b:Addr} {o:HO} (h:b≠a):upd H a o b=H b:=by unfold upd; rw [if_neg h]
theorem ne_of {H:Hp} {a b:Addr} {o u:HO} (h:H a=some o) (h':H b=some u) (d:o≠u):a≠b:=by
  intro e; subst e; rw [h] at h'; exact d (Option.some.inj h')
theorem ne_of_none {H:Hp} {a b:Addr} {o:HO} (h:H a=some o) (h':H b=none):a≠b:=by
  intro e; subst e; rw [h] at h'; cases h'
section
variable (P:Program) (w:World)
def ObjOk (H:Hp) (h:Heap) (a:Addr):HO→Prop
  | .lst xs=>xs.length≤sizeLine∧∃ (its:List Value) (n:Nat),Vals xs its∧h.get? a=some { cls:=.type "list",data:=.seq its.toArray n }
  | .tup xs=>xs.length≤sizeLine∧∃ its:List Value,Vals xs its∧IsTup h a its.toArray
  | .dK kvs=>kvs.length≤sizeLine∧(a == sysModules)=false∧∃ vs,KV kvs vs∧h.DictOf (mixKind P w) a vs
  | .dT kvs=>kvs.length≤sizeLine∧(a == sysModules)=false∧∃ xs:List (List Key × Addr × Value),
      Paired (fun (p:List Key × V) (q:List Key × Addr × Value)=>p.1=q.1∧H q.2.1=some (.tup (p.1.map kV))∧RelV p.2 q.2.2) kvs xs ∧
      ∃ o es ep,h.get? a=some o∧o.ExactDict∧o.data = .dict es ep∧es.toList=xs.map (entryOfKey (tupleKind (mixKind P w)))∧(xs.map (·.1)).Nodup
  | .set S n=>h.SetOf (intKind P w) a S n
  | .ins C dx fs=>H dx=some (.own a)∧fs.length≤1000∧dx≠a∧h.get? a=some (PySem.W.instObj C dx) ∧
      ∃ mA,h.Ns1 dx mA∧(∀ f,RelO (fs.lookup f) (mA f))∧PySem.Within mA (fs.map (·.1))
  | .own _=>∃ o,h.get? a=some o
  | .xd fs=>∃ mA,h.Ns1 a mA∧∀ f,RelO (fs.lookup f) (mA f)
  | .rng lo hi=>∃ t u v,h.get? a=some { cls:=.type "range",data:=.fields #[.int lo t,.int hi u,.int 1 v] }
  | .frz o u=>h.get? a=some o∧ObjOk H h a u
  | .tbl ps=>h.get? a=some { cls:=.none,data:=.fields ps }
  | .met f x=>h.get? a=some (PySem.W.methodObj (.ref f) (.ref x))
  | .ext φ=>φ h∧(∃ o,h.get? a=some o)∧∀ h1 h2:Heap,φ h1→(∀ o,h1.get? a=some o→h2.get? a=some o)→φ h2
def HOk (H:Hp) (h:Heap):Prop:=∀ a o,H a=some o→ObjOk P w H h a o
end
section
variable {P:Program} {w:World} {H H':Hp} {h h':Heap} {a:Addr} {o:HO}
theorem ObjOk.lt (x:ObjOk P w H h a o):a < h.objs.size:=by
  cases o with
  | lst xs=>obtain ⟨_,_,_,_,e⟩:=x; exact Heap.lt_size e
  | tup xs=>obtain ⟨_,_,_,p⟩:=x; exact p.lt
  | dK kvs=>obtain ⟨_,_,_,_,o,_,_,e,_⟩:=x; exact Heap.lt_size e
  | dT kvs=>obtain ⟨_,_,_,_,o,_,_,e,_⟩:=x; exact Heap.lt_size e
  | set S n=>obtain ⟨o,_,_,_,e,_⟩:=x; exact Heap.lt_size e
  | ins C dx fs=>obtain ⟨_,_,_,e,_⟩:=x; exact Heap.lt_size e
  | own y=>obtain ⟨_,e⟩:=x; exact Heap.lt_size e
  | xd fs=>obtain ⟨_,⟨_,_,_,e,_⟩,_⟩:=x; exact Heap.lt_size e
  | rng lo hi=>obtain ⟨_,_,_,e⟩:=x; exact Heap.lt_size e
  | frz ob u=>obtain ⟨e,_⟩:=x; exact Heap.lt_size e
  | tbl ps=>exact Heap.lt_size (show h.get? a=some _ from x)
  | met f y=>exact Heap.lt_size (show h.get? a=some _ from x)
  | ext φ=>obtain ⟨_,⟨_,e⟩,_⟩:=x; exact Heap.lt_size e
theorem Paired.mapP {α β:Type} {F G:α→β→Prop}:∀ {l₁:List α} {l₂:List β},Paired F l₁ l₂→(∀ a b,F a b→G a b)→Paired G l₁ l₂
  | _,_,.nil,_=>.nil
  | _,_,.cons r t,f=>.cons (f _ _ r) (Paired.mapP t f)
theorem ObjOk.stay (x:ObjOk P w H h a o) (k:∀ b u,(b=a∨H b=some (.own a))→h.get? b=some u→h'.get? b=some u)
    (ho:∀ b,H b=some (.own a)→H' b=some (.own a)) (ht:∀ b xs,H b=some (.tup xs)→H' b=some (.tup xs)):ObjOk P w H' h' a o:=by
  induction o with
  | lst xs=>obtain ⟨z,its,n,r,e⟩:=x; exact ⟨z,its,n,r,k _ _ (.inl rfl) e⟩
  | tup xs=>obtain ⟨z,its,r,ob,e,c⟩:=x; exact ⟨z,its,r,ob,k _ _ (.inl rfl) e,c⟩
  | dK kvs=>obtain ⟨z,y,vs,r,ob,es,ep,e,c⟩:=x; exact ⟨z,y,vs,r,ob,es,ep,k _ _ (.inl rfl) e,c⟩
  | dT kvs =>
    obtain ⟨z,y,xs,r,ob,es,ep,e,c⟩:=x
    exact ⟨z,y,xs,Paired.mapP r fun p q z=>⟨z.1,ht _ _ z.2.1,z.2.2⟩,ob,es,ep,k _ _ (.inl rfl) e,c⟩
  | set S n=>obtain ⟨ob,es,ep,t,e,c⟩:=x; exact ⟨ob,es,ep,t,k _ _ (.inl rfl) e,c⟩
  | ins C dx fs =>
    obtain ⟨d,z,ne,e,mA,⟨od,es,ep,e2,c⟩,r⟩:=x
    exact ⟨ho _ d,z,ne,k _ _ (.inl rfl) e,mA,⟨od,es,ep,k _ _ (.inr d) e2,c⟩,r⟩
  | own y=>obtain ⟨ob,e⟩:=x; exact ⟨ob,k _ _ (.inl rfl) e⟩
  | xd fs=>obtain ⟨mA,⟨od,es,ep,e,c⟩,r⟩:=x; exact ⟨mA,⟨od,es,ep,k _ _ (.inl rfl) e,c⟩,r⟩
  | rng lo hi=>obtain ⟨t,u,v,e⟩:=x; exact ⟨t,u,v,k _ _ (.inl rfl) e⟩
  | frz ob u ih=>obtain ⟨e,q⟩:=x; exact ⟨k _ _ (.inl rfl) e,ih q⟩
  | tbl ps =>
    have e:h.get? a=some { cls:=.none,data:=.fields ps }:=x
    show h'.get? a=some { cls:=.none,data:=.fields ps }
    exact k a _ (.inl rfl) e
  | met f y =>
    have e:h.get? a=some (PySem.W.methodObj (.ref f) (.ref y)):=x
    show h'.get? a=some (PySem.W.methodObj (.ref f) (.ref y))
    exact k a _ (.inl rfl) e
  | ext φ=>obtain ⟨p,⟨o,e⟩,st⟩:=x; exact ⟨st _ _ p fun o q=>k _ _ (.inl rfl) q,⟨o,k _ _ (.inl rfl) e⟩,st⟩
theorem HOk.lt (x:HOk P w H h) (e:H a=some o):a < h.objs.size:=(x a o e).lt
theorem HOk.fresh (x:HOk P w H h) (e:h.objs.size≤a):H a=none:=by
  cases q:H a with
  | none=>rfl
  | some u=>exact absurd (Nat.lt_of_lt_of_le (x.lt q) e) (Nat.lt_irrefl _)
theorem HOk.kept (x:HOk P w H h) (k:∀ b u,h.get? b=some u→h'.get? b=some u):HOk P w H h':=fun a o e =>
  (x a o e).stay (fun b u _ q=>k b u q) (fun _ q=>q) fun _ _ q=>q
theorem HOk.laid (x:HOk P w H h) (k:∀ b u,h.get? b=some u→h'.get? b=some u) (hp:h.objs.size≤a) (new:ObjOk P w (upd H a o) h' a o):HOk P w (upd H a o) h':=fun b u e=>by
  have hn:=x.fresh hp
  by_cases hb:b=a
  · subst hb; rw [upd_same] at e; cases e; exact new
  · rw [upd_ne hb] at e
    exact (x b u e).stay (fun c v _ q=>k c v q) (fun c q=>by rw [upd_ne (ne_of_none q hn)]; exact q) fun c xs q=>by rw [upd_ne (ne_of_none q hn)]; exact q
end
def Rd (H:Hp) (a:Addr) (u:HO):Prop:=H a=some u∨∃ o,H a=some (.frz o u)
theorem Rd.ok {P:Program} {w:World} {H:Hp} {h:Heap} {a:Addr} {u:HO} (r:Rd H a u) (x:HOk P w H h):ObjOk P w H h a u:=by
  rcases r with r | ⟨o,r⟩
  · exact x a u r
  · obtain ⟨_,q⟩:=x a _ r
    exact q
def Mut:Option HO→Prop
  | some (.lst _)=>True
  | some (.dK _)=>True
  | some (.dT _)=>True
  | some (.set _ _)=>True
  | some (.ins _ _ _)=>True
  | some (.ext _)=>True
  | _=>False
section
variable {P:Program} {w:World} {H:Hp} {h h':Heap} {x e:Addr} {o':HO}
theorem HOk.write (ok : HOk P w H h) (mu : Mut (H x)) (he : e = x ∨ H e = some (.own x)) (k : ∀ b u, b ≠ e → h.get? b = some u → h'.get? b = some u) (heo : ∃ u, h'.get? e = some u)
    (new:ObjOk P w (upd H x o') h' x o'):HOk P w (upd H x o') h':=fun b u q=>by
  have nown:∀ c y,H c=some (.own y)→c≠x:=fun c y r z=>by subst z; rw [r] at mu; exact mu
  have ntup:∀ c xs,H c=some (.tup xs)→c≠x:=fun c xs r z=>by subst z; rw [r] at mu; exact mu
  by_cases hb:b=x
  · subst hb; rw [upd_same] at q; cases q; exact new
  · rw [upd_ne hb] at q
    by_cases hbe:b=e
    · have q':H b=some (.own x):=by
        rcases he with z | z
        · exact absurd (hbe.trans z) hb
        · rw [hbe]; exact z
      rw [q] at q'; cases q'
      obtain ⟨v,hv⟩:=heo
      exact ⟨v,by rw [hbe]; exact hv⟩
    · refine (ok b u q).stay (fun c v hc r=>k c v ?_ r) (fun c r=>by rw [upd_ne (nown c b r)]; exact r) fun c xs r=>by rw [upd_ne (ntup c xs r)]; exact r
      rcases hc with rfl | hc
      · exact hbe
      · rintro rfl
        rcases he with z | z
        · exact nown c b hc z
        · rw [hc] at z; cases z; exact hb rfl
end
structure Un (fs ex:List Addr) (H H':Hp) (h h':Heap):Prop where
  keep:∀ b o,h.get? b=some o→H b=none→b ∉ fs→b ∉ ex→h'.get? b=some o
  slot:∀ b o,h.get? b=some o→H b=none→b ∈ fs→b ∉ ex→∃ sl,h'.get? b=some { o with slots:=sl }
  free:∀ b o,h.get? b=some o→H b=none→b ∉ ex→H' b=none
  there:∀ b o,h.get? b=some o→b ∉ ex→∃ o',h'.get? b=some o'
  tups:∀ b xs,H b=some (.tup xs)→H' b=some (.tup xs)
  frzs:∀ b o u,H b=some (.frz o u)→H' b=some (.frz o u)
  tbls:∀ b ps,H b=some (.tbl ps)→∃ more,H' b=some (.tbl (ps ++ more))
section
variable {fs fs' ex ex':List Addr} {H H1 H2:Hp} {h h1 h2 h':Heap} {a x e:Addr} {o:HO}
theorem Un.any (u:Un fs ex H H1 h h1) {b:Addr} {ob:Obj} (q:h.get? b=some ob) (n:H b=none) (hx:b ∉ ex):∃ sl,h1.get? b=some { ob with slots:=sl }:=by
  by_cases hb:b ∈ fs
  · exact u.slot b ob q n hb hx
  · exact ⟨ob.slots,u.keep b ob q n hb hx⟩
theorem Un.kept (k:∀ b u,h.get? b=some u→h'.get? b=some u):Un fs ex H H h h' :=
  ⟨fun b ob q _ _ _=>k b ob q,fun b ob q _ _ _=>⟨ob.slots,k b ob q⟩,fun _ _ _ n _=>n,fun b ob q _=>⟨ob,k b ob q⟩,fun _ _ q=>q,fun _ _ _ q=>q,fun _ ps q=>⟨#[],by rw [q]; simp⟩⟩
theorem Un.refl:Un fs ex H H h h:=Un.kept fun _ _ q=>q
theorem Un.laid (k:∀ b u,h.get? b=some u→h'.get? b=some u) (hp:h.objs.size≤a) (hn:H a=none):Un fs ex H (upd H a o) h h' where
  keep:=fun b u q _ _ _=>k b u q
  slot:=fun b u q _ _ _=>⟨u.slots,k b u q⟩
  free:=fun b u q n _=>by rw [upd_ne (Nat.ne_of_lt (Nat.lt_of_lt_of_le (Heap.lt_size q) hp))]; exact n
  there:=fun b u q _=>⟨u,k b u q⟩
  tups:=fun b xs q=>by rw [upd_ne (ne_of_none q hn)]; exact q
  frzs:=fun b u xs q=>by rw [upd_ne (ne_of_none q hn)]; exact q
  tbls:=fun b ps q=>⟨#[],by rw [upd_ne (ne_of_none q hn),q]; simp⟩
theorem Un.write (mu:Mut (H x)) (he:e=x∨H e=some (.own x)) (k:∀ b u,b≠e→h.get? b=some u→h'.get? b=some u) (heo:∃ u,h'.get? e=some u):Un fs ex H (upd H x o) h h':=by
  have hx:∀ b,H b=none→b≠x:=fun b n z=>by subst z; rw [n] at mu; exact mu
  have hb:∀ b,H b=none→b≠e:=fun b n z=>by
    subst z
    rcases he with r | r
    · exact hx b n r
    · rw [n] at r; cases r
  have hm:∀ b u,H b=some u→¬ Mut (some u)→b≠x:=fun b u q nm z=>by subst z; rw [q] at mu; exact nm mu
  refine ⟨fun b u q n _ _=>k b u (hb b n) q,fun b u q n _ _=>⟨u.slots,k b u (hb b n) q⟩,fun b u q n _=>by rw [upd_ne (hx b n)]; exact n,fun b u q _=>?_,
    fun b xs q=>by rw [upd_ne (hm b _ q fun z=>z)]; exact q,fun b u xs q=>by rw [upd_ne (hm b _ q fun z=>z)]; exact q,fun b ps q=>⟨#[],by rw [upd_ne (hm b _ q fun z=>z),q]; simp⟩⟩
  by_cases hbe:b=e
  · subst hbe; exact heo
  · exact ⟨u,k b u hbe q⟩
end
def trk (h:Heap) (H:Hp):List Addr:=(List.range h.objs.size).filter fun a=>(H a).isSome
def hidT (h:Heap) (H:Hp):Heap:=PySem.W.hideAll h (trk h H)
theorem hidT_size (h:Heap) (H:Hp):(hidT h H).objs.size=h.objs.size:=PySem.W.hideAll_size _ _
theorem hidT_get {h:Heap} {H:Hp} {b:Addr} {o:Obj} (e:h.get? b=some o) (n:H b=none):(hidT h H).get? b=some o :=
  PySem.W.hideAll_get _ e fun hm=>by
    have q:(H b).isSome=true:=(List.mem_filter.mp hm).2
    rw [n] at q; simp at q
theorem of_hidT {h:Heap} {H:Hp} {b:Addr} {o:Obj} (e:(hidT h H).get? b=some o):h.get? b=some o∧H b=none:=by
  have e':h.get? b=some o:=PySem.W.of_hideAll (trk h H) e
  refine ⟨e',?_⟩
  cases q:H b with
  | none=>rfl
  | some x =>
    have hm:b ∈ trk h H:=List.mem_filter.mpr ⟨List.mem_range.mpr (Heap.lt_size e'),by simp [q]⟩
    have z:(hidT h H).get? b=none:=PySem.W.hideAll_none (trk h H) hm
    rw [z] at e; cases e
def allNews (g h:Heap) (L:Addr):List (Addr × Obj):=(List.range h.objs.size).filterMap fun a=>if a=L∨(g.get? a).isSome=true then none else (h.get? a).map fun o=>(a,o)
theorem mem_allNews {g h:Heap} {L a:Addr} {o:Obj} (h1:a≠L) (h2:g.get? a=none) (h3:h.get? a=some o):(a,o) ∈ allNews g h L :=
  List.mem_filterMap.mpr ⟨a,List.mem_range.mpr (Heap.lt_size h3),by simp [h1,h2,h3]⟩
theorem of_mem_allNews {g h:Heap} {L:Addr} {p:Addr × Obj} (hp:p ∈ allNews g h L):p.1≠L∧g.get? p.1=none∧h.get? p.1=some p.2:=by
  obtain ⟨b,_,e⟩:=List.mem_filterMap.mp hp
  split at e
  · cases e
  · rename_i hn
    cases q:h.get? b with
    | none=>rw [q] at e; simp at e
    | some u =>
      rw [q] at e
      simp only [Option.map_some,Option.some.injEq] at e
      subst e
      refine ⟨fun z=>hn (.inl z),?_,q⟩
      show g.get? b=none
      cases r:g.get? b with
      | none=>rfl
      | some v=>exact (hn (.inr (by simp [r]))).elim
theorem news_all {g h:Heap} {L:Addr}:News g L h (allNews g h L):=fun p hp=>let ⟨a,b,c⟩:=of_mem_allNews hp; ⟨c,a,b⟩
end L2
namespace L2
open PySem PySem.Spec PyProof.Rows
structure Mod (K:PySem.W.Frag) (mg:Str→Option Value) (base:Heap):Prop where
  kin:K.In base
  glob:base.Ns mainGlobals mg
  blt:∃ mb,base.Ns builtinsNs mb∧∀ x:Str,x≠"__name__"→mb x=bootBuiltins x
  nolimit:base.NoLimit
structure Cx where
  prog:Program
  w:World
  K:PySem.W.Frag
  mg:Str→Option Value
  base:Heap
  A:Around
  N:List Str
  s₀:Shared
  H₀:Hp
  env:Env
  outer:List Env
  stack:List Env
  ex:List Addr
  fn:Str→Bool
  calm:Bool
  pn:List (Addr × Obj)
  xe:Value→Shared→Prop
def frs (l:List Env):List Addr:=l.filterMap (·.frame)
abbrev Cx.fs (X:Cx):List Addr:=frs X.outer
def Vis (sc:Scope) (x:Str):Prop:=sc.names.lookup x=some .local∨sc.names.lookup x=some .cell∨sc.names.lookup x=some .free
def Loc (sc:Scope) (x:Str):Prop:=sc.names.lookup x=some .local∨sc.names.lookup x=some .cell
def Look (env:Env) (h:Heap) (m:Str→Option Value) (x:Str) (u:Value):Prop :=
  (env.kindOf x=some .local∧m x=some u)∨((env.kindOf x=some .cell∨env.kindOf x=some .free)∧∃ c,env.cells.lookup x=some c∧h.IsCell c (some u))
structure Cx.Ok (X:Cx):Prop where
  mod:Mod X.K X.mg X.base
  kind:X.env.scope.kind = .function
  glob:X.env.globals=mainGlobals
  blt:X.env.builtins=builtinsNs
  above:X.s₀.heap.objs.size≤X.env.locals
  inj:∀ x y c,X.env.cells.lookup x=some c→X.env.cells.lookup y=some c→x=y
  has:∀ x,(X.env.kindOf x=some .cell∨X.env.kindOf x=some .free)→∃ c,X.env.cells.lookup x=some c
  cab:∀ x c,X.fn x=true→X.env.cells.lookup x=some c→X.s₀.heap.objs.size≤c
  hd:X.calm=true→X.A.handled=none
  frames:X.A.frames=some X.stack
  stk:X.stack=X.outer∨(X.stack=X.env :: X.outer∧X.env.frame=some X.env.locals)
  exf:∀ b ∈ X.ex,b≠X.env.locals∧∀ x c,X.env.cells.lookup x=some c→c≠b
  bs:∀ b o,X.base.get? b=some o→X.s₀.heap.get? b=some o∧X.H₀ b=none
  bsz:X.base.objs.size≤X.s₀.heap.objs.size
  noex:∀ b o,X.base.get? b=some o→b ∉ X.ex
  exfs:∀ b ∈ X.ex,b ∉ X.fs
  funs:X.s₀.heap.FunFrames X.base X.outer
  frf:∀ b ∈ X.fs,X.H₀ b=none
structure Inv (X:Cx) (pins:List (Addr × Obj)) (σ:List (Option V)) (H:Hp) (s:Shared):Prop where
  ok:X.Ok
  os:s.os=X.s₀.os
  bare:AllBare s.gens
  base:Un X.fs X.ex X.H₀ H X.s₀.heap s.heap
  loc:∃ m,s.heap.Ns X.env.locals m∧∀ (i:Nat) (x:Str) (v:V),X.N[i]? = some x→σ[i]? = some (some v)→Vis X.env.scope x→∃ u,RelV v u∧Look X.env s.heap m x u
  cell:∀ x c,X.env.cells.lookup x=some c→∃ v,s.heap.IsCell c v
  free:H X.env.locals=none
  freeC:∀ x c,X.env.cells.lookup x=some c→H c=none
  pin:∀ p ∈ X.pn ++ pins,s.heap.get? p.1=some p.2∧H p.1=none∧p.1≠X.env.locals∧p.1 ∉ X.fs∧∀ v,p.2.data≠.cell v
  hok:HOk X.prog X.w H s.heap
  len:σ.length=X.N.length
section
variable {X:Cx} {pins:List (Addr × Obj)} {σ:List (Option V)} {H H':Hp} {s:Shared} {h':Heap}
theorem Cx.Ok.nofr (ok:X.Ok) {b:Addr} {o:Obj} (e:X.base.get? b=some o):b ∉ X.fs:=fun hb=>by
  have:=(ok.funs.mem hb).1
  rw [e] at this; cases this
theorem Inv.bs (I:Inv X pins σ H s):∀ b o,X.base.get? b=some o→s.heap.get? b=some o∧H b=none:=fun b o e =>
  ⟨I.base.keep b o (I.ok.bs b o e).1 (I.ok.bs b o e).2 (I.ok.nofr e) (I.ok.noex b o e),I.base.free b o (I.ok.bs b o e).1 (I.ok.bs b o e).2 (I.ok.noex b o e)⟩
theorem Inv.bk (I:Inv X pins σ H s):∀ b o,X.base.get? b=some o→s.heap.get? b=some o:=fun b o e=>(I.bs b o e).1
theorem Inv.mod (I:Inv X pins σ H s):Mod X.K X.mg X.base:=I.ok.mod
theorem Inv.kIn (I:Inv X pins σ H s):X.K.In s.heap:=I.ok.mod.kin.keeps I.bk
theorem Inv.fr (I:Inv X pins σ H s):∃ m,Fr X.base X.env.locals s.heap m :=
  let ⟨m,hn,_⟩:=I.loc
  ⟨m,hn,I.bk,Nat.le_trans I.ok.bsz I.ok.above⟩
theorem Inv.lt (I:Inv X pins σ H s):X.env.locals < s.heap.objs.size:=let ⟨_,hn,_⟩:=I.loc; hn.lt
theorem Inv.sz (I:Inv X pins σ H s):X.s₀.heap.objs.size≤s.heap.objs.size:=Nat.le_trans I.ok.above (Nat.le_of_lt I.lt)
theorem Inv.nofs (I:Inv X pins σ H s) {a:Addr} (h:s.heap.objs.size≤a):a ∉ X.fs:=fun hb=>by
  obtain ⟨_,o,ho,_⟩:=I.ok.funs.mem hb
  exact absurd (Nat.lt_of_lt_of_le (Heap.lt_size ho) (Nat.le_trans I.sz h)) (Nat.lt_irrefl _)
theorem Inv.cne (I:Inv X pins σ H s):∀ x c,X.env.cells.lookup x=some c→c≠X.env.locals:=fun x c e z=>by
  obtain ⟨v,o,ho,hd⟩:=I.cell x c e
  obtain ⟨m,⟨o',es,ep,ho',hd',_⟩,_⟩:=I.loc
  rw [z,ho'] at ho; cases ho; rw [hd'] at hd; cases hd
theorem Inv.funs (I:Inv X pins σ H s):s.heap.FunFrames X.base X.outer:=by
  have all:∀ (l:List Env),(∀ b ∈ frs l,b ∈ X.fs)→X.s₀.heap.FunFrames X.base l→s.heap.FunFrames X.base l:=by
    intro l
    induction l with
    | nil=>intro _ _; trivial
    | cons env r ih =>
      intro hs hl
      obtain ⟨hk,⟨L,o,hf,hn,ho,hd⟩,hr⟩:=hl
      have hL:L ∈ X.fs:=hs L (by unfold frs; rw [List.filterMap_cons,hf]; exact List.mem_cons_self)
      obtain ⟨sl,e⟩:=I.base.slot L o ho (I.ok.frf L hL) hL fun z=>I.ok.exfs L z hL
      exact ⟨hk,⟨L,_,hf,hn,e,hd⟩,ih (fun b hb=>hs b (by unfold frs; rw [List.filterMap_cons,hf]; exact List.mem_cons_of_mem _ hb)) hr⟩
  exact all X.outer (fun _ hb=>hb) I.ok.funs
theorem Inv.stack (I:Inv X pins σ H s):s.heap.FunFrames X.base X.stack:=by
  rcases I.ok.stk with e | ⟨e,hf⟩
  · rw [e]; exact I.funs
  · rw [e]
    obtain ⟨m,hn,_⟩:=I.loc
    refine .cons (by rw [I.ok.kind]; decide) hf hn ?_ I.funs
    exact Heap.get?_none_of_le (Nat.le_trans I.ok.bsz I.ok.above)
theorem Inv.stkSub (I:Inv X pins σ H s):∀ b ∈ frs X.stack,b ∈ X.env.locals :: X.fs:=fun b hb=>by
  rcases I.ok.stk with e | ⟨e,hf⟩
  · rw [e] at hb; exact List.mem_cons_of_mem _ hb
  · rw [e] at hb
    unfold frs at hb
    rw [List.filterMap_cons,hf] at hb
    exact hb
theorem Inv.stkFree (I:Inv X pins σ H s):∀ b ∈ frs X.stack,H b=none:=fun b hb=>by
  rcases List.mem_cons.mp (I.stkSub b hb) with e | hb
  · rw [e]; exact I.free
  · obtain ⟨_,o,ho,_⟩:=I.ok.funs.mem hb
    exact I.base.free b o ho (I.ok.frf b hb) fun z=>I.ok.exfs b z hb
theorem Inv.step {g':Array GenState} {t':Nat} {d':Drawn} {ch:List Addr} (I:Inv X pins σ H s)
    (hch:∀ b ∈ ch,(b ∈ X.ex∨X.s₀.heap.objs.size≤b)∧b≠X.env.locals∧(∀ x c,X.env.cells.lookup x=some c→c≠b)∧∀ p ∈ X.pn ++ pins,p.1≠b)
    (keep:∀ b o,b≠X.env.locals→b ∉ X.fs→b ∉ ch→s.heap.get? b=some o→H b=none→h'.get? b=some o)
    (slot:∀ b o,b≠X.env.locals→b ∈ X.fs→b ∉ ch→s.heap.get? b=some o→H b=none→∃ sl,h'.get? b=some { o with slots:=sl }) (free:∀ b o,b ∉ ch→s.heap.get? b=some o→H b=none→H' b=none)
    (there:∀ b o,b ∉ ch→s.heap.get? b=some o→∃ o',h'.get? b=some o')
    (tups:∀ b xs,H b=some (.tup xs)→H' b=some (.tup xs)) (frzs:∀ b o u,H b=some (.frz o u)→H' b=some (.frz o u)) (tbls:∀ b ps,H b=some (.tbl ps)→∃ more,H' b=some (.tbl (ps ++ more)))
    (ns:∀ m,s.heap.Ns X.env.locals m→h'.Ns X.env.locals m) (hok:HOk X.prog X.w H' h') (hg:AllBare g') :
    Inv X pins σ H' { s with heap:=h',gens:=g',drawn:=d',toks:=t' }:=by
  have neL:∀ b o,X.s₀.heap.get? b=some o→b≠X.env.locals:=fun b o e=>Nat.ne_of_lt (Nat.lt_of_lt_of_le (Heap.lt_size e) I.ok.above)
  have neC:∀ b o,X.s₀.heap.get? b=some o→b ∉ X.ex→b ∉ ch:=fun b o e hx hb=>by
    rcases (hch b hb).1 with z | z
    · exact hx z
    · exact absurd (Nat.lt_of_lt_of_le (Heap.lt_size e) z) (Nat.lt_irrefl _)
  have cellK:∀ x c,X.env.cells.lookup x=some c→∀ v,s.heap.IsCell c v→h'.IsCell c v:=fun x c e v ⟨o,ho,hd⟩=>by
    have nch:c ∉ ch:=fun z=>(hch c z).2.2.1 x c e rfl
    by_cases hc:c ∈ X.fs
    · obtain ⟨sl,q⟩:=slot c o (I.cne x c e) hc nch ho (I.freeC x c e)
      exact ⟨_,q,hd⟩
    · exact ⟨o,keep c o (I.cne x c e) hc nch ho (I.freeC x c e),hd⟩
  refine ⟨I.ok,I.os,hg,⟨fun b o e n hb hx=>?_,fun b o e n hb hx=>?_,fun b o e n hx=>?_,fun b o e hx=>?_,fun b xs e=>tups b xs (I.base.tups b xs e),fun b o xs e=>frzs b o xs (I.base.frzs b o xs e),fun b ps e=>?_⟩,?_,fun x c e=>?_,?_,fun x c e=>?_,fun p hp=>?_,hok,I.len⟩
  · exact keep b o (neL b o e) hb (neC b o e hx) (I.base.keep b o e n hb hx) (I.base.free b o e n hx)
  · obtain ⟨sl,e1⟩:=I.base.slot b o e n hb hx
    obtain ⟨sl',e2⟩:=slot b _ (neL b o e) hb (neC b o e hx) e1 (I.base.free b o e n hx)
    exact ⟨sl',e2⟩
  · obtain ⟨o',e1⟩:=I.base.there b o e hx
    exact free b o' (neC b o e hx) e1 (I.base.free b o e n hx)
  · obtain ⟨o',e1⟩:=I.base.there b o e hx
    exact there b o' (neC b o e hx) e1
  · obtain ⟨m1,e1⟩:=I.base.tbls b ps e
    obtain ⟨m2,e2⟩:=tbls b _ e1
    exact ⟨m1 ++ m2,by rw [e2,Array.append_assoc]⟩
  · obtain ⟨m,hn,hl⟩:=I.loc
    refine ⟨m,ns m hn,fun i x v e1 e2 e3=>?_⟩
    obtain ⟨u,r,l⟩:=hl i x v e1 e2 e3
    refine ⟨u,r,?_⟩
    rcases l with l | ⟨k,c,e,z⟩
    · exact .inl l
    · exact .inr ⟨k,c,e,cellK x c e _ z⟩
  · obtain ⟨v,z⟩:=I.cell x c e
    exact ⟨v,cellK x c e v z⟩
  · obtain ⟨m,⟨o,_,_,ho,_⟩,_⟩:=I.loc
    exact free _ o (fun z=>(hch _ z).2.1 rfl) ho I.free
  · obtain ⟨v,o,ho,hd⟩:=I.cell x c e
    exact free c o (fun z=>(hch c z).2.2.1 x c e rfl) ho (I.freeC x c e)
  · obtain ⟨e,n,ne,nf,d⟩:=I.pin p hp
    have nch:p.1 ∉ ch:=fun z=>(hch p.1 z).2.2.2 p hp rfl
    exact ⟨keep p.1 p.2 ne nf nch e n,free p.1 p.2 nch e n,ne,nf,d⟩
theorem Inv.un {t':Nat} (I:Inv X pins σ H s) (u:Un X.fs [] H H' s.heap h') (hok:HOk X.prog X.w H' h'):Inv X pins σ H' { s with heap:=h',toks:=t' }:=by
  obtain ⟨m,⟨o,es,ep,ho,r⟩,_⟩:=id I.loc
  obtain ⟨sl,hL⟩:=u.any ho I.free (by simp)
  exact I.step (g':=s.gens) (d':=s.drawn) (ch:=[]) (fun _ z=>nomatch z) (fun b o _ hb _ e n=>u.keep b o e n hb (by simp)) (fun b o _ hb _ e n=>u.slot b o e n hb (by simp)) (fun b o _ e n=>u.free b o e n (by simp)) (fun b o _ e=>u.there b o e (by simp)) u.tups u.frzs u.tbls (fun m' hm=>by
    obtain ⟨o',es',ep',ho',r'⟩:=hm
    rw [ho] at ho'; cases ho'
    exact ⟨_,es',ep',hL,r'⟩) hok I.bare
theorem Inv.call {g':Array GenState} {t':Nat} {d':Drawn} {ch:List Addr} (I:Inv X pins σ H s) (u:Un (frs X.stack) ch H H' s.heap h') (hok:HOk X.prog X.w H' h') (hg:AllBare g')
    (hch:∀ b ∈ ch,(b ∈ X.ex∨X.s₀.heap.objs.size≤b)∧b≠X.env.locals∧(∀ x c,X.env.cells.lookup x=some c→c≠b)∧∀ p ∈ X.pn ++ pins,p.1≠b) :
    Inv X pins σ H' { s with heap:=h',gens:=g',drawn:=d',toks:=t' }:=by
  obtain ⟨m,⟨o,es,ep,ho,r⟩,_⟩:=id I.loc
  obtain ⟨sl,hL⟩:=u.any ho I.free fun z=>(hch _ z).2.1 rfl
  exact I.step (ch:=ch) hch (fun b o hL hb hc e n=>u.keep b o e n (fun z=>(List.mem_cons.mp (I.stkSub b z)).elim hL hb) hc) (fun b o _ _ hc e n=>u.any e n hc) (fun b o hc e n=>u.free b o e n hc) (fun b o hc e=>u.there b o e hc) u.tups u.frzs u.tbls (fun m' hm=>by
    obtain ⟨o',es',ep',ho',r'⟩:=hm
    rw [ho] at ho'; cases ho'
    exact ⟨_,es',ep',hL,r'⟩) hok hg
theorem Inv.turned {t':Nat} {it:Addr} (I:Inv X pins σ H s) (k:∀ b o,b≠it→s.heap.get? b=some o→h'.get? b=some o) (hn:H it=none) (hL:it≠X.env.locals)
    (h1:it ∈ X.ex∨X.s₀.heap.objs.size≤it) (h2:∀ x c,X.env.cells.lookup x=some c→c≠it) (h3:∀ p ∈ X.pn ++ pins,p.1≠it):Inv X pins σ H { s with heap:=h',toks:=t' }:=by
  have nit:∀ b u,H b=some u→b≠it:=fun b u e z=>by rw [z,hn] at e; cases e
  refine I.step (g':=s.gens) (d':=s.drawn) (ch:=[it]) (fun b hb=>?_) (fun b o _ _ hc e _=>k b o (fun z=>hc (by simp [z])) e) (fun b o _ _ hc e _=>⟨o.slots,k b o (fun z=>hc (by simp [z])) e⟩) (fun _ _ _ _ n=>n)
    (fun b o hc e=>⟨o,k b o (fun z=>hc (by simp [z])) e⟩) (fun _ _ e=>e) (fun _ _ _ e=>e) (fun b ps e=>⟨#[],by rw [e]; simp⟩) (fun m hm=>?_) (fun b u e=>?_) I.bare
  · have e:b=it:=by simpa using hb
    subst e
    exact ⟨h1,hL,h2,h3⟩
  · obtain ⟨o,es,ep,ho,r⟩:=hm
    exact ⟨o,es,ep,k _ o (Ne.symm hL) ho,r⟩
  · refine (I.hok b u e).stay (fun c v hc q=>k c v ?_ q) (fun _ q=>q) fun _ _ q=>q
    rcases hc with z | z
    · rw [z]; exact nit b u e
    · exact nit c _ z
theorem Inv.tok (I:Inv X pins σ H s) (t:Nat):Inv X pins σ H { s with toks:=t }:=I.un (h':=s.heap) (t':=t) Un.refl I.hok
theorem Inv.kept {t':Nat} (I:Inv X pins σ H s) (k:∀ b u,s.heap.get? b=some u→h'.get? b=some u):Inv X pins σ H { s with heap:=h',toks:=t' }:=I.un (Un.kept k) (I.hok.kept k)
theorem Inv.laid {a:Addr} {o:HO} {t':Nat} (I:Inv X pins σ H s) (k:∀ b u,s.heap.get? b=some u→h'.get? b=some u) (hp:s.heap.objs.size≤a) (new:ObjOk X.prog X.w (upd H a o) h' a o) :
    Inv X pins σ (upd H a o) { s with heap:=h',toks:=t' }:=I.un (Un.laid k hp (I.hok.fresh hp)) (I.hok.laid k hp new)
theorem Inv.write {x e:Addr} {o:HO} {t':Nat} (I:Inv X pins σ H s) (mu:Mut (H x)) (he:e=x∨H e=some (.own x)) (k:∀ b u,b≠e→s.heap.get? b=some u→h'.get? b=some u) (heo:∃ u,h'.get? e=some u)
    (new:ObjOk X.prog X.w (upd H x o) h' x o):Inv X pins σ (upd H x o) { s with heap:=h',toks:=t' }:=I.un (Un.write mu he k heo) (I.hok.write mu he k heo new)
theorem Inv.pins_of {pins':List (Addr × Obj)} (I:Inv X pins σ H s) (h:∀ p ∈ pins',s.heap.get? p.1=some p.2∧H p.1=none∧p.1≠X.env.locals∧p.1 ∉ X.fs∧∀ v,p.2.data≠.cell v):Inv X pins' σ H s :=
  ⟨I.ok,I.os,I.bare,I.base,I.loc,I.cell,I.free,I.freeC,fun p hp=>(List.mem_append.mp hp).elim (fun z=>I.pin p (List.mem_append_left _ z)) (h p),I.hok,I.len⟩
theorem nodup_ix {N:List Str} (hN:N.Nodup) {i j:Nat} {x:Str} (a:N[i]? = some x) (b:N[j]? = some x):i=j:=by
  obtain ⟨h1,e1⟩:=List.getElem?_eq_some_iff.mp a
  obtain ⟨h2,e2⟩:=List.getElem?_eq_some_iff.mp b
  exact (List.getElem_inj hN).mp (e1.trans e2.symm)
theorem store_ok2 {M : Model} {A : Around} {E : Value → Shared → Prop} {i : Nat} {x : Str} {v : V} {u : Value} {Q : Unit → Shared → Prop} (I : Inv X pins σ H s) (hN : X.N.Nodup) (hi : X.N[i]? = some x) (hx : Loc X.env.scope x) (r : RelV v u)
    (h:∀ s',Inv X pins (σ.set i (some v)) H s'→(∃ a,Heap.SameBut a s.heap s'.heap∧(a=X.env.locals∨X.env.cells.lookup x=some a))→Q () s') (hf:X.fn x=true∨X.env.scope.names.lookup x=some .local:=by first | exact .inl rfl | exact .inr rfl | assumption):wpAny M A (storeName X.env x u) Q E s:=by
  obtain ⟨m,hn,hl⟩:=id I.loc
  have hcls:(X.env.scope.kind == .class || (X.env.scope.kind == .module && X.env.locals != X.env.globals))=false:=by rw [I.ok.kind]; rfl
  have hiσ:i < σ.length:=by rw [I.len]; exact (List.getElem?_eq_some_iff.mp hi).1
  have cne:=I.cne
  have tracked:∀ {a:Addr} {h':Heap},(∃ o,s.heap.get? a=some o∧H a=none)→Heap.SameBut a s.heap h'→HOk X.prog X.w H h':=fun {a h'} ha hs b ob e=>by
    obtain ⟨_,_,hfree⟩:=ha
    refine (I.hok b ob e).stay (fun c w' hc q=>(hs.2 c ?_).trans q) (fun _ q=>q) fun _ _ q=>q
    rintro rfl
    rcases hc with rfl | hc
    · rw [hfree] at e; cases e
    · rw [hfree] at hc; cases hc
  rcases hx with hk | hk
  · refine wpAny_storeName_local hk hn (fun h' hn' hs=>?_) hcls
    obtain ⟨oL,_,_,hoL,_⟩:=id hn
    refine h _ ⟨I.ok,I.os,I.bare,⟨fun b o e n hb hx=>?_,fun b o e n hb hx=>?_,I.base.free,fun b o e hx=>?_,I.base.tups,I.base.frzs,I.base.tbls⟩,⟨_,hn',fun j y v' e1 e2 e3=>?_⟩,fun y c e=>?_,I.free,I.freeC,fun p hp=>?_,tracked ⟨oL,hoL,I.free⟩ hs,by simpa using I.len⟩ ⟨_,hs,.inl rfl⟩
    · exact (hs.2 b (Nat.ne_of_lt (Nat.lt_of_lt_of_le (Heap.lt_size e) I.ok.above))).trans (I.base.keep b o e n hb hx)
    · obtain ⟨sl,e1⟩:=I.base.slot b o e n hb hx
      exact ⟨sl,(hs.2 b (Nat.ne_of_lt (Nat.lt_of_lt_of_le (Heap.lt_size e) I.ok.above))).trans e1⟩
    · obtain ⟨o',e1⟩:=I.base.there b o e hx
      exact ⟨o',(hs.2 b (Nat.ne_of_lt (Nat.lt_of_lt_of_le (Heap.lt_size e) I.ok.above))).trans e1⟩
    · by_cases hj:j=i
      · subst hj
        rw [hi] at e1; cases e1
        rw [List.getElem?_set_self hiσ] at e2
        cases e2
        exact ⟨u,r,.inl ⟨hk,by simp⟩⟩
      · rw [List.getElem?_set_ne (Ne.symm hj)] at e2
        obtain ⟨u',r',q⟩:=hl j y v' e1 e2 e3
        refine ⟨u',r',?_⟩
        rcases q with ⟨k,e⟩ | ⟨k,c,e,z⟩
        · refine .inl ⟨k,?_⟩
          have:y≠x:=fun e=>hj (nodup_ix hN e1 (e ▸ hi))
          simp [this,e]
        · exact .inr ⟨k,c,e,z.sameBut hs (cne y c e)⟩
    · obtain ⟨w',z⟩:=I.cell y c e
      exact ⟨w',z.sameBut hs (cne y c e)⟩
    · obtain ⟨e,n,ne,nf,d⟩:=I.pin p hp
      exact ⟨(hs.2 p.1 ne).trans e,n,ne,nf,d⟩
  · have hfn:X.fn x=true:=by
      rcases hf with z | z
      · exact z
      · rw [z] at hk; cases hk
    obtain ⟨c,hc⟩:=I.ok.has x (.inl hk)
    obtain ⟨w',z⟩:=I.cell x c hc
    refine wpAny_storeName_cell I.ok.kind hk hc z (fun h' hc' hs=>?_)
    obtain ⟨oc,hoc,hocd⟩:=id z
    refine h { s with heap:=h' } ⟨I.ok,I.os,I.bare,⟨fun b o e n hb hx=>?_,fun b o e n hb hx=>?_,I.base.free,fun b o e hx=>?_,I.base.tups,I.base.frzs,I.base.tbls⟩,⟨m,hn.sameBut hs (Ne.symm (cne x c hc)),fun j y v' e1 e2 e3=>?_⟩,fun y c' e=>?_,I.free,I.freeC,fun p hp=>?_,tracked ⟨oc,hoc,I.freeC x c hc⟩ hs,by simpa using I.len⟩ ⟨c,hs,.inr hc⟩
    · exact (hs.2 b (Nat.ne_of_lt (Nat.lt_of_lt_of_le (Heap.lt_size e) (I.ok.cab x c hfn hc)))).trans (I.base.keep b o e n hb hx)
    · obtain ⟨sl,e1⟩:=I.base.slot b o e n hb hx
      exact ⟨sl,(hs.2 b (Nat.ne_of_lt (Nat.lt_of_lt_of_le (Heap.lt_size e) (I.ok.cab x c hfn hc)))).trans e1⟩
    · obtain ⟨o',e1⟩:=I.base.there b o e hx
      exact ⟨o',(hs.2 b (Nat.ne_of_lt (Nat.lt_of_lt_of_le (Heap.lt_size e) (I.ok.cab x c hfn hc)))).trans e1⟩
    · by_cases hj:j=i
      · subst hj
        rw [hi] at e1; cases e1
        rw [List.getElem?_set_self hiσ] at e2
        cases e2
        exact ⟨u,r,.inr ⟨.inl hk,c,hc,hc'⟩⟩
      · rw [List.getElem?_set_ne (Ne.symm hj)] at e2
        obtain ⟨u',r',q⟩:=hl j y v' e1 e2 e3
        refine ⟨u',r',?_⟩
        rcases q with q | ⟨k,c',e,z'⟩
        · exact .inl q
        · refine .inr ⟨k,c',e,z'.sameBut hs ?_⟩
          rintro rfl
          exact hj (nodup_ix hN e1 (I.ok.inj _ _ _ e hc ▸ hi))
    · by_cases hcc:c'=c
      · subst hcc; exact ⟨_,hc'⟩
      · obtain ⟨w2,z2⟩:=I.cell y c' e
        exact ⟨w2,z2.sameBut hs hcc⟩
    · obtain ⟨e,n,ne,nf,d⟩:=I.pin p hp
      refine ⟨(hs.2 p.1 ?_).trans e,n,ne,nf,d⟩
      intro q
      rw [q,hoc] at e
      have q':oc=p.2:=Option.some.inj e
      exact d w' (by rw [← q']; exact hocd)
theorem store_ok {M:Model} {A:Around} {E:Value→Shared→Prop} {i:Nat} {x:Str} {v:V} {u:Value} {Q:Unit→Shared→Prop} (I:Inv X pins σ H s) (hN:X.N.Nodup) (hi:X.N[i]? = some x) (hx:Loc X.env.scope x) (r:RelV v u)
    (h:∀ s',Inv X pins (σ.set i (some v)) H s'→Q () s') (hf:X.fn x=true∨X.env.scope.names.lookup x=some .local:=by first | exact .inl rfl | exact .inr rfl | assumption):wpAny M A (storeName X.env x u) Q E s :=
  store_ok2 I hN hi hx r (fun s' I' _=>h s' I') hf
theorem Inv.call' {s':Shared} {ch:List Addr} (I:Inv X pins σ H s) (ho:s'.os=s.os) (u:Un (frs X.stack) ch H H' s.heap s'.heap) (hok:HOk X.prog X.w H' s'.heap) (hg:AllBare s'.gens)
    (hch:∀ b ∈ ch,(b ∈ X.ex∨X.s₀.heap.objs.size≤b)∧b≠X.env.locals∧(∀ x c,X.env.cells.lookup x=some c→c≠b)∧∀ p ∈ X.pn ++ pins,p.1≠b):Inv X pins σ H' s':=by
  obtain ⟨h',g',d',t',o'⟩:=s'
  have e:o'=s.os:=ho
  subst e
  exact I.call (g':=g') (t':=t') (d':=d') u hok hg hch
end
abbrev XK:=Value→Option Addr→Hp→Prop
abbrev St:=List (Option V)
abbrev VK:=V→Hp→Prop
abbrev TE:=St→Hp→VK→Prop
abbrev TT:=St→Hp→(Bool→Hp→Prop)→Prop
abbrev TA:=St→Hp→(List V→Hp→Prop)→Prop
structure Ends where
  nx:St→Hp→Prop
  rt:VK
  bk:St→Hp→Prop:=fun _ _=>False
  ct:St→Hp→Prop:=fun _ _=>False
abbrev TS:=Ends→St→Hp→Prop
def EP (X:Cx) (pins:List (Addr × Obj)) (σ:St) (Q:VK) (u:Value) (s':Shared):Prop:=∃ v H',Inv X pins σ H' s'∧RelV v u∧Q v H'
def TP (X:Cx) (pins:List (Addr × Obj)) (σ:St) (Q:Bool→Hp→Prop) (b:Bool) (s':Shared):Prop:=∃ H',Inv X pins σ H' s'∧Q b H'
def AP (X:Cx) (pins:List (Addr × Obj)) (σ:St) (Q:List V→Hp→Prop) (us:List Value) (s':Shared):Prop:=∃ vs H',Inv X pins σ H' s'∧Vals vs us∧Q vs H'
def SP (X:Cx) (pins:List (Addr × Obj)) (D:Ends) (f:Flow) (s':Shared):Prop :=
  match f with
  | .next=>∃ σ' H',Inv X pins σ' H' s'∧D.nx σ' H'
  | .brk=>∃ σ' H',Inv X pins σ' H' s'∧D.bk σ' H'
  | .cont=>∃ σ' H',Inv X pins σ' H' s'∧D.ct σ' H'
  | .ret u=>∃ v σ' H',Inv X pins σ' H' s'∧RelV v u∧D.rt v H'
def PE (X:Cx) (e:Expr) (t:TE):Prop :=
  ∀ (pins:List (Addr × Obj)) (s:Shared) (σ:St) (H:Hp) (Q:VK),Inv X pins σ H s→t σ H Q→wpAny (model X.prog X.w) X.A (eval e X.env) (EP X pins σ Q) X.xe s
def PT (X:Cx) (e:Expr) (t:TT):Prop :=
  ∀ (pins:List (Addr × Obj)) (s:Shared) (σ:St) (H:Hp) (Q:Bool→Hp→Prop),Inv X pins σ H s→t σ H Q→wpAny (model X.prog X.w) X.A (isTrue e X.env (eval e X.env)) (TP X pins σ Q) X.xe s
def PW (X:Cx) (e:Expr) (t:TT):Prop :=
  ∀ (whole:Sem Value) (pins:List (Addr × Obj)) (s:Shared) (σ:St) (H:Hp) (Q:Bool→Hp→Prop),Inv X pins σ H s→t σ H Q→wpAny (model X.prog X.w) X.A (isTrue e X.env whole) (TP X pins σ Q) X.xe s
theorem PW.pt {X:Cx} {e:Expr} {t:TT} (h:PW X e t):PT X e t:=h _
def PA (X:Cx) (es:List Expr) (t:TA):Prop :=
  ∀ (pos:Pos) (pins:List (Addr × Obj)) (s:Shared) (σ:St) (H:Hp) (Q:List V→Hp→Prop),Inv X pins σ H s→t σ H Q→wpAny (model X.prog X.w) X.A (spliced (backTo pos (starEach es X.env))) (AP X pins σ Q) X.xe s
def PS (X:Cx) (st:Stmt) (t:TS):Prop :=
  ∀ (pins:List (Addr × Obj)) (s:Shared) (σ:St) (H:Hp) (D:Ends),Inv X pins σ H s→t D σ H→wpAny (model X.prog X.w) X.A (exec st X.env) (SP X pins D) X.xe s
def PSs (X:Cx) (st:List Stmt) (t:TS):Prop :=
  ∀ (pins:List (Addr × Obj)) (s:Shared) (σ:St) (H:Hp) (D:Ends),Inv X pins σ H s→t D σ H→wpAny (model X.prog X.w) X.A (execs st X.env) (SP X pins D) X.xe s
theorem thn {α:Type} {t:Sem α} {Q Q':α→Shared→Prop} {M:Model} {A:Around} {E:Value→Shared→Prop} {s:Shared} (h:wpAny M A t Q E s) (hQ:∀ a s,Q a s→Q' a s):wpAny M A t Q' E s:=wpAny_mono h hQ fun _ _ x=>x
end L2
namespace L2
open PySem PySem.Spec PyProof.Rows
section
variable {X:Cx}
theorem bin {a b:Expr} {ta tb:TE} (ha:PE X a ta) (hb:PE X b tb) {pins:List (Addr × Obj)} {s:Shared} {σ:St} {H:Hp} {R:V→V→Hp→Prop} (I:Inv X pins σ H s) (h:ta σ H fun x H1=>tb σ H1 fun y H2=>R x y H2)
    {α:Type} {Q:α→Shared→Prop} {f:Value→Value→Sem α}
    (hf:∀ v u s2 x y H2,Inv X pins σ H2 s2→RelV x v→RelV y u→R x y H2→wpAny (model X.prog X.w) X.A (f v u) Q X.xe s2) :
    wpAny (model X.prog X.w) X.A (eval a X.env) (fun v s₁=>wpAny (model X.prog X.w) X.A (eval b X.env) (fun u s₂=>wpAny (model X.prog X.w) X.A (f v u) Q X.xe s₂) X.xe s₁) X.xe s:=by
  refine thn (ha pins s σ H _ I h) fun v s1 ⟨x,H1,I1,r1,q1⟩=>?_
  refine thn (hb pins s1 σ H1 _ I1 q1) fun u s2 ⟨y,H2,I2,r2,q2⟩=>?_
  exact hf v u s2 x y H2 I2 r1 r2 q2
def tVar (i:Nat):TE:=fun σ H Q=>∃ v,σ[i]? = some (some v)∧Q v H
def tC (v:V):TE:=fun _ H Q=>Q v H
theorem pe_var {i:Nat} {x:Str} {pos:Pos} (hN:X.N[i]? = some x) (hv:Vis X.env.scope x) (hd:(x == ("__debug__":Str))=false:=by decide) (hcd:(x == ("__classdict__":Str))=false:=by decide):PE X (.Name x pos) (tVar i):=by
  intro pins s σ H Q I h
  obtain ⟨v,e,h⟩:=h
  obtain ⟨m,hn,hl⟩:=I.loc
  obtain ⟨u,r,l⟩:=hl i x v hN e hv
  have fin:EP X pins σ Q u s:=⟨v,H,I,r,h⟩
  rcases l with ⟨hk,hm⟩ | ⟨hk,c,hc,hcell⟩
  · exact wpAny_Name (wpAny_loadName_local I.ok.kind hk hn hm fin) hd
  · rcases hk with hk | hk
    · exact wpAny_Name (wpAny_loadName_cell I.ok.kind hk hc hcell fin) hd
    · exact wpAny_Name (wpAny_loadName_free I.ok.kind hk hc hcell fin hcd) hd
theorem pe_int {i j pos}:PE X (.Constant (.int i) j pos) (tC (.int i)):=fun _ _ _ H _ I h=>wpAny_Constant_int ⟨.int i,H,I.tok _,⟨_,rfl⟩,h⟩
theorem pe_bl {b j pos}:PE X (.Constant (.bool b) j pos) (tC (.bl b)):=fun _ _ _ H _ I h=>Constant_bool ⟨.bl b,H,I,rfl,h⟩
theorem pe_non {j pos}:PE X (.Constant .none j pos) (tC .non):=fun _ _ _ H _ I h=>Constant_none ⟨.non,H,I,rfl,h⟩
theorem pe_str {x j pos}:PE X (.Constant (.str x) j pos) (tC (.str x)):=fun _ _ _ H _ I h=>Calls.Constant_str ⟨.str x,H,I.tok _,⟨_,rfl⟩,h⟩
def Gl (X:Cx) (x:Str):Prop:=X.env.kindOf x=some .globalImplicit
theorem ld_glob {E:Value→Shared→Prop} {pins:List (Addr × Obj)} {s:Shared} {σ:St} {H:Hp} {x:Str} {u:Value} {pos:Pos} {Q:Value→Shared→Prop} (I:Inv X pins σ H s) (hg:Gl X x) (hm:X.mg x=some u) (h:Q u s)
    (hd:(x == ("__debug__":Str))=false:=by decide):wpAny (model X.prog X.w) X.A (eval (.Name x pos) X.env) Q E s :=
  Calls.Name_function_global I.ok.kind hg (Calls.loadGlobal_global (by rw [I.ok.glob]; exact I.mod.glob.keeps I.bk) hm h) hd
theorem ld_blt {E:Value→Shared→Prop} {pins:List (Addr × Obj)} {s:Shared} {σ:St} {H:Hp} {x:Str} {u:Value} {pos:Pos} {Q:Value→Shared→Prop} (I:Inv X pins σ H s) (hg:Gl X x) (hm:X.mg x=none) (hv:bootBuiltins x=some u) (h:Q u s)
    (hn:x≠"__name__":=by decide) (hd:(x == ("__debug__":Str))=false:=by decide):wpAny (model X.prog X.w) X.A (eval (.Name x pos) X.env) Q E s:=by
  obtain ⟨mb,h1,h2⟩:=I.mod.blt
  exact Calls.Name_function_global I.ok.kind hg (Calls.loadGlobal_builtin (by rw [I.ok.glob]; exact I.mod.glob.keeps I.bk) hm (by rw [I.ok.blt]; exact h1.keeps I.bk) ((h2 x hn).trans hv) h) hd
theorem pe_glob {x:Str} {v:V} {u:Value} {pos:Pos} (hg:Gl X x) (hm:X.mg x=some u) (r:RelV v u) (hd:(x == ("__debug__":Str))=false:=by decide):PE X (.Name x pos) (tC v) :=
  fun _ _ _ H _ I h=>ld_glob I hg hm ⟨v,H,I,r,h⟩ hd
theorem pe_bltn {x:Str} {v:V} {u:Value} {pos:Pos} (hg:Gl X x) (hm:X.mg x=none) (hv:bootBuiltins x=some u) (r:RelV v u) (hn:x≠"__name__":=by decide) (hd:(x == ("__debug__":Str))=false:=by decide):PE X (.Name x pos) (tC v) :=
  fun _ _ _ H _ I h=>ld_blt I hg hm hv ⟨v,H,I,r,h⟩ hn hd
variable {a b:Expr} {ta tb:TE} {pos:Pos}
def PC (X : Cx) (op : CmpOp) (a b : Expr) (t : TE) : Prop :=
  ∀ (pins : List (Addr × Obj)) (s : Shared) (σ : St) (H : Hp) (Q : VK), Inv X pins σ H s → t σ H Q →
    wpAny (model X.prog X.w) X.A (eval a X.env) (fun v s₁=>wpAny (model X.prog X.w) X.A (eval b X.env) (fun u s₂=>wpAny (model X.prog X.w) X.A (compareOp op v u) (EP X pins σ Q) X.xe s₂) X.xe s₁) X.xe s
theorem nobehind (b:Expr) {op:CmpOp} (h:op≠.In) (h2:op≠.NotIn):behindInMarks op b=false:=by
  have e1:(op == CmpOp.In)=false:=by cases op <;> first | rfl | exact absurd rfl h
  have e2:(op == CmpOp.NotIn)=false:=by cases op <;> first | rfl | exact absurd rfl h2
  cases b <;> simp [behindInMarks,e1,e2]
def tNotN (ta:TE):TE:=fun σ H Q=>ta σ H fun x H1=>Q (.bl (!decide (x = .non))) H1
theorem RelV.none_iff {x:V} {v:Value} (r:RelV x v):(v == Value.none)=decide (x = .non):=by
  cases x with
  | non=>cases r; rfl
  | bl _=>cases r; rfl
  | int _=>obtain ⟨t,rfl⟩:=r; rfl
  | str _=>obtain ⟨t,rfl⟩:=r; rfl
  | byt _=>obtain ⟨t,rfl⟩:=r; rfl
  | flt _=>obtain ⟨t,rfl⟩:=r; rfl
  | ref _=>cases r; rfl
  | ty _=>cases r; rfl
theorem pc_notN {j pos'} (ha:PE X a ta):PC X .IsNot a (.Constant .none j pos') (tNotN ta):=by
  intro pins s σ H Q I h
  refine thn (ha pins s σ H _ I h) fun v s1 ⟨x,H1,I1,r1,q1⟩=>?_
  exact Constant_none (isnot_none_gen ⟨.bl _,H1,I1,by rw [r1.none_iff]; rfl,q1⟩)
def tB (t:TE):TT:=fun σ H Q=>t σ H fun x H1=>∃ c,x = .bl c∧Q c H1
theorem pt_cmp {op:CmpOp} {t:TE} (h:PC X op a b t) (h1:behindInMarks op b=false:=by first | exact nobehind _ (by decide) (by decide) | rfl):PT X (.Compare a [op] [b] pos) (tB t):=by
  intro pins s σ H Q I hw
  refine wpAny_isTrue_Compare1 (thn (h pins s σ H _ I hw) fun v s1 h1=>thn h1 fun u s2 h2=>thn h2 fun c s3 ⟨x,H1,I1,r1,q1⟩=>?_) h1
  obtain ⟨d,rfl,q⟩:=q1
  cases r1
  exact wpAny_truthy_bool ⟨H1,I1,q⟩
variable {tA tB':TT} {rest:List Expr}
def tAnd (t u:TT):TT:=fun σ H Q=>t σ H fun c H1=>if c=true then u σ H1 Q else Q false H1
def tOr (t u:TT):TT:=fun σ H Q=>t σ H fun c H1=>if c=true then Q true H1 else u σ H1 Q
def tNot (t:TT):TT:=fun σ H Q=>t σ H fun c H1=>Q (!c) H1
theorem pw_and1 (ha:PT X a tA):PW X (.BoolOp .And [a] pos) tA:=by
  intro wh pins s σ H Q I h
  refine isTrue_and (thn (ha pins s σ H Q I h) fun c s1 e=>?_)
  cases c with
  | true=>exact isTrue_and_nil e
  | false=>exact e
theorem pw_or1 (ha:PT X a tA):PW X (.BoolOp .Or [a] pos) tA:=by
  intro wh pins s σ H Q I h
  refine isTrue_or (thn (ha pins s σ H Q I h) fun c s1 e=>?_)
  cases c with
  | false=>exact isTrue_or_nil e
  | true=>exact e
theorem pw_and (ha:PT X a tA) (hb:PW X (.BoolOp .And (b :: rest) pos) tB'):PW X (.BoolOp .And (a :: b :: rest) pos) (tAnd tA tB'):=by
  intro wh pins s σ H Q I h
  refine isTrue_and (thn (ha pins s σ H _ I h) fun c s1 ⟨H1,I1,q1⟩=>?_)
  cases c with
  | true=>exact hb wh pins s1 σ H1 Q I1 q1
  | false=>exact ⟨H1,I1,q1⟩
theorem pw_or (ha:PT X a tA) (hb:PW X (.BoolOp .Or (b :: rest) pos) tB'):PW X (.BoolOp .Or (a :: b :: rest) pos) (tOr tA tB'):=by
  intro wh pins s σ H Q I h
  refine isTrue_or (thn (ha pins s σ H _ I h) fun c s1 ⟨H1,I1,q1⟩=>?_)
  cases c with
  | true=>exact ⟨H1,I1,q1⟩
  | false=>exact hb wh pins s1 σ H1 Q I1 q1
theorem pt_not (ha:PT X a tA):PT X (.UnaryOp .Not a pos) (tNot tA):=by
  intro pins s σ H Q I h
  exact isTrue_not (ha pins s σ H (fun c H1=>Q (!c) H1) I h)
def tAndV (ta tb:TE):TE:=fun σ H Q=>ta σ H fun x H1=>∃ c,x = .bl c∧if c=true then tb σ H1 Q else Q (.bl false) H1
def tNotV (ta:TE):TE:=fun σ H Q=>ta σ H fun x H1=>∃ c,x = .bl c∧Q (.bl (!c)) H1
theorem pe_one {op} {t:TE} (h:PE X a t):PE X (.BoolOp op [a] pos) t:=fun pins s σ H Q I hw=>BoolOp_one (h pins s σ H Q I hw)
theorem pe_and (ha:PE X a ta) (hb:PE X (.BoolOp .And (b :: rest) pos) tb):PE X (.BoolOp .And (a :: b :: rest) pos) (tAndV ta tb):=by
  intro pins s σ H Q I h
  refine BoolOp_and (thn (ha pins s σ H _ I h) fun v s1 ⟨x,H1,I1,r1,q1⟩=>?_)
  obtain ⟨c,rfl,q1⟩:=q1
  cases r1
  refine wpAny_truthy_bool ?_
  cases c with
  | true=>exact hb pins s1 σ H1 Q I1 q1
  | false=>exact ⟨.bl false,H1,I1,rfl,q1⟩
theorem pe_not (ha:PE X a ta):PE X (.UnaryOp .Not a pos) (tNotV ta):=by
  intro pins s σ H Q I h
  refine UnaryOp_ (thn (ha pins s σ H _ I h) fun v s1 ⟨x,H1,I1,r1,q1⟩=>?_)
  obtain ⟨c,rfl,q1⟩:=q1
  cases r1
  exact not_of (wpAny_truthy_bool ⟨.bl (!c),H1,I1,rfl,q1⟩)
def tIf (t:TT) (ta tb:TE):TE:=fun σ H Q=>t σ H fun c H1=>if c=true then ta σ H1 Q else tb σ H1 Q
theorem pe_ifExp {c:Expr} (hc:PT X c tA) (ha:PE X a ta) (hb:PE X b tb):PE X (.IfExp c a b pos) (tIf tA ta tb):=by
  intro pins s σ H Q I h
  refine wpAny_IfExp (thn (hc pins s σ H _ I h) fun d s1 ⟨H1,I1,q1⟩=>?_)
  cases d with
  | true=>exact ha pins s1 σ H1 Q I1 q1
  | false=>exact hb pins s1 σ H1 Q I1 q1
end
end L2
namespace L2
open PySem PySem.Spec PyProof.Rows
def SqL (K : PySem.W.Frag) (H : Hp) (a : Addr) (xs : List V) : Prop :=
  Rd H a (.lst xs) ∨
    ∃ (o:Obj) (its:Array Value) (n:Nat),K.lookup a=some o∧o.cls = .type "list"∧o.dict=none∧o.data = .seq its n∧its.size≤sizeLine∧Vals xs its.toList
def SqT (K : PySem.W.Frag) (H : Hp) (a : Addr) (xs : List V) : Prop :=
  Rd H a (.tup xs) ∨
    ∃ (o:Obj) (its:Array Value) (n:Nat),K.lookup a=some o∧o.cls = .type "tuple"∧o.data = .seq its n∧its.size≤sizeLine∧Vals xs its.toList
def absV:Value→Option V
  | .none=>some .non
  | .bool b=>some (.bl b)
  | .int i _=>some (.int i)
  | .str x _=>some (.str x)
  | .bytes b _=>some (.byt b)
  | .float b _=>some (.flt b)
  | .ref a=>some (.ref a)
  | .type n=>some (.ty n)
  | _=>none
theorem RelV.abs {x:V} {u:Value} (r:RelV x u):absV u=some x:=by
  cases x with
  | non=>cases r; rfl
  | bl _=>cases r; rfl
  | int _=>obtain ⟨t,rfl⟩:=r; rfl
  | str _=>obtain ⟨t,rfl⟩:=r; rfl
  | byt _=>obtain ⟨t,rfl⟩:=r; rfl
  | flt _=>obtain ⟨t,rfl⟩:=r; rfl
  | ref _=>cases r; rfl
  | ty _=>cases r; rfl
theorem RelV.inj {x y:V} {u:Value} (r:RelV x u) (q:RelV y u):x=y:=Option.some.inj (r.abs.symm.trans q.abs)
theorem Vals.inj:∀ {xs ys:List V} {us:List Value},Vals xs us→Vals ys us→xs=ys
  | _,_,_,.nil,.nil=>rfl
  | _,_,_,.cons r t,.cons r' t'=>by rw [r.inj r',Vals.inj t t']
section
variable {X:Cx} {pins:List (Addr × Obj)} {σ:St} {H:Hp} {s:Shared} {a:Addr} {xs ys:List V}
theorem SqL.of {K:PySem.W.Frag} (h:H a=some (.lst xs)):SqL K H a xs:=.inl (.inl h)
theorem SqT.of {K:PySem.W.Frag} (h:H a=some (.tup xs)):SqT K H a xs:=.inl (.inl h)
theorem Inv.list (I:Inv X pins σ H s) (h:SqL X.K H a xs):∃ its:List Value,Vals xs its∧PlainL s.heap a its.toArray∧xs.length≤sizeLine:=by
  rcases h with h | ⟨o,its,n,hk,hc,hd,hs,hz,r⟩
  · obtain ⟨z,its,n,r,e⟩:=h.ok I.hok
    exact ⟨its,r,⟨_,n,e,rfl,rfl,rfl⟩,z⟩
  · refine ⟨its.toList,r,⟨o,n,I.kIn a o hk,hc,hd,by simpa using hs⟩,?_⟩
    have e:=r.length
    simp only [Array.length_toList] at e
    omega
theorem Inv.tuple (I:Inv X pins σ H s) (h:SqT X.K H a xs):∃ its:List Value,Vals xs its∧IsTup s.heap a its.toArray∧xs.length≤sizeLine:=by
  rcases h with h | ⟨o,its,n,hk,hc,hs,hz,r⟩
  · obtain ⟨z,its,r,p⟩:=h.ok I.hok
    exact ⟨its,r,p,z⟩
  · refine ⟨its.toList,r,⟨o,I.kIn a o hk,hc,n,by simpa using hs⟩,?_⟩
    have e:=r.length
    simp only [Array.length_toList] at e
    omega
theorem Inv.list_inj (I:Inv X pins σ H s) (h:SqL X.K H a xs) (h':SqL X.K H a ys):xs=ys:=by
  obtain ⟨its,r,⟨o,n,e,_,_,d⟩,_⟩:=I.list h
  obtain ⟨its',r',⟨o',n',e',_,_,d'⟩,_⟩:=I.list h'
  rw [e] at e'; cases e'
  rw [d] at d'
  injection d' with d1 _
  have:its=its':=by simpa using congrArg Array.toList d1
  subst this
  exact r.inj r'
theorem Inv.tuple_inj (I:Inv X pins σ H s) (h:SqT X.K H a xs) (h':SqT X.K H a ys):xs=ys:=by
  obtain ⟨its,r,⟨o,e,_,n,d⟩,_⟩:=I.tuple h
  obtain ⟨its',r',⟨o',e',_,n',d'⟩,_⟩:=I.tuple h'
  rw [e] at e'; cases e'
  rw [d] at d'
  injection d' with d1 _
  have:its=its':=by simpa using congrArg Array.toList d1
  subst this
  exact r.inj r'
end
abbrev Cx.wish (X:Cx) (E:Value→Shared→Prop):Cx:={ X with xe:=E }
abbrev Cx.nox (X:Cx):Cx:=X.wish fun _ _=>False
theorem Cx.Ok.wish {X:Cx} (ok:X.Ok) (E:Value→Shared→Prop):(X.wish E).Ok :=
  ⟨ok.mod,ok.kind,ok.glob,ok.blt,ok.above,ok.inj,ok.has,ok.cab,ok.hd,ok.frames,ok.stk,ok.exf,ok.bs,ok.bsz,ok.noex,ok.exfs,ok.funs,ok.frf⟩
theorem Cx.Ok.unwish {X:Cx} {E:Value→Shared→Prop} (ok:(X.wish E).Ok):X.Ok :=
  ⟨ok.mod,ok.kind,ok.glob,ok.blt,ok.above,ok.inj,ok.has,ok.cab,ok.hd,ok.frames,ok.stk,ok.exf,ok.bs,ok.bsz,ok.noex,ok.exfs,ok.funs,ok.frf⟩
section
variable {X:Cx} {pins:List (Addr × Obj)} {σ:St} {H:Hp} {s:Shared} {E:Value→Shared→Prop}
theorem Inv.wish (I:Inv X pins σ H s) (E:Value→Shared→Prop):Inv (X.wish E) pins σ H s:=⟨I.ok.wish E,I.os,I.bare,I.base,I.loc,I.cell,I.free,I.freeC,I.pin,I.hok,I.len⟩
theorem Inv.unwish (I:Inv (X.wish E) pins σ H s):Inv X pins σ H s:=⟨I.ok.unwish,I.os,I.bare,I.base,I.loc,I.cell,I.free,I.freeC,I.pin,I.hok,I.len⟩
theorem SP.unwish {D:Ends} {f:Flow} {s':Shared} (h:SP (X.wish E) pins D f s'):SP X pins D f s':=by
  cases f with
  | next=>obtain ⟨σ',H',I,q⟩:=h; exact ⟨σ',H',I.unwish,q⟩
  | brk=>obtain ⟨σ',H',I,q⟩:=h; exact ⟨σ',H',I.unwish,q⟩
  | cont=>obtain ⟨σ',H',I,q⟩:=h; exact ⟨σ',H',I.unwish,q⟩
  | ret u=>obtain ⟨v,σ',H',I,r,q⟩:=h; exact ⟨v,σ',H',I.unwish,r,q⟩
theorem PSs.nox {st:List Stmt} {t:TS} (h:PSs X.nox st t):PSs X st t:=fun pins s σ H D I hw =>
  wpAny_mono (h pins s σ H D (I.wish _) hw) (fun _ _ q=>q.unwish) fun _ _ z=>False.elim z
end
section
variable {X:Cx} {st:Stmt} {rest:List Stmt} {t u:TS} {e:Expr} {te:TE} {pos:Pos}
def tNext:TS:=fun D σ H=>D.nx σ H
def tSeq (t u:TS):TS:=fun D σ H=>t { D with nx:=u D } σ H
theorem pss_nil:PSs X [] tNext:=fun _ _ σ H _ I h=>wpAny_execs_nil ⟨σ,H,I,h⟩
theorem pss_cons (h1:PS X st t) (h2:PSs X rest u):PSs X (st :: rest) (tSeq t u):=by
  intro pins s σ H D I h
  refine wpAny_execs_cons (thn (h1 pins s σ H { D with nx:=u D } I h) fun f s1 q=>?_)
  cases f with
  | next =>
    obtain ⟨σ',H',I',q⟩:=q
    exact h2 pins s1 σ' H' D I' q
  | ret v=>exact q
  | brk=>exact q
  | cont=>exact q
theorem pss_one (h1:PS X st t):PSs X [st] t:=by
  intro pins s σ H D I h
  refine wpAny_execs_cons (thn (h1 pins s σ H D I h) fun f s1 q=>?_)
  cases f with
  | next=>exact wpAny_execs_nil q
  | ret v=>exact q
  | brk=>exact q
  | cont=>exact q
theorem Inv.quiet {pins:List (Addr × Obj)} {σ:St} {H:Hp} {s:Shared} (I:Inv X pins σ H s):interactive X.env=false:=by simp [interactive,I.ok.kind]
def tDrop (te:TE):TS:=fun D σ H=>te σ H fun _ H1=>D.nx σ H1
theorem ps_expr (he:PE X e te) (hs:swapsWith e none pos.line X.env=pure false:=by rfl):PS X (.Expr e pos) (tDrop te):=by
  intro pins s σ H D I h
  exact wpAny_Expr_any (thn (he pins s σ H _ I h) fun v s1 ⟨x,H1,I1,r1,q1⟩=>⟨σ,H1,I1,q1⟩) I.quiet hs
def tRet (te:TE):TS:=fun D σ H=>te σ H D.rt
theorem ps_ret (he:PE X e te):PS X (.Return (some e) pos) (tRet te):=by
  intro pins s σ H D I h
  exact wpAny_Return_some (thn (he pins s σ H _ I h) fun v s1 ⟨x,H1,I1,r1,q1⟩=>⟨x,σ,H1,I1,r1,q1⟩)
def tIfS (c:TT) (t u:TS):TS:=fun D σ H=>c σ H fun b H1=>if b=true then t D σ H1 else u D σ H1
theorem ps_if {c:Expr} {a b:List Stmt} {tc:TT} (hc:PT X c tc) (ha:PSs X a t) (hb:PSs X b u):PS X (.If c a b pos) (tIfS tc t u):=by
  intro pins s σ H D I h
  refine wpAny_If (thn (hc pins s σ H _ I h) fun d s1 ⟨H1,I1,q1⟩=>?_)
  cases d with
  | true=>exact ha pins s1 σ H1 D I1 q1
  | false=>exact hb pins s1 σ H1 D I1 q1
end
abbrev TG:=V→St→Hp→(St→Hp→Prop)→Prop
abbrev TGs:=List V→St→Hp→(St→Hp→Prop)→Prop
def PG (X : Cx) (target : Expr) (t : TG) : Prop :=
  ∀ (pins : List (Addr × Obj)) (s : Shared) (σ : St) (H : Hp) (v : V) (u : Value) (Q : St → Hp → Prop), Inv X pins σ H s → RelV v u → t v σ H Q →
    wpAny (model X.prog X.w) X.A (assign target X.env u) (fun _ s'=>∃ σ' H',Inv X pins σ' H' s'∧Q σ' H') X.xe s
def PGs (X : Cx) (ts : List Expr) (t : TGs) : Prop :=
  ∀ (pins : List (Addr × Obj)) (s : Shared) (σ : St) (H : Hp) (vs : List V) (us : List Value) (Q : St → Hp → Prop), Inv X pins σ H s → Vals vs us → t vs σ H Q →
    wpAny (model X.prog X.w) X.A (assignInOrder ((assignEach ts X.env).map (·.2)) us) (fun _ s'=>∃ σ' H',Inv X pins σ' H' s'∧Q σ' H') X.xe s
abbrev TSet:=V→V→V→Hp→(Hp→Prop)→Prop
def PSet (X : Cx) (t : TSet) : Prop :=
  ∀ (pins : List (Addr × Obj)) (s : Shared) (σ : St) (H : Hp) (o i v : V) (ov iv u : Value) (Q : Hp → Prop), Inv X pins σ H s → RelV o ov → RelV i iv → RelV v u → t o i v H Q →
    wpAny (model X.prog X.w) X.A (setItem ov iv u) (fun _ s'=>∃ H',Inv X pins σ H' s'∧Q H') X.xe s
section
variable {X:Cx} {pos:Pos}
def gName (i:Nat):TG:=fun v σ H Q=>Q (σ.set i (some v)) H
theorem pg_name {i:Nat} {x:Str} (hN:X.N.Nodup) (hi:X.N[i]? = some x) (hx:Loc X.env.scope x) (hf:X.fn x=true∨X.env.scope.names.lookup x=some .local:=by first | exact .inl rfl | exact .inr rfl | assumption):PG X (.Name x pos) (gName i):=by
  intro pins s σ H v u Q I r h
  exact wpAny_assign_Name (store_ok I hN hi hx r (fun s' I'=>⟨_,H,I',h⟩) hf)
def gNil:TGs:=fun vs σ H Q=>vs=[]∧Q σ H
def gCons (t:TG) (u:TGs):TGs:=fun vs σ H Q=>∃ v r,vs=v :: r∧t v σ H fun σ' H'=>u r σ' H' Q
theorem pgs_nil:PGs X [] gNil:=by
  intro pins s σ H vs us Q I r h
  obtain ⟨e,h⟩:=h
  subst e
  cases r
  exact assignInOrder_nil ⟨σ,H,I,h⟩
theorem pgs_cons {e:Expr} {es:List Expr} {t:TG} {u:TGs} (h1:PG X e t) (h2:PGs X es u)
    (hs:(assignEach (e :: es) X.env).map (·.2)=assign e X.env :: (assignEach es X.env).map (·.2):=by rfl):PGs X (e :: es) (gCons t u):=by
  intro pins s σ H vs us Q I r h
  obtain ⟨v,vr,e1,h⟩:=h
  subst e1
  cases r with
  | cons r rr =>
    rw [hs]
    refine assignInOrder_cons (thn (h1 pins s σ H _ _ _ I r h) fun _ s1 ⟨σ1,H1,I1,q1⟩=>?_)
    exact h2 pins s1 σ1 H1 _ _ Q I1 rr q1
def gTup (K:PySem.W.Frag) (n:Nat) (t:TGs):TG:=fun v σ H Q=>∃ a xs,v = .ref a∧SqT K H a xs∧xs.length=n∧t xs σ H Q
theorem pg_tup {es:List Expr} {k:Nat} {t:TGs} {n:Nat} (hc:X.calm=true) (h:PGs X es t)
    (hn:(assignEach es X.env).length=n:=by rfl) (hst:(assignEach es X.env).findIdx? (·.1)=none:=by rfl):PG X (.Tuple es k pos) (gTup X.K n t):=by
  intro pins s σ H v u Q I r hw
  obtain ⟨a,xs,e1,hq,hl,hw⟩:=hw
  subst e1
  cases r
  obtain ⟨its,rv,ht,hz⟩:=I.tuple hq
  refine assign_Tuple_tuple (I.ok.hd hc) ht (by simp [hn,← hl,rv.length]) hst fun h' hx=>?_
  have I1:Inv X pins σ H { s with heap:=h' }:=I.kept (t':=s.toks) fun b o e=>hx b o (Nat.ne_of_lt (Heap.lt_size e)) e
  exact h pins _ σ H xs _ Q I1 (by simpa using rv) hw
def gSub (to ti:TE) (t:TSet):TG:=fun v σ H Q=>to σ H fun o H1=>ti σ H1 fun i H2=>t o i v H2 fun H3=>Q σ H3
theorem pg_sub {o i:Expr} {to ti:TE} {t:TSet} (ho:PE X o to) (hi:PE X i ti) (hs:PSet X t)
    (ha:∀ v,assign (.Subscript o i pos) X.env v=(do
      let ov ← holding [v] (eval o X.env)
      let iv ← holding [v,ov] (eval i X.env)
      standAt pos
      holding [v,ov,iv] (setItem ov iv v)
      release [v,ov,iv] []):=by intro _; rfl):PG X (.Subscript o i pos) (gSub to ti t):=by
  intro pins s σ H v u Q I r h
  rw [ha]
  refine wpAny_bind (wpAny_holding (thn (ho pins s σ H _ I h) fun ov s1 ⟨x,H1,I1,r1,q1⟩=>?_))
  refine wpAny_bind (wpAny_holding (thn (hi pins s1 σ H1 _ I1 q1) fun iv s2 ⟨y,H2,I2,r2,q2⟩=>?_))
  refine wpAny_bind (wpAny_standAt (wpAny_bind (wpAny_holding (thn (hs pins s2 σ H2 x y v ov iv u _ I2 r1 r2 r q2) fun _ s3 ⟨H3,I3,q3⟩=>?_))))
  exact wpAny_release ⟨σ,H3,I3,q3⟩
def tAsg (te:TE) (g:TG):TS:=fun D σ H=>te σ H fun x H1=>g x σ H1 D.nx
theorem ps_asg {tg e:Expr} {te:TE} {g:TG} (he:PE X e te) (hg:PG X tg g) (hs:swapsWithSole [tg] e pos.line X.env=pure false:=by rfl) (hw:swappedStores [tg] e X.env=pure none:=by rfl)
    (h1:(assignEach [tg] X.env).map (·.2)=[assign tg X.env]:=by rfl):PS X (.Assign [tg] e pos) (tAsg te g):=by
  intro pins s σ H D I h
  refine wpAny_Assign_stores (thn (he pins s σ H _ I h) fun v s1 ⟨x,H1,I1,r1,q1⟩=>?_) hs hw
  rw [h1]
  exact thn (hg pins s1 σ H1 x v _ I1 r1 q1) fun _ s2 q=>q
theorem ps_set {i:Nat} {x:Str} {e:Expr} {te:TE} {pos':Pos} (hN:X.N.Nodup) (hi:X.N[i]? = some x) (hx:Loc X.env.scope x) (he:PE X e te) (hs:swapsWith e (some (.Name x pos')) pos.line X.env=pure false:=by rfl) (hf:X.fn x=true∨X.env.scope.names.lookup x=some .local:=by first | exact .inl rfl | exact .inr rfl | assumption) :
    PS X (.Assign [.Name x pos'] e pos) (tAsg te (gName i)):=by
  intro pins s σ H D I h
  refine wpAny_Assign_Name (thn (he pins s σ H _ I h) fun v s1 ⟨y,H1,I1,r1,q1⟩=>?_) hs
  exact store_ok I1 hN hi hx r1 (fun s2 I2=>⟨_,H1,I2,q1⟩) hf
end
section
variable {X:Cx} {pos:Pos}
def tWhile (c:TT) (tb:TS):TS:=fun D σ H=>∃ W:Nat→St→Hp→Prop,(∃ m,W m σ H)∧∀ m σ H,W m σ H →
  c σ H fun b H1=>if b=true then ∃ N:St→Hp→Prop,(∀ σ' H',N σ' H'→∃ m',m' < m∧W m' σ' H')∧tb { D with nx:=N,ct:=N,bk:=D.nx } σ H1 else D.nx σ H1
theorem ps_while {c:Expr} {body:List Stmt} {tc:TT} {tb:TS} (hp:PassesOwn (model X.prog X.w) X.A X.env X.xe) (hc:PT X c tc) (hb:PSs X body tb):PS X (.While c body [] pos) (tWhile tc tb):=by
  intro pins s σ H D I h
  obtain ⟨W,⟨m0,w0⟩,turn⟩:=h
  refine wpAny_While (codeAny_whileLoop (fun n s'=>∃ σ' H',Inv X pins σ' H' s'∧W n σ' H') ?_ m0 ⟨σ,H,I,w0⟩)
  rintro n s1 ⟨σ1,H1,I1,w1⟩
  refine wpAny_passesOwn hp (thn (hc pins s1 σ1 H1 _ I1 (turn n σ1 H1 w1)) fun b s2 ⟨H2,I2,q2⟩=>?_)
  cases b with
  | true =>
    obtain ⟨N,hN,q2⟩:=q2
    rw [if_pos rfl]
    refine wpAny_passesOwn hp (thn (hb pins s2 σ1 H2 _ I2 q2) fun f s3 q3=>?_)
    cases f with
    | next =>
      obtain ⟨σ3,H3,I3,n3⟩:=q3
      obtain ⟨m',hm,w3⟩:=hN σ3 H3 n3
      exact ⟨m',hm,σ3,H3,I3,w3⟩
    | cont =>
      obtain ⟨σ3,H3,I3,n3⟩:=q3
      obtain ⟨m',hm,w3⟩:=hN σ3 H3 n3
      exact ⟨m',hm,σ3,H3,I3,w3⟩
    | brk=>exact q3
    | ret v=>exact q3
  | false =>
    rw [if_neg Bool.false_ne_true]
    exact wpAny_execs_nil ⟨σ1,H2,I2,q2⟩
end
structure It where
  go:Nat→Hp→Prop
  yld:Nat→Hp→V→Hp→Prop
  stop:Nat→Hp→Prop
def FpOk (X:Cx) (pins:List (Addr × Obj)) (H:Hp) (b:Addr):Prop :=
  H b=none∧b≠X.env.locals∧b ∉ X.fs∧(b ∈ X.ex∨X.s₀.heap.objs.size≤b)∧(∀ x c,X.env.cells.lookup x=some c→c≠b)∧∀ p ∈ X.pn ++ pins,p.1≠b
theorem Inv.fpOk {X:Cx} {pins:List (Addr × Obj)} {σ:St} {H H':Hp} {s:Shared} {b:Addr} (I:Inv X pins σ H s) (hb:s.heap.objs.size≤b) (hn:H' b=none):FpOk X pins H' b:=by
  refine ⟨hn,Nat.ne_of_gt (Nat.lt_of_lt_of_le I.lt hb),I.nofs hb,.inr (Nat.le_trans I.sz hb),fun x c e z=>?_,fun p hp z=>?_⟩
  · obtain ⟨v,q⟩:=I.cell x c e
    exact absurd (Nat.lt_of_lt_of_le q.lt (by rw [z]; exact hb)) (Nat.lt_irrefl _)
  · exact absurd (Nat.lt_of_lt_of_le (Heap.lt_size (I.pin p hp).1) (by rw [z]; exact hb)) (Nat.lt_irrefl _)
structure Turn (P:Program) (w:World) (K:PySem.W.Frag) (tg:Expr) (J:It) (fp:List Addr) (it:Addr) (tn:Nat→Heap→Prop):Prop where
  mem:it ∈ fp
  obj:∀ i h,tn i h→∀ b ∈ fp,∃ o,h.get? b=some o∧∀ v,o.data≠.cell v
  keep:∀ i h h',tn i h→(∀ b ∈ fp,∀ o,h.get? b=some o→h'.get? b=some o)→tn i h'
  item:∀ (X:Cx),X.prog=P→X.w=w→X.K=K→X.calm=true→∀ (i:Nat) (pins:List (Addr × Obj)) (s:Shared) (σ:St) (H:Hp) (E:Value→Shared→Prop),Inv X pins σ H s→(∀ b ∈ fp,FpOk X pins H b)→tn i s.heap→J.go i H →
    wpAny (model P w) X.A (pyNext (.ref it)) (fun r s1=>∃ u,r=some u ∧
      wpAny (model P w) X.A (letOwnedTupleGo tg (.ref it) u) (fun _ s2=>∃ x H',Inv X pins σ H' s2∧RelV x u∧J.yld i H x H'∧tn (i+1) s2.heap∧∀ b ∈ fp,H' b=none) E s1) E s
  done:∀ (X:Cx),X.prog=P→X.w=w→X.K=K→X.calm=true→∀ (i:Nat) (pins:List (Addr × Obj)) (s:Shared) (σ:St) (H:Hp) (E:Value→Shared→Prop),Inv X pins σ H s→(∀ b ∈ fp,FpOk X pins H b)→tn i s.heap→J.stop i H →
    wpAny (model P w) X.A (pyNext (.ref it)) (fun r s1=>r=none∧Inv X pins σ H s1) E s
  self:∀ (A:Around) (i:Nat) (s:Shared) (Q:Value→Shared→Prop) (E:Value→Shared→Prop),tn i s.heap→Q (.ref it) s→wpAny (model P w) A (pyIter (.ref it)) Q E s
abbrev TI:=St→Hp→(It→Hp→Prop)→Prop
def PIE (X:Cx) (pins:List (Addr × Obj)) (σ:St) (tg:Expr) (R:It→Hp→Prop) (itv:Value) (s2:Shared):Prop :=
  ∃ (it:Addr) (fp:List Addr) (tn:Nat→Heap→Prop) (J:It) (H':Hp),itv = .ref it∧Inv X pins σ H' s2∧Turn X.prog X.w X.K tg J fp it tn∧tn 0 s2.heap∧(∀ b ∈ fp,FpOk X pins H' b)∧R J H'
def PI (X : Cx) (tg iter : Expr) (wi : TI) : Prop :=
  ∀ (pins : List (Addr × Obj)) (s : Shared) (σ : St) (H : Hp) (R : It → Hp → Prop), Inv X pins σ H s → wi σ H R →
    wpAny (model X.prog X.w) X.A (eval iter X.env) (fun v s1=>wpAny (model X.prog X.w) X.A (pyIter v) (PIE X pins σ tg R) X.xe s1) X.xe s
theorem go_of {M : Model} {A : Around} {E : Value → Shared → Prop} {s : Shared} {tg : Expr} {it : Addr} {u : Value} {o : Obj} {n : String} {vs : Array Value} {Q : Unit → Shared → Prop} (ho : s.heap.get? it = some o) (hc : o.cls = .type n) (hd : o.data = .fields vs)
    (hn:["enumerate","zip","dict_itemiterator","dict_reverseitemiterator","odict_iterator","itertools.zip_longest","itertools.pairwise"].contains n=false) (hQ:Q () s):wpAny M A (letOwnedTupleGo tg (.ref it) u) Q E s:=by
  unfold letOwnedTupleGo
  cases tg <;> first
    | exact wpAny_pure hQ
    | (cases u <;> first
        | exact wpAny_pure hQ
        | (refine wpAny_bind (wpAny_load ho ?_)
           rw [hc,hd]
           show wpAny M A (if (["enumerate","zip","dict_itemiterator","dict_reverseitemiterator","odict_iterator","itertools.zip_longest","itertools.pairwise"].contains n && vs[0]? == some (rawInt _))=true then _ else _) Q E s
           rw [if_neg (by intro h; rw [hn,Bool.false_and] at h; cases h)]
           exact wpAny_pure hQ))
def Itl (K:PySem.W.Frag) (a:Addr):It :=
  ⟨fun i H=>∃ xs x,SqL K H a xs∧xs[i]? = some x,fun i H x H'=>H'=H∧∀ xs,SqL K H a xs→xs[i]? = some x,fun i H=>∃ xs,SqL K H a xs∧xs.length≤i⟩
def Itt (K:PySem.W.Frag) (a:Addr):It :=
  ⟨fun i H=>∃ xs x,SqT K H a xs∧xs[i]? = some x,fun i H x H'=>H'=H∧∀ xs,SqT K H a xs→xs[i]? = some x,fun i H=>∃ xs,SqT K H a xs∧xs.length≤i⟩
def Itr (lo:Int) (n:Nat):It:=⟨fun i _=>i < n,fun i H x H'=>H'=H∧x = .int (lo+i),fun i _=>n≤i⟩
theorem turn_list {P:Program} {w:World} {K:PySem.W.Frag} {tg:Expr} (a it:Addr):Turn P w K tg (Itl K a) [it] it (fun i h=>h.IsListIter it a i) where
  mem:=by simp
  obj:=fun i h st b hb=>by
    have e:b=it:=by simpa using hb
    subst e
    obtain ⟨o,e,c,d⟩:=st
    exact ⟨o,e,fun v z=>by rw [d] at z; cases z⟩
  keep:=fun i h h' st k=>st.at fun o e=>k it (by simp) o e
  item:=by
    intro X hP hw hK hc i pins s σ H E I hf st hg
    subst hP hw hK
    obtain ⟨xs,x,hq,hx⟩:=hg
    obtain ⟨its,rv,p,hz⟩:=I.list hq
    obtain ⟨u,hu,ru⟩:=rv.get hx
    obtain ⟨f0,f1,f2,f3,f4,f5⟩:=hf it (by simp)
    refine wpAny_pyNext_list_item st p.isList (x:=u) (by simpa using hu) fun h' st' sb=>?_
    have I1:Inv X pins σ H { s with heap:=h' }:=I.turned (t':=s.toks) (fun b o hb e=>(sb.2 b hb).trans e) f0 f1 f3 f4 f5
    obtain ⟨o,e,c,d⟩:=id st'
    exact ⟨u,rfl,go_of (s:={ s with heap:=h' }) e c d (by decide) ⟨x,H,I1,ru,⟨rfl,fun ys hy=>by rw [I.list_inj hy hq]; exact hx⟩,st',fun b hb=>(hf b hb).1⟩⟩
  done:=by
    intro X hP hw hK hc i pins s σ H E I hf st hg
    subst hP hw hK
    obtain ⟨xs,hq,hx⟩:=hg
    obtain ⟨its,rv,p,hz⟩:=I.list hq
    obtain ⟨f0,f1,f2,f3,f4,f5⟩:=hf it (by simp)
    have hl:=rv.length
    exact wpAny_pyNext_list_end (I.ok.hd hc) st p.isList (by simp; omega) fun h' eb=>⟨rfl,I.turned (t':=s.toks) (fun b o hb e=>eb b o hb e) f0 f1 f3 f4 f5⟩
  self:=fun _ _ _ _ _ st h=>wpAny_pyIter_listiter st h
theorem turn_tuple {P:Program} {w:World} {K:PySem.W.Frag} {tg:Expr} (a it:Addr):Turn P w K tg (Itt K a) [it] it (fun i h=>h.IsTupleIter it a i) where
  mem:=by simp
  obj:=fun i h st b hb=>by
    have e:b=it:=by simpa using hb
    subst e
    obtain ⟨o,e,c,d⟩:=st
    exact ⟨o,e,fun v z=>by rw [d] at z; cases z⟩
  keep:=fun i h h' st k=>st.at fun o e=>k it (by simp) o e
  item:=by
    intro X hP hw hK hc i pins s σ H E I hf st hg
    subst hP hw hK
    obtain ⟨xs,x,hq,hx⟩:=hg
    obtain ⟨its,rv,p,hz⟩:=I.tuple hq
    obtain ⟨u,hu,ru⟩:=rv.get hx
    obtain ⟨f0,f1,f2,f3,f4,f5⟩:=hf it (by simp)
    refine wpAny_pyNext_tuple_item st (show s.heap.IsTuple a its.toArray from p) (x:=u) (by simpa using hu) fun h' st' sb=>?_
    have I1:Inv X pins σ H { s with heap:=h' }:=I.turned (t':=s.toks) (fun b o hb e=>(sb.2 b hb).trans e) f0 f1 f3 f4 f5
    obtain ⟨o,e,c,d⟩:=id st'
    exact ⟨u,rfl,go_of (s:={ s with heap:=h' }) e c d (by decide) ⟨x,H,I1,ru,⟨rfl,fun ys hy=>by rw [I.tuple_inj hy hq]; exact hx⟩,st',fun b hb=>(hf b hb).1⟩⟩
  done:=by
    intro X hP hw hK hc i pins s σ H E I hf st hg
    subst hP hw hK
    obtain ⟨xs,hq,hx⟩:=hg
    obtain ⟨its,rv,p,hz⟩:=I.tuple hq
    obtain ⟨f0,f1,f2,f3,f4,f5⟩:=hf it (by simp)
    have hl:=rv.length
    exact wpAny_pyNext_tuple_end (I.ok.hd hc) st (show s.heap.IsTuple a its.toArray from p) (by simp; omega) fun h' eb=>⟨rfl,I.turned (t':=s.toks) (fun b o hb e=>eb b o hb e) f0 f1 f3 f4 f5⟩
  self:=fun _ _ _ _ _ st h=>wpAny_pyIter_tupleiter st h
theorem turn_range {P:Program} {w:World} {K:PySem.W.Frag} {tg:Expr} (it:Addr) (lo:Int) (n:Nat):Turn P w K tg (Itr lo n) [it] it (fun i h=>IsRangeIter h it (lo+(i:Nat) * 1) ((n:Int) - (i:Nat)) 1) where
  mem:=by simp
  obj := fun i h st b hb => by
    have e:b=it:=by simpa using hb
    subst e
    exact ⟨_,st,fun v z=>by
      have z':Data.fields _=Data.cell v:=z
      cases z'⟩
  keep:=fun i h h' st k=>k it (by simp) _ st
  item:=by
    intro X hP hw hK hc i pins s σ H E I hf st hg
    subst hP hw hK
    obtain ⟨f0,f1,f2,f3,f4,f5⟩:=hf it (by simp)
    have W:=Walks.range (prog:=X.prog) (w:=X.w) (I.ok.hd hc) it lo 1 n
    refine W.item i s _ _ hg st fun v h' tk hv st' kk=>?_
    obtain ⟨t,rfl⟩:=hv
    have I1:Inv X pins σ H { s with heap:=h',toks:=tk }:=I.turned (fun b o hb e=>kk b o (by simpa using hb) e) f0 f1 f3 f4 f5
    refine ⟨_,rfl,go_of (s:={ s with heap:=h',toks:=tk }) (n:="range_iterator") st' rfl rfl (by decide) ⟨.int (lo+i),H,I1,⟨t,?_⟩,⟨rfl,rfl⟩,st',fun b hb=>(hf b hb).1⟩⟩
    rw [Int.mul_one]
  done:=by
    intro X hP hw hK hc i pins s σ H E I hf st hg
    subst hP hw hK
    obtain ⟨f0,f1,f2,f3,f4,f5⟩:=hf it (by simp)
    exact wpAny_pyNext_range_end (I.ok.hd hc) st (by have:n≤i:=hg; omega) fun h' eb=>⟨rfl,I.turned (t':=s.toks) (fun b o hb e=>eb b o hb e) f0 f1 f3 f4 f5⟩
  self:=fun _ _ _ _ _ st h=>wpAny_pyIter_rangeiter st h
end L2
namespace L2
open PySem PySem.Spec PyProof.Rows
section
variable {X:Cx} {tg:Expr}
theorem range_it {pins:List (Addr × Obj)} {σ:St} {H:Hp} {s:Shared} {R:It→Hp→Prop} {E:Value→Shared→Prop} {lo hi:Int} {t u v:Tok} {tk:Nat} (I:Inv X pins σ H s) (h1:-(2 ^ 62)≤lo) (h2:lo < 2 ^ 62) (h3:-(2 ^ 62)≤hi) (h4:hi < 2 ^ 62)
    (q:R (Itr lo (hi - lo).toNat) H):wpAny (model X.prog X.w) X.A (pyIter (.ref s.heap.objs.size)) (PIE X pins σ tg R) E { s with heap:=s.heap.push { cls:=.type "range",data:=.fields #[.int lo t,.int hi u,.int 1 v] },toks:=tk }:=by
  refine wpAny_pyIter_range (IsRange.new ..) (small_one h1 h2 h3 h4) ?_
  have I1:Inv X pins σ H { s with heap:=s.heap.push { cls:=.type "range",data:=.fields #[.int lo t,.int hi u,.int 1 v] },toks:=tk }:=I.kept fun b o e=>Heap.get?_push_of_some _ e
  refine ⟨(s.heap.push { cls:=.type "range",data:=.fields #[.int lo t,.int hi u,.int 1 v] }).objs.size,[(s.heap.push { cls:=.type "range",data:=.fields #[.int lo t,.int hi u,.int 1 v] }).objs.size],_,_,H,rfl,
    I1.kept (t':=tk) fun b o e=>Heap.get?_push_of_some _ e,turn_range _ lo (hi - lo).toNat,?_,fun b hb=>?_,q⟩
  · have e1:lo+((0:Nat):Int) * 1=lo:=by simp
    have e2:(((hi - lo).toNat:Nat):Int) - ((0:Nat):Int)=Builtin.Range.rangeSize lo hi 1:=by rw [rangeSize_one]; split <;> omega
    show IsRangeIter _ _ (lo+((0:Nat):Int) * 1) ((((hi - lo).toNat:Nat):Int) - ((0:Nat):Int)) 1
    rw [e1,e2]
    exact Heap.get?_push_size _ rfl
  · have e:b=(s.heap.push { cls:=.type "range",data:=.fields #[.int lo t,.int hi u,.int 1 v] }).objs.size:=by simpa using hb
    subst e
    exact I1.fpOk (Nat.le_refl _) (I1.hok.fresh (Nat.le_refl _))
def iRng1 (ta:TA):TI:=fun σ H R=>ta σ H fun vs H1=>∃ j:Int,vs=[.int j]∧-(2 ^ 62)≤j∧j < 2 ^ 62∧R (Itr 0 j.toNat) H1
theorem pi_range1 {a:Expr} {ta:TA} {p pos:Pos} (hg:Gl X "range") (hm:X.mg "range" = none) (ha:PA X [a] ta) (hs:starEach [a] X.env=[(false,eval a X.env)]:=by rfl):PI X tg (.Call (.Name "range" p) [a] [] pos) (iRng1 ta):=by
  intro pins s σ H R I h
  refine Call_ (ld_blt I hg hm boot_range (PyProof.Rows.callWith_type1 (thn (ha pos pins s σ H _ I h) fun us s1 ⟨vs,H1,I1,r1,q1⟩=>?_) hs rfl))
  obtain ⟨j,e,q1,q2,q⟩:=q1
  subst e
  cases r1 with
  | cons r rr =>
    cases rr
    obtain ⟨t,rfl⟩:=r
    exact call_range_1 (range_it I1 (by omega) (by omega) q1 q2 (by simpa using q))
def tFor (wi:TI) (g:TG) (tb:TS):TS:=fun D σ H=>wi σ H fun J H1=>∃ W:Nat→Nat→St→Hp→Prop,(∃ m,W 0 m σ H1)∧∀ i m σ H,W i m σ H →
  (J.stop i H∧D.nx σ H)∨(J.go i H∧∃ N:St→Hp→Prop,(∀ σ' H',N σ' H'→∃ m',m' < m∧W (i+1) m' σ' H')∧∀ x H',J.yld i H x H'→g x σ H' fun σ2 H2=>tb { D with nx:=N,ct:=N,bk:=D.nx } σ2 H2)
def pinsAt (fp:List Addr) (h:Heap):List (Addr × Obj):=fp.filterMap fun b=>(h.get? b).map fun o=>(b,o)
theorem mem_pinsAt {fp:List Addr} {h:Heap} {b:Addr} {o:Obj} (hb:b ∈ fp) (e:h.get? b=some o):(b,o) ∈ pinsAt fp h:=List.mem_filterMap.mpr ⟨b,hb,by rw [e]; rfl⟩
theorem of_pinsAt {fp:List Addr} {h:Heap} {p:Addr × Obj} (hp:p ∈ pinsAt fp h):p.1 ∈ fp∧h.get? p.1=some p.2:=by
  obtain ⟨b,hb,e⟩:=List.mem_filterMap.mp hp
  cases q:h.get? b with
  | none=>rw [q] at e; cases e
  | some o =>
    rw [q] at e
    have e':(b,o)=p:=Option.some.inj e
    subst e'
    exact ⟨hb,q⟩
theorem Inv.pinned {pins:List (Addr × Obj)} {σ:St} {H:Hp} {s:Shared} {fp:List Addr} (I:Inv X pins σ H s) (hf:∀ b ∈ fp,FpOk X pins H b) (ho:∀ b ∈ fp,∃ o,s.heap.get? b=some o∧∀ v,o.data≠.cell v):Inv X (pins ++ pinsAt fp s.heap) σ H s :=
  I.pins_of fun p hp=>(List.mem_append.mp hp).elim (fun z=>I.pin p (List.mem_append_right _ z)) fun z=>by
    obtain ⟨hb,e⟩:=of_pinsAt z
    obtain ⟨f0,f1,f2,_⟩:=hf p.1 hb
    obtain ⟨o,e',d⟩:=ho p.1 hb
    rw [e] at e'; cases e'
    exact ⟨e,f0,f1,f2,d⟩
theorem Inv.unpinned {pins pl:List (Addr × Obj)} {σ:St} {H:Hp} {s:Shared} (I:Inv X (pins ++ pl) σ H s):Inv X pins σ H s:=I.pins_of fun p hp=>I.pin p (List.mem_append_right _ (List.mem_append_left _ hp))
theorem ps_for {iter:Expr} {body:List Stmt} {wi:TI} {g:TG} {tb:TS} {pos:Pos} (hp:PassesOwn (model X.prog X.w) X.A X.env X.xe) (hc:X.calm=true) (hi:PI X tg iter wi) (hg:PG X tg g) (hb:PSs X body tb)
    (hs:∀ x,foldedSetIterable iter X.env x=pure x:=by intro _; rfl):PS X (.For tg iter body [] pos) (tFor wi g tb):=by
  intro pins s σ H D I h
  refine wpAny_For (thn (hi pins s σ H _ I h) fun v s1 h1=>thn h1 fun itv s2 h2=>?_) hs
  obtain ⟨it,fp,tn,J,H2,e,I2,T,st2,f2,W,⟨m0,w0⟩,turn⟩:=h2
  subst e
  -- what stays true of the iterator's objects through the loop
  have stat:∀ {H':Hp},(∀ b ∈ fp,H' b=none)→∀ b ∈ fp,FpOk X pins H' b:=fun hn b hb=>⟨hn b hb,(f2 b hb).2⟩
  refine codeAny_forLoop_any (fun n s'=>∃ i σ' H',Inv X pins σ' H' s'∧tn i s'.heap∧(∀ b ∈ fp,H' b=none)∧W i n σ' H') ?_ m0 ⟨0,σ,H2,I2,st2,fun b hb=>(f2 b hb).1,w0⟩
  rintro n s3 ⟨i,σ3,H3,I3,st3,fr3,w3⟩
  rcases turn i n σ3 H3 w3 with ⟨stop,qn⟩ | ⟨go,N,hN,step⟩
  · refine wpAny_passesOwn hp (thn (T.done X rfl rfl rfl hc i pins s3 σ3 H3 X.xe I3 (stat fr3) st3 stop) fun r s4 ⟨hr,I4⟩=>?_)
    subst hr
    exact wpAny_execs_nil ⟨σ3,H3,I4,qn⟩
  · refine wpAny_passesOwn hp (thn (T.item X rfl rfl rfl hc i pins s3 σ3 H3 X.xe I3 (stat fr3) st3 go) fun r s4 ⟨u,hr,h4⟩=>?_)
    subst hr
    refine wpAny_passesOwn hp (thn h4 fun _ s5 ⟨x,H5,I5,r5,y5,st5,fr5⟩=>?_)
    have I5':=I5.pinned (stat fr5) (T.obj _ _ st5)
    refine wpAny_passesOwn hp (thn (hg _ s5 σ3 H5 x u _ I5' r5 (step x H5 y5)) fun _ s6 ⟨σ6,H6,I6,q6⟩=>?_)
    refine wpAny_passesOwn hp (thn (hb _ s6 σ6 H6 _ I6 q6) fun f s7 q7=>?_)
    have again:∀ {σ7:St} {H7:Hp},Inv X (pins ++ pinsAt fp s5.heap) σ7 H7 s7→N σ7 H7→∃ m,m < n∧∃ i σ' H',Inv X pins σ' H' s7∧tn i s7.heap∧(∀ b ∈ fp,H' b=none)∧W i m σ' H':=fun {σ7 H7} I7 n7=>by
      obtain ⟨m',hm,w7⟩:=hN σ7 H7 n7
      refine ⟨m',hm,i+1,σ7,H7,I7.unpinned,T.keep _ _ _ st5 fun b hb o e=>(I7.pin (b,o) (List.mem_append_right _ (List.mem_append_right _ (mem_pinsAt hb e)))).1,fun b hb=>?_,w7⟩
      obtain ⟨o,e,d⟩:=T.obj _ _ st5 b hb
      exact (I7.pin (b,o) (List.mem_append_right _ (List.mem_append_right _ (mem_pinsAt hb e)))).2.1
    cases f with
    | next=>obtain ⟨σ7,H7,I7,n7⟩:=q7; exact again I7 n7
    | cont=>obtain ⟨σ7,H7,I7,n7⟩:=q7; exact again I7 n7
    | brk=>obtain ⟨σ7,H7,I7,q7⟩:=q7; exact ⟨σ7,H7,I7.unpinned,q7⟩
    | ret v=>obtain ⟨x7,σ7,H7,I7,r7,q7⟩:=q7; exact ⟨x7,σ7,H7,I7.unpinned,r7,q7⟩
end
theorem for_list {K:PySem.W.Frag} {a:Addr} {xs:List V} {g:TG} {tb:TS} {D:Ends} {σ:St} {H:Hp} (Pv:Nat→St→Hp→Prop) (h0:Pv 0 σ H) (hl:∀ i σ H,i≤xs.length→Pv i σ H→SqL K H a xs)
    (hs:∀ i x σ H,xs[i]? = some x→Pv i σ H→g x σ H fun σ2 H2=>tb { D with nx:=Pv (i+1),ct:=Pv (i+1),bk:=D.nx } σ2 H2) (hd:∀ σ H,Pv xs.length σ H→D.nx σ H) :
    ∃ W : Nat → Nat → St → Hp → Prop, (∃ m, W 0 m σ H) ∧ ∀ i m σ H, W i m σ H →
      ((Itl K a).stop i H∧D.nx σ H)∨((Itl K a).go i H∧∃ N:St→Hp→Prop,(∀ σ' H',N σ' H'→∃ m',m' < m∧W (i+1) m' σ' H')∧∀ x H',(Itl K a).yld i H x H'→g x σ H' fun σ2 H2=>tb { D with nx:=N,ct:=N,bk:=D.nx } σ2 H2):=by
  refine ⟨fun i m σ H=>m=xs.length - i∧i≤xs.length∧Pv i σ H,⟨xs.length,by simp,Nat.zero_le _,h0⟩,?_⟩
  rintro i m σ H ⟨rfl,hi,p⟩
  have q:=hl i σ H hi p
  by_cases hlt:i < xs.length
  · refine .inr ⟨⟨xs,xs[i],q,by simp [hlt]⟩,Pv (i+1),fun σ' H' p'=>⟨xs.length - (i+1),by omega,rfl,hlt,p'⟩,fun x H' y=>?_⟩
    obtain ⟨e,y⟩:=y
    subst e
    exact hs i x σ _ (y xs q) p
  · have e:i=xs.length:=by omega
    subst e
    exact .inl ⟨⟨xs,q,Nat.le_refl _⟩,hd σ H p⟩
theorem for_tup {K:PySem.W.Frag} {a:Addr} {xs:List V} {g:TG} {tb:TS} {D:Ends} {σ:St} {H:Hp} (Pv:Nat→St→Hp→Prop) (h0:Pv 0 σ H) (hl:∀ i σ H,i≤xs.length→Pv i σ H→SqT K H a xs)
    (hs:∀ i x σ H,xs[i]? = some x→Pv i σ H→g x σ H fun σ2 H2=>tb { D with nx:=Pv (i+1),ct:=Pv (i+1),bk:=D.nx } σ2 H2) (hd:∀ σ H,Pv xs.length σ H→D.nx σ H) :
    ∃ W : Nat → Nat → St → Hp → Prop, (∃ m, W 0 m σ H) ∧ ∀ i m σ H, W i m σ H →
      ((Itt K a).stop i H∧D.nx σ H)∨((Itt K a).go i H∧∃ N:St→Hp→Prop,(∀ σ' H',N σ' H'→∃ m',m' < m∧W (i+1) m' σ' H')∧∀ x H',(Itt K a).yld i H x H'→g x σ H' fun σ2 H2=>tb { D with nx:=N,ct:=N,bk:=D.nx } σ2 H2):=by
  refine ⟨fun i m σ H=>m=xs.length - i∧i≤xs.length∧Pv i σ H,⟨xs.length,by simp,Nat.zero_le _,h0⟩,?_⟩
  rintro i m σ H ⟨rfl,hi,p⟩
  have q:=hl i σ H hi p
  by_cases hlt:i < xs.length
  · refine .inr ⟨⟨xs,xs[i],q,by simp [hlt]⟩,Pv (i+1),fun σ' H' p'=>⟨xs.length - (i+1),by omega,rfl,hlt,p'⟩,fun x H' y=>?_⟩
    obtain ⟨e,y⟩:=y
    subst e
    exact hs i x σ _ (y xs q) p
  · have e:i=xs.length:=by omega
    subst e
    exact .inl ⟨⟨xs,q,Nat.le_refl _⟩,hd σ H p⟩
end L2
namespace L2
open PySem PySem.Spec PyProof.Rows
abbrev R2:=V→V→Hp→VK→Prop
def OpR (X : Cx) (f : Value → Value → Sem Value) (r : R2) : Prop :=
  ∀ (pins : List (Addr × Obj)) (s : Shared) (σ : St) (H : Hp) (x y : V) (v u : Value) (Q : VK), Inv X pins σ H s → RelV x v → RelV y u → r x y H Q →
    wpAny (model X.prog X.w) X.A (f v u) (EP X pins σ Q) X.xe s
def UnR (X : Cx) (f : Value → Sem Value) (r : V → Hp → VK → Prop) : Prop :=
  ∀ (pins : List (Addr × Obj)) (s : Shared) (σ : St) (H : Hp) (x : V) (v : Value) (Q : VK), Inv X pins σ H s → RelV x v → r x H Q →
    wpAny (model X.prog X.w) X.A (f v) (EP X pins σ Q) X.xe s
def CallR (X : Cx) (f : Value) (r : List V → Hp → VK → Prop) : Prop :=
  ∀ (pins : List (Addr × Obj)) (s : Shared) (σ : St) (H : Hp) (xs : List V) (us : List Value) (Q : VK), Inv X pins σ H s → Vals xs us → r xs H Q →
    wpAny (model X.prog X.w) X.A (call f us) (EP X pins σ Q) X.xe s
def TruR (X : Cx) (r : V → Hp → (Bool → Hp → Prop) → Prop) : Prop :=
  ∀ (pins : List (Addr × Obj)) (s : Shared) (σ : St) (H : Hp) (x : V) (v : Value) (Q : Bool → Hp → Prop), Inv X pins σ H s → RelV x v → r x H Q →
    wpAny (model X.prog X.w) X.A (truthy v) (TP X pins σ Q) X.xe s
def tOp (r:R2) (ta tb:TE):TE:=fun σ H Q=>ta σ H fun x H1=>tb σ H1 fun y H2=>r x y H2 Q
def tUn (r:V→Hp→VK→Prop) (ta:TE):TE:=fun σ H Q=>ta σ H fun x H1=>r x H1 Q
def rI (C:Int→Int→Prop) (g:Int→Int→V):R2:=fun x y H Q=>∃ i j,x = .int i∧y = .int j∧C i j∧Q (g i j) H
def rI0 (g:Int→Int→V):R2:=fun x y H Q=>∃ i j,x = .int i∧y = .int j∧Q (g i j) H
def rU (g:Int→V):V→Hp→VK→Prop:=fun x H Q=>∃ i,x = .int i∧Q (g i) H
section
variable {X:Cx} {a b c:Expr} {ta tb tc:TE} {pos:Pos}
theorem binT (ha:PE X a ta) (hb:PE X b tb) {pins:List (Addr × Obj)} {s:Shared} {σ:St} {H:Hp} {R:V→V→Hp→Prop} (I:Inv X pins σ H s)
    (h:ta σ H fun x H1=>tb σ H1 fun y H2=>R x y H2) {Q:Value→Shared→Prop} {f:Value→Value→Sem Value}
    (hf:∀ v u s2 x y H2,Inv X pins σ H2 s2→RelV x v→RelV y u→R x y H2→wpAny (model X.prog X.w) X.A (f v u) Q X.xe s2) :
    wpAny (model X.prog X.w) X.A (eval a X.env) (fun v s₁=>wpAny (model X.prog X.w) X.A (eval b X.env) (fun u s₂=>wpAny (model X.prog X.w) X.A (f v u) Q X.xe s₂) X.xe s₁) X.xe s:=by
  refine thn (ha pins s σ H _ I h) fun v s1 ⟨x,H1,I1,r1,q1⟩=>?_
  refine thn (hb pins s1 σ H1 _ I1 q1) fun u s2 ⟨y,H2,I2,r2,q2⟩=>?_
  exact hf v u s2 x y H2 I2 r1 r2 q2
theorem pe_op {op:Operator} {r:R2} (ho:OpR X (binaryOp op) r) (ha:PE X a ta) (hb:PE X b tb):PE X (.BinOp a op b pos) (tOp r ta tb):=by
  intro pins s σ H Q I h
  exact wpAny_BinOp (binT ha hb I h fun v u s2 x y H2 I2 rx ry q=>ho pins s2 σ H2 x y v u Q I2 rx ry q)
theorem pe_un {op:UnaryOp} {r:V→Hp→VK→Prop} (ho:UnR X (unaryOp op) r) (ha:PE X a ta):PE X (.UnaryOp op a pos) (tUn r ta):=by
  intro pins s σ H Q I h
  exact UnaryOp_ (thn (ha pins s σ H _ I h) fun v s1 ⟨x,H1,I1,r1,q1⟩=>ho pins s1 σ H1 x v Q I1 r1 q1)
theorem opI {f:Value→Value→Sem Value} {C:Int→Int→Prop} {g:Int→Int→Int}
    (rule:∀ (i j:Int) (t u:Tok) (s:Shared) (Q:Value→Shared→Prop) (E:Value→Shared→Prop),C i j→Q (.int (g i j) s.toks) { s with toks:=s.toks+1 }→wpAny (model X.prog X.w) X.A (f (.int i t) (.int j u)) Q E s) :
    OpR X f (rI C fun i j=>.int (g i j)):=by
  intro pins s σ H x y v u Q I rx ry h
  obtain ⟨i,j,rfl,rfl,hc,q⟩:=h
  obtain ⟨t,rfl⟩:=rx
  obtain ⟨t',rfl⟩:=ry
  exact rule i j t t' s _ _ hc ⟨.int (g i j),H,I.tok _,⟨_,rfl⟩,q⟩
theorem opI0 {f:Value→Value→Sem Value} {g:Int→Int→Int}
    (rule:∀ (i j:Int) (t u:Tok) (s:Shared) (Q:Value→Shared→Prop) (E:Value→Shared→Prop),Q (.int (g i j) s.toks) { s with toks:=s.toks+1 }→wpAny (model X.prog X.w) X.A (f (.int i t) (.int j u)) Q E s) :
    OpR X f (rI0 fun i j=>.int (g i j)):=by
  intro pins s σ H x y v u Q I rx ry h
  obtain ⟨i,j,rfl,rfl,q⟩:=h
  obtain ⟨t,rfl⟩:=rx
  obtain ⟨t',rfl⟩:=ry
  exact rule i j t t' s _ _ ⟨.int (g i j),H,I.tok _,⟨_,rfl⟩,q⟩
theorem opB0 {f:Value→Value→Sem Value} {g:Int→Int→Bool}
    (rule:∀ (i j:Int) (t u:Tok) (s:Shared) (Q:Value→Shared→Prop) (E:Value→Shared→Prop),Q (.bool (g i j)) s→wpAny (model X.prog X.w) X.A (f (.int i t) (.int j u)) Q E s) :
    OpR X f (rI0 fun i j=>.bl (g i j)):=by
  intro pins s σ H x y v u Q I rx ry h
  obtain ⟨i,j,rfl,rfl,q⟩:=h
  obtain ⟨t,rfl⟩:=rx
  obtain ⟨t',rfl⟩:=ry
  exact rule i j t t' s _ _ ⟨.bl (g i j),H,I,rfl,q⟩
def CDiv (i j:Int):Prop:=0 < j∧j < 1073741824
def CPow (i j:Int):Prop:=0≤j∧j≤1000000∧i.natAbs < 2 ^ 64
theorem op_add:OpR X (binaryOp .Add) (rI0 fun i j=>.int (i+j)):=opI0 fun _ _ _ _ _ _ _ q=>add_int q
theorem op_sub:OpR X (binaryOp .Sub) (rI0 fun i j=>.int (i - j)):=opI0 fun _ _ _ _ _ _ _ q=>sub_int q
theorem op_fdiv:OpR X (binaryOp .FloorDiv) (rI CDiv fun i j=>.int (i / j)):=opI fun i j _ _ _ _ _ hc q=>by
  have h1:(0:Int) < j:=hc.1
  have h2:j < 1073741824:=hc.2
  exact floordiv_int (by omega) (by rw [Int.fdiv_eq_ediv_of_nonneg i (by omega)]; exact q) (.inl (PyProof.noPylong_small (by omega)))
theorem op_mod:OpR X (binaryOp .Mod) (rI (fun _ j=>0 < j) fun i j=>.int (i % j)):=opI fun i j _ _ _ _ _ hc q=>by
  have h1:(0:Int) < j:=hc
  exact mod_int' (by omega) (by rw [Int.fmod_eq_emod_of_nonneg i (by omega)]; exact q)
theorem op_pow:OpR X (binaryOp .Pow) (rI CPow fun i j=>.int (i ^ j.toNat)):=opI fun _ _ _ _ _ _ _ hc q=>pow_int_small hc.1 hc.2.1 hc.2.2 q
theorem unI {f:Value→Sem Value} {g:Int→Int}
    (rule:∀ (i:Int) (t:Tok) (s:Shared) (Q:Value→Shared→Prop) (E:Value→Shared→Prop),Q (.int (g i) s.toks) { s with toks:=s.toks+1 }→wpAny (model X.prog X.w) X.A (f (.int i t)) Q E s) :
    UnR X f (rU fun i=>.int (g i)):=by
  intro pins s σ H x v Q I rx h
  obtain ⟨i,rfl,q⟩:=h
  obtain ⟨t,rfl⟩:=rx
  exact rule i t s _ _ ⟨.int (g i),H,I.tok _,⟨_,rfl⟩,q⟩
theorem un_neg:UnR X (unaryOp .USub) (rU fun i=>.int (-i)):=unI fun _ _ _ _ _ q=>neg_int q
end
def scal:V→V→Bool
  | .non,.non=>true | .non,.int _=>true | .int _,.non=>true | .non,.bl _=>true | .bl _,.non=>true | .non,.str _=>true | .str _,.non=>true
  | .int _,.int _=>true | .bl _,.bl _=>true | .str _,.str _=>true | .byt _,.byt _=>true
  | .int _,.str _=>true | .str _,.int _=>true | .bl _,.str _=>true | .str _,.bl _=>true
  | _,_=>false
def rEq:R2:=fun x y H Q=>scal x y=true∧Q (.bl (decide (x=y))) H
def rNe:R2:=fun x y H Q=>scal x y=true∧Q (.bl (!decide (x=y))) H
theorem dec_int {i j:Int}:decide (V.int i=V.int j)=(i == j):=by
  rw [Bool.eq_iff_iff]
  simp
theorem dec_bl {i j:Bool}:decide (V.bl i=V.bl j)=(i == j):=by
  rw [Bool.eq_iff_iff]
  simp
theorem dec_str {i j:Str}:decide (V.str i=V.str j)=(i == j):=by
  rw [Bool.eq_iff_iff]
  simp
theorem dec_byt {i j:Array UInt8}:decide (V.byt i=V.byt j)=(i.toList == j.toList):=by
  rw [Bool.eq_iff_iff]
  cases i
  cases j
  simp
section
variable {X:Cx} {a b c:Expr} {ta tb tc:TE} {pos:Pos}
theorem fin_bl {pins:List (Addr × Obj)} {σ:St} {H:Hp} {s:Shared} {Q:VK} {k k':Bool} (I:Inv X pins σ H s) (q:Q (.bl k) H) (e:k=k'):EP X pins σ Q (.bool k') s:=by
  subst e
  exact ⟨.bl k,H,I,rfl,q⟩
theorem op_eq:OpR X (compareOp .Eq) rEq:=by
  intro pins s σ H x y v u Q I rx ry h
  obtain ⟨hs,q⟩:=h
  cases x with
  | non =>
    cases rx
    cases y with
    | non=>cases ry; exact PySem.EqNone.eq_none_none (fin_bl I q (by simp))
    | bl j=>cases ry; exact PySem.EqNone.eq_none_bool (fin_bl I q (by simp))
    | int j=>obtain ⟨t',rfl⟩:=ry; exact PySem.EqNone.eq_none_int (fin_bl I q (by simp))
    | str j=>obtain ⟨t',rfl⟩:=ry; exact PySem.EqNone.eq_none_str (fin_bl I q (by simp))
    | _=>exact absurd (show false=true from hs) Bool.false_ne_true
  | bl i =>
    cases rx
    cases y with
    | non=>cases ry; exact PySem.EqNone.eq_bool_none (fin_bl I q (by simp))
    | bl j=>cases ry; exact eq_bool (fin_bl I q dec_bl)
    | str j=>obtain ⟨t',rfl⟩:=ry; exact PySem.EqMixed.eq_bool_str (fin_bl I q (by simp))
    | _=>exact absurd (show false=true from hs) Bool.false_ne_true
  | int i =>
    obtain ⟨t,rfl⟩:=rx
    cases y with
    | non=>cases ry; exact PySem.EqNone.eq_int_none (fin_bl I q (by simp))
    | int j=>obtain ⟨t',rfl⟩:=ry; exact eq_int (fin_bl I q dec_int)
    | str j=>obtain ⟨t',rfl⟩:=ry; exact PySem.EqMixed.eq_int_str (fin_bl I q (by simp))
    | _=>exact absurd (show false=true from hs) Bool.false_ne_true
  | str i =>
    obtain ⟨t,rfl⟩:=rx
    cases y with
    | non=>cases ry; exact PySem.EqNone.eq_str_none (fin_bl I q (by simp))
    | bl j=>cases ry; exact PySem.EqMixed.eq_str_bool (fin_bl I q (by simp))
    | int j=>obtain ⟨t',rfl⟩:=ry; exact PySem.EqMixed.eq_str_int (fin_bl I q (by simp))
    | str j=>obtain ⟨t',rfl⟩:=ry; exact eq_str (fin_bl I q dec_str)
    | _=>exact absurd (show false=true from hs) Bool.false_ne_true
  | byt i =>
    obtain ⟨t,rfl⟩:=rx
    cases y with
    | byt j=>obtain ⟨t',rfl⟩:=ry; exact PySem.W.eq_bytes (fin_bl I q dec_byt)
    | _=>exact absurd (show false=true from hs) Bool.false_ne_true
  | _=>cases y <;> exact absurd (show false=true from hs) Bool.false_ne_true
theorem op_ne:OpR X (compareOp .NotEq) rNe:=by
  intro pins s σ H x y v u Q I rx ry h
  obtain ⟨hs,q⟩:=h
  cases x with
  | non =>
    cases rx
    cases y with
    | non=>cases ry; exact PySem.EqNone.ne_none_none (fin_bl I q (by simp))
    | bl j=>cases ry; exact PySem.EqNone.ne_none_bool (fin_bl I q (by simp))
    | int j=>obtain ⟨t',rfl⟩:=ry; exact PySem.EqNone.ne_none_int (fin_bl I q (by simp))
    | str j=>obtain ⟨t',rfl⟩:=ry; exact PySem.EqNone.ne_none_str (fin_bl I q (by simp))
    | _=>exact absurd (show false=true from hs) Bool.false_ne_true
  | bl i =>
    cases rx
    cases y with
    | non=>cases ry; exact PySem.EqNone.ne_bool_none (fin_bl I q (by simp))
    | bl j=>cases ry; exact ne_bool (fin_bl I q (congrArg not dec_bl))
    | str j=>obtain ⟨t',rfl⟩:=ry; exact PySem.EqMixed.ne_bool_str (fin_bl I q (by simp))
    | _=>exact absurd (show false=true from hs) Bool.false_ne_true
  | int i =>
    obtain ⟨t,rfl⟩:=rx
    cases y with
    | non=>cases ry; exact PySem.EqNone.ne_int_none (fin_bl I q (by simp))
    | int j=>obtain ⟨t',rfl⟩:=ry; exact ne_int (fin_bl I q (congrArg not dec_int))
    | str j=>obtain ⟨t',rfl⟩:=ry; exact PySem.EqMixed.ne_int_str (fin_bl I q (by simp))
    | _=>exact absurd (show false=true from hs) Bool.false_ne_true
  | str i =>
    obtain ⟨t,rfl⟩:=rx
    cases y with
    | non=>cases ry; exact PySem.EqNone.ne_str_none (fin_bl I q (by simp))
    | bl j=>cases ry; exact PySem.EqMixed.ne_str_bool (fin_bl I q (by simp))
    | int j=>obtain ⟨t',rfl⟩:=ry; exact PySem.EqMixed.ne_str_int (fin_bl I q (by simp))
    | str j=>obtain ⟨t',rfl⟩:=ry; exact ne_str (fin_bl I q (congrArg not dec_str))
    | _=>exact absurd (show false=true from hs) Bool.false_ne_true
  | byt i =>
    obtain ⟨t,rfl⟩:=rx
    cases y with
    | byt j=>obtain ⟨t',rfl⟩:=ry; exact PySem.W.ne_bytes (fin_bl I q (congrArg not dec_byt))
    | _=>exact absurd (show false=true from hs) Bool.false_ne_true
  | _=>cases y <;> exact absurd (show false=true from hs) Bool.false_ne_true
theorem op_lt:OpR X (compareOp .Lt) (rI0 fun i j=>.bl (decide (i < j))):=opB0 fun _ _ _ _ _ _ _ q=>lt_int q
theorem op_le:OpR X (compareOp .LtE) (rI0 fun i j=>.bl (decide (i≤j))):=opB0 fun _ _ _ _ _ _ _ q=>le_int q
theorem op_gt:OpR X (compareOp .Gt) (rI0 fun i j=>.bl (decide (j < i))):=opB0 fun _ _ _ _ _ _ _ q=>gt_int q
theorem op_ge:OpR X (compareOp .GtE) (rI0 fun i j=>.bl (decide (j≤i))):=opB0 fun _ _ _ _ _ _ _ q=>ge_int q
theorem OpR.or {f:Value→Value→Sem Value} {r r':R2} (h:OpR X f r) (h':OpR X f r'):OpR X f (fun x y H Q=>r x y H Q∨r' x y H Q):=by
  intro pins s σ H x y v u Q I rx ry q
  rcases q with q | q
  · exact h pins s σ H x y v u Q I rx ry q
  · exact h' pins s σ H x y v u Q I rx ry q
theorem nomark (b:Expr) {op:CmpOp} (h:op≠.In:=by decide) (h2:op≠.NotIn:=by decide):behindInMarks op b=false:=by
  have e1:(op == CmpOp.In)=false:=by cases op <;> first | rfl | exact absurd rfl h
  have e2:(op == CmpOp.NotIn)=false:=by cases op <;> first | rfl | exact absurd rfl h2
  cases b <;> simp [behindInMarks,e1,e2]
theorem pe_cmpR {op:CmpOp} {r:R2} (ho:OpR X (compareOp op) r) (ha:PE X a ta) (hb:PE X b tb) (hm:behindInMarks op b=false):PE X (.Compare a [op] [b] pos) (tOp r ta tb):=by
  intro pins s σ H Q I h
  exact wpAny_Compare1 (binT ha hb I h fun v u s2 x y H2 I2 rx ry q=>ho pins s2 σ H2 x y v u Q I2 rx ry q) hm
def tTest (t:TE):TT:=fun σ H Q=>t σ H fun x H'=>∃ k,x = .bl k∧Q k H'
theorem pt_cmpR {op:CmpOp} {r:R2} (ho:OpR X (compareOp op) r) (ha:PE X a ta) (hb:PE X b tb) (hm:behindInMarks op b=false):PT X (.Compare a [op] [b] pos) (tTest (tOp r ta tb)):=by
  intro pins s σ H Q I h
  refine wpAny_isTrue_Compare1 (thn (ha pins s σ H _ I h) fun v s1 ⟨x,H1,I1,r1,q1⟩=>thn (hb pins s1 σ H1 _ I1 q1) fun u s2 ⟨y,H2,I2,r2,q2⟩ =>
    thn (ho pins s2 σ H2 x y v u _ I2 r1 r2 q2) fun c s3 ⟨z,H3,I3,r3,k,e,q3⟩=>?_) hm
  subst e
  cases r3
  exact wpAny_truthy_bool ⟨H3,I3,q3⟩
def tChain (r r':R2) (ta tb tc:TE):TE:=fun σ H Q=>ta σ H fun x H1=>tb σ H1 fun y H2=>r x y H2 fun z H3=>∃ k,z = .bl k ∧
  (if k=true then tc σ H3 fun w' H4=>r' y w' H4 Q else Q (.bl false) H3)
theorem pe_chain {op op':CmpOp} {r r':R2} (ho:OpR X (compareOp op) r) (ho':OpR X (compareOp op') r') (ha:PE X a ta) (hb:PE X b tb) (hc:PE X c tc)
    (hm:lastMarks [op,op'] [b,c]=false:=by with_unfolding_all rfl):PE X (.Compare a [op,op'] [b,c] pos) (tChain r r' ta tb tc):=by
  intro pins s σ H Q I h
  refine Compare_chain (thn (ha pins s σ H _ I h) fun v s1 ⟨x,H1,I1,r1,q1⟩=>chain_link (thn (hb pins s1 σ H1 _ I1 q1) fun u s2 ⟨y,H2,I2,r2,q2⟩ =>
    thn (ho pins s2 σ H2 x y v u _ I2 r1 r2 q2) fun d s3 ⟨z,H3,I3,r3,k,e,q3⟩=>?_)) hm
  subst e
  cases r3
  refine wpAny_truthy_bool ?_
  cases k with
  | false=>exact ite_ff ⟨.bl false,H3,I3,rfl,q3⟩
  | true=>exact ite_tt (chain_last (thn (hc pins s3 σ H3 _ I3 q3) fun w' s4 ⟨z',H4,I4,r4,q4⟩=>ho' pins s4 σ H4 y z' u w' Q I4 r2 r4 q4))
def TruV (K:PySem.W.Frag) (x:V) (H:Hp) (k:Bool):Prop :=
  match x with
  | .non=>k=false
  | .bl b=>k=b
  | .int i=>k=(i != 0)
  | .str y=>y.length≤sizeLine∧k=((y.length:Int) != 0)
  | .byt y=>y.size≤sizeLine∧k=((y.size:Int) != 0)
  | .ref p=>(∃ xs,SqL K H p xs∧k = !xs.isEmpty)∨(∃ xs,SqT K H p xs∧k = !xs.isEmpty)∨∃ kvs,H p=some (.dK kvs)∧k = !kvs.isEmpty
  | _=>False
theorem isEmpty_kv {κ:Type} {kvs:List (κ × V)} {vs:List (κ × Value)} (r:KV kvs vs):(!vs.isEmpty) = !kvs.isEmpty:=by
  cases r <;> rfl
theorem isEmpty_of {xs:List V} {its:List Value} (r:Vals xs its):(!its.toArray.isEmpty) = !xs.isEmpty:=by
  cases r <;> simp
theorem line63:(sizeLine:Nat) < 2 ^ 63:=by rw [sizeLine_eq]; decide
theorem tru_ok:TruR X (fun x H Q=>∃ k,TruV X.K x H k∧Q k H):=by
  intro pins s σ H x v Q I rx h
  obtain ⟨k,e,q⟩:=h
  have hl:=line63
  have hs:sizeLine=16777216:=sizeLine_eq
  cases x with
  | non =>
    cases rx
    have e':k=false:=e
    subst e'
    exact truthy_none ⟨H,I,q⟩
  | bl b =>
    cases rx
    have e':k=b:=e
    subst e'
    exact wpAny_truthy_bool ⟨H,I,q⟩
  | int i =>
    obtain ⟨t,rfl⟩:=rx
    have e':k=(i != 0):=e
    subst e'
    exact PySem.P.truthy_int ⟨H,I,q⟩
  | str y =>
    obtain ⟨t,rfl⟩:=rx
    obtain ⟨hy,e'⟩:y.length≤sizeLine∧k=((y.length:Int) != 0):=e
    subst e'
    exact PySem.P.truthy_str (by omega) ⟨H,I.tok _,q⟩
  | byt y =>
    obtain ⟨t,rfl⟩:=rx
    obtain ⟨hy,e'⟩:y.size≤sizeLine∧k=((y.size:Int) != 0):=e
    subst e'
    exact PySem.W.truthy_bytes (by omega) ⟨H,I.tok _,q⟩
  | ref p =>
    cases rx
    have e':(∃ xs,SqL X.K H p xs∧k = !xs.isEmpty)∨(∃ xs,SqT X.K H p xs∧k = !xs.isEmpty)∨∃ kvs,H p=some (.dK kvs)∧k = !kvs.isEmpty:=e
    rcases e' with ⟨xs,hx,e'⟩ | ⟨xs,hx,e'⟩ | ⟨kvs,hx,e'⟩
    · subst e'
      obtain ⟨its,r,pl,hz⟩:=I.list hx
      have hlen:=r.length
      exact wpAny_truthy_list pl.isList (by simp only [List.size_toArray]; omega) ⟨H,I.tok _,by rw [isEmpty_of r]; exact q⟩
    · subst e'
      obtain ⟨its,r,pl,hz⟩:=I.tuple hx
      have hlen:=r.length
      exact truthy_tuple pl (by simp only [List.size_toArray]; omega) ⟨H,I.tok _,by rw [isEmpty_of r]; exact q⟩
    · subst e'
      obtain ⟨hz,hS,vs,r,m⟩:kvs.length≤sizeLine∧(p == sysModules)=false∧∃ vs,KV kvs vs∧s.heap.DictOf (mixKind X.prog X.w) p vs:=I.hok p _ hx
      have hlen:kvs.length=vs.length:=Paired.length r
      exact wpAny_truthy_dict hS m (by omega) ⟨H,I.tok _,by rw [isEmpty_kv r]; exact q⟩
  | _=>exact (show False from e).elim
theorem pt_truth (ha:PE X a ta) (he:∀ whole,isTrue a X.env whole=(do let v ← whole; standAt a.pos; holding [v] (truthy v))) :
    PT X a (fun σ H Q=>ta σ H fun x H'=>∃ k,TruV X.K x H' k∧Q k H'):=by
  intro pins s σ H Q I h
  exact isTrue_plain (thn (ha pins s σ H _ I h) fun v s1 ⟨x,H1,I1,r1,q1⟩=>tru_ok pins s1 σ H1 x v Q I1 r1 q1) (he _)
theorem vals1 {x:V} {us:List Value} (r:Vals [x] us):∃ u,us=[u]∧RelV x u:=by
  cases r with
  | cons r1 r2=>cases r2; exact ⟨_,rfl,r1⟩
theorem vals2 {x y:V} {us:List Value} (r:Vals [x,y] us):∃ u w',us=[u,w']∧RelV x u∧RelV y w':=by
  cases r with
  | cons r1 r2 =>
    cases r2 with
    | cons r3 r4=>cases r4; exact ⟨_,_,rfl,r1,r3⟩
theorem call_max2 (hc:X.calm=true):CallR X (.builtin "max") (fun xs H Q=>∃ i j,xs=[.int i,.int j]∧Q (.int (if j > i then j else i)) H):=by
  intro pins s σ H xs us Q I r h
  obtain ⟨i,j,rfl,q⟩:=h
  obtain ⟨u,w',rfl,⟨t,rfl⟩,⟨t',rfl⟩⟩:=vals2 r
  refine max_two_ints (I.ok.hd hc) fun h' tk k=>⟨_,H,I.kept k,?_,q⟩
  by_cases hj:j > i
  · rw [if_pos hj,if_pos hj]; exact ⟨_,rfl⟩
  · rw [if_neg hj,if_neg hj]; exact ⟨_,rfl⟩
theorem call_min2 (hc:X.calm=true):CallR X (.builtin "min") (fun xs H Q=>∃ i j,xs=[.int i,.int j]∧Q (.int (if j < i then j else i)) H):=by
  intro pins s σ H xs us Q I r h
  obtain ⟨i,j,rfl,q⟩:=h
  obtain ⟨u,w',rfl,⟨t,rfl⟩,⟨t',rfl⟩⟩:=vals2 r
  refine min_two_ints (I.ok.hd hc) fun h' tk k=>⟨_,H,I.kept k,?_,q⟩
  by_cases hj:j < i
  · rw [if_pos hj,if_pos hj]; exact ⟨_,rfl⟩
  · rw [if_neg hj,if_neg hj]; exact ⟨_,rfl⟩
end
end L2
namespace L2
open PySem PySem.Spec PyProof.Rows
structure ObjM (h:Heap) (x dx C:Addr) (mA:Str→Option Value):Prop where
  obj:h.get? x=some (PySem.W.instObj C dx)
  ns:h.Ns1 dx mA
  ne:dx≠x
theorem lookIn_ns {h:Heap} {dx:Addr} {mA:Str→Option Value} (n:h.Ns1 dx mA):∃ od,h.get? dx=some od∧∀ name,PySem.W.lookIn name od=some (mA name):=by
  obtain ⟨o,es,ep,ho,hd,hk,_,hm⟩:=n
  refine ⟨o,ho,fun name=>?_⟩
  have e:=hm name
  unfold nsFind findBy at e
  rw [← Array.find?_toList] at e
  unfold PySem.W.lookIn
  rw [hd]
  dsimp only
  split
  · rename_i y q
    rw [q] at e
    exact congrArg some e
  · rename_i q
    rw [q] at e
    have a:es.toList.any (·.refKey)=false:=by
      rw [List.any_eq_false]
      intro y hy
      obtain ⟨z,t,hkey⟩:=hk y (Array.mem_toList_iff.mp hy)
      simp [DictEntry.refKey,hkey]
    have a':¬ es.toList.any (·.refKey)=true:=by rw [a]; exact Bool.false_ne_true
    rw [if_neg a']
    exact congrArg some e
theorem ObjM.look {h:Heap} {x dx C:Addr} {mA:Str→Option Value} (I:ObjM h x dx C mA):∃ od,PySem.W.InstAt h x (PySem.W.instObj C dx) C (some od)∧∀ name,PySem.W.lookIn name od=some (mA name) :=
  let ⟨od,ho,hl⟩:=lookIn_ns I.ns
  ⟨od,⟨I.obj,rfl,rfl,ho⟩,hl⟩
section
variable {prog:Program} {w:World} {A:Around} {E:Value→Shared→Prop} {s:Shared} {K:PySem.W.Frag} {x dx C f:Addr} {mA:Str→Option Value} {name:Str} {v:Value}
theorem get_map {expr:Bool} {Q:Value→Shared→Prop} (X:K.In s.heap) (I:ObjM s.heap x dx C mA) (hg:PySem.W.plainGet K C name=true) (hh:PySem.W.hasDictIn K C=true)
    (ha:PySem.W.findIn K (.ref C) name=some none) (hv:mA name=some v) (hv':PySem.W.handedIn v=true) (h:Q v { s with toks:=s.toks+1 }) :
    wpAny (model prog w) A (getAttr (.ref x) name expr) Q E s:=by
  obtain ⟨od,J,hl⟩:=I.look
  exact PySem.W.get_value X J (PySem.W.plainGet_of hg).1 (PySem.W.findObj_own hh ha rfl (by rw [hl,hv])) hv' h
theorem get_meth {pl:Sem Bool} {Q:Value × List Value→Shared→Prop} (X:K.In s.heap) (I:ObjM s.heap x dx C mA) (hg:PySem.W.plainGet K C name=true)
    (hf:PySem.W.findIn K (.ref C) name=some (some (.ref f))) (ht:PySem.W.isFn K (.ref f)=true) (hv:mA name=none) (h:Q (.ref f,[.ref x]) s) :
    wpAny (model prog w) A (getMethod (.ref x) name pl) Q E s:=by
  obtain ⟨od,J,hl⟩:=I.look
  exact PySem.W.method_fn X J (PySem.W.plainGet_of hg).1 (PySem.W.plainGet_of hg).2 hf (beq_iff_eq.mp ht) (by show (PySem.W.lookIn name od).map (·.isSome)=some false; rw [hl,hv]; rfl) h
theorem set_map {ns:List Str} {Q:Unit→Shared→Prop} (X:K.In s.heap) (I:ObjM s.heap x dx C mA)
    (hs:PySem.W.findIn K (.ref C) "__setattr__" = some (some (.builtin "object.__setattr__"))) (hp:PySem.W.plainOver K C=true) (ht:PySem.W.takerIn K C name=some none) (hh:PySem.W.hasDictIn K C=true)
    (hw:PySem.Within mA ns) (hsz:ns.length≤sizeLine)
    (h:∀ h',ObjM h' x dx C (fun y=>if y=name then some v else mA y)→Heap.SameBut dx s.heap h'→Q () { s with heap:=h',toks:=s.toks+2 }) :
    wpAny (model prog w) A (setAttr (.ref x) name v) Q E s:=by
  obtain ⟨od,J,hl⟩:=I.look
  refine PySem.W.set_plain X J hs (PySem.W.osa_open (s:={ s with toks:=s.toks+1 }) (r:=none) X J hp ht fun b=>?_)
  obtain ⟨cd,hc,hd'⟩:=PySem.W.any_some hh
  have hx:s.heap.get? x=some ⟨.ref C,some dx,.plain,#[]⟩:=I.obj
  refine wpAny_bind (wpAny_pure (wpAny_bind (wpAny_bind (wpAny_loadPart hx (wpAny_bind (PySem.W.Looks.here (s:={ s with toks:=s.toks+1 }) (PySem.W.looks_clsIn X hc) ?_))))))
  rw [hd']
  refine wpAny_pure (a:=some dx) (wpAny_bind (wpAny_pure (wpAny_bind ?_)))
  refine wpAny_nsSet1 (s:={ s with toks:=s.toks+1 }) I.ns fun h' hn2 hs2=>?_
  obtain ⟨oD,esD,epD,hoD,hdD,hcD⟩:=hn2.count (PySem.Within.cons name v hw)
  refine wpAny_bind (wpAny_lookBehind hoD (by rw [hdD]; exact pastItsLine_dict (Nat.le_trans hcD (by rw [List.length_cons]; omega))) ?_)
  exact wpAny_pure (h _ ⟨(hs2.2 _ (Ne.symm I.ne)).trans I.obj,hn2,I.ne⟩ hs2)
theorem make_map {R:Result→Shared→Prop} {vs:List Value} {kw:List (Str × Value)} (X:K.In s.heap) (hm:PySem.W.makesIn K C=true)
    (hi:PySem.W.findIn K (.ref C) "__init__" = some (some (.ref f))) (hf:PySem.W.typeIn K (.ref f)=some (.type "function"))
    (h:codeAny (model prog w) (A.under (.builtin "type.__call__" ⟨.ref C :: vs,kw⟩)) (.call (.ref f) ⟨.ref (s.heap.objs.size+1) :: vs,kw⟩) (PySem.W.InitBack (s.heap.objs.size+1) R)
      { s with heap:=(s.heap.push PySem.W.emptyDict).push (PySem.W.instObj C s.heap.objs.size) }) :
    codeAny (model prog w) A (.call (.ref C) ⟨vs,kw⟩) R s:=by
  obtain ⟨hh,g,d,t,os⟩:=s
  exact PySem.W.make_core (PySem.W.makes_of X hm) (PySem.W.looks_findIn X hi) (fun self=>PySem.W.bind_fn X self hf) (.inl rfl) h
end
def putF (f:Str) (v:V):List (Str × V)→List (Str × V)
  | []=>[(f,v)]
  | (g,x) :: r=>if g=f then (g,v) :: r else (g,x) :: putF f v r
theorem lookup_putF (f g : Str) (v : V) : ∀ fs : List (Str × V), (putF f v fs).lookup g = if g = f then some v else fs.lookup g
  | [] => by
    show List.lookup g [(f,v)]=_
    by_cases h:g=f
    · have hb:(g == f)=true:=beq_iff_eq.mpr h
      simp only [List.lookup,hb,if_pos h]
    · have hb:(g == f)=false:=beq_eq_false_iff_ne.mpr h
      simp only [List.lookup,hb,if_neg h]
  | (k, x) :: r => by
    have ih:=lookup_putF f g v r
    rw [show putF f v ((k,x) :: r)=(if k=f then (k,v) :: r else (k,x) :: putF f v r) from rfl]
    by_cases hk:k=f
    · rw [if_pos hk]
      by_cases h:g=k
      · have hb:(g == k)=true:=beq_iff_eq.mpr h
        simp only [List.lookup,hb,if_pos (h.trans hk)]
      · have hb:(g == k)=false:=beq_eq_false_iff_ne.mpr h
        simp only [List.lookup,hb,if_neg (fun e:g=f=>h (e.trans hk.symm))]
    · rw [if_neg hk]
      by_cases h:g=k
      · have hb:(g == k)=true:=beq_iff_eq.mpr h
        simp only [List.lookup,hb,if_neg (fun e:g=f=>hk (h.symm.trans e))]
      · have hb:(g == k)=false:=beq_eq_false_iff_ne.mpr h
        simp only [List.lookup,hb]
        exact ih
theorem keys_putF (f : Str) (v : V) : ∀ fs : List (Str × V), f ∈ (putF f v fs).map (·.1) ∧ ∀ g, g ∈ fs.map (·.1) → g ∈ (putF f v fs).map (·.1)
  | []=>⟨by simp [putF],fun g h=>by simp at h⟩
  | (k, x) :: r => by
    obtain ⟨i1,i2⟩:=keys_putF f v r
    rw [show putF f v ((k,x) :: r)=(if k=f then (k,v) :: r else (k,x) :: putF f v r) from rfl]
    by_cases hk:k=f
    · rw [if_pos hk]
      subst hk
      exact ⟨by simp,fun g h=>by simpa using h⟩
    · rw [if_neg hk]
      refine ⟨?_,fun g h=>?_⟩
      · rw [List.map_cons]
        exact List.mem_cons_of_mem _ i1
      · rw [List.map_cons] at h ⊢
        rcases List.mem_cons.mp h with e | e
        · exact List.mem_cons.mpr (.inl e)
        · exact List.mem_cons_of_mem _ (i2 g e)
theorem length_putF (f:Str) (v:V):∀ fs:List (Str × V),(putF f v fs).length≤fs.length+1
  | []=>by simp [putF]
  | (k, x) :: r => by
    have ih:=length_putF f v r
    rw [show putF f v ((k,x) :: r)=(if k=f then (k,v) :: r else (k,x) :: putF f v r) from rfl]
    by_cases hk:k=f
    · rw [if_pos hk,List.length_cons,List.length_cons]; omega
    · rw [if_neg hk,List.length_cons,List.length_cons]; omega
theorem RelO.some_of {v:V} {o:Option Value} (r:RelO (some v) o):∃ u,o=some u∧RelV v u:=by
  cases o with
  | none=>exact (show False from r).elim
  | some u=>exact ⟨u,rfl,r⟩
theorem RelO.none_of {o:Option Value} (r:RelO none o):o=none:=by
  cases o with
  | none=>rfl
  | some u=>exact (show False from r).elim
theorem handed_of {v:V} {u:Value} (r:RelV v u):PySem.W.handedIn u=true:=by
  cases v with
  | non=>cases (show u=Value.none from r); rfl
  | bl b=>cases (show u=Value.bool b from r); rfl
  | int i=>obtain ⟨t,e⟩:=(show ∃ t,u=Value.int i t from r); cases e; rfl
  | str x=>obtain ⟨t,e⟩:=(show ∃ t,u=Value.str x t from r); cases e; rfl
  | byt b=>obtain ⟨t,e⟩:=(show ∃ t,u=Value.bytes b t from r); cases e; rfl
  | flt b=>obtain ⟨t,e⟩:=(show ∃ t,u=Value.float b t from r); cases e; rfl
  | ref a=>cases (show u=Value.ref a from r); rfl
  | ty n=>cases (show u=Value.type n from r); rfl
section
variable {P:Program} {w:World} {H H':Hp} {h h':Heap} {a C dx:Addr} {fs fs':List (Str × V)}
theorem ins_get (hok:HOk P w H h) (e:H a=some (.ins C dx fs)):∃ mA,ObjM h a dx C mA∧(∀ f,RelO (fs.lookup f) (mA f))∧PySem.Within mA (fs.map (·.1))∧fs.length≤1000∧H dx=some (.own a):=by
  obtain ⟨d,z,ne,ob,mA,n,r,q⟩:=(show ObjOk P w H h a (.ins C dx fs) from hok a _ e)
  exact ⟨mA,⟨ob,n,ne⟩,r,q,z,d⟩
end
structure Cls (K:PySem.W.Frag) (C:Addr):Prop where
  pg:PySem.W.plainGet K C Str.empty=true
  hd:PySem.W.hasDictIn K C=true
  po:PySem.W.plainOver K C=true
  sa:PySem.W.findIn K (.ref C) "__setattr__" = some (some (.builtin "object.__setattr__"))
theorem Cls.get {K:PySem.W.Frag} {C:Addr} (c:Cls K C) (f:Str):PySem.W.plainGet K C f=true:=c.pg
def NoAttr (K:PySem.W.Frag) (C:Addr) (f:Str):Prop:=PySem.W.findIn K (.ref C) f=some none
theorem NoAttr.taker {K:PySem.W.Frag} {C:Addr} {f:Str} (n:NoAttr K C f):PySem.W.takerIn K C f=some none:=by
  unfold PySem.W.takerIn
  rw [show PySem.W.findIn K (.ref C) f=some none from n]
  rfl
structure Meth (K:PySem.W.Frag) (C:Addr) (m:Str) (f:Addr):Prop where
  at_:PySem.W.findIn K (.ref C) m=some (some (.ref f))
  fn:PySem.W.isFn K (.ref f)=true
  kp:PySem.W.keepIn K (.ref f)=true
section
variable {X:Cx} {pins:List (Addr × Obj)} {σ:St} {H:Hp} {s:Shared} {a C dx:Addr} {fs:List (Str × V)} {f:Str} {v:V} {A:Around} {E:Value→Shared→Prop}
theorem getattr_ok {b:Bool} {Q:Value→Shared→Prop} (I:Inv X pins σ H s) (e:H a=some (.ins C dx fs)) (c:Cls X.K C) (n:NoAttr X.K C f) (l:fs.lookup f=some v)
    (h:∀ u s',Inv X pins σ H s'→RelV v u→Q u s'):wpAny (model X.prog X.w) A (getAttr (.ref a) f b) Q E s:=by
  obtain ⟨mA,O,r,_,_,_⟩:=ins_get I.hok e
  obtain ⟨u,hu,ru⟩:=RelO.some_of (v:=v) (o:=mA f) (by rw [← l]; exact r f)
  exact get_map I.kIn O (c.get f) c.hd n hu (handed_of ru) (h u _ (I.tok _) ru)
theorem getmeth_ok {m:Str} {g:Addr} {pl:Sem Bool} {Q:Value × List Value→Shared→Prop} (I:Inv X pins σ H s) (e:H a=some (.ins C dx fs)) (c:Cls X.K C) (k:Meth X.K C m g) (l:fs.lookup m=none)
    (h:Q (.ref g,[.ref a]) s):wpAny (model X.prog X.w) A (getMethod (.ref a) m pl) Q E s:=by
  obtain ⟨mA,O,r,_,_,_⟩:=ins_get I.hok e
  have hn:mA m=none:=RelO.none_of (by rw [← l]; exact r m)
  exact get_meth I.kIn O (c.get m) k.at_ k.fn hn h
theorem setattr_ok {y:V} {u:Value} {Q:Unit→Shared→Prop} (I:Inv X pins σ H s) (e:H a=some (.ins C dx fs)) (c:Cls X.K C) (n:NoAttr X.K C f) (hl:fs.length < 1000) (ry:RelV y u)
    (h:∀ s',Inv X pins σ (upd H a (.ins C dx (putF f y fs))) s'→Q () s'):wpAny (model X.prog X.w) A (setAttr (.ref a) f u) Q E s:=by
  obtain ⟨mA,O,r,wi,_,ho⟩:=ins_get I.hok e
  have hz:(fs.map (·.1)).length≤sizeLine:=by rw [List.length_map,sizeLine_eq]; omega
  refine set_map I.kIn O c.sa c.po n.taker c.hd wi hz fun h' O' sb=>h _ ?_
  have hd:∃ o,h'.get? dx=some o:=let ⟨o,_,_,e',_⟩:=O'.ns; ⟨o,e'⟩
  refine I.write (x:=a) (e:=dx) (by rw [e]; exact True.intro) (.inr ho) (fun b q hb z=>(sb.2 b hb).trans z) hd ?_
  refine ⟨by rw [upd_ne O.ne]; exact ho,?_,O.ne,O'.obj,_,O'.ns,fun g=>?_,fun g hg=>?_⟩
  · have:=length_putF f y fs; omega
  · show RelO ((putF f y fs).lookup g) (if g=f then some u else mA g)
    rw [lookup_putF]
    by_cases q:g=f
    · rw [if_pos q,if_pos q]; exact ry
    · rw [if_neg q,if_neg q]; exact r g
  · by_cases q:g=f
    · rw [q]; exact (keys_putF f y fs).1
    · refine (keys_putF f y fs).2 g (wi g fun z=>hg ?_)
      show (if g=f then some u else mA g)=none
      rw [if_neg q]; exact z
theorem Inv.made (I:Inv X pins σ H s):Inv X pins σ (upd (upd H s.heap.objs.size (.own (s.heap.objs.size+1))) (s.heap.objs.size+1) (.ins C s.heap.objs.size []))
    { s with heap:=(s.heap.push PySem.W.emptyDict).push (PySem.W.instObj C s.heap.objs.size) }:=by
  have e1:(s.heap.push PySem.W.emptyDict).get? s.heap.objs.size=some PySem.W.emptyDict:=Heap.get?_push_size s.heap rfl
  have e2:((s.heap.push PySem.W.emptyDict).push (PySem.W.instObj C s.heap.objs.size)).get? (s.heap.objs.size+1)=some (PySem.W.instObj C s.heap.objs.size):=by
    have:=Heap.get?_push_size (s.heap.push PySem.W.emptyDict) (o:=PySem.W.instObj C s.heap.objs.size) rfl
    rwa [Heap.size_push] at this
  have e3:(s.heap.push PySem.W.emptyDict).Ns s.heap.objs.size (fun _=>none):=⟨PySem.W.emptyDict,#[],_,e1,rfl,(fun e he=>absurd he (by simp)),fun _=>rfl⟩
  have I1:=I.laid (a:=s.heap.objs.size) (o:=.own (s.heap.objs.size+1)) (h':=s.heap.push PySem.W.emptyDict) (t':=s.toks) (fun b u q=>Heap.get?_push_of_some _ q) (Nat.le_refl _) ⟨_,e1⟩
  refine I1.laid (a:=s.heap.objs.size+1) (o:=.ins C s.heap.objs.size []) (t':=s.toks) (fun b u q=>Heap.get?_push_of_some _ q) (Nat.le_of_eq (Heap.size_push _ _)) ?_
  have ne:s.heap.objs.size≠s.heap.objs.size+1:=Nat.ne_of_lt (Nat.lt_succ_self _)
  refine ⟨by rw [upd_ne ne,upd_same],Nat.zero_le _,ne,e2,fun _=>none,(Heap.Ns1.of_empty e3).at fun o q=>Heap.get?_push_of_some _ q,fun _=>True.intro,fun y hy=>absurd rfl hy⟩
theorem attr_of {prog:Program} {w:World} {env:Env} {e:Expr} {f:Str} {pos:Pos} {s:Shared} {Q:Value→Shared→Prop} (hb:attributeBase e f env (eval e env)=eval e env)
    (h:wpAny (model prog w) A (eval e env) (fun o s₁=>wpAny (model prog w) A (getAttr o f true) Q E s₁) E s):wpAny (model prog w) A (eval (.Attribute e f pos) env) Q E s :=
  Attribute_any_ h (by rw [arm_eval_Attribute,hb])
end
def tFld (K:PySem.W.Frag) (ta:TE) (f:Str):TE:=fun σ H Q=>ta σ H fun x H1=>∃ a C dx fs v,x = .ref a∧H1 a=some (.ins C dx fs)∧Cls K C∧NoAttr K C f∧fs.lookup f=some v∧Q v H1
def sFld (K:PySem.W.Frag) (ta tv:TE) (f:Str):TS:=fun D σ H=>tv σ H fun y H1=>ta σ H1 fun x H2=>∃ a C dx fs,x = .ref a∧H2 a=some (.ins C dx fs)∧Cls K C∧NoAttr K C f∧fs.length < 1000 ∧
  D.nx σ (upd H2 a (.ins C dx (putF f y fs)))
section
variable {X:Cx} {o e value:Expr} {f:Str} {pos pos' tpos:Pos} {ta tv:TE}
theorem pe_fld (he:PE X e ta) (hb:attributeBase e f X.env (eval e X.env)=eval e X.env):PE X (.Attribute e f pos) (tFld X.K ta f):=by
  intro pins s σ H Q I h
  refine attr_of hb (thn (he pins s σ H _ I h) fun u s1 ⟨x,H1,I1,rx,a,C,dx,fs,v,ex,ea,c,n,l,q⟩=>?_)
  subst ex
  obtain rfl:u=Value.ref a:=rx
  exact getattr_ok I1 ea c n l fun u' s2 I2 ru=>⟨v,H1,I2,ru,q⟩
theorem ps_fld (ha:PE X o ta) (hv:PE X value tv) (hs:swapsWith value (some (.Attribute o f pos')) pos.line X.env=pure false):PS X (.Assign [.Attribute o f pos'] value pos) (sFld X.K ta tv f):=by
  intro pins s σ H D I h
  refine plainObj_wpAny_Assign_Attribute (thn (hv pins s σ H _ I h) fun u s1 ⟨y,H1,I1,ry,q⟩=>thn (ha pins s1 σ H1 _ I1 q) fun ov s2 ⟨x,H2,I2,rx,a,C,dx,fs,ex,ea,c,n,l,q2⟩=>?_) hs
  subst ex
  obtain rfl:ov=Value.ref a:=rx
  exact setattr_ok I2 ea c n l ry fun s3 I3=>⟨σ,_,I3,q2⟩
theorem methcall_of {pl:Sem Bool} {m:Str} {apos:Pos} {args:List Expr} {pins:List (Addr × Obj)} {s:Shared} {σ:St} {H:Hp} {Q:Value→Shared→Prop} {te:TE} (he:PE X e te) (I:Inv X pins σ H s)
    (h:te σ H fun x H1=>∃ a C dx fs g,x = .ref a∧H1 a=some (.ins C dx fs)∧Cls X.K C∧Meth X.K C m g∧fs.lookup m=none ∧
      ∀ s1,Inv X pins σ H1 s1→wpAny (model X.prog X.w) X.A (callWith pos (.ref g) [.ref a] (backTo pos (starEach args X.env)) (backToKw pos (keywordEach [] X.env))) Q X.xe s1)
    (ht:eval (.Call (.Attribute e m apos) args [] pos) X.env=(do
      let ov ← eval e X.env
      standAt apos.atName
      let (f,first) ← holding [ov] (getMethod ov m pl)
      callWith pos f first (backTo pos (starEach args X.env)) (backToKw pos (keywordEach [] X.env)))) :
    wpAny (model X.prog X.w) X.A (eval (.Call (.Attribute e m apos) args [] pos) X.env) Q X.xe s:=by
  refine PySem.W.methodCall_KW (pl:=pl) (thn (he pins s σ H _ I h) fun u s1 ⟨x,H1,I1,rx,a,C,dx,fs,g,ex,ea,c,k,l,q⟩=>?_) ht
  subst ex
  obtain rfl:u=Value.ref a:=rx
  exact getmeth_ok I1 ea c k l (q s1 I1)
end
section
variable {X:Cx} {pins:List (Addr × Obj)} {σ:St} {H:Hp} {s:Shared} {A:Around} {E:Value→Shared→Prop} {Q:Value→Shared→Prop} {c:Value} {b:Bool}
inductive TyOf (K:PySem.W.Frag) (H:Hp):V→Value→Prop where
  | non:TyOf K H .non (.type "NoneType")
  | bl (x:Bool):TyOf K H (.bl x) (.type "bool")
  | int (i:Int):TyOf K H (.int i) (.type "int")
  | str (x:Str):TyOf K H (.str x) (.type "str")
  | flt (x:UInt64):TyOf K H (.flt x) (.type "float")
  | lst {a:Addr} {xs:List V} (e:H a=some (.lst xs)):TyOf K H (.ref a) (.type "list")
  | frz {a:Addr} {o:Obj} {xs:List V} (e:H a=some (.frz o (.lst xs))):TyOf K H (.ref a) (.type "list")
  | tup {a:Addr} {xs:List V} (e:H a=some (.tup xs)):TyOf K H (.ref a) (.type "tuple")
  | dK {a:Addr} {kvs:List (Key × V)} (e:H a=some (.dK kvs)):TyOf K H (.ref a) (.type "dict")
  | dT {a:Addr} {kvs:List (List Key × V)} (e:H a=some (.dT kvs)):TyOf K H (.ref a) (.type "dict")
  | ins {a C dx:Addr} {fs:List (Str × V)} (e:H a=some (.ins C dx fs)) (cl:Cls K C) (ha:PySem.W.findIn K (.ref C) "__class__" = some (some (.builtin "object.__class__")))
      (hn:PySem.W.specialIn K (.builtin "object.__class__") "__get__" = some (some (.builtin "getset_descriptor.__get__"))) (htk:PySem.W.takesIn K (.builtin "object.__class__")=some true)
      (hm:PySem.W.mroIn K C (.type "object")=some true):TyOf K H (.ref a) (.ref C)
theorem isinst_ok {x:V} {u t:Value} (I:Inv X pins σ H s) (rx:RelV x u) (ty:TyOf X.K H x t) (e:PySem.W.kitOne X.K t c=some b) (h:∀ tk,Q (.bool b) { s with toks:=tk }) :
    wpAny (model X.prog X.w) A (call (.builtin "isinstance") [u,c]) Q E s:=by
  cases ty with
  | non=>cases (show u=Value.none from rx); exact PySem.W.kia_one PySem.W.kitx_none I.kIn True.intro e (fun z=>nomatch z) h
  | bl y=>cases (show u=Value.bool y from rx); exact PySem.W.kia_one PySem.W.kitx_bool I.kIn True.intro e (fun z=>nomatch z) h
  | int i=>obtain ⟨t,q⟩:=(show ∃ t,u=Value.int i t from rx); cases q; exact PySem.W.kia_one PySem.W.kitx_int I.kIn True.intro e (fun z=>nomatch z) h
  | str y=>obtain ⟨t,q⟩:=(show ∃ t,u=Value.str y t from rx); cases q; exact PySem.W.kia_one PySem.W.kitx_str I.kIn True.intro e (fun z=>nomatch z) h
  | flt y=>obtain ⟨t,q⟩:=(show ∃ t,u=Value.float y t from rx); cases q; exact PySem.W.kia_one PySem.W.kitx_float I.kIn True.intro e (fun z=>nomatch z) h
  | @lst a xs ea =>
    cases (show u=Value.ref a from rx)
    obtain ⟨_,_,n,_,h1⟩:=(show ObjOk X.prog X.w H s.heap a (.lst xs) from I.hok a _ ea)
    exact PySem.W.kia_one PySem.W.kitx_list I.kIn ⟨_,h1,rfl⟩ e (fun z=>nomatch z) h
  | @frz a ob xs ea =>
    cases (show u=Value.ref a from rx)
    obtain ⟨_,_,_,n,_,h1⟩:=(show ObjOk X.prog X.w H s.heap a (.frz ob (.lst xs)) from I.hok a _ ea)
    exact PySem.W.kia_one PySem.W.kitx_list I.kIn ⟨_,h1,rfl⟩ e (fun z=>nomatch z) h
  | @tup a xs ea =>
    cases (show u=Value.ref a from rx)
    obtain ⟨_,_,_,p⟩:=(show ObjOk X.prog X.w H s.heap a (.tup xs) from I.hok a _ ea)
    obtain ⟨o,h1,h2,_⟩:=p
    exact PySem.W.kia_one PySem.W.kitx_tuple I.kIn ⟨o,h1,h2⟩ e (fun z=>nomatch z) h
  | @dK a kvs ea =>
    cases (show u=Value.ref a from rx)
    obtain ⟨_,_,vs,_,p⟩:=(show ObjOk X.prog X.w H s.heap a (.dK kvs) from I.hok a _ ea)
    obtain ⟨o,es,ep,h1,h2,_⟩:=p
    exact PySem.W.kia_one PySem.W.kitx_dict I.kIn ⟨o,h1,h2.1⟩ e (fun z=>nomatch z) h
  | @dT a kvs ea =>
    cases (show u=Value.ref a from rx)
    obtain ⟨_,_,xs,_,o,es,ep,h1,h2,_⟩:=(show ObjOk X.prog X.w H s.heap a (.dT kvs) from I.hok a _ ea)
    exact PySem.W.kia_one PySem.W.kitx_dict I.kIn ⟨o,h1,h2.1⟩ e (fun z=>nomatch z) h
  | @ins a C dx fs ea cl ha hn htk hm =>
    cases (show u=Value.ref a from rx)
    obtain ⟨mA,O,_⟩:=ins_get I.hok ea
    obtain ⟨od,J,_⟩:=O.look
    exact PySem.W.kia_one (PySem.W.kitx_own (cl.get _) cl.hd ha hn htk hm) I.kIn J e (fun z=>nomatch z) h
end
end L2
namespace L2
open PySem PySem.Spec PyProof.Rows
structure Room (k:Nat) (A:Around):Prop where
  hd:A.handled=none
  dp:A.depth+3 * k+5 < recursionLimit
  un:A.units+16 * k+200 < cLine
theorem Room.mono {j k:Nat} {A:Around} (r:Room k A) (h:j≤k):Room j A:=⟨r.hd,by have:=r.dp; omega,by have:=r.un; omega⟩
theorem Room.deeper {k:Nat} {A:Around} (r:Room (k+1) A) (env:Env):Room k (A.deeper env) :=
  ⟨r.hd,by have:=r.dp; show A.depth+1+3 * k+5 < _; omega,by have:=r.un; show A.units+3+16 * k+200 < _; omega⟩
theorem make_depth {A:Around} {C:Addr} {us:List Value} {kw:List (Str × Value)}:(A.under (.builtin "type.__call__" ⟨.ref C :: us,kw⟩)).depth=A.depth+1:=by
  first | rfl | simp [Around.under,Code.weight,Code.isCreation,Code.isGuard,Code.isCaller,Code.frames,Code.isFrame,guardIds]
theorem make_units {A:Around} {C:Addr} {us:List Value} {kw:List (Str × Value)}:(A.under (.builtin "type.__call__" ⟨.ref C :: us,kw⟩)).units=A.units+1:=by
  first | rfl | simp [Around.under,Code.cUnits,Code.frames,Code.isFrame]
theorem Room.make {k:Nat} {A:Around} (r:Room (k+1) A) (C:Addr) (us:List Value) (kw:List (Str × Value)):Room k (A.under (.builtin "type.__call__" ⟨.ref C :: us,kw⟩)) :=
  ⟨r.hd,by have:=r.dp; rw [make_depth]; omega,by have:=r.un; rw [make_units]; omega⟩
theorem Room.depth {k:Nat} {A:Around} (r:Room k A):A.depth < recursionLimit:=by have:=r.dp; omega
theorem Room.units {k:Nat} {A:Around} (r:Room k A):A.units+64 < cLine:=by have:=r.un; omega
def tNil:TA:=fun _ H Q=>Q [] H
def tCons (ta:TE) (tr:TA):TA:=fun σ H Q=>ta σ H fun x H1=>tr σ H1 fun xs H2=>Q (x :: xs) H2
section
variable {X:Cx} {e:Expr} {es:List Expr} {te:TE} {t:TA} {pos:Pos}
theorem pa_nil:PA X [] tNil:=fun _ _ _ _ H Q I h=>Calls.spliced_nil ⟨[],H,I,.nil,h⟩
theorem pa_cons (ha:PE X e te) (hr:PA X es t) (hs:starEach (e :: es) X.env=(false,eval e X.env) :: starEach es X.env:=by rfl):PA X (e :: es) (tCons te t):=by
  intro pos pins s σ H Q I h
  rw [hs]
  show wpAny _ _ (spliced ((false,eval e X.env) :: backTo pos (starEach es X.env))) _ _ s
  refine Calls.spliced_cons (thn (ha pins s σ H _ I h) fun u s1 ⟨x,H1,I1,r1,q1⟩=>?_)
  exact thn (hr pos pins s1 σ H1 _ I1 q1) fun us s2 ⟨xs,H2,I2,r2,q2⟩=>⟨x :: xs,H2,I2,.cons r1 r2,q2⟩
def tTup (t:TA):TE:=fun σ H Q=>t σ H fun xs H1=>xs.length≤sizeLine∧∀ p,H1 p=none→Q (.ref p) (upd H1 p (.tup xs))
def tLst (t:TA):TE:=fun σ H Q=>t σ H fun xs H1=>xs.length≤sizeLine∧∀ p,H1 p=none→Q (.ref p) (upd H1 p (.lst xs))
theorem pe_tup {x1} (h:PA X es t):PE X (.Tuple es x1 pos) (tTup t):=by
  intro pins s σ H Q I hq
  refine wpAny_Tuple_spliced (thn (h pos pins s σ H _ I hq) fun us s1 ⟨xs,H1,I1,r,z,q⟩=>⟨by rw [← r.length]; exact z,?_⟩)
  have hf:H1 s1.heap.objs.size=none:=I1.hok.fresh (Nat.le_refl _)
  refine ⟨.ref s1.heap.objs.size,upd H1 s1.heap.objs.size (.tup xs),I1.laid (t':=s1.toks) (fun b u e=>Heap.get?_push_of_some _ e) (Nat.le_refl _) ?_,rfl,q _ hf⟩
  exact ⟨z,us,r,⟨_,Heap.get?_push_size _ rfl,rfl,_,rfl⟩⟩
theorem pe_lst (h:PA X es t):PE X (.List es pos) (tLst t):=by
  intro pins s σ H Q I hq
  refine wpAny_List_spliced (thn (h pos pins s σ H _ I hq) fun us s1 ⟨xs,H1,I1,r,z,q⟩=>⟨by rw [← r.length]; exact z,?_⟩)
  have hf:H1 s1.heap.objs.size=none:=I1.hok.fresh (Nat.le_refl _)
  refine ⟨.ref s1.heap.objs.size,upd H1 s1.heap.objs.size (.lst xs),I1.laid (t':=s1.toks) (fun b u e=>Heap.get?_push_of_some _ e) (Nat.le_refl _) ?_,rfl,q _ hf⟩
  exact ⟨z,us,0,r,Heap.get?_push_size _ rfl⟩
end
abbrev Sp:=List V→Hp→VK→XK→Prop
abbrev CXT:=List Env→Hp→Shared→XK→Value→Shared→Prop
structure Env0 (P:Program) (w:World) (K:PySem.W.Frag) (mg:Str→Option Value) (base:Heap) (A:Around) (outer:List Env) (s:Shared) (H:Hp):Prop where
  frames:A.frames=some outer
  mod:Mod K mg base
  bs:∀ b o,base.get? b=some o→s.heap.get? b=some o∧H b=none
  bsz:base.objs.size≤s.heap.objs.size
  funs:s.heap.FunFrames base outer
  frf:∀ b ∈ frs outer,H b=none
  hok:HOk P w H s.heap
  bare:AllBare s.gens
def CE (outer:List Env) (P:Program) (w:World) (H:Hp) (s:Shared) (Q:VK) (u:Value) (s':Shared):Prop :=
  ∃ v H',s'.os=s.os∧AllBare s'.gens∧Un (frs outer) [] H H' s.heap s'.heap∧HOk P w H' s'.heap∧RelV v u∧Q v H'
def CR (CX:CXT) (outer:List Env) (P:Program) (w:World) (H:Hp) (s:Shared) (Q:VK) (E:XK) (r:Result) (s':Shared):Prop :=
  match r with
  | .ok (.ret u)=>CE outer P w H s Q u s'
  | .ok _=>False
  | .error e=>CX outer H s E e s'
structure FnOk (P:Program) (w:World) (K:PySem.W.Frag) (mg:Str→Option Value) (base:Heap) (CX:CXT) (k:Nat) (f:Addr) (fd:FuncData) (ps:List Str) (sp:Sp):Prop where
  len:∀ vs H Q E,sp vs H Q E→vs.length=ps.length
  run:∀ (A:Around) (outer:List Env) (s:Shared) (H:Hp) (args:Args) (us:List Value) (vs:List V) (Q:VK) (E:XK),Room k A→Env0 P w K mg base A outer s H→BindsTo s fd args (ps.zip us)→Vals vs us→sp vs H Q E →
    codeAny (model P w) A (.call (.ref f) args) (CR CX outer P w H s Q E) s
theorem Env0.make {P:Program} {w:World} {K:PySem.W.Frag} {mg:Str→Option Value} {base:Heap} {A:Around} {outer:List Env} {s:Shared} {H:Hp} (e:Env0 P w K mg base A outer s H) (C:Addr) (us:List Value) (kw:List (Str × Value)) :
    Env0 P w K mg base (A.under (.builtin "type.__call__" ⟨.ref C :: us,kw⟩)) outer s H:=⟨by first | exact e.frames | (simpa [Around.under,Code.envs,Code.isFrame,pushEnvs] using e.frames),e.mod,e.bs,e.bsz,e.funs,e.frf,e.hok,e.bare⟩
section
variable {X:Cx} {pins:List (Addr × Obj)} {σ:St} {H:Hp} {s s':Shared}
theorem Inv.env0 (I:Inv X pins σ H s):Env0 X.prog X.w X.K X.mg X.base X.A X.stack s H :=
  ⟨I.ok.frames,I.ok.mod,I.bs,Nat.le_trans I.ok.bsz I.sz,I.stack,I.stkFree,I.hok,I.bare⟩
theorem Inv.after {Q:VK} {u:Value} (I:Inv X pins σ H s) (h:CE X.stack X.prog X.w H s Q u s'):EP X pins σ Q u s':=by
  obtain ⟨v,H',os,bare,un,hok,r,q⟩:=h
  obtain ⟨hh,g,d,t,os'⟩:=s'
  obtain rfl:os'=s.os:=os
  exact ⟨v,H',I.call (h':=hh) (g':=g) (d':=d) (t':=t) (ch:=[]) un hok bare (fun b z=>absurd z (by simp)),r,q⟩
end
def tCall (sp:Sp) (dvs:List V) (E:XK) (t:TA):TE:=fun σ H Q=>t σ H fun vs H1=>sp (vs ++ dvs) H1 Q E
def tMeth (C:Addr) (m:Str) (sp:Sp) (dvs:List V) (E:XK) (ta:TE) (t:TA):TE:=fun σ H Q=>ta σ H fun x H1=>∃ a dx fs,x = .ref a∧H1 a=some (.ins C dx fs)∧fs.lookup m=none ∧
  t σ H1 fun vs H2=>sp (x :: (vs ++ dvs)) H2 Q E
def tMake (C:Addr) (sp:Sp) (dvs:List V) (E:XK) (t:TA):TE:=fun σ H Q=>t σ H fun vs H1=>∀ x dx,H1 x=none→H1 dx=none→dx≠x →
  sp (.ref x :: (vs ++ dvs)) (upd (upd H1 dx (.own x)) x (.ins C dx [])) (fun v H2=>v = .non∧Q (.ref x) H2) E
def Binds (K:PySem.W.Frag) (fd:FuncData) (ps:List Str) (ds:List Value):Prop :=
  ∀ (s:Shared) (us:List Value),K.In s.heap→(us ++ ds).length=ps.length→BindsTo s fd ⟨us,[]⟩ (ps.zip (us ++ ds))
theorem Binds.all {K:PySem.W.Frag} {fd:FuncData} {ps:List Str} (h:∀ us:List Value,us.length=ps.length→bindArgs fd ⟨us,[]⟩=pure (ps.zip us)):Binds K fd ps []:=fun s us _ hl=>by
  rw [List.append_nil] at hl ⊢
  exact .of_eq (h us hl)
def Passes (CX:CXT) (X:Cx) (E:XK):Prop:=∀ (pins:List (Addr × Obj)) (σ:St) (H:Hp) (s:Shared) (e:Value) (s':Shared),Inv X pins σ H s→CX X.stack H s E e s'→X.xe e s'
section
variable {X:Cx} {CX:CXT} {k:Nat} {f C:Addr} {fd:FuncData} {ps:List Str} {sp:Sp} {dvs:List V} {ds:List Value} {E:XK} {x m:Str} {p pos apos:Pos} {e o:Expr} {es:List Expr} {ta:TE} {t:TA}
theorem run_fn {pins:List (Addr × Obj)} {σ:St} {H:Hp} {s:Shared} {Q:VK} {us:List Value} {vs:List V} (F:FnOk X.prog X.w X.K X.mg X.base CX k f fd ps sp) (hr:Room k X.A) (hb:Binds X.K fd ps ds) (hd:Vals dvs ds) (hx:Passes CX X E)
    (I:Inv X pins σ H s) (r:Vals vs us) (h:sp (vs ++ dvs) H Q E):wpAny (model X.prog X.w) X.A (call (.ref f) us) (EP X pins σ Q) X.xe s:=by
  have r2:Vals (vs ++ dvs) (us ++ ds):=r.append hd
  have hl:(us ++ ds).length=ps.length:=by rw [← r2.length]; exact F.len _ _ _ _ h
  refine wpAny_call (codeAny_mono (F.run X.A X.stack s H ⟨us,[]⟩ (us ++ ds) (vs ++ dvs) Q E hr I.env0 (hb s us I.kIn hl) r2 h) fun r s' hq=>?_)
  cases r with
  | error e=>exact hx pins σ H s e s' I hq
  | ok fl =>
    cases fl with
    | ret u=>exact I.after hq
    | next=>exact False.elim hq
    | brk=>exact False.elim hq
    | cont=>exact False.elim hq
theorem pe_call (F:FnOk X.prog X.w X.K X.mg X.base CX k f fd ps sp) (hr:Room k X.A) (hg:Gl X x) (hm:X.mg x=some (.ref f)) (hk:PySem.W.keepIn X.K (.ref f)=true) (hb:Binds X.K fd ps ds) (hd:Vals dvs ds) (hx:Passes CX X E)
    (ha:PA X (e :: es) t) (hdb:(x == ("__debug__":Str))=false:=by decide) (he:starEach (e :: es) X.env=(false,eval e X.env) :: starEach es X.env:=by rfl) (hpl:(backTo pos (starEach es X.env)).any (·.1)=false:=by rfl) :
    PE X (.Call (.Name x p) (e :: es) [] pos) (tCall sp dvs E t):=by
  intro pins s σ H Q I h
  refine wpAny_Call_Name_kw (ld_glob I hg hm ?_ hdb)
  refine PySem.W.callWith_K (h₀:=X.base) I.ok.mod.kin hk (thn (ha pos pins s σ H _ I h) fun us s1 ⟨vs,H1,I1,r,q⟩=>⟨I1.kIn,?_⟩) he hpl
  exact run_fn F hr hb hd hx I1 r q
theorem pe_meth {pl:Sem Bool} (he:PE X o ta) (c:Cls X.K C) (hm:Meth X.K C m f) (F:FnOk X.prog X.w X.K X.mg X.base CX k f fd ps sp) (hr:Room k X.A) (hb:Binds X.K fd ps ds) (hd:Vals dvs ds) (hx:Passes CX X E) (ha:PA X (e :: es) t)
    (hst:starEach (e :: es) X.env=(false,eval e X.env) :: starEach es X.env:=by rfl) (hpl:(backTo pos (starEach es X.env)).any (·.1)=false:=by rfl)
    (ht:eval (.Call (.Attribute o m apos) (e :: es) [] pos) X.env=(do
      let ov ← eval o X.env
      standAt apos.atName
      let (f,first) ← holding [ov] (getMethod ov m pl)
      callWith pos f first (backTo pos (starEach (e :: es) X.env)) (backToKw pos (keywordEach [] X.env))):=by rfl) :
    PE X (.Call (.Attribute o m apos) (e :: es) [] pos) (tMeth C m sp dvs E ta t):=by
  intro pins s σ H Q I h
  refine PySem.W.methodCall_KW (pl:=pl) (thn (he pins s σ H _ I h) fun u s1 ⟨x,H1,I1,rx,a,dx,fs,ex,ea,l,q⟩=>?_) ht
  subst ex
  obtain rfl:u=Value.ref a:=rx
  refine getmeth_ok I1 ea c hm l ?_
  refine PySem.W.callWith_K (first:=[.ref a]) (h₀:=X.base) I.ok.mod.kin hm.kp (thn (ha pos pins s1 σ H1 _ I1 q) fun us s2 ⟨vs,H2,I2,r,q2⟩=>⟨I2.kIn,?_⟩) hst hpl
  exact run_fn (us:=.ref a :: us) (vs:=.ref a :: vs) F hr hb hd hx I2 (.cons rfl r) q2
theorem pe_meth0 {pl:Sem Bool} (he:PE X o ta) (c:Cls X.K C) (hm:Meth X.K C m f) (F:FnOk X.prog X.w X.K X.mg X.base CX k f fd ps sp) (hr:Room k X.A) (hb:Binds X.K fd ps ds) (hd:Vals dvs ds) (hx:Passes CX X E)
    (ht:eval (.Call (.Attribute o m apos) [] [] pos) X.env=(do
      let ov ← eval o X.env
      standAt apos.atName
      let (f,first) ← holding [ov] (getMethod ov m pl)
      callWith pos f first (backTo pos (starEach [] X.env)) (backToKw pos (keywordEach [] X.env))):=by rfl) :
    PE X (.Call (.Attribute o m apos) [] [] pos) (tMeth C m sp dvs E ta tNil):=by
  intro pins s σ H Q I h
  refine PySem.W.methodCall_KW (pl:=pl) (thn (he pins s σ H _ I h) fun u s1 ⟨x,H1,I1,rx,a,dx,fs,ex,ea,l,q⟩=>?_) ht
  subst ex
  obtain rfl:u=Value.ref a:=rx
  refine getmeth_ok I1 ea c hm l ?_
  exact PySem.W.callWith_K0 (first:=[.ref a]) I1.kIn hm.kp (run_fn (us:=[.ref a]) (vs:=[.ref a]) F hr hb hd hx I1 (.cons rfl .nil) q)
structure Mk (K:PySem.W.Frag) (C f:Addr):Prop where
  makes:PySem.W.makesIn K C=true
  init:PySem.W.findIn K (.ref C) "__init__" = some (some (.ref f))
  fn:PySem.W.isFn K (.ref f)=true
  kp:PySem.W.keepIn K (.ref C)=true
theorem run_make {pins:List (Addr × Obj)} {σ:St} {H:Hp} {s:Shared} {Q:VK} {us:List Value} {vs:List V} (M:Mk X.K C f) (F:FnOk X.prog X.w X.K X.mg X.base CX k f fd ps sp) (hr:Room (k+1) X.A) (hb:Binds X.K fd ps ds) (hd:Vals dvs ds)
    (hx:Passes CX X E) (I:Inv X pins σ H s) (r:Vals vs us)
    (h:∀ x dx,H x=none→H dx=none→dx≠x→sp (.ref x :: (vs ++ dvs)) (upd (upd H dx (.own x)) x (.ins C dx [])) (fun v H2=>v = .non∧Q (.ref x) H2) E) :
    wpAny (model X.prog X.w) X.A (call (.ref C) us) (EP X pins σ Q) X.xe s:=by
  have hq:=h (s.heap.objs.size+1) s.heap.objs.size (I.hok.fresh (Nat.le_succ _)) (I.hok.fresh (Nat.le_refl _)) (Nat.ne_of_lt (Nat.lt_succ_self _))
  have I2:=Inv.made (C:=C) I
  have r2:Vals (V.ref (s.heap.objs.size+1) :: (vs ++ dvs)) (Value.ref (s.heap.objs.size+1) :: (us ++ ds)):=.cons rfl (r.append hd)
  have hl:(Value.ref (s.heap.objs.size+1) :: us ++ ds).length=ps.length:=by
    have e:=r2.length
    rw [F.len _ _ _ _ hq] at e
    exact e.symm
  refine wpAny_call (make_map (f:=f) I.kIn M.makes M.init (beq_iff_eq.mp M.fn) (codeAny_mono (F.run _ X.stack _ _ ⟨Value.ref (s.heap.objs.size+1) :: us,[]⟩ (Value.ref (s.heap.objs.size+1) :: (us ++ ds)) _ _ E (hr.make C us [])
    (I2.env0.make C us []) (hb _ (Value.ref (s.heap.objs.size+1) :: us) I2.kIn hl) r2 hq) fun r s' hq'=>?_))
  cases r with
  | error e=>exact hx pins σ _ _ e s' I2 hq'
  | ok fl =>
    cases fl with
    | ret u =>
      obtain ⟨v,H',I3,rv,ev,q3⟩:=I2.after hq'
      subst ev
      exact ⟨rv,⟨V.ref (s.heap.objs.size+1),H',I3,rfl,q3⟩⟩
    | next=>exact False.elim hq'
    | brk=>exact False.elim hq'
    | cont=>exact False.elim hq'
theorem pe_make (M:Mk X.K C f) (F:FnOk X.prog X.w X.K X.mg X.base CX k f fd ps sp) (hr:Room (k+1) X.A) (hg:Gl X x) (hm:X.mg x=some (.ref C)) (hb:Binds X.K fd ps ds) (hd:Vals dvs ds) (hx:Passes CX X E)
    (ha:PA X (e :: es) t) (hdb:(x == ("__debug__":Str))=false:=by decide) (he:starEach (e :: es) X.env=(false,eval e X.env) :: starEach es X.env:=by rfl) (hpl:(backTo pos (starEach es X.env)).any (·.1)=false:=by rfl) :
    PE X (.Call (.Name x p) (e :: es) [] pos) (tMake C sp dvs E t):=by
  intro pins s σ H Q I h
  refine wpAny_Call_Name_kw (ld_glob I hg hm ?_ hdb)
  refine PySem.W.callWith_K (h₀:=X.base) I.ok.mod.kin M.kp (thn (ha pos pins s σ H _ I h) fun us s1 ⟨vs,H1,I1,r,q⟩=>⟨I1.kIn,?_⟩) he hpl
  exact run_make M F hr hb hd hx I1 r q
end
section
variable {X:Cx} {CX:CXT} {k:Nat} {f C:Addr} {fd:FuncData} {ps ks:List Str} {sp:Sp} {E:XK} {x m:Str} {p pos apos kpos:Pos} {e o:Expr} {es:List Expr} {kws:List Keyword} {te ta:TE} {t tk:TA} {nm:Option Str}
variable {g:List Value→List Value→List Value} {gV:List V→List V→List V}
end
structure FnScope (N P:List Str) (sc:Scope):Prop where
  kind:sc.kind = .function
  co:sc.isCoroutine=false
  gen:sc.isGenerator=false
  nd:N.Nodup
  pre:N.take P.length=P
  par:∀ x ∈ P,sc.names.lookup x=some .local∨sc.names.lookup x=some .cell
  nofree:∀ y ∈ sc.names,y.2≠.free
theorem bindL_out {kindOf:Str→Option NameKind} {x:Str}:∀ {binds:List (Str × Value)} {m:Str→Option Value},(∀ v,(x,v) ∉ binds)→bindL kindOf binds m x=m x
  | [],_,_=>rfl
  | (n, v) :: r, m, h => by
    unfold bindL
    rw [bindL_out fun w hw=>h w (List.mem_cons_of_mem _ hw)]
    split
    · have:x≠n:=by rintro rfl; exact h v List.mem_cons_self
      simp [this]
    · rfl
theorem bindC_out {kindOf:Str→Option NameKind} {x:Str}:∀ {binds:List (Str × Value)} {m:Str→Option Value},(∀ v,(x,v) ∉ binds)→bindC kindOf binds m x=m x
  | [],_,_=>rfl
  | (n, v) :: r, m, h => by
    unfold bindC
    rw [bindC_out fun w hw=>h w (List.mem_cons_of_mem _ hw)]
    split
    · rfl
    · have:x≠n:=by rintro rfl; exact h v List.mem_cons_self
      simp [this]
theorem bindL_get {kindOf:Str→Option NameKind} {x:Str} {v:Value}:∀ {P:List Str} {vs:List Value} {i:Nat} {m:Str→Option Value},P.Nodup→P[i]? = some x→vs[i]? = some v→kindOf x=some .local →
    bindL kindOf (P.zip vs) m x=some v
  | [],_,_,_,_,h,_,_=>by simp at h
  | _ :: _,[],_,_,_,_,h,_=>by simp at h
  | p :: P, w :: vs, 0, m, nd, h1, h2, hk => by
    simp at h1 h2; subst h1; subst h2
    show bindL kindOf ((p,w) :: P.zip vs) m p=_
    unfold bindL
    rw [bindL_out fun v hv=>(List.nodup_cons.mp nd).1 (List.of_mem_zip hv).1,if_pos hk]
    simp
  | p :: P, w :: vs, i + 1, m, nd, h1, h2, hk => by
    show bindL kindOf ((p,w) :: P.zip vs) m x=_
    unfold bindL
    exact bindL_get (i:=i) (List.nodup_cons.mp nd).2 (by simpa using h1) (by simpa using h2) hk
theorem bindC_get {kindOf:Str→Option NameKind} {x:Str} {v:Value}:∀ {P:List Str} {vs:List Value} {i:Nat} {m:Str→Option Value},P.Nodup→P[i]? = some x→vs[i]? = some v→kindOf x≠some .local →
    bindC kindOf (P.zip vs) m x=some v
  | [],_,_,_,_,h,_,_=>by simp at h
  | _ :: _,[],_,_,_,_,h,_=>by simp at h
  | p :: P, w :: vs, 0, m, nd, h1, h2, hk => by
    simp at h1 h2; subst h1; subst h2
    show bindC kindOf ((p,w) :: P.zip vs) m p=_
    unfold bindC
    rw [bindC_out fun v hv=>(List.nodup_cons.mp nd).1 (List.of_mem_zip hv).1,if_neg hk]
    simp
  | p :: P, w :: vs, i + 1, m, nd, h1, h2, hk => by
    show bindC kindOf ((p,w) :: P.zip vs) m x=_
    unfold bindC
    exact bindC_get (i:=i) (List.nodup_cons.mp nd).2 (by simpa using h1) (by simpa using h2) hk
def start (N:List Str) (vs:List V):St:=vs.map some ++ List.replicate (N.length - vs.length) none
def cxOf (CX:CXT) (P:Program) (w:World) (K:PySem.W.Frag) (mg:Str→Option Value) (base:Heap) (N:List Str) (qual:Str) (scope:Scope) (f:Addr) (cd:Value) (A:Around) (outer:List Env) (s:Shared) (H:Hp) (E:XK):Cx where
  prog:=P
  w:=w
  K:=K
  mg:=mg
  base:=base
  A:=A.deeper (envOfC qual scope s.heap.objs.size f cd)
  N:=N
  s₀:=s
  H₀:=H
  env:=envOfC qual scope s.heap.objs.size f cd
  outer:=outer
  stack:=envOfC qual scope s.heap.objs.size f cd :: outer
  ex:=[]
  calm:=true
  fn:=fun _=>true
  pn:=[]
  xe:=fun e s'=>wpAny (model P w) (A.deeper (envOfC qual scope s.heap.objs.size f cd)) (leaving (envOfC qual scope s.heap.objs.size f cd) e) (fun _ s''=>CX outer H s E e s'') (fun e' s''=>CX outer H s E e' s'') s'
theorem cell_has {sc:Scope} {n:Nat} {x:Str} (h:sc.names.lookup x=some .cell):∃ c,(cellsFrom n sc.names []).lookup x=some c:=by
  have q:=PySem.W.cellsFrom_some sc.names n [] (.inl h)
  exact Option.isSome_iff_exists.mp q
theorem inv_start {CX : CXT} {P : Program} {w : World} {K : PySem.W.Frag} {mg : Str → Option Value} {base : Heap} {N ps : List Str} {qual : Str} {scope : Scope} {f : Addr} {cd : Value} {A : Around} {outer : List Env} {s s1 : Shared} {H : Hp} {E : XK} {us : List Value} {vs : List V}
    (S:FnScope N ps scope) (hd:A.handled=none) (e0:Env0 P w K mg base A outer s H) (hl:vs.length=ps.length) (r:Vals vs us)
    (x:InCallC s s.heap.objs.size (bindL (envOfC qual scope s.heap.objs.size f cd).kindOf (ps.zip us) fun _=>none) (cellsFrom (s.heap.objs.size+1) scope.names []) (bindC (envOfC qual scope s.heap.objs.size f cd).kindOf (ps.zip us) fun _=>none) s1) :
    Inv (cxOf CX P w K mg base N qual scope f cd A outer s H E) [] (start N vs) H s1:=by
  have hpl:ps.length≤N.length:=by have:=congrArg List.length S.pre; rw [List.length_take] at this; omega
  obtain ⟨h1,tk,rfl,hk⟩:=x.done
  have noA:∀ b:Addr,b ∉ (cxOf CX P w K mg base N qual scope f cd A outer s H E).ex:=fun b z=>absurd (show b ∈ ([]:List Addr) from z) (by simp)
  refine ⟨⟨e0.mod,S.kind,rfl,rfl,Nat.le_refl _,fun y z c h1 h2=>?_,fun y hy=>?_,fun y c _ h=>?_,fun _=>hd,Around.frames_deeper e0.frames,.inr ⟨rfl,rfl⟩,fun b z=>absurd z (noA b),e0.bs,e0.bsz,fun b _ _=>noA b,fun b z=>absurd z (noA b),e0.funs,e0.frf⟩,
    rfl,e0.bare,Un.kept hk,⟨_,x.toInCall.ns,fun i y v h1 h2 h3=>?_⟩,fun y c h=>⟨_,x.cell y c h⟩,e0.hok.fresh (Nat.le_refl _),fun y c h=>?_,fun p hp=>absurd (show p ∈ ([]:List (Addr × Obj)) from hp) (by simp),e0.hok.kept hk,?_⟩
  · exact name_of_addr x.apart (PySem.mem_of_lookup h1) (PySem.mem_of_lookup h2)
  · have hy:scope.names.lookup y=some .cell∨scope.names.lookup y=some .free:=hy
    rcases hy with hy | hy
    · exact cell_has hy
    · exact absurd rfl (S.nofree _ (PySem.mem_of_lookup hy))
  · exact Nat.le_of_lt (x.above y c (PySem.mem_of_lookup h))
  · have hi:i < vs.length:=by
      unfold start at h2
      by_cases hi:i < vs.length
      · exact hi
      · rw [List.getElem?_append_right (by simpa using hi)] at h2
        rw [List.getElem?_replicate] at h2
        split at h2 <;> cases h2
    have ha:vs[i]? = some v:=by
      unfold start at h2
      rw [List.getElem?_append_left (by simpa using hi),List.getElem?_map] at h2
      cases e:vs[i]? with
      | none=>rw [e] at h2; cases h2
      | some a=>rw [e] at h2; cases h2; rfl
    obtain ⟨u,hu,rv⟩:=r.get ha
    have hp:ps[i]? = some y:=by
      rw [← S.pre,List.getElem?_take_of_lt (by omega)]; exact h1
    have ndP:ps.Nodup:=by rw [← S.pre]; exact S.nd.sublist (List.take_sublist _ _)
    refine ⟨u,rv,?_⟩
    rcases S.par y (List.mem_of_getElem? hp) with k | k
    · exact .inl ⟨k,bindL_get ndP hp hu k⟩
    · obtain ⟨c,e⟩:=cell_has (n:=s.heap.objs.size+1) k
      refine .inr ⟨.inl k,c,e,?_⟩
      have q:=x.cell y c e
      rw [bindC_get ndP hp hu (by show scope.names.lookup y≠_; rw [k]; decide)] at q
      exact q
  · exact e0.hok.fresh (Nat.le_of_lt (x.above y c (PySem.mem_of_lookup h)))
  · unfold start
    show _=N.length
    rw [List.length_append,List.length_map,List.length_replicate]
    omega
theorem fn_of {CX:CXT} {P:Program} {w:World} {K:PySem.W.Frag} {mg:Str→Option Value} {base:Heap} {k:Nat} {f:Addr} {name qual:Str} {params:Arguments} {body:List Stmt} {scope:Scope} {dV kV doc pm cdv ct oc:Value} {an od:Option Addr}
    {osl:Array (Option Value)} {N ps:List Str} {sp:Sp} (lk:K.lookup f=some ⟨oc,od,.func (PySem.W.fnOf name qual params body scope dV kV doc pm an cdv ct),osl⟩) (hcd:PySem.W.codeIn K cdv qual=true) (S:FnScope N ps scope)
    (len:∀ vs H Q E,sp vs H Q E→vs.length=ps.length)
    (hbody:∀ (A:Around) (outer:List Env) (s:Shared) (H:Hp) (vs:List V) (Q:VK) (E:XK),Room k (A.deeper (envOfC qual scope s.heap.objs.size f cdv))→sp vs H Q E →
      ∃ t,PSs (cxOf CX P w K mg base N qual scope f cdv A outer s H E) body t∧t { nx:=fun _ H'=>Q .non H',rt:=Q } (start N vs) H) :
    FnOk P w K mg base CX (k+1) f (PySem.W.fnOf name qual params body scope dV kV doc pm an cdv ct) ps sp:=by
  refine ⟨len,fun A outer s H args us vs Q E hr e0 hb r hsp=>?_⟩
  have hl:=len _ _ _ _ hsp
  have KX:K.In s.heap:=e0.mod.kin.keeps fun b o e=>(e0.bs b o e).1
  have lim:s.heap.NoLimit:=e0.mod.nolimit.keeps fun b o e=>(e0.bs b o e).1
  have hkind:∀ y ∈ ps.zip us,scope.names.lookup y.1=some .local∨(scope.names.lookup y.1=some .cell∧((cellsFrom (s.heap.objs.size+1) scope.names []).lookup y.1).isSome=true):=fun ⟨n,v⟩ hy=>by
    rcases S.par n (List.of_mem_zip hy).1 with q | q
    · exact .inl q
    · exact .inr ⟨q,PySem.W.cellsFrom_some _ _ _ (.inl q)⟩
  refine codeAny_call_function hr.depth (KX _ _ lk) rfl S.co S.gen rfl (PySem.W.codeRec_of KX hcd) (hb _ _ _ _ ?_)
  refine wpAny_newFunctionEnv_cells S.kind hkind fun env he s1 x=>?_
  subst he
  refine ⟨lim.keeps x.toInCall.keep,codeAny_func ?_⟩
  obtain ⟨t,ht,hq⟩:=hbody A outer s H vs Q E (hr.deeper _) hsp
  have I:Inv (cxOf CX P w K mg base N qual scope f cdv A outer s H E) [] (start N vs) H s1:=inv_start S hr.hd e0 hl r x
  refine wpAny_mono (ht [] s1 (start N vs) H _ I hq) (fun fl s' hs=>?_) fun e s' hs=>hs
  have fin:∀ {σ':St} {H':Hp} {v:V} {u:Value},Inv (cxOf CX P w K mg base N qual scope f cdv A outer s H E) [] σ' H' s'→RelV v u→Q v H'→CE outer P w H s Q u s' :=
    fun {σ' H' v u} J rv q=>⟨v,H',J.os,J.bare,J.base,J.hok,rv,q⟩
  cases fl with
  | ret u =>
    obtain ⟨v,σ',H',J,rv,q⟩:=hs
    exact fin J rv q
  | next =>
    obtain ⟨σ',H',J,q⟩:=hs
    exact fin (v:=V.non) (u:=Value.none) J rfl q
  | brk =>
    obtain ⟨_,_,_,q⟩:=hs
    exact False.elim q
  | cont =>
    obtain ⟨_,_,_,q⟩:=hs
    exact False.elim q
end L2
namespace L2
open PySem PySem.Spec PyProof.Rows
section
variable {X:Cx} {x:Str} {p pos:Pos} {e:Expr} {es:List Expr} {t:TA} {id T:String} {r:List V→Hp→VK→Prop}
def tCB (r:List V→Hp→VK→Prop) (t:TA):TE:=fun σ H Q=>t σ H fun vs H1=>r vs H1 Q
theorem pe_callB (hc:CallR X (.builtin id) r) (hg:Gl X x) (hm:X.mg x=none) (hv:bootBuiltins x=some (.builtin id)) (ha:PA X (e :: es) t) (hn:x≠"__name__":=by decide) (hdb:(x == ("__debug__":Str))=false:=by decide)
    (he:starEach (e :: es) X.env=(false,eval e X.env) :: starEach es X.env:=by rfl) (hpl:(backTo pos (starEach es X.env)).any (·.1)=false:=by rfl):PE X (.Call (.Name x p) (e :: es) [] pos) (tCB r t):=by
  intro pins s σ H Q I h
  refine wpAny_Call_Name_kw (ld_blt I hg hm hv ?_ hn hdb)
  exact PyProof.Rows.callWith_builtin1 (thn (ha pos pins s σ H _ I h) fun us s1 ⟨vs,H1,I1,r1,q1⟩=>hc pins s1 σ H1 vs us Q I1 r1 q1) he hpl
end
end L2
namespace HT
open PySem PyProof.Rows
section
open PySem.SeqAt
open PySem.AutoSeq1 (wpAny_loadPart')
open PySem.MeetsSeq PySem.MeetsSeq2 PySem.MeetsSeq3
end
section
variable {prog:Program} {w:World} {A:Around} {E:Value→Shared→Prop} {s:Shared}
def sIx (n d:Nat):Option Int→Nat
  | none=>d
  | some v=>if v < 0 then (v+(n:Int)).toNat else min v.toNat n
theorem sIx_none (n d:Nat):sIx n d none=d:=rfl
theorem sIx_nat (n d k:Nat):sIx n d (some (k:Int))=min k n:=by
  show (if (k:Int) < 0 then ((k:Int)+(n:Int)).toNat else min (k:Int).toNat n)=min k n
  rw [if_neg (by omega),Int.toNat_natCast]
end
end HT
namespace L2
open PySem PySem.Spec PyProof.Rows
abbrev TO:=St→Hp→(Option Int→Hp→Prop)→Prop
def PO (X : Cx) (e : Option Expr) (t : TO) : Prop :=
  ∀ (pins : List (Addr × Obj)) (s : Shared) (σ : St) (H : Hp) (Q : Option Int → Hp → Prop), Inv X pins σ H s → t σ H Q →
    wpAny (model X.prog X.w) X.A (evalPart e X.env) (fun u s'=>∃ o H',Inv X pins σ H' s'∧IsPart u o∧Q o H') X.xe s
def tNoPart:TO:=fun _ H Q=>Q none H
def tPart (t:TE):TO:=fun σ H Q=>t σ H fun x H1=>∃ i,x = .int i∧Q (some i) H1
theorem intsAre_of {ns:List Int}:∀ {us:List Value},Vals (ns.map V.int) us→IntsAre us ns:=by
  induction ns with
  | nil=>intro us r; rw [List.map_nil] at r; cases r; exact .nil
  | cons n ns ih =>
    intro us r
    rw [List.map_cons] at r
    cases r with
    | cons r1 r2 =>
      obtain ⟨t,e⟩:=r1
      subst e
      exact .cons n t (ih r2)
section
variable {X:Cx} {e:Expr} {te:TE} {lo hi:Option Expr} {tl th:TO} {pos p2:Pos}
theorem po_none:PO X none tNoPart:=by
  intro pins s σ H Q I h
  rw [evalPart_none]
  exact wpAny_pure ⟨none,H,I,.none,h⟩
theorem po_some (h:PE X e te):PO X (some e) (tPart te):=by
  intro pins s σ H Q I hw
  rw [evalPart_some]
  refine thn (h pins s σ H _ I hw) fun u s1 ⟨x,H1,I1,r1,q1⟩=>?_
  obtain ⟨i,rfl,q⟩:=q1
  obtain ⟨t,rfl⟩:=r1
  exact ⟨some i,H1,I1,.int i t,q⟩
def SlR (X : Cx) (r : V → Option Int → Option Int → Hp → VK → Prop) : Prop :=
  ∀ (pins : List (Addr × Obj)) (s : Shared) (σ : St) (H : Hp) (x : V) (v vl vu : Value) (lo hi : Option Int) (sl : Addr) (Q : VK), Inv X pins σ H s → RelV x v → s.heap.IsSliceOf sl vl vu .none → IsPart vl lo → IsPart vu hi → r x lo hi H Q →
    ∃ T id,typeLookup (.type T) "__getitem__" = pure (some (.builtin id))∧s.TypeIs v T∧wpAny (model X.prog X.w) X.A (getItem v (.ref sl)) (EP X pins σ Q) X.xe s
def tSl (r:V→Option Int→Option Int→Hp→VK→Prop) (te:TE) (tl th:TO):TE:=fun σ H Q=>te σ H fun x H1=>tl σ H1 fun l H2=>th σ H2 fun u H3=>r x l u H3 Q
theorem pe_slice {r:V→Option Int→Option Int→Hp→VK→Prop} (hr:SlR X r) (he:PE X e te) (hl:PO X lo tl) (hu:PO X hi th):PE X (.Subscript e (.Slice lo hi none p2) pos) (tSl r te tl th):=by
  intro pins s σ H Q I h
  refine Subscript_ (thn (he pins s σ H _ I h) fun v s1 ⟨x,H1,I1,r1,q1⟩=>?_)
  refine wpAny_Slice (thn (hl pins s1 σ H1 _ I1 q1) fun vl s2 ⟨l,H2,I2,pl,q2⟩=>thn (hu pins s2 σ H2 _ I2 q2) fun vu s3 ⟨u,H3,I3,pu,q3⟩=>?_)
  rw [evalPart_none]
  refine wpAny_pure ?_
  have I4:Inv X pins σ H3 { s3 with heap:=s3.heap.push { cls:=.type "slice",data:=.fields #[vl,vu,.none] } }:=I3.kept (t':=s3.toks) fun b ob q=>Heap.get?_push_of_some _ q
  obtain ⟨T,id,hT,ht,hg⟩:=hr pins { s3 with heap:=s3.heap.push { cls:=.type "slice",data:=.fields #[vl,vu,.none] } } σ H3 x v vl vu l u s3.heap.objs.size Q I4 r1 (Heap.IsSliceOf.new ..) pl pu q3
  show wpAny (model X.prog X.w) X.A (subscriptTail e (.Slice lo hi none p2) v (.ref s3.heap.objs.size)) (EP X pins σ Q) X.xe { s3 with heap:=s3.heap.push { cls:=.type "slice",data:=.fields #[vl,vu,.none] } }
  exact tail_any (ops:=[.ref s3.heap.objs.size,v]) ht hT hg (by with_unfolding_all rfl)
def cutV (xs:List V) (lo hi:Option Int):List V:=(xs.drop (HT.sIx xs.length 0 lo)).take (HT.sIx xs.length xs.length hi - HT.sIx xs.length 0 lo)
theorem cutV_length (xs:List V) (lo hi:Option Int):(cutV xs lo hi).length≤xs.length:=by
  unfold cutV
  rw [List.length_take,List.length_drop]
  omega
end
end L2
namespace L2
open PySem PySem.Spec PyProof.Rows
def ixN (n:Nat) (i:Int):Option Nat:=if 0≤i then (if i < n then some i.toNat else none) else if -(n:Int)≤i then some (i+n).toNat else none
def atI {α:Type} (xs:List α) (i:Int):Option α:=(ixN xs.length i).bind fun j=>xs[j]?
theorem ixN_seq {n:Nat} {i:Int} {j:Nat} (h:ixN n i=some j):seqIndex? i n=some j∧j < n∧-(n:Int)≤i∧i < n:=by
  unfold ixN at h
  by_cases h0:0≤i
  · rw [if_pos h0] at h
    by_cases h1:i < n
    · rw [if_pos h1] at h
      have e:i.toNat=j:=Option.some.inj h
      exact ⟨by rw [seqIndex_of h0 h1,e],by omega,by omega,h1⟩
    · rw [if_neg h1] at h; cases h
  · rw [if_neg h0] at h
    by_cases h1:-(n:Int)≤i
    · rw [if_pos h1] at h
      have e:(i+n).toNat=j:=Option.some.inj h
      exact ⟨by rw [seqIndex_neg (by omega) h1,e],by omega,h1,by omega⟩
    · rw [if_neg h1] at h; cases h
theorem atI_get {α:Type} {xs:List α} {i:Int} {v:α} (h:atI xs i=some v):∃ j,seqIndex? i xs.length=some j∧xs[j]? = some v∧j < xs.length∧-(xs.length:Int)≤i∧i < xs.length:=by
  unfold atI at h
  cases e:ixN xs.length i with
  | none=>rw [e] at h; cases h
  | some j =>
    rw [e] at h
    obtain ⟨h1,h2,h3,h4⟩:=ixN_seq e
    exact ⟨j,h1,h,h2,h3,h4⟩
theorem atI_nat {α:Type} {xs:List α} {j:Nat} {v:α} (h:xs[j]? = some v):atI xs (j:Int)=some v:=by
  have hj:j < xs.length:=(List.getElem?_eq_some_iff.mp h).1
  have e:ixN xs.length (j:Int)=some j:=by
    unfold ixN
    rw [if_pos (by omega),if_pos (by omega)]; simp
  unfold atI; rw [e]; exact h
def PlainIx (b:Expr):Prop:=∀ o i,subscripted b false o i=operate [o,i] (getItem o i)
def IxR (X : Cx) (r : R2) : Prop :=
  ∀ (value slice : Expr) (pins : List (Addr × Obj)) (s : Shared) (σ : St) (H : Hp) (x y : V) (v u : Value) (Q : VK), Inv X pins σ H s → RelV x v → RelV y u → r x y H Q →
    subscripted slice false v u=operate [v,u] (getItem v u)→wpAny (model X.prog X.w) X.A (subscriptTail value slice v u) (EP X pins σ Q) X.xe s
def MtR (X : Cx) (id : String) (r : V → List V → Hp → VK → Prop) : Prop :=
  ∀ (pins : List (Addr × Obj)) (s : Shared) (σ : St) (H : Hp) (x : V) (xs : List V) (v : Value) (us : List Value) (Q : VK), Inv X pins σ H s → RelV x v → Vals xs us → r x xs H Q →
    wpAny (model X.prog X.w) X.A (call (.builtin id) (v :: us)) (EP X pins σ Q) X.xe s
section
variable {X:Cx} {a b:Expr} {ta tb:TE} {pos:Pos}
theorem IxR.or {r r':R2} (h:IxR X r) (h':IxR X r'):IxR X (fun x y H Q=>r x y H Q∨r' x y H Q):=by
  intro value slice pins s σ H x y v u Q I rx ry q hs
  rcases q with q | q
  · exact h value slice pins s σ H x y v u Q I rx ry q hs
  · exact h' value slice pins s σ H x y v u Q I rx ry q hs
theorem pe_ix {r:R2} (hr:IxR X r) (ha:PE X a ta) (hb:PE X b tb) (hs:PlainIx b):PE X (.Subscript a b pos) (tOp r ta tb):=by
  intro pins s σ H Q I h
  exact Subscript_ (binT ha hb I h fun v u s2 x y H2 I2 rx ry q=>hr a b pins s2 σ H2 x y v u Q I2 rx ry q (hs _ _))
def rIxL (K:PySem.W.Frag):R2:=fun x y H Q=>∃ p xs i v,x = .ref p∧y = .int i∧SqL K H p xs∧atI xs i=some v∧Q v H
def rIxT (K:PySem.W.Frag):R2:=fun x y H Q=>∃ p xs i v,x = .ref p∧y = .int i∧SqT K H p xs∧atI xs i=some v∧Q v H
theorem ix_list:IxR X (rIxL X.K):=by
  intro value slice pins s σ H x y v u Q I rx ry h hs
  obtain ⟨p,xs,i,z,rfl,rfl,hq,he,q⟩:=h
  cases rx
  obtain ⟨t,rfl⟩:=ry
  obtain ⟨its,r,pl,hz⟩:=I.list hq
  obtain ⟨j,h1,h2,h3,h4,h5⟩:=atI_get he
  obtain ⟨w,ew,rw'⟩:=r.get h2
  have hl:=r.length
  have hn:=line63
  have fin:EP X pins σ Q w s:=⟨z,H,I,rw',q⟩
  by_cases h0:0≤i
  · have hj:i.toNat=j:=by
      rw [seqIndex_of h0 h5] at h1
      exact Option.some.inj h1
    exact item_listR pl.isList h0 (by omega) (by rw [hj]; simpa using ew) fin hs
  · have hj:(i+(its.toArray.size:Int)).toNat=j:=by
      rw [seqIndex_neg (by omega) h4] at h1
      rw [List.size_toArray,← hl]
      exact Option.some.inj h1
    exact subscriptTail_builtinR (x:=w) pl.isList.typeIs slot_list_getitem.lookup
      (wpAny_getItem_list_neg (Q:=fun r s'=>r=w∧EP X pins σ Q r s') pl.isList (by omega) (by rw [List.size_toArray] <;> omega) (by omega) (by rw [hj]; simpa using ew) ⟨rfl,fin⟩) hs
theorem ix_tup:IxR X (rIxT X.K):=by
  intro value slice pins s σ H x y v u Q I rx ry h hs
  obtain ⟨p,xs,i,z,rfl,rfl,hq,he,q⟩:=h
  cases rx
  obtain ⟨t,rfl⟩:=ry
  obtain ⟨its,r,pl,hz⟩:=I.tuple hq
  obtain ⟨j,h1,h2,h3,h4,h5⟩:=atI_get he
  obtain ⟨w,ew,rw'⟩:=r.get h2
  have hl:=r.length
  have hn:=line63
  have fin:EP X pins σ Q w s:=⟨z,H,I,rw',q⟩
  exact subscriptTail_builtinR (x:=w) pl.typeIs slot_tuple_getitem.lookup
    (getItem_tuple (j:=j) (Q:=fun r s'=>r=w∧EP X pins σ Q r s') pl (by omega) (by omega) (by rw [List.size_toArray,← hl]; exact h1) (by simpa using ew) ⟨rfl,fin⟩) hs
theorem mapSeq_set (its:List Value) (n j:Nat) (u:Value):Obj.mapSeq (·.setIfInBounds j u) { cls:=.type "list",data:=.seq its.toArray n } = { cls:=.type "list",data:=.seq (its.set j u).toArray n }:=by
  simp [Obj.mapSeq]
theorem Inv.lst {pins:List (Addr × Obj)} {σ:St} {H:Hp} {s:Shared} {p:Addr} {xs:List V} (I:Inv X pins σ H s) (h:H p=some (.lst xs)) :
    ∃ (its:List Value) (n:Nat),Vals xs its∧s.heap.get? p=some { cls:=.type "list",data:=.seq its.toArray n }∧xs.length≤sizeLine:=by
  obtain ⟨z,its,n,r,e⟩:=I.hok p _ h
  exact ⟨its,n,r,e,z⟩
theorem Inv.lstUpd {pins:List (Addr × Obj)} {σ:St} {H:Hp} {s:Shared} {p:Addr} {xs ys:List V} {its its':List Value} {n n':Nat} {f:Obj→Obj} (I:Inv X pins σ H s) (h:H p=some (.lst xs))
    (ho:s.heap.get? p=some { cls:=.type "list",data:=.seq its.toArray n }) (hf:f { cls:=.type "list",data:=.seq its.toArray n } = { cls:=.type "list",data:=.seq its'.toArray n' }) (r:Vals ys its') (hz:ys.length≤sizeLine) (t:Nat) :
    Inv X pins σ (upd H p (.lst ys)) { s with heap:=s.heap.update p f,toks:=t }:=by
  have e:(s.heap.update p f).get? p=some { cls:=.type "list",data:=.seq its'.toArray n' }:=by
    rw [Heap.get?_update_self f ho (by rw [hf] <;> rfl),hf]
  refine I.write (x:=p) (e:=p) (by rw [h]; trivial) (.inl rfl) (fun b u hb q=>(Heap.get?_update_other _ _ (Ne.symm hb)).trans q) ⟨_,e⟩ ?_
  exact ⟨hz,its',n',r,e⟩
def rSetL:V→V→V→Hp→(Hp→Prop)→Prop:=fun o i v H Q=>∃ p xs k j,o = .ref p∧i = .int k∧H p=some (.lst xs)∧ixN xs.length k=some j∧Q (upd H p (.lst (xs.set j v)))
theorem set_list:PSet X rSetL:=by
  intro pins s σ H o i v ov iv u Q I ro ri rv h
  obtain ⟨p,xs,k,j,rfl,rfl,hp,hj,q⟩:=h
  cases ro
  obtain ⟨t,rfl⟩:=ri
  obtain ⟨its,n,r,ho,hz⟩:=I.lst hp
  obtain ⟨h1,h2,h3,h4⟩:=ixN_seq hj
  have hl:=r.length
  have hn:=line63
  have I':Inv X pins σ (upd H p (.lst (xs.set j v))) { s with heap:=s.heap.update p (Obj.mapSeq (·.setIfInBounds j u)) } :=
    I.lstUpd hp ho (mapSeq_set its n j u) (r.set rv j) (by rw [List.length_set]; exact hz) s.toks
  by_cases h0:0≤k
  · have hk:k.toNat=j:=by
      rw [seqIndex_of h0 h4] at h1
      exact Option.some.inj h1
    exact PySem.W.ki_setAt ho h0 (by omega) (by rw [List.size_toArray,← hl]; exact h4) (by rw [hk]; exact ⟨_,I',q⟩)
  · have hk:(k+(its.toArray.size:Int)).toNat=j:=by
      rw [seqIndex_neg (by omega) h3] at h1
      rw [List.size_toArray,← hl]
      exact Option.some.inj h1
    exact PySem.W.ki_setBack ho (by omega) (by rw [List.size_toArray,← hl]; exact h3) (by omega) (by rw [hk]; exact ⟨_,I',q⟩)
theorem slice_bounds (lo hi:Option Int) (n:Nat):(sliceBounds lo hi none n).1=((HT.sIx n 0 lo:Nat):Int)∧(sliceBounds lo hi none n).2.1=((HT.sIx n n hi:Nat):Int)∧(sliceBounds lo hi none n).2.2=1:=by
  refine ⟨?_,?_,rfl⟩
  · cases lo with
    | none=>simp [sliceBounds,HT.sIx]
    | some i =>
      simp only [sliceBounds,HT.sIx,Option.getD_none,show (1:Int) > 0 by decide,if_true]
      by_cases h:i < 0
      · simp only [h,if_true] <;> omega
      · simp only [h,if_false] <;> omega
  · cases hi with
    | none=>simp [sliceBounds,HT.sIx]
    | some i =>
      simp only [sliceBounds,HT.sIx,Option.getD_none,show (1:Int) > 0 by decide,if_true]
      by_cases h:i < 0
      · simp only [h,if_true] <;> omega
      · simp only [h,if_false] <;> omega
theorem slicePick_cut (its:List Value) (lo hi:Option Int):slicePick its.toArray lo hi none=((its.drop (HT.sIx its.length 0 lo)).take (HT.sIx its.length its.length hi - HT.sIx its.length 0 lo)).toArray:=by
  obtain ⟨h1,h2,h3⟩:=slice_bounds lo hi its.toArray.size
  unfold slicePick
  rw [h1,h2,h3]
  simp only [sliceRange_one,pick_run,List.size_toArray] <;> rfl
def rSlL (K:PySem.W.Frag):V→Option Int→Option Int→Hp→VK→Prop:=fun x lo hi H Q=>∃ a xs,x = .ref a∧SqL K H a xs∧∀ p,H p=none→Q (.ref p) (upd H p (.lst (cutV xs lo hi)))
theorem sl_list:SlR X (rSlL X.K):=by
  intro pins s σ H x v vl vu lo hi sl Q I rx hs pl pu h
  obtain ⟨a,xs,rfl,hx,q⟩:=h
  cases rx
  obtain ⟨its,r,ht,hz⟩:=I.list hx
  have hlen:=r.length
  refine ⟨"list",_,slot_list_getitem.lookup,ht.isList.typeIs,?_⟩
  refine wpAny_getItem_list_slice ht.isList hs pl pu .none (by simp) ?_ (by rw [List.size_toArray] <;> omega)
  rw [slicePick_cut,← hlen]
  refine ⟨.ref s.heap.objs.size,_,I.laid (t':=s.toks) (o:=.lst (cutV xs lo hi)) (fun b ob q=>Heap.get?_push_of_some _ q) (Nat.le_refl _) ?_,rfl,q _ (I.hok.fresh (Nat.le_refl _))⟩
  exact ⟨Nat.le_trans (cutV_length xs lo hi) hz,_,0,(r.drop (HT.sIx xs.length 0 lo)).take (HT.sIx xs.length xs.length hi - HT.sIx xs.length 0 lo),Heap.get?_push_size _ rfl⟩
theorem call_len_seq:CallR X (.builtin "len") (fun xs H Q=>∃ p ys,xs=[.ref p]∧(SqL X.K H p ys∨SqT X.K H p ys)∧Q (.int ys.length) H):=by
  intro pins s σ H xs us Q I r h
  obtain ⟨p,ys,rfl,hq,q⟩:=h
  obtain ⟨u,rfl,rx⟩:=vals1 r
  cases rx
  have hn:=line63
  rcases hq with hq | hq
  · obtain ⟨its,r',pl,hz⟩:=I.list hq
    have hlen:=r'.length
    exact Calls.call_len_list pl.isList (by simp only [List.size_toArray] <;> omega) ⟨.int ys.length,H,I.tok _,⟨s.toks+1,by rw [List.size_toArray,hlen]⟩,q⟩
  · obtain ⟨its,r',pl,hz⟩:=I.tuple hq
    have hlen:=r'.length
    exact len_tuple pl (by simp only [List.size_toArray] <;> omega) ⟨.int ys.length,H,I.tok _,⟨s.toks+1,by rw [List.size_toArray,hlen]⟩,q⟩
theorem CallR.or {f:Value} {r r':List V→Hp→VK→Prop} (h:CallR X f r) (h':CallR X f r'):CallR X f (fun xs H Q=>r xs H Q∨r' xs H Q):=by
  intro pins s σ H xs us Q I rs q
  rcases q with q | q
  · exact h pins s σ H xs us Q I rs q
  · exact h' pins s σ H xs us Q I rs q
def tyV (K:PySem.W.Frag) (T:String) (x:V) (H:Hp):Prop:=match x with
  | .str _=>T = "str"
  | .int _=>T = "int"
  | .ref p=>(T = "list"∧∃ xs,SqL K H p xs)∨(T = "tuple"∧∃ o,K.lookup p=some o∧o.cls = .type "tuple"∧o.dict=none) ∨
      (T = "dict"∧((∃ kvs,H p=some (.dK kvs))∨∃ kvs,H p=some (.dT kvs)))∨(T = "set"∧∃ S n,H p=some (.set S n))
  | _=>False
theorem tyV_is {pins : List (Addr × Obj)} {σ : St} {H : Hp} {s : Shared} {T : String} {x : V} {v : Value} (I : Inv X pins σ H s) (r : RelV x v) (ty : tyV X.K T x H) :
    s.TypeIs v T∧∀ a,v = .ref a→∃ ob,s.heap.get? a=some ob∧ob.dict=none:=by
  cases x with
  | str z =>
    obtain ⟨t,rfl⟩:=r
    cases (show T = "str" from ty)
    exact ⟨typeIs_str s z t,fun _ e=>nomatch e⟩
  | int i =>
    obtain ⟨t,rfl⟩:=r
    cases (show T = "int" from ty)
    exact ⟨typeIs_int s i t,fun _ e=>nomatch e⟩
  | ref p =>
    cases r
    rcases ty with ⟨rfl,xs,hq⟩ | ⟨rfl,o,hk,hc,hd⟩ | ⟨rfl,hk⟩ | ⟨rfl,S,n,hk⟩
    · obtain ⟨its,_,pl,_⟩:=I.list hq
      refine ⟨pl.isList.typeIs,fun a e=>?_⟩
      cases e
      obtain ⟨o,n,e,c,hd,_⟩:=pl
      exact ⟨o,e,hd⟩
    · refine ⟨⟨o,I.kIn p o hk,hc⟩,fun a e=>?_⟩
      cases e
      exact ⟨o,I.kIn _ o hk,hd⟩
    · have z:∃ o,s.heap.get? p=some o∧o.ExactDict:=by
        rcases hk with ⟨kvs,hk⟩ | ⟨kvs,hk⟩
        · obtain ⟨_,_,_,_,o,_,_,e,ex,_⟩:=I.hok p _ hk
          exact ⟨o,e,ex⟩
        · obtain ⟨_,_,_,_,o,_,_,e,ex,_⟩:=I.hok p _ hk
          exact ⟨o,e,ex⟩
      obtain ⟨o,e,ex⟩:=z
      refine ⟨⟨o,e,ex.1⟩,fun a e2=>?_⟩
      cases e2
      exact ⟨o,e,ex.2.1⟩
    · obtain ⟨o,_,_,_,e,ex,_⟩:=I.hok p _ hk
      refine ⟨⟨o,e,ex.1⟩,fun a e2=>?_⟩
      cases e2
      exact ⟨o,e,ex.2.1⟩
  | _=>exact False.elim ty
def tBM0 (K:PySem.W.Frag) (T:String) (r:V→List V→Hp→VK→Prop) (to:TE):TE:=fun σ H Q=>to σ H fun x H1=>tyV K T x H1∧r x [] H1 Q
def tBM (K:PySem.W.Frag) (T:String) (r:V→List V→Hp→VK→Prop) (to:TE) (t:TA):TE:=fun σ H Q=>to σ H fun x H1=>tyV K T x H1∧t σ H1 fun xs H2=>r x xs H2 Q
variable {o e:Expr} {es:List Expr} {to:TE} {t:TA} {name:Str} {apos cpos:Pos} {T id:String} {r:V→List V→Hp→VK→Prop}
theorem pe_bm0 (pa:PlainAttrs T) (slot:Slot T name id) (hty:typeOf (.builtin id)=pure (.type "method_descriptor")) (hm:MtR X id r) (ho:PE X o to)
    (hbase:attributeBase o name X.env (eval o X.env)=eval o X.env:=by rfl) (hline:(apos.endLine == cpos.line)=true:=by rfl):PE X (.Call (.Attribute o name apos) [] [] cpos) (tBM0 X.K T r to):=by
  intro pins s σ H Q I h
  refine wpAny_Call_method0_late hbase hline (thn (ho pins s σ H _ I h) fun v s1 ⟨x,H1,I1,r1,ty,q1⟩=>?_)
  obtain ⟨h1,h2⟩:=tyV_is I1 r1 ty
  exact ⟨T,id,pa,slot,hty,h1,h2,Calls.callWith_builtin rfl (PySem.evalArgs_none (hm pins s1 σ H1 x [] v [] Q I1 r1 .nil q1))⟩
theorem pe_bm (pa:PlainAttrs T) (slot:Slot T name id) (hty:typeOf (.builtin id)=pure (.type "method_descriptor")) (hm:MtR X id r) (ho:PE X o to) (ha:PA X (e :: es) t)
    (hbase:attributeBase o name X.env (eval o X.env)=eval o X.env:=by rfl)
    (hfew:((backTo cpos (starEach (e :: es) X.env)).all (fun x=>!x.1) && (backToKw cpos (keywordEach [] X.env)).all (fun x=>x.1.isSome)
      && decide ((e :: es).length+([]:List Keyword).length+(if ([]:List Keyword).isEmpty then 0 else 1) < 30))=true:=by rfl)
    (hline:(apos.endLine == cpos.line)=true:=by rfl) (hs:starEach (e :: es) X.env=(false,eval e X.env) :: starEach es X.env:=by rfl) (hplain:(backTo cpos (starEach es X.env)).any (·.1)=false:=by rfl) :
    PE X (.Call (.Attribute o name apos) (e :: es) [] cpos) (tBM X.K T r to t):=by
  intro pins s σ H Q I h
  refine wpAny_Call_method_late hbase hfew hline rfl (thn (ho pins s σ H _ I h) fun v s1 ⟨x,H1,I1,r1,ty,q1⟩=>?_)
  obtain ⟨h1,h2⟩:=tyV_is I1 r1 ty
  refine ⟨T,id,pa,slot,hty,h1,h2,?_⟩
  have hA:=ha cpos pins s1 σ H1 _ I1 q1
  rw [hs] at hA ⊢
  refine Calls.callWith_builtin (by show (false || (backTo cpos (starEach es X.env)).any (·.1))=false; rw [hplain] <;> rfl) (Calls.evalArgs_plain ?_)
  exact thn hA fun us s2 ⟨vs,H2,I2,r2,q2⟩=>hm pins s2 σ H2 x vs v us Q I2 r1 r2 q2
end
end L2
namespace L2
open PySem PySem.Spec PyProof.Rows
def MtM (X : Cx) (id : String) (r : V → List V → Hp → VK → Prop) : Prop :=
  ∀ (pins : List (Addr × Obj)) (s : Shared) (σ : St) (H : Hp) (x : V) (xs : List V) (v : Value) (us : List Value) (Q : VK), Inv X pins σ H s → RelV x v → Vals xs us → r x xs H Q →
    wpAny (model X.prog X.w) X.A (call (.builtin id) (v :: us)) (EP X pins σ Q) X.xe s
theorem Vals.one:∀ {x:V} {us:List Value},Vals [x] us→∃ u,us=[u]∧RelV x u
  | _,_,.cons r .nil=>⟨_,rfl,r⟩
theorem Vals.zero:∀ {us:List Value},Vals [] us→us=[]
  | _,.nil=>rfl
theorem Vals.dropLast {xs:List V} {us:List Value} (h:Vals xs us):Vals xs.dropLast us.dropLast:=by
  induction h with
  | nil=>exact .nil
  | cons r t ih =>
    cases t with
    | nil=>exact .nil
    | cons q t'=>exact .cons r ih
theorem erase_last {α : Type} (l : List α) : l.eraseIdx (l.length - 1) = l.dropLast := by
  induction l with
  | nil=>rfl
  | cons a r ih =>
    cases r with
    | nil=>rfl
    | cons b r =>
      have e:(a :: b :: r).length - 1=((b :: r).length - 1)+1:=by
        have h1:(a :: b :: r).length=r.length+2:=rfl
        have h2:(b :: r).length=r.length+1:=rfl
        omega
      rw [e,List.eraseIdx_cons_succ,ih]
      all_goals rfl
section
variable {X:Cx} {pins:List (Addr × Obj)} {σ:St} {H:Hp} {s:Shared} {l b:Addr} {xs ys zs:List V}
theorem Inv.lset {its its':List Value} {n:Nat} {f:Array Value→Array Value} {t':Nat} (I:Inv X pins σ H s) (hH:H l=some (.lst xs))
    (e:s.heap.get? l=some { cls:=.type "list",data:=.seq its.toArray n }) (hf:f its.toArray=its'.toArray) (hv:Vals ys its') (hz:ys.length≤sizeLine) :
    Inv X pins σ (upd H l (.lst ys)) { s with heap:=s.heap.update l (Obj.mapSeq f),toks:=t' }:=by
  have q:=PySem.IsL.update e f
  rw [hf] at q
  refine I.write (x:=l) (e:=l) (by rw [hH]; exact trivial) (.inl rfl) (fun b' u hb hu=>(Heap.get?_update_other s.heap (Obj.mapSeq f) (Ne.symm hb)).trans hu) ⟨_,q⟩ ?_
  exact ⟨hz,its',_,hv,q⟩
theorem Inv.lnew {its:List Value} {t':Nat} (I:Inv X pins σ H s) (hv:Vals ys its) (hz:ys.length≤sizeLine) :
    Inv X pins σ (upd H s.heap.objs.size (.lst ys)) { s with heap:=s.heap.push { cls:=.type "list",data:=.seq its.toArray },toks:=t' } :=
  I.laid (fun _ _ q=>Heap.get?_push_of_some _ q) (Nat.le_refl _) ⟨hz,its,0,hv,Heap.get?_push_size _ rfl⟩
theorem Inv.fresh (I:Inv X pins σ H s):H s.heap.objs.size=none:=I.hok.fresh (Nat.le_refl _)
theorem Inv.lstM (I:Inv X pins σ H s) (hH:H l=some (.lst xs)):xs.length≤sizeLine∧∃ (its:List Value) (n:Nat),Vals xs its∧xs.length=its.length∧s.heap.get? l=some { cls:=.type "list",data:=.seq its.toArray n }:=by
  obtain ⟨z,its,n,r,e⟩:=I.hok l _ hH
  exact ⟨z,its,n,r,r.length,e⟩
theorem notLongL {n:Nat} (h:n≤sizeLine):Builtin.List.listTooLong n=false:=by
  unfold Builtin.List.listTooLong
  exact decide_eq_false (by omega)
end
section
variable {X:Cx}
def rAppend:V→List V→Hp→VK→Prop:=fun x vs H Q=>∃ l xs y,x = .ref l∧vs=[y]∧H l=some (.lst xs)∧xs.length < sizeLine∧Q .non (upd H l (.lst (xs ++ [y])))
theorem mt_append:MtM X "list.append" rAppend:=by
  intro pins s σ H x vs v us Q I rx rv h
  obtain ⟨l,xs,y,rfl,rfl,hH,hz,q⟩:=h
  cases rx
  obtain ⟨u,rfl,ru⟩:=rv.one
  obtain ⟨z,its,n,r,hl,e⟩:=I.lstM hH
  refine call_meets F.slot_list_append ⟨_,e,rfl⟩ F.entry_list_append (F.args_list_append_2 _ _) (PySem.list_append l its.toArray n u (by rw [List.size_toArray]; omega)) ⟨e,?_⟩
  refine ⟨.non,_,I.lset (its':=its ++ [u]) hH e (by simp) (r.append (.cons ru .nil)) ?_,rfl,q⟩
  rw [List.length_append,List.length_singleton]
  omega
def rExtend:V→List V→Hp→VK→Prop:=fun x vs H Q=>∃ l b xs zs,x = .ref l∧vs=[.ref b]∧H l=some (.lst xs)∧H b=some (.lst zs)∧xs.length+zs.length≤sizeLine∧Q .non (upd H l (.lst (xs ++ zs)))
theorem mt_extend:MtM X "list.extend" rExtend:=by
  intro pins s σ H x vs v us Q I rx rv h
  obtain ⟨l,b,xs,zs,rfl,rfl,hH,hB,hz,q⟩:=h
  cases rx
  obtain ⟨u,rfl,ru⟩:=rv.one
  cases ru
  obtain ⟨z,its,n,r,hl,e⟩:=I.lstM hH
  obtain ⟨z2,its2,n2,r2,hl2,e2⟩:=I.lstM hB
  have hsz:its.toArray.size+its2.toArray.size≤sizeLine:=by rw [List.size_toArray,List.size_toArray]; omega
  have hlong:¬ (!its.toArray.isEmpty && Builtin.List.listTooLong (its.toArray.size+its2.toArray.size))=true:=by
    rw [notLongL hsz,Bool.and_false]
    exact Bool.false_ne_true
  refine call_meets F.slot_list_extend ⟨_,e,rfl⟩ F.entry_list_extend (F.args_list_extend_2 _ _)
    (AutoSeq1.list_extend_list_list_0 l its.toArray n b its2.toArray n2 hlong (by rw [List.size_toArray]; omega) (by omega)) ⟨e,e2,?_⟩
  refine ⟨.non,_,I.lset (its':=its ++ its2) hH e (by simp) (r.append r2) ?_,rfl,q⟩
  rw [List.length_append]
  omega
def rPop:V→List V→Hp→VK→Prop:=fun x vs H Q=>∃ l xs y,x = .ref l∧vs=[]∧H l=some (.lst xs)∧xs[xs.length - 1]? = some y∧Q y (upd H l (.lst xs.dropLast))
theorem mt_pop:MtM X "list.pop" rPop:=by
  intro pins s σ H x vs v us Q I rx rv h
  obtain ⟨l,xs,y,rfl,rfl,hH,hy,q⟩:=h
  cases rx
  have hus:=rv.zero
  subst hus
  obtain ⟨z,its,n,r,hl,e⟩:=I.lstM hH
  obtain ⟨u,hu,ru⟩:=r.get hy
  have hy':its.toArray[its.toArray.size - 1]? = some u:=by
    show its.toArray[its.length - 1]? = some u
    rw [← Array.getElem?_toList,← hl]
    exact hu
  refine call_meets F.slot_list_pop ⟨_,e,rfl⟩ F.entry_list_pop (F.args_list_pop_1 _) (MeetsSeq.list_pop_last l its.toArray n u hy' (by rw [List.size_toArray]; omega)) ⟨e,?_⟩
  refine ⟨y,_,I.lset (its':=its.dropLast) hH e ?_ r.dropLast ?_,ru,q⟩
  · show its.toArray.eraseIdxIfInBounds (its.toArray.size - 1)=its.dropLast.toArray
    rw [List.size_toArray,List.eraseIdxIfInBounds_toArray,erase_last]
  · rw [List.length_dropLast]
    omega
def rCat:R2:=fun x y H Q=>∃ l b xs zs,x = .ref l∧y = .ref b∧H l=some (.lst xs)∧H b=some (.lst zs)∧xs.length+zs.length≤sizeLine∧∀ p,H p=none→Q (.ref p) (upd H p (.lst (xs ++ zs)))
theorem op_cat:OpR X (binaryOp .Add) rCat:=by
  intro pins s σ H x y v u Q I rx ry h
  obtain ⟨l,b,xs,zs,rfl,rfl,hH,hB,hz,q⟩:=h
  cases rx
  cases ry
  obtain ⟨z,its,n,r,hl,e⟩:=I.lstM hH
  obtain ⟨z2,its2,n2,r2,hl2,e2⟩:=I.lstM hB
  refine PySem.P.add_list e e2 ?_ (by rw [List.size_toArray,List.size_toArray]; omega)
  have ea:its.toArray ++ its2.toArray=(its ++ its2).toArray:=by simp
  rw [ea]
  exact ⟨.ref _,_,I.lnew (t':=s.toks) (r.append r2) (by rw [List.length_append]; omega),rfl,q _ I.fresh⟩
end
section
variable {prog:Program} {w:World} {A:Around} {E:Value→Shared→Prop} {s:Shared}
end
section
variable {X:Cx}
end
end L2
namespace L2
open PySem PySem.Spec PyProof.Rows
section
variable {κ:Type} [DecidableEq κ]
def valV (kvs:List (κ × V)) (k:κ):Option V:=(kvs.find? fun kv=>decide (kv.1=k)).map (·.2)
def putK (kvs:List (κ × V)) (k:κ) (v:V):List (κ × V) :=
  if (kvs.any fun kv=>decide (kv.1=k))=true then kvs.map (fun kv=>if kv.1=k then (kv.1,v) else kv) else kvs ++ [(k,v)]
def dropK (kvs:List (κ × V)) (k:κ):List (κ × V):=kvs.filter fun kv=>decide (kv.1≠k)
theorem valV_pos {p:κ × V} {r:List (κ × V)} {k:κ} (e:p.1=k):valV (p :: r) k=some p.2:=by simp [valV,List.find?_cons,e]
theorem valV_neg {p:κ × V} {r:List (κ × V)} {k:κ} (e:¬ p.1=k):valV (p :: r) k=valV r k:=by simp [valV,List.find?_cons,e]
theorem valV_any (k:κ):∀ kvs:List (κ × V),(kvs.any fun kv=>decide (kv.1=k))=(valV kvs k).isSome
  | []=>rfl
  | p :: r => by
    rw [List.any_cons]
    by_cases e:p.1=k
    · simp only [valV_pos e,decide_eq_true e,Bool.true_or,Option.isSome_some]
    · rw [valV_neg e,decide_eq_false e,Bool.false_or]; exact valV_any k r
theorem length_putK (kvs:List (κ × V)) (k:κ) (v:V):(putK kvs k v).length≤kvs.length+1:=by
  unfold putK
  split
  · rw [List.length_map]; omega
  · rw [List.length_append,List.length_cons,List.length_nil]; omega
theorem RelO.isSome_eq {o:Option V} {u:Option Value} (r:RelO o u):o.isSome=u.isSome:=by
  cases o with
  | none => cases u with
    | none=>rfl
    | some _=>exact (show False from r).elim
  | some _ => cases u with
    | none=>exact (show False from r).elim
    | some _=>rfl
theorem KV.val {kvs:List (κ × V)} {vs:List (κ × Value)} (r:KV kvs vs) (k:κ):RelO (valV kvs k) (valueAt vs k):=by
  unfold KV at r
  induction r with
  | nil=>exact True.intro
  | @cons p q ps qs h t ih =>
    obtain ⟨h1,h2⟩:=h
    by_cases e:p.1=k
    · have e':q.1=k:=h1.symm.trans e
      have b:valueAt (q :: qs) k=some q.2:=by simp [valueAt,List.find?_cons,e']
      rw [valV_pos e,b]; exact h2
    · have e':¬ q.1=k:=fun z=>e (h1.trans z)
      have b:valueAt (q :: qs) k=valueAt qs k:=by simp [valueAt,List.find?_cons,e']
      rw [valV_neg e,b]; exact ih
theorem KV.any {kvs:List (κ × V)} {vs:List (κ × Value)} (r:KV kvs vs) (k:κ):(kvs.any fun kv=>decide (kv.1=k))=vs.any fun kv=>decide (kv.1=k):=by
  unfold KV at r
  induction r with
  | nil=>rfl
  | cons h t ih=>rw [List.any_cons,List.any_cons,ih,h.1]
theorem KV.repl {kvs:List (κ × V)} {vs:List (κ × Value)} (r:KV kvs vs) (k:κ) {y:V} {u:Value} (ry:RelV y u) :
    KV (kvs.map fun kv=>if kv.1=k then (kv.1,y) else kv) (vs.map fun kv=>if kv.1=k then (kv.1,u) else kv):=by
  unfold KV at r ⊢
  induction r with
  | nil=>exact .nil
  | @cons p q ps qs h t ih =>
    rw [List.map_cons,List.map_cons]
    refine .cons ?_ ih
    obtain ⟨h1,h2⟩:=h
    by_cases e:p.1=k
    · rw [if_pos e,if_pos (h1.symm.trans e)]; exact ⟨h1,ry⟩
    · rw [if_neg e,if_neg (fun z=>e (h1.trans z))]; exact ⟨h1,h2⟩
theorem KV.put {kvs:List (κ × V)} {vs:List (κ × Value)} (r:KV kvs vs) (k:κ) {y:V} {u:Value} (ry:RelV y u):KV (putK kvs k y) (stored vs k u):=by
  unfold putK stored
  rw [r.any k]
  by_cases e:(vs.any fun kv=>decide (kv.1=k))=true
  · rw [if_pos e,if_pos e]; exact r.repl k ry
  · rw [if_neg e,if_neg e]; exact Paired.snoc r ⟨rfl,ry⟩
theorem KV.length {kvs:List (κ × V)} {vs:List (κ × Value)} (r:KV kvs vs):kvs.length=vs.length:=Paired.length r
end
theorem kV_is {P:Program} {w:World} {k:Key} {u:Value} (r:RelV (kV k) u):(mixKind P w).is k u=true:=by
  cases k with
  | inl i=>obtain ⟨t,e⟩:=(show ∃ t,u=Value.int i t from r); subst e; exact mixKind_int P w i t
  | inr x=>obtain ⟨t,e⟩:=(show ∃ t,u=Value.str x t from r); subst e; exact mixKind_str P w x t
theorem items_are {P:Program} {w:World}:∀ {ks:List Key} {us:List Value},Vals (ks.map kV) us→ItemsAre (mixKind P w) ks us
  | [],_,r=>by rw [List.map_nil] at r; cases r; exact .nil
  | k :: ks, _, r => by
    rw [List.map_cons] at r
    cases r with
    | cons h t=>exact .cons (kV_is h) (items_are t)
abbrev KT (H:Hp):List (List Key × V)→List (List Key × Addr × Value)→Prop:=Paired fun p q=>p.1=q.1∧H q.2.1=some (.tup (p.1.map kV))∧RelV p.2 q.2.2
theorem KT.val {H:Hp} {kvs:List (List Key × V)} {xs:List (List Key × Addr × Value)} (r:KT H kvs xs) (k:List Key):RelO (valV kvs k) ((atKey xs k).map (·.2)):=by
  induction r with
  | nil=>exact True.intro
  | @cons p q ps qs h t ih =>
    obtain ⟨h1,_,h2⟩:=h
    by_cases e:p.1=k
    · have e':q.1=k:=h1.symm.trans e
      have b:atKey (q :: qs) k=some q.2:=by simp [atKey,List.find?_cons,e']
      rw [valV_pos e,b]; exact h2
    · have e':¬ q.1=k:=fun z=>e (h1.trans z)
      have b:atKey (q :: qs) k=atKey qs k:=by simp [atKey,List.find?_cons,e']
      rw [valV_neg e,b]; exact ih
theorem KT.repl {H:Hp} {kvs:List (List Key × V)} {xs:List (List Key × Addr × Value)} (r:KT H kvs xs) (k:List Key) {y:V} {u:Value} (ry:RelV y u) :
    KT H (kvs.map fun kv=>if kv.1=k then (kv.1,y) else kv) (xs.map (putAt k u)):=by
  induction r with
  | nil=>exact .nil
  | @cons p q ps qs h t ih =>
    rw [List.map_cons,List.map_cons]
    refine .cons ?_ ih
    obtain ⟨h1,h2,h3⟩:=h
    unfold putAt
    by_cases e:p.1=k
    · rw [if_pos e,if_pos (h1.symm.trans e)]; exact ⟨h1,h2,ry⟩
    · rw [if_neg e,if_neg (fun z=>e (h1.trans z))]; exact ⟨h1,h2,h3⟩
theorem KT.put {H:Hp} {kvs:List (List Key × V)} {xs:List (List Key × Addr × Value)} (r:KT H kvs xs) (k:List Key) {b:Addr} {y:V} {u:Value} (hb:H b=some (.tup (k.map kV))) (ry:RelV y u) :
    KT H (putK kvs k y) (storedH xs k b u):=by
  have e:(kvs.any fun kv=>decide (kv.1=k))=(atKey xs k).isSome:=by
    rw [valV_any,(r.val k).isSome_eq,Option.isSome_map]
  unfold putK storedH
  rw [e]
  by_cases q:(atKey xs k).isSome=true
  · rw [if_pos q,if_pos q]; exact r.repl k ry
  · rw [if_neg q,if_neg q]; exact Paired.snoc r ⟨rfl,hb,ry⟩
theorem KT.keeps {H H':Hp} {kvs:List (List Key × V)} {xs:List (List Key × Addr × Value)} (r:KT H kvs xs) (ht:∀ b ys,H b=some (.tup ys)→H' b=some (.tup ys)):KT H' kvs xs :=
  Paired.mapP r fun _ _ z=>⟨z.1,ht _ _ z.2.1,z.2.2⟩
section
variable {P:Program} {w:World} {H:Hp} {h:Heap} {a:Addr}
theorem rd_of {u:HO} (ok:HOk P w H h) (e:Rd H a u):ObjOk P w H h a u:=e.ok ok
theorem dk_rd {kvs:List (Key × V)} (ok:HOk P w H h) (e:Rd H a (.dK kvs)):kvs.length≤sizeLine∧(a == sysModules)=false∧∃ vs,KV kvs vs∧h.DictOf (mixKind P w) a vs :=
  show ObjOk P w H h a (.dK kvs) from rd_of ok e
theorem dk_of {kvs:List (Key × V)} (ok:HOk P w H h) (e:H a=some (.dK kvs)):kvs.length≤sizeLine∧(a == sysModules)=false∧∃ vs,KV kvs vs∧h.DictOf (mixKind P w) a vs:=dk_rd ok (.inl e)
theorem key_of {ks:List Key} (ok:HOk P w H h) (e:H a=some (.tup (ks.map kV))):(tupleKind (mixKind P w)).is h ks a:=by
  obtain ⟨_,its,r,o,h1,h2,n,h3⟩:=(show ObjOk P w H h a (.tup (ks.map kV)) from ok a _ e)
  exact ⟨o,its.toArray,n,h1,h2,h3,by simpa using items_are r⟩
theorem dt_rd {kvs : List (List Key × V)} (ok : HOk P w H h) (e : Rd H a (.dT kvs)) : kvs.length ≤ sizeLine ∧ (a == sysModules) = false ∧
    ∃ xs,KT H kvs xs∧h.DictOfH (tupleKind (mixKind P w)) a xs:=by
  obtain ⟨z,y,xs,r,o,es,ep,h1,h2,h3,h4,h5⟩:=(show ObjOk P w H h a (.dT kvs) from rd_of ok e)
  refine ⟨z,y,xs,r,o,es,ep,h1,h2,h3,h4,fun x hx=>?_,h5⟩
  have all:∀ {l:List (List Key × V)} {m:List (List Key × Addr × Value)},KT H l m→∀ x ∈ m,(tupleKind (mixKind P w)).is h x.1 x.2.1:=by
    intro l m q
    induction q with
    | nil=>intro x hx; exact nomatch hx
    | @cons p q ps qs hq t ih =>
      intro x hx
      rcases List.mem_cons.mp hx with e | hx
      · subst e
        exact key_of ok (by rw [← hq.1]; exact hq.2.1)
      · exact ih x hx
  exact all r x hx
theorem dt_of {kvs:List (List Key × V)} (ok:HOk P w H h) (e:H a=some (.dT kvs)):kvs.length≤sizeLine∧(a == sysModules)=false ∧
    ∃ xs,KT H kvs xs∧h.DictOfH (tupleKind (mixKind P w)) a xs:=dt_rd ok (.inl e)
end
def DGet (H:Hp) (a:Addr) (y:V) (r:Option V):Prop :=
  (∃ kvs k,Rd H a (.dK kvs)∧y=kV k∧r=valV kvs k)∨∃ kvs k b,Rd H a (.dT kvs)∧y = .ref b∧H b=some (.tup (k.map kV))∧r=valV kvs k
def DPut (H:Hp) (a:Addr) (y v:V) (H':Hp):Prop :=
  (∃ kvs k,H a=some (.dK kvs)∧y=kV k∧kvs.length < sizeLine∧H'=upd H a (.dK (putK kvs k v))) ∨
  ∃ kvs k b,H a=some (.dT kvs)∧y = .ref b∧H b=some (.tup (k.map kV))∧kvs.length < sizeLine∧H'=upd H a (.dT (putK kvs k v))
theorem DPut.t {H:Hp} {a b:Addr} {kvs:List (List Key × V)} {k:List Key} {v:V} (e:H a=some (.dT kvs)) (eb:H b=some (.tup (k.map kV))) (hl:kvs.length < sizeLine) :
    DPut H a (.ref b) v (upd H a (.dT (putK kvs k v))):=.inr ⟨kvs,k,b,e,rfl,eb,hl,rfl⟩
section
variable {X:Cx} {pins:List (Addr × Obj)} {σ:St} {H:Hp} {s:Shared} {a:Addr} {y v:V} {u r:Value} {o:Option V} {A:Around} {E:Value→Shared→Prop}
theorem Inv.big (I:Inv X pins σ H s):sysModules < s.heap.objs.size:=by
  have h:mainGlobals < s.heap.objs.size:=(I.mod.glob.keeps I.bk).lt
  exact Nat.lt_trans (by decide) h
theorem d_getItem {Q:Value→Shared→Prop} (hu:A.units+1 < cLine) (I:Inv X pins σ H s) (g:DGet H a y (some v)) (ry:RelV y u) (h:∀ w' s',Inv X pins σ H s'→RelV v w'→Q w' s') :
    wpAny (model X.prog X.w) A (getItem (.ref a) u) Q E s:=by
  rcases g with ⟨kvs,k,e,ey,l⟩ | ⟨kvs,k,b,e,ey,eb,l⟩
  · subst ey
    obtain ⟨z,hd,vs,rel,dd⟩:=dk_rd I.hok e
    obtain ⟨w',hw,rw'⟩:=RelO.some_of (v:=v) (o:=valueAt vs k) (by rw [l]; exact rel.val k)
    exact wpAny_getItem_of (kV_is ry) dd.mapOf hw (h w' _ (I.tok _) rw')
  · subst ey
    cases (show u=Value.ref b from ry)
    obtain ⟨z,hd,xs,rel,dd⟩:=dt_rd I.hok e
    obtain ⟨w',hw,rw'⟩:=RelO.some_of (v:=v) (o:=(atKey xs k).map (·.2)) (by rw [l]; exact rel.val k)
    obtain ⟨p,hp,hp2⟩:=Option.map_eq_some_iff.mp hw
    refine wpAny_getItem_heap (tupleKind_room_in1 hu) (key_of I.hok eb) dd hp ?_
    rw [hp2]
    exact h w' _ (I.tok _) rw'
theorem d_in {Q:Value→Shared→Prop} (hu:A.units+1 < cLine) (I:Inv X pins σ H s) (g:DGet H a y o) (ry:RelV y u) (h:∀ s',Inv X pins σ H s'→Q (.bool o.isSome) s') :
    wpAny (model X.prog X.w) A (compareOp .In u (.ref a)) Q E s:=by
  rcases g with ⟨kvs,k,e,ey,l⟩ | ⟨kvs,k,b,e,ey,eb,l⟩
  · subst ey
    obtain ⟨z,hd,vs,rel,dd⟩:=dk_rd I.hok e
    refine wpAny_in_of (kV_is ry) hd dd.mapOf ?_
    rw [← (rel.val k).isSome_eq,← l]
    exact h _ (I.tok _)
  · subst ey
    cases (show u=Value.ref b from ry)
    obtain ⟨z,hd,xs,rel,dd⟩:=dt_rd I.hok e
    refine wpAny_in_heap (tupleKind_room_in1 hu) (key_of I.hok eb) hd dd ?_
    have q:=(rel.val k).isSome_eq
    rw [Option.isSome_map] at q
    rw [← q,← l]
    exact h _ (I.tok _)
theorem d_notIn {Q:Value→Shared→Prop} (hu:A.units+1 < cLine) (I:Inv X pins σ H s) (g:DGet H a y o) (ry:RelV y u) (h:∀ s',Inv X pins σ H s'→Q (.bool (!o.isSome)) s') :
    wpAny (model X.prog X.w) A (compareOp .NotIn u (.ref a)) Q E s:=by
  rcases g with ⟨kvs,k,e,ey,l⟩ | ⟨kvs,k,b,e,ey,eb,l⟩
  · subst ey
    obtain ⟨z,hd,vs,rel,dd⟩:=dk_rd I.hok e
    refine wpAny_notIn_of (kV_is ry) hd dd.mapOf ?_
    rw [← (rel.val k).isSome_eq,← l]
    exact h _ (I.tok _)
  · subst ey
    cases (show u=Value.ref b from ry)
    obtain ⟨z,hd,xs,rel,dd⟩:=dt_rd I.hok e
    refine wpAny_notIn_heap (tupleKind_room_in1 hu) (key_of I.hok eb) hd dd ?_
    have q:=(rel.val k).isSome_eq
    rw [Option.isSome_map] at q
    rw [← q,← l]
    exact h _ (I.tok _)
theorem d_write {h':Heap} {t':Nat} {ob:HO} (I:Inv X pins σ H s) (mu:Mut (H a)) (hs:Heap.SameBut a s.heap h') (he:∃ q,h'.get? a=some q) (new:ObjOk X.prog X.w (upd H a ob) h' a ob) :
    Inv X pins σ (upd H a ob) { s with heap:=h',toks:=t' } :=
  I.write (x:=a) (e:=a) mu (.inl rfl) (fun b q hb z=>(hs.2 b hb).trans z) he new
theorem dk_new {P:Program} {w:World} {H':Hp} {h':Heap} {kvs:List (Key × V)} {vs:List (Key × Value)} (z:kvs.length≤sizeLine) (hd:(a == sysModules)=false) (rel:KV kvs vs) (dd:h'.DictOf (mixKind P w) a vs) :
    ObjOk P w H' h' a (.dK kvs):=⟨z,hd,vs,rel,dd⟩
theorem d_setItem {H':Hp} {Q:Unit→Shared→Prop} (hu:A.units+1 < cLine) (I:Inv X pins σ H s) (g:DPut H a y v H') (ry:RelV y u) (rv:RelV v r) (h:∀ s',Inv X pins σ H' s'→Q () s') :
    wpAny (model X.prog X.w) A (setItem (.ref a) u r) Q E s:=by
  rcases g with ⟨kvs,k,e,ey,l,eH⟩ | ⟨kvs,k,b,e,ey,eb,l,eH⟩
  · subst ey eH
    obtain ⟨z,hd,vs,rel,dd⟩:=dk_of I.hok e
    have hz:vs.length≤sizeLine:=by rw [← rel.length]; exact z
    have hl:(putK kvs k v).length≤sizeLine:=by have:=length_putK kvs k v; omega
    refine wpAny_setItem_pairs (hsz:=hz) (kV_is ry) dd fun h' dd' hs=>h _ ?_
    have he:∃ q,h'.get? a=some q:=let ⟨q,_,_,hq,_⟩:=dd'; ⟨q,hq⟩
    exact d_write I (by rw [e]; exact True.intro) hs he (dk_new hl hd (rel.put k rv) dd')
  · subst ey eH
    cases (show u=Value.ref b from ry)
    obtain ⟨z,hd,xs,rel,dd⟩:=dt_of I.hok e
    have hz:xs.length≤sizeLine:=by rw [← Paired.length rel]; exact z
    have hl:(putK kvs k v).length≤sizeLine:=by have:=length_putK kvs k v; omega
    refine wpAny_setItem_heap (hsz:=hz) (tupleKind_room_in1 hu) (key_of I.hok eb) dd fun h' dd' hs=>h _ ?_
    obtain ⟨q,es,ep,hq,h2,h3,h4,_,h5⟩:=dd'
    refine d_write I (by rw [e]; exact True.intro) hs ⟨q,hq⟩ ⟨hl,hd,_,(rel.put k eb rv).keeps fun c ys ec=>?_,q,es,ep,hq,h2,h3,h4,h5⟩
    rw [upd_ne (ne_of ec e (fun z=>nomatch z))]
    exact ec
end
section
variable {X:Cx} {pins:List (Addr × Obj)} {σ:St} {H:Hp} {s:Shared} {a:Addr} {kvs:List (Key × V)} {k:Key} {u:Value} {A:Around} {E:Value→Shared→Prop}
theorem d_len {Q:Value→Shared→Prop} (I:Inv X pins σ H s) (e:Rd H a (.dK kvs)) (h:∀ t s',Inv X pins σ H s'→Q (.int kvs.length t) s'):wpAny (model X.prog X.w) A (call (.builtin "len") [.ref a]) Q E s:=by
  obtain ⟨z,hd,vs,rel,dd⟩:=dk_rd I.hok e
  refine call_len_dict hd dd (by rw [← rel.length]; rw [sizeLine_eq] at z; omega) ?_
  rw [← rel.length]
  exact h _ _ (I.tok _)
end
theorem dict_typeIs {X:Cx} {pins:List (Addr × Obj)} {σ:St} {H:Hp} {s:Shared} {a:Addr} {y:V} {o:Option V} (I:Inv X pins σ H s) (g:DGet H a y o):s.TypeIs (.ref a) "dict":=by
  rcases g with ⟨kvs,k,e,_,_⟩ | ⟨kvs,k,b,e,_,_,_⟩
  · obtain ⟨_,_,vs,_,dd⟩:=dk_rd I.hok e
    exact dd.typeIs
  · obtain ⟨_,_,xs,_,dd⟩:=dt_rd I.hok e
    exact dd.typeIs
section
variable {X:Cx} {o i e value:Expr} {pos pos' tpos:Pos} {td ty tv:TE}
end
theorem dt_empty {P:Program} {w:World} {H:Hp} (h:Heap) (hb:sysModules < h.objs.size):ObjOk P w H (h.push { cls:=.type "dict",data:=.dict #[] }) h.objs.size (.dT []) :=
  ⟨Nat.zero_le _,beq_eq_false_iff_ne.mpr (Ne.symm (Nat.ne_of_lt hb)),[],.nil,_,#[],0,Heap.get?_push_size _ rfl,⟨rfl,rfl,rfl⟩,rfl,rfl,List.nodup_nil⟩
def tDNewT:TE:=fun _ H Q=>∀ p,H p=none→Q (.ref p) (upd H p (.dT []))
section
variable {X:Cx} {pos:Pos}
theorem pe_dnewT:PE X (.Dict [] [] pos) tDNewT:=fun pins s σ H Q I h =>
  wpAny_Dict_empty ⟨.ref s.heap.objs.size,_,I.laid (a:=s.heap.objs.size) (o:=.dT []) (t':=s.toks) (fun _ _ q=>Heap.get?_push_of_some _ q) (Nat.le_refl _) (dt_empty s.heap I.big),rfl,h _ (I.hok.fresh (Nat.le_refl _))⟩
end
section
variable {X:Cx} {pins:List (Addr × Obj)} {σ:St} {H:Hp} {s:Shared} {a:Addr} {y d:V} {u r:Value} {o:Option V} {A:Around} {E:Value→Shared→Prop}
end
section
variable {X:Cx} {o e f:Expr} {apos cpos:Pos} {td ty tx:TE}
end
section
variable {X:Cx} {pins:List (Addr × Obj)} {σ:St} {H:Hp} {s:Shared} {a:Addr} {kvs:List (Key × V)} {A:Around} {E:Value→Shared→Prop}
end
section
variable {X:Cx} {pins:List (Addr × Obj)} {σ:St} {H:Hp} {s:Shared} {a:Addr} {y:V} {u:Value} {A:Around} {E:Value→Shared→Prop}
end
end L2
namespace Att
open PySem PySem.W PySem.Calls PyProof.Rows
theorem ints_of_wellAll {P:Params} {h:Heap}:∀ (ns:List Int) (vs:List Value),WellAll P h vs (ns.map WData.int)→IntsAre vs ns:=by
  intro ns
  induction ns with
  | nil =>
    intro vs w
    rw [List.map_nil] at w
    cases w
    exact .nil
  | cons n ns ih =>
    intro vs w
    rw [List.map_cons] at w
    cases w with
    | cons a b =>
      cases a
      exact .cons _ _ (ih _ b)
theorem script_of {l:OpenLaw} {n:Nat} (hn:l.most=some n) {P:Params} {h:Heap} {args:List WData} {vals:List Value}
    (hpre:l.row.toRowW.claim.pre args=true) (hwl:WellAll P h vals args) :
    ∃ a vs ns,vals=[Value.ref a]∧args=[WData.list (ns.map WData.int)]∧h.get? a=some { cls:=.type "list",data:=.seq vs.toArray }∧IntsAre vs ns∧ns.length≤n:=by
  have hsh:WShape.hasAll [] args [.list .int]=true:=(pre_splitW hpre).1
  have hc:l.pre.holds [] { args:=args } = true:=(pre_splitW hpre).2
  obtain ⟨d,r,rfl,h1,h2⟩:=hasAllW_cons hsh
  obtain rfl:=hasAllW_nil h2
  obtain ⟨xs,rfl,h3⟩:=hasW_list h1
  obtain ⟨ns,rfl⟩:=items_int h3
  have hlen:ns.length≤n:=by
    unfold OpenLaw.pre at hc
    have h4:(WTm.not (.lt (.lit (.int (n:Int))) (.len (.arg 0)))).holds [] { args:=[.list (ns.map .int)] } = true:=by
      have h4:=(holds_andW hc).1
      rw [hn] at h4
      exact h4
    have h5:=condW_of h4 (w_not (w_lt w_lit (w_len_list (w_arg rfl))))
    rw [List.length_map] at h5
    refine Nat.le_of_not_lt fun q=>?_
    have q':(n:Int) < ((ns.length:Nat):Int):=by omega
    first
      | (rw [decide_eq_true q'] at h5; exact absurd h5 (by decide))
      | (simp at h5; omega)
  cases hwl with
  | cons w1 w2 =>
    cases w2
    cases w1 with
    | list ho hall=>exact ⟨_,_,ns,rfl,rfl,ho,ints_of_wellAll ns _ hall,hlen⟩
theorem post_true (l:OpenLaw) (args:List WData):l.row.toRowW.claim.post args (.bool true) args=true :=
  postW_of (r:=l.row.toRowW) (X:=(true == true))
    (show WShape.has [] (.bool true) .bool=true by first | rfl | decide | simp [WShape.has,WShape.arms,WShape.armsAll])
    (show (WTm.eq .res (.lit (.bool true))).value [] { args:=args,res:=some (.bool true),after:=args } = some (.bool (true == true)) from w_eq_bool (w_res rfl) w_lit) rfl
theorem attach_call {l:OpenLaw} {n:Nat} {q:Program} {loose:List Str} {XP:(Str→Option Value)→Heap→Prop} {YP:World→Heap→Prop} {d:DefRec}
    (hn:l.most=some n) (hdf:d.params.defaults=[])
    (call:∀ (w:World) (s₀ s₁:Shared) (mg mb:Str→Option Value) (fa:Addr) (o:Obj) (pm cd doc:Value) (a:Addr) (vs:List Value) (ns:List Int),
      Ground q loose [] XP w s₀ mg mb s₁.heap→YP w s₁.heap →
      s₁.heap.get? fa=some o→o.data = .func (docDef d.name d.params d.body d.scope pm cd doc)→s₁.heap.CodeRec cd d.name→mg d.name=some (.ref fa) →
      s₁.heap.get? a=some { cls:=.type "list",data:=.seq vs.toArray }→IntsAre vs ns→ns.length≤n→s₁.gens = #[] →
      codeAny (model l.prog w) callerA (.call (.ref fa) ⟨[.ref a],[]⟩) (fun r s'=>r = .ok (.ret (.bool true))∧OldK s₁.heap s'.heap∧s'.os=s₁.os∧AllBare s'.gens) s₁) :
    WalkO q loose XP YP l.row.toRowW d [] (fun f vs=>PySem.call f vs):=by
  intro w s₀ s₁ mg mb G Y fa o pm cd doc dV kV ho hd hcd hD hmg hg args vals as hpre hlay hrd hwl hlo
  obtain rfl:dV = .none:=Dflts.none hD hdf
  obtain rfl:kV = .none:=Dflts.noKw hD
  obtain ⟨a,vs,ns,rfl,rfl,hobj,hints,hlen⟩:=script_of hn hpre hwl
  refine enter_call (codeAny_mono (call w s₀ s₁ mg mb fa o pm cd doc a vs ns G Y ho (fd_plain hd) hcd hmg hobj hints hlen hg) fun r s' hq=>?_)
  obtain ⟨rfl,h2,h3,h4⟩:=hq
  exact ⟨.inl ⟨.bool true,.bool true,[],rfl,fun _=>rfl,.bool true,post_true l _,fun _=>⟨List.Pairwise.nil,fun _ hm=>(nomatch hm)⟩⟩,h2,h3,h4⟩
section
variable {prog:Program} {w:World} {A:Around} {E:Value→Shared→Prop} {s:Shared} {K:Frag}
end
end Att
namespace L2
open PySem PySem.Spec PyProof.Rows
theorem vals_ints:∀ {vs:List Value} {ns:List Int},IntsAre vs ns→Vals (ns.map V.int) vs
  | _,_,.nil=>.nil
  | _,_,.cons n t h=>.cons ⟨t,rfl⟩ (vals_ints h)
def Only (H:Hp):Prop:=∀ b,H b=none∨∃ o xs,H b=some (.frz o (.lst xs))
theorem law_call {P : Program} {w : World} {K : PySem.W.Frag} {mg mb : Str → Option Value} {CX : CXT} {k : Nat} {fa a : Addr} {fd : FuncData} {x : Str} {sp : Sp} {s₁ : Shared} {vs : List Value} {ns : List Int}
    (KX:K.In s₁.heap) (hns:s₁.heap.Ns mainGlobals mg) (hb:s₁.heap.Ns builtinsNs mb) (hbb:∀ x:Str,x≠"__name__"→mb x=bootBuiltins x) (hlim:s₁.heap.NoLimit) (hg:s₁.gens = #[])
    (ha:s₁.heap.get? a=some { cls:=.type "list",data:=.seq vs.toArray }) (hi:IntsAre vs ns) (hl:ns.length≤sizeLine) (hr:Room k callerA)
    (F:∀ base:Heap,K.In base→base.Ns mainGlobals mg→FnOk P w K mg base CX k fa fd [x] sp) (hbind:∀ (s:Shared) (u:Value),BindsTo s fd ⟨[u],[]⟩ [(x,u)])
    (hsp:∀ H:Hp,Only H→SqL K H a (ns.map V.int)→sp [.ref a] H (fun v _=>v = .bl true) fun _ _ _=>False)
    (hCX:∀ H e s',CX [] H s₁ (fun _ _ _=>False) e s'→False) :
    codeAny (model P w) callerA (.call (.ref fa) ⟨[.ref a],[]⟩) (fun r s'=>r = .ok (.ret (.bool true))∧OldK s₁.heap s'.heap∧s'.os=s₁.os∧AllBare s'.gens) s₁:=by
  have rv:=vals_ints hi
  have lenV:=hi.length
  -- from an abstract heap in which nothing but the script may be tracked
  have core : ∀ H : Hp, Only H → SqL K H a (ns.map V.int) → HOk P w H s₁.heap → (∀ b, H b ≠ none → b = a) → (H a ≠ none → K.lookup a = none) →
      codeAny (model P w) callerA (.call (.ref fa) ⟨[.ref a],[]⟩) (fun r s'=>r = .ok (.ret (.bool true))∧OldK s₁.heap s'.heap∧s'.os=s₁.os∧AllBare s'.gens) s₁:=by
    intro H hO hS hok hA hK
    have base_of:∀ {b:Addr} {o:Obj},s₁.heap.get? b=some o→H b=none→(hidT s₁.heap H).get? b=some o:=fun e n=>hidT_get e n
    have noA:∀ {b:Addr} {o:Obj} {es:Array DictEntry} {ep:Nat},s₁.heap.get? b=some o→o.data = .dict es ep→H b=none:=fun {b o es ep} e d=>by
      cases q:H b with
      | none=>rfl
      | some u =>
        have e':b=a:=hA b (by rw [q]; simp)
        subst e'
        rw [ha] at e; cases e
        have d':Data.seq vs.toArray _=Data.dict es ep:=d
        cases d'
    have nsK:∀ {b:Addr} {m:Str→Option Value},s₁.heap.Ns b m→(hidT s₁.heap H).Ns b m:=fun {b m} ⟨o,es,ep,e,d,r⟩=>⟨o,es,ep,base_of e (noA e d),d,r⟩
    have hKb:K.In (hidT s₁.heap H):=fun b o e=>base_of (KX b o e) (by
      cases q:H b with
      | none=>rfl
      | some u =>
        have e':b=a:=hA b (by rw [q]; simp)
        subst e'
        rw [hK (by rw [q]; simp)] at e; cases e)
    have hM:Mod K mg (hidT s₁.heap H):=⟨hKb,nsK hns,⟨mb,nsK hb,hbb⟩,let ⟨mc,h1,h2⟩:=hlim; ⟨mc,nsK h1,h2⟩⟩
    have e0:Env0 P w K mg (hidT s₁.heap H) callerA [] s₁ H:=⟨rfl,hM,fun b o e=>of_hidT e,Nat.le_of_eq (hidT_size _ _),trivial,fun b hb=>absurd (show b ∈ ([]:List Addr) from hb) (by simp),hok,.of_eq hg⟩
    refine codeAny_mono ((F _ hKb (nsK hns)).run callerA [] s₁ H ⟨[.ref a],[]⟩ [.ref a] [.ref a] _ _ hr e0 (hbind s₁ (.ref a)) (.cons rfl .nil) (hsp H hO hS)) fun r s' h=>?_
    cases r with
    | error e=>exact (hCX H e s' h).elim
    | ok fl =>
      cases fl with
      | next=>exact False.elim h
      | brk=>exact False.elim h
      | cont=>exact False.elim h
      | ret u =>
        obtain ⟨v,H',os,bare,un,hok',r',q⟩:=h
        have q':v = .bl true:=q
        subst q'
        obtain rfl:u=Value.bool true:=r'
        refine ⟨rfl,OldK.of_keep fun b o e=>?_,os,bare⟩
        cases q:H b with
        | none=>exact un.keep b o e q (by intro z; exact absurd (show b ∈ ([]:List Addr) from z) (by simp)) (by simp)
        | some u =>
          rcases hO b with z | ⟨ob,xs,z⟩
          · rw [q] at z; cases z
          · have z2:=un.frzs b ob _ z
            obtain ⟨e1,_⟩:=hok b _ z
            obtain ⟨e2,_⟩:=hok' b _ z2
            rw [e] at e1; cases e1
            exact e2
  cases hk:K.lookup a with
  | some o =>
    -- the script is one of the module's own objects
    have e:=KX a o hk
    rw [ha] at e
    cases e
    refine core (fun _=>none) (fun _=>.inl rfl) (.inr ⟨_,vs.toArray,_,hk,rfl,rfl,rfl,by rw [List.size_toArray,lenV]; exact hl,by simpa using rv⟩) (fun b u z=>by have z':(none:Option HO)=some u:=z; cases z') (fun b z=>absurd rfl z) fun z=>absurd rfl z
  | none =>
    refine core (fun b=>if b=a then some (.frz { cls:=.type "list",data:=.seq vs.toArray } (.lst (ns.map V.int))) else none) (fun b=>?_) (.inl (.inr ⟨{ cls:=.type "list",data:=.seq vs.toArray },if_pos rfl⟩)) (fun b u z=>?_) (fun b z=>?_) fun _=>hk
    · by_cases hb:b=a
      · exact .inr ⟨_,_,if_pos hb⟩
      · exact .inl (if_neg hb)
    · by_cases hb:b=a
      · have z':=(if_pos hb).symm.trans z
        cases z'
        subst hb
        exact ⟨ha,by rw [List.length_map]; exact hl,vs,_,rv,ha⟩
      · have z':=(if_neg hb).symm.trans z
        cases z'
    · by_cases hb:b=a
      · exact hb
      · exact absurd (if_neg hb) z
end L2
namespace L2
open PySem PySem.Spec PyProof.Rows
theorem walk_of {l : PySem.W.OpenLaw} {n k : Nat} {q : Program} {loose : List Str} {XP : (Str → Option Value) → Heap → Prop} {YP : World → Heap → Prop} {d : DefRec} {K : Params → PySem.W.Frag} {CX : World → CXT} {sp : World → Sp} {x : Str}
    (hn:l.most=some n) (hn2:n≤sizeLine) (hdf:d.params.defaults=[]) (hr:Room k callerA)
    (hY:∀ (w:World) (h:Heap),YP w h→(K w.params).In h)
    (F:∀ (w:World) (mg:Str→Option Value) (fa:Addr) (h:Heap),(K w.params).In h→h.Ns mainGlobals mg→mg d.name=some (.ref fa) →
      ∃ fd : FuncData, (∀ (s : Shared) (u : Value), BindsTo s fd ⟨[u], []⟩ [(x, u)]) ∧
        ∀ base:Heap,(K w.params).In base→base.Ns mainGlobals mg→FnOk l.prog w (K w.params) mg base (CX w) k fa fd [x] (sp w))
    (hsp:∀ (w:World) (H:Hp) (a:Addr) (ns:List Int),ns.length≤n→Only H→SqL (K w.params) H a (ns.map V.int)→sp w [.ref a] H (fun v _=>v = .bl true) fun _ _ _=>False)
    (hCX:∀ (w:World) (H:Hp) (s:Shared) (e:Value) (s':Shared),CX w [] H s (fun _ _ _=>False) e s'→False) :
    PySem.W.WalkO q loose XP YP l.row.toRowW d [] (fun f vs=>PySem.call f vs):=by
  refine Att.attach_call hn hdf fun w s₀ s₁ mg mb fa o pm cd doc a vs ns G Y ho hd hcd hmg hobj hints hlen hg=>?_
  have KX:=hY w _ Y
  obtain ⟨fd,hb,hF⟩:=F w mg fa _ KX G.T.g hmg
  exact law_call KX G.T.g G.T.b G.T.builtins G.T.nolimit hg hobj hints (Nat.le_trans hlen hn2) hr hF hb (fun H hO hS=>hsp w H a ns hlen hO hS) fun H e s'=>hCX w H s₁ e s'
end L2
namespace L2
open PySem PySem.Spec PyProof.Rows
def inClass (s:Stmt) (j:Nat):Stmt:=match s with
  | .ClassDef _ _ _ body _ _ _ _ _ _ _=>body.getD j (.Pass ⟨0,0,0,0⟩)
  | _=>.Pass ⟨0,0,0,0⟩
def defArgs (s:Stmt):Arguments:=match s with
  | .FunctionDef _ a _ _ _ _ _ _ _ _=>a
  | _=>{ posonlyargs:=[],args:=[],vararg:=none,kwonlyargs:=[],kw_defaults:=[],kwarg:=none,defaults:=[] }
def defBody (s:Stmt):List Stmt:=match s with
  | .FunctionDef _ _ b _ _ _ _ _ _ _=>b
  | _=>[]
def defScope (s:Stmt):Scope:=match s with
  | .FunctionDef _ _ _ _ _ _ sc _ _ _=>sc
  | _=>{ kind:=.function,names:=[],isGenerator:=false,isCoroutine:=false }
abbrev CX0:CXT:=fun _ _ _ _ _ _=>False
abbrev E0:XK:=fun _ _ _=>False
theorem pass0 {X:Cx}:Passes CX0 X E0:=fun _ _ _ _ _ _ _ h=>h.elim
structure Fun (K:PySem.W.Frag) (x qual:Str) (st:Stmt) (f:Addr) (fd:FuncData):Prop where
  ex:∃ (oc:Value) (od:Option Addr) (kV doc pm:Value) (an:Option Addr) (cdv ct:Value) (osl:Array (Option Value)),
    fd=PySem.W.fnOf x qual (defArgs st) (defBody st) (defScope st) .none kV doc pm an cdv ct∧K.lookup f=some ⟨oc,od,.func fd,osl⟩∧PySem.W.codeIn K cdv qual=true
  kp:PySem.W.keepIn K (.ref f)=true
section
variable {P:Program} {w:World} {K:PySem.W.Frag} {mg:Str→Option Value} {base:Heap}
theorem Fun.ok {x qual:Str} {st:Stmt} {f:Addr} {fd:FuncData} {N ps:List Str} {k:Nat} {sp:Sp} (F:Fun K x qual st f fd) (S:FnScope N ps (defScope st)) (len:∀ vs H Q E,sp vs H Q E→vs.length=ps.length)
    (hbody:∀ (cdv:Value) (A:Around) (outer:List Env) (s:Shared) (H:Hp) (vs:List V) (Q:VK) (E:XK),Room k (A.deeper (envOfC qual (defScope st) s.heap.objs.size f cdv))→sp vs H Q E →
      ∃ t,PSs (cxOf CX0 P w K mg base N qual (defScope st) f cdv A outer s H E).nox (defBody st) t∧t { nx:=fun _ H'=>Q .non H',rt:=Q } (start N vs) H):FnOk P w K mg base CX0 (k+1) f fd ps sp:=by
  obtain ⟨oc,od,kV,doc,pm,an,cdv,ct,osl,rfl,lk,hcd⟩:=F.ex
  refine fn_of lk hcd S len fun A outer s H vs Q E hr hsp=>?_
  obtain ⟨t,h,q⟩:=hbody cdv A outer s H vs Q E hr hsp
  exact ⟨t,h.nox,q⟩
theorem Fun.binds {x qual:Str} {st:Stmt} {f:Addr} {fd:FuncData} {ps:List Str} (F:Fun K x qual st f fd)
    (h:∀ (kV doc pm:Value) (an:Option Addr) (cdv ct:Value) (us:List Value),us.length=ps.length→bindArgs (PySem.W.fnOf x qual (defArgs st) (defBody st) (defScope st) .none kV doc pm an cdv ct) ⟨us,[]⟩=pure (ps.zip us)):Binds K fd ps []:=by
  obtain ⟨oc,od,kV,doc,pm,an,cdv,ct,osl,rfl,lk,hcd⟩:=F.ex
  exact .all (h kV doc pm an cdv ct)
theorem fun_mk {x qual:Str} {st:Stmt} {f:Addr} {oc:Value} {od an:Option Addr} {osl:Array (Option Value)} {kV doc pm cdv ct:Value} (l:K.lookup f=some ⟨oc,od,.func (PySem.W.fnOf x qual (defArgs st) (defBody st) (defScope st) .none kV doc pm an cdv ct),osl⟩)
    (c:PySem.W.codeIn K cdv qual=true) (k:PySem.W.keepIn K (.ref f)=true):Fun K x qual st f (PySem.W.fnOf x qual (defArgs st) (defBody st) (defScope st) .none kV doc pm an cdv ct):=⟨⟨oc,od,kV,doc,pm,an,cdv,ct,osl,rfl,l,c⟩,k⟩
end
section
variable {X:Cx}
theorem pv (i:Nat) {x:Str} {pos:Pos} (hN:X.N[i]? = some x:=by rfl) (hv:Vis X.env.scope x:=by first | exact Or.inl rfl | exact Or.inr (Or.inl rfl) | exact Or.inr (Or.inr rfl)) (hd:(x == ("__debug__":Str))=false:=by decide)
    (hcd:(x == ("__classdict__":Str))=false:=by decide):PE X (.Name x pos) (tVar i):=pe_var hN hv hd hcd
end
theorem iteF {A B:Prop} (h:B):if false=true then A else B:=by
  rw [if_neg Bool.false_ne_true]
  exact h
theorem iteT {A B:Prop} (h:A):if true=true then A else B:=by
  rw [if_pos rfl]
  exact h
def Same (H H':Hp):Prop:=∀ b o,H b=some o→H' b=some o
theorem Same.refl (H:Hp):Same H H:=fun _ _ h=>h
theorem Same.trans {H H1 H2:Hp} (a:Same H H1) (b:Same H1 H2):Same H H2:=fun c o h=>b c o (a c o h)
theorem Same.free {H H':Hp} (e:Same H H') {l:Addr} (h:H' l=Option.none):H l=Option.none:=by
  cases q:H l with
  | none=>rfl
  | some o =>
    rw [e l o q] at h
    cases h
theorem Same.seq {K:PySem.W.Frag} {H H':Hp} {a:Addr} {xs:List V} (e:Same H H') (h:SqL K H a xs):SqL K H' a xs:=by
  rcases h with (h | ⟨o,h⟩) | h
  · exact .inl (.inl (e _ _ h))
  · exact .inl (.inr ⟨o,e _ _ h⟩)
  · exact .inr h
end L2
namespace L2
open PySem PySem.Spec PyProof.Rows
section
variable {X:Cx}
theorem call_lenD:CallR X (.builtin "len") (fun xs H Q=>∃ a kvs,xs=[V.ref a]∧H a=some (.dK kvs)∧Q (.int kvs.length) H):=by
  intro pins s σ H xs us Q I r h
  obtain ⟨a,kvs,rfl,ha,q⟩:=h
  obtain ⟨u,rfl,ru⟩:=vals1 r
  cases ru
  exact d_len I (.inl ha) fun t s' I'=>⟨.int kvs.length,H,I',⟨t,rfl⟩,q⟩
end
section
variable {κ:Type} [DecidableEq κ]
theorem valV_not {kvs:List (κ × V)} {k:κ} (h:valV kvs k=none):¬ k ∈ kvs.map (·.1):=by
  intro m
  obtain ⟨p,hp,e⟩:=List.mem_map.mp m
  have q:(kvs.any fun kv=>decide (kv.1=k))=true:=List.any_eq_true.mpr ⟨p,hp,decide_eq_true e⟩
  rw [valV_any,h] at q
  exact absurd q (by simp)
theorem valV_in {kvs:List (κ × V)} {k:κ} {v:V} (h:valV kvs k=some v):k ∈ kvs.map (·.1):=by
  have q:(kvs.any fun kv=>decide (kv.1=k))=true:=by
    rw [valV_any,h]
    all_goals rfl
  obtain ⟨p,hp,e⟩:=List.any_eq_true.mp q
  exact List.mem_map.mpr ⟨p,hp,of_decide_eq_true e⟩
theorem nd_snoc:∀ {l:List κ} {k:κ},l.Nodup→¬ k ∈ l→(l ++ [k]).Nodup
  | [],k,_,_=>by simp
  | a :: r, k, h, hk => by
    obtain ⟨h1,h2⟩:=List.nodup_cons.mp h
    show (a :: (r ++ [k])).Nodup
    refine List.nodup_cons.mpr ⟨fun m=>?_,nd_snoc h2 fun m=>hk (List.mem_cons.mpr (Or.inr m))⟩
    rcases List.mem_append.mp m with q | q
    · exact h1 q
    · exact hk (List.mem_cons.mpr (Or.inl (List.mem_singleton.mp q).symm))
theorem dropK_pos {p:κ × V} {r:List (κ × V)} {k:κ} (e:p.1=k):dropK (p :: r) k=dropK r k:=by
  unfold dropK
  rw [List.filter_cons,if_neg (by simp [e])]
theorem dropK_neg {p:κ × V} {r:List (κ × V)} {k:κ} (e:¬ p.1=k):dropK (p :: r) k=p :: dropK r k:=by
  unfold dropK
  rw [List.filter_cons,if_pos (by simp [e])]
theorem dropK_no:∀ {kvs:List (κ × V)} {k:κ},¬ k ∈ kvs.map (·.1)→dropK kvs k=kvs
  | [],_,_=>rfl
  | p :: r, k, h => by
    have h':¬ k ∈ r.map (·.1):=fun m=>by
      obtain ⟨q,hq,e⟩:=List.mem_map.mp m
      exact h (List.mem_map.mpr ⟨q,List.mem_cons.mpr (Or.inr hq),e⟩)
    rw [dropK_neg fun e=>h (List.mem_map.mpr ⟨p,List.mem_cons.mpr (Or.inl rfl),e⟩),dropK_no h']
theorem dropK_mem {kvs:List (κ × V)} {k:κ} {p:κ × V} (h:p ∈ dropK kvs k):p ∈ kvs:=(List.mem_filter.mp h).1
end
end L2
namespace L2
open PySem PySem.Spec PyProof.Rows
def clGo (cells:List (Str × Addr)):List (Str × NameKind)→List (Str × Addr)→List (Str × Addr)
  | [],acc=>acc
  | (n,k) :: r,acc=>clGo cells r (if k == .free then (n,(cells.lookup n).getD 0) :: acc else acc)
theorem closure_go {env:Env}:∀ (names:List (Str × NameKind)) (acc:List (Str × Addr)),(∀ n,(n,NameKind.free) ∈ names→∃ c,env.cells.lookup n=some c) →
    (forIn names acc fun (x:Str × NameKind) (r:List (Str × Addr))=>(if x.2 == .free then (cellOf env x.1 >>= fun c=>pure (ForInStep.yield ((x.1,c) :: r))) else pure (ForInStep.yield r):Sem (ForInStep (List (Str × Addr)))))=pure (clGo env.cells names acc)
  | [],acc,_=>rfl
  | (n, k) :: r, acc, h => by
    rw [List.forIn_cons]
    have hr:∀ n,(n,NameKind.free) ∈ r→∃ c,env.cells.lookup n=some c:=fun n hn=>h n (List.mem_cons_of_mem _ hn)
    cases hk:k == NameKind.free with
    | false =>
      simp only [hk,Bool.false_eq_true,if_false,pure_bind]
      rw [closure_go r acc hr]
      show _=pure (clGo env.cells r (if k == NameKind.free then _ else acc))
      rw [hk]; rfl
    | true =>
      have e:k = .free:=by simpa using hk
      subst e
      obtain ⟨c,hc⟩:=h n List.mem_cons_self
      have e2:cellOf env n=pure c:=by unfold cellOf; rw [hc]
      simp only [hk,if_true,e2,pure_bind]
      rw [closure_go r _ hr]
      show _=pure (clGo env.cells r (if NameKind.free == NameKind.free then (n,(env.cells.lookup n).getD 0) :: acc else acc))
      rw [hc]; rfl
theorem closure_of {scope:Scope} {env:Env} (h:∀ n,(n,NameKind.free) ∈ scope.names→∃ c,env.cells.lookup n=some c):closureFor scope env=pure (clGo env.cells scope.names []):=by
  have e:=closure_go (env:=env) scope.names [] h
  unfold closureFor
  rw [← bind_pure (pure (clGo env.cells scope.names []):Sem _),← e]
theorem clGo_lookup {cells : List (Str × Addr)} {x : Str} {c : Addr} : ∀ (names : List (Str × NameKind)) (acc : List (Str × Addr)), (∀ n, (n, NameKind.free) ∈ names → ∃ c, cells.lookup n = some c) →
    (clGo cells names acc).lookup x=some c→cells.lookup x=some c∨acc.lookup x=some c
  | [],acc,_,h=>.inr h
  | (n, k) :: r, acc, hf, h => by
    have hr:∀ n,(n,NameKind.free) ∈ r→∃ c,cells.lookup n=some c:=fun n hn=>hf n (List.mem_cons_of_mem _ hn)
    unfold clGo at h
    rcases clGo_lookup r _ hr h with z | z
    · exact .inl z
    · cases hk:k == NameKind.free with
      | false=>rw [hk] at z; exact .inr z
      | true =>
        have e:k = .free:=by simpa using hk
        subst e
        obtain ⟨d,hd⟩:=hf n List.mem_cons_self
        rw [hk,if_pos rfl,hd] at z
        by_cases hx:x=n
        · subst hx
          rw [List.lookup_cons,beq_self_eq_true] at z
          exact .inl (by rw [hd]; exact z)
        · rw [List.lookup_cons,beq_false_of_ne hx] at z
          exact .inr z
theorem clGo_has {cells : List (Str × Addr)} {x : Str} : ∀ (names : List (Str × NameKind)) (acc : List (Str × Addr)), ((x, NameKind.free) ∈ names ∨ ∃ c, acc.lookup x = some c) → ∃ c, (clGo cells names acc).lookup x = some c
  | [],acc,h=>h.elim (fun z=>nomatch z) fun z=>z
  | (n, k) :: r, acc, h => by
    unfold clGo
    refine clGo_has r _ ?_
    rcases h with z | ⟨c,z⟩
    · rcases List.mem_cons.mp z with e | z
      · have e1:n=x:=(Prod.mk.inj e).1.symm
        have e2:k = .free:=(Prod.mk.inj e).2.symm
        subst e1 e2
        exact .inr ⟨_,by rw [if_pos (by rfl),List.lookup_cons,beq_self_eq_true]⟩
      · exact .inl z
    · refine .inr ?_
      split
      · rw [List.lookup_cons]
        cases x == n
        · exact ⟨c,z⟩
        · exact ⟨_,rfl⟩
      · exact ⟨c,z⟩
theorem relabel_back {env : Env} {x : Str} {k : NameKind} : ∀ {names : List (Str × NameKind)},
    (names.map fun (n,k)=>if (k == NameKind.free && env.scope.kind == .function && env.kindOf n == some .cell) then (n,NameKind.cell) else (n,k)).lookup x=some k →
      ∃ k0,names.lookup x=some k0∧(k=k0∨(k0 = .free∧k = .cell))
  | [],h=>by simp at h
  | (n, k1) :: r, h => by
    have ih:=@relabel_back env x k r
    have h:List.lookup x ((if (k1 == NameKind.free && env.scope.kind == .function && env.kindOf n == some .cell)=true then (n,NameKind.cell) else (n,k1)) :: r.map fun (n,k)=>if (k == NameKind.free && env.scope.kind == .function && env.kindOf n == some .cell) then (n,NameKind.cell) else (n,k))=some k:=h
    by_cases hc:(k1 == NameKind.free && env.scope.kind == .function && env.kindOf n == some .cell)=true
    · rw [if_pos hc,List.lookup_cons] at h
      rw [List.lookup_cons]
      have e:k1 = .free:=by
        rw [Bool.and_eq_true,Bool.and_eq_true] at hc
        simpa using hc.1.1
      cases hx:x == n with
      | true=>rw [hx] at h; exact ⟨k1,rfl,.inr ⟨e,(Option.some.inj h).symm⟩⟩
      | false=>rw [hx] at h; exact ih h
    · rw [if_neg hc,List.lookup_cons] at h
      rw [List.lookup_cons]
      cases hx:x == n with
      | true=>rw [hx] at h; exact ⟨k1,rfl,.inl (Option.some.inj h).symm⟩
      | false=>rw [hx] at h; exact ih h
theorem relabel_fwd {env:Env} {x:Str}:∀ {names:List (Str × NameKind)},names.lookup x=some .free →
    (names.map fun (n,k)=>if (k == NameKind.free && env.scope.kind == .function && env.kindOf n == some .cell) then (n,NameKind.cell) else (n,k)).lookup x=some .free ∨
    (names.map fun (n,k)=>if (k == NameKind.free && env.scope.kind == .function && env.kindOf n == some .cell) then (n,NameKind.cell) else (n,k)).lookup x=some .cell
  | [],h=>by simp at h
  | (n, k1) :: r, h => by
    have ih:=@relabel_fwd env x r
    show List.lookup x ((if (k1 == NameKind.free && env.scope.kind == .function && env.kindOf n == some .cell)=true then (n,NameKind.cell) else (n,k1)) :: r.map fun (n,k)=>if (k == NameKind.free && env.scope.kind == .function && env.kindOf n == some .cell) then (n,NameKind.cell) else (n,k))=some .free ∨
      List.lookup x ((if (k1 == NameKind.free && env.scope.kind == .function && env.kindOf n == some .cell)=true then (n,NameKind.cell) else (n,k1)) :: r.map fun (n,k)=>if (k == NameKind.free && env.scope.kind == .function && env.kindOf n == some .cell) then (n,NameKind.cell) else (n,k))=some .cell
    rw [List.lookup_cons] at h
    by_cases hc:(k1 == NameKind.free && env.scope.kind == .function && env.kindOf n == some .cell)=true
    · rw [if_pos hc,List.lookup_cons]
      cases hx:x == n with
      | true=>exact .inr rfl
      | false=>rw [hx] at h; exact ih h
    · rw [if_neg hc,List.lookup_cons]
      cases hx:x == n with
      | true=>rw [hx] at h; exact .inl h
      | false=>rw [hx] at h; exact ih h
theorem mem_of_lookup {x:Str} {k:NameKind}:∀ {names:List (Str × NameKind)},names.lookup x=some k→(x,k) ∈ names
  | [],h=>by simp at h
  | (n, k1) :: r, h => by
    rw [List.lookup_cons] at h
    cases hx:x == n with
    | true =>
      rw [hx] at h
      have e:x=n:=by simpa using hx
      rw [e,Option.some.inj h]; exact List.mem_cons_self
    | false=>rw [hx] at h; exact List.mem_cons_of_mem _ (mem_of_lookup h)
def cxC (X:Cx) (N:List Str) (scope:Scope) (s:Shared) (H:Hp) (fp:List Addr):Cx where
  prog:=X.prog
  w:=X.w
  K:=X.K
  mg:=X.mg
  base:=X.base
  A:=X.A
  N:=N
  s₀:=s
  H₀:=H
  env:=compEnvC scope (clGo X.env.cells scope.names []) s.heap.objs.size X.env
  outer:=X.stack
  stack:=X.stack
  ex:=fp
  fn:=fun _=>false
  calm:=X.calm
  pn:=[]
  xe:=fun _ _=>False
def Caps (X:Cx) (scope:Scope):List Nat→List Str→Prop
  | [],[]=>True
  | j :: js,y :: ys=>X.N[j]? = some y∧(X.env.kindOf y=some .cell∨X.env.kindOf y=some .free)∧scope.names.lookup y=some .free∧Caps X scope js ys
  | _,_=>False
def capV (σ:St) (js:List Nat):St:=js.map fun j=>(σ[j]?).join
theorem Caps.len {X:Cx} {scope:Scope}:∀ {js:List Nat} {ys:List Str},Caps X scope js ys→js.length=ys.length
  | [],[],_=>rfl
  | _ :: _,_ :: _,h=>by rw [List.length_cons,List.length_cons,Caps.len h.2.2.2]
  | [],_ :: _,h=>h.elim
  | _ :: _,[],h=>h.elim
theorem Caps.get {X:Cx} {scope:Scope} {σ:St} {y:Str} {v:V}:∀ {js:List Nat} {ys:List Str} {i:Nat},Caps X scope js ys→ys[i]? = some y→(capV σ js)[i]? = some (some v) →
    ∃ j:Nat,X.N[j]? = some y∧σ[j]? = some (some v)∧(X.env.kindOf y=some .cell∨X.env.kindOf y=some .free)∧scope.names.lookup y=some .free
  | [],[],i,_,e,_=>by simp at e
  | j :: js, z :: ys, 0, h, e, q => by
    simp only [List.getElem?_cons_zero,Option.some.injEq] at e
    subst e
    refine ⟨j,h.1,?_,h.2.1,h.2.2.1⟩
    have q':(σ[j]?).join=some v:=by simpa [capV] using q
    cases hj:σ[j]? with
    | none=>rw [hj] at q'; simp at q'
    | some o=>rw [hj] at q'; rw [← q']; rfl
  | j :: js,z :: ys,i+1,h,e,q=>Caps.get (i:=i) h.2.2.2 (by simpa using e) (by simpa [capV] using q)
  | [],_ :: _,_,h,_,_=>h.elim
  | _ :: _,[],_,h,_,_=>h.elim
section
variable {X:Cx} {pins:List (Addr × Obj)} {σ:St} {H:Hp} {s s':Shared} {scope:Scope} {fp:List Addr}
theorem cxC_ok {N : List Str} (I : Inv X pins σ H s) (hf : ∀ b ∈ fp, FpOk X pins H b) (hlt : ∀ b ∈ fp, b < s.heap.objs.size) (hkind : scope.kind = .function) (hcell : ∀ y ∈ scope.names, y.2 ≠ .cell)
    (hfr:∀ n,(n,NameKind.free) ∈ scope.names→∃ c,X.env.cells.lookup n=some c):(cxC X N scope s H fp).Ok where
  mod:=I.mod
  kind:=hkind
  glob:=I.ok.glob
  blt:=I.ok.blt
  above:=Nat.le_refl _
  inj:=fun x y c h1 h2=>I.ok.inj x y c ((clGo_lookup _ _ hfr h1).resolve_right (by simp)) ((clGo_lookup _ _ hfr h2).resolve_right (by simp))
  has := fun x hx => by
    refine clGo_has _ _ (.inl ?_)
    have key:∀ k,(k=NameKind.cell∨k=NameKind.free)→(relabel scope X.env).names.lookup x=some k→(x,NameKind.free) ∈ scope.names:=fun k hk e=>by
      obtain ⟨k0,e0,z⟩:=relabel_back e
      rcases z with z | ⟨z,_⟩
      · subst z
        rcases hk with hk | hk
        · subst hk; exact absurd rfl (hcell _ (mem_of_lookup e0))
        · subst hk; exact mem_of_lookup e0
      · subst z; exact mem_of_lookup e0
    rcases hx with hx | hx
    · exact key _ (.inl rfl) hx
    · exact key _ (.inr rfl) hx
  cab:=fun x c h=>by cases h
  hd:=I.ok.hd
  frames:=I.ok.frames
  stk:=.inl rfl
  exf:=fun b hb=>⟨Nat.ne_of_lt (hlt b hb),fun x c e=>(hf b hb).2.2.2.2.1 x c ((clGo_lookup _ _ hfr e).resolve_right (by simp))⟩
  bs:=I.bs
  bsz:=Nat.le_trans I.ok.bsz I.sz
  noex:=fun b o e hb=>by
    rcases (hf b hb).2.2.2.1 with z | z
    · exact I.ok.noex b o e z
    · exact absurd (Nat.lt_of_lt_of_le (Heap.lt_size e) (Nat.le_trans I.ok.bsz z)) (Nat.lt_irrefl _)
  exfs:=fun b hb hs=>by
    rcases List.mem_cons.mp (I.stkSub b hs) with z | z
    · exact (hf b hb).2.1 z
    · exact (hf b hb).2.2.1 z
  funs:=I.stack
  frf:=I.stkFree
theorem cxC_inv {own ys : List Str} {js : List Nat} {h1 : Heap} {tk : Nat} {m : Str → Option Value} (I : Inv X pins σ H s) (hf : ∀ b ∈ fp, FpOk X pins H b) (hlt : ∀ b ∈ fp, b < s.heap.objs.size) (hkind : scope.kind = .function)
    (hcell:∀ y ∈ scope.names,y.2≠.cell) (hfr:∀ n,(n,NameKind.free) ∈ scope.names→∃ c,X.env.cells.lookup n=some c) (hc:Caps X scope js ys)
    (hn:h1.Ns s.heap.objs.size m) (hk:∀ b o,s.heap.get? b=some o→h1.get? b=some o) :
    Inv (cxC X (own ++ ys) scope s H fp) [] (List.replicate own.length none ++ capV σ js) H { s with heap:=h1,toks:=tk }:=by
  have hcl:∀ x c,(clGo X.env.cells scope.names []).lookup x=some c→X.env.cells.lookup x=some c:=fun x c e=>(clGo_lookup _ _ hfr e).resolve_right (by simp)
  refine ⟨cxC_ok I hf hlt hkind hcell hfr,rfl,I.bare,Un.kept hk,⟨m,hn,fun i x v e1 e2 e3=>?_⟩,fun x c e=>?_,I.fresh,fun x c e=>I.freeC x c (hcl x c e),(fun p hp=>nomatch hp),I.hok.kept hk,?_⟩
  · have e1':(own ++ ys)[i]? = some x:=e1
    by_cases hi:i < own.length
    · rw [List.getElem?_append_left (by simpa using hi)] at e2
      rw [List.getElem?_replicate] at e2
      split at e2
      · cases Option.some.inj e2
      · cases e2
    · have hi':own.length≤i:=Nat.le_of_not_lt hi
      rw [List.getElem?_append_right hi'] at e1'
      rw [List.getElem?_append_right (by simpa using hi'),List.length_replicate] at e2
      obtain ⟨j,q1,q2,q3,q4⟩:=hc.get e1' e2
      obtain ⟨m0,_,hl⟩:=I.loc
      obtain ⟨u,r,l⟩:=hl j x v q1 q2 (by
        rcases q3 with q3 | q3
        · exact .inr (.inl q3)
        · exact .inr (.inr q3))
      refine ⟨u,r,.inr ⟨?_,?_⟩⟩
      · rcases relabel_fwd (env:=X.env) q4 with z | z
        · exact .inr z
        · exact .inl z
      · rcases l with ⟨k,_⟩ | ⟨_,c,hc1,hc2⟩
        · rcases q3 with q3 | q3 <;> rw [k] at q3 <;> cases Option.some.inj q3
        · obtain ⟨d,hd⟩:=clGo_has (cells:=X.env.cells) (x:=x) scope.names [] (.inl (mem_of_lookup q4))
          have hd':=hcl x d hd
          rw [hc1] at hd'
          cases Option.some.inj hd'
          obtain ⟨o,ho,hod⟩:=hc2
          exact ⟨c,hd,o,hk c o ho,hod⟩
  · obtain ⟨v,o,ho,hod⟩:=I.cell x c (hcl x c e)
    exact ⟨v,o,hk c o ho,hod⟩
  · show (List.replicate own.length none ++ capV σ js).length=(own ++ ys).length
    rw [List.length_append,List.length_append,List.length_replicate,capV,List.length_map,hc.len]
theorem cxC_back {N:List Str} {σ':St} {H':Hp} (I:Inv X pins σ H s) (hf:∀ b ∈ fp,FpOk X pins H b) (J:Inv (cxC X N scope s H fp) [] σ' H' s'):Inv X pins σ H' s' :=
  I.call' (ch:=fp) J.os J.base J.hok J.bare fun b hb=>⟨(hf b hb).2.2.2.1,(hf b hb).2.1,(hf b hb).2.2.2.2.1,(hf b hb).2.2.2.2.2⟩
end
section
variable {prog:Program} {w:World} {A:Around} {R:Result→Shared→Prop} {s:Shared}
theorem compLoop_any {elt target iter:Expr} {ifs:List Expr} {scope:Scope} {pos:Pos} {it acc:Value} {env:Env} (I:Nat→Shared→Prop)
    (turn : ∀ n s, I n s → wpAny (model prog w) A (pyNext it) (fun r s₁ => match r with
      | none=>R (.ok .next) s₁
      | some v=>wpAny (model prog w) A (letOwnedTupleGo target it v) (fun _ s₁'=>wpAny (model prog w) A (assign target env v) (fun _ s₂ =>
          wpAny (model prog w) A (forIn ifs true fun c r=>if r=true then do let ok ← isTrue c env (eval c env); pure (ForInStep.yield ok) else pure (ForInStep.yield r)) (fun ok s₃ =>
            if ok=true then wpAny (model prog w) A (eval elt env) (fun x s₄ =>
              wpAny (model prog w) A (call (.builtin "list.append") [acc,x]) (fun _ s₅=>∃ m,m < n∧I m s₅) (fun _ _=>False) s₄) (fun _ _=>False) s₃
            else ∃ m,m < n∧I m s₃) (fun _ _=>False) s₂) (fun _ _=>False) s₁') (fun _ _=>False) s₁) (fun _ _=>False) s)
    (n:Nat) (h:I n s) :
    codeAny (model prog w) A (.compLoop (.ListComp elt [⟨target,iter,ifs,0⟩] scope pos) 0 it acc env) R s:=by
  refine codeAny_loop rfl I (fun n s hI=>?_) n h
  show wpAny _ A ((compTurn (.ListComp elt [⟨target,iter,ifs,0⟩] scope pos) 0 it acc env).onRaise (fun x=>do noteFrame x env; theTreesLotGoes x)) _ _ s
  refine wpAny_noted ?_
  rw [compTurn_list]
  refine wpAny_bind (wpAny_standAt (wpAny_bind (wpAny_mono (turn n s hI) (fun r s₁ h₁=>?_) fun _ _ h'=>h'.elim)))
  cases r with
  | none=>exact wpAny_pure h₁
  | some v =>
    refine wpAny_bind (wpAny_mono h₁ (fun _ s₁' h₁'=>?_) fun _ _ h'=>h'.elim)
    refine wpAny_bind (wpAny_mono h₁' (fun _ s₂ h₂=>wpAny_bind (wpAny_mono h₂ (fun ok s₃ h₃=>?_) fun _ _ h'=>h'.elim)) fun _ _ h'=>h'.elim)
    cases ok with
    | false=>exact wpAny_pure ⟨rfl,h₃⟩
    | true =>
      exact wpAny_bind (wpAny_bind (wpAny_mono h₃ (fun x s₄ h₄=>wpAny_bind (wpAny_mono h₄ (fun _ s₅ h₅=>wpAny_pure (wpAny_pure ⟨rfl,h₅⟩)) fun _ _ h'=>h'.elim)) fun _ _ h'=>h'.elim))
end
def PIfs (X : Cx) (ifs : List Expr) (t : TT) : Prop :=
  ∀ (pins : List (Addr × Obj)) (s : Shared) (σ : St) (H : Hp) (Q : Bool → Hp → Prop), Inv X pins σ H s → t σ H Q →
    wpAny (model X.prog X.w) X.A (forIn ifs true fun c r=>if r=true then do let ok ← isTrue c X.env (eval c X.env); pure (ForInStep.yield ok) else pure (ForInStep.yield r)) (TP X pins σ Q) X.xe s
def tYes:TT:=fun _ H Q=>Q true H
theorem pifs_nil {X:Cx}:PIfs X [] tYes:=fun _ _ _ H _ I h=>wpAny_tests_nil ⟨H,I,h⟩
theorem pifs_one {X:Cx} {c:Expr} {t:TT} (h:PT X c t):PIfs X [c] t:=fun pins s σ H Q I q=>wpAny_tests_one (h pins s σ H Q I q)
def tComp (own : Nat) (js : List Nat) (wi : TI) (g : TG) (tt : TT) (te : TE) : TE := fun σ H Q => wi σ H fun J H1 => ∀ acc, H1 acc = none →
  ∃ W : Nat → Nat → List V → St → Hp → Prop, (∃ m, W 0 m [] (List.replicate own none ++ capV σ js) (upd H1 acc (.lst []))) ∧ ∀ i m ys σ' H', W i m ys σ' H' → H' acc = some (.lst ys) ∧
    ((J.stop i H'∧Q (.ref acc) H')∨(J.go i H'∧∀ x H2,J.yld i H' x H2→g x σ' H2 fun σ2 H3=>tt σ2 H3 fun b H4 =>
      if b=true then te σ2 H4 fun y H5=>H5 acc=some (.lst ys)∧ys.length < sizeLine∧∃ m',m' < m∧W (i+1) m' (ys ++ [y]) σ2 (upd H5 acc (.lst (ys ++ [y]))) else ∃ m',m' < m∧W (i+1) m' ys σ2 H4))
section
variable {X:Cx}
theorem comp_run {elt tg iter : Expr} {ifs : List Expr} {scope : Scope} {pos : Pos} {own ys : List Str} {js : List Nat} {wi : TI} {g : TG} {tt : TT} {te : TE} {pins : List (Addr × Obj)} {s : Shared} {σ : St} {H : Hp} {Q : VK}
    {use:Option (Value→Sem Unit)} {Q':Value→Shared→Prop} {p:Pos} (hcalm:X.calm=true)
    (hi:PI X tg iter wi) (hkind:scope.kind = .function) (hcell:∀ y ∈ scope.names,y.2≠.cell) (hnames:∀ y ∈ scope.names,y.2 = .local→scope.names.lookup y.1=some .local)
    (hfr:∀ n,(n,NameKind.free) ∈ scope.names→∃ c,X.env.cells.lookup n=some c) (hc:Caps X scope js ys)
    (hg:∀ s0 H0 fp,PG (cxC X (own ++ ys) scope s0 H0 fp) tg g) (ht:∀ s0 H0 fp,PIfs (cxC X (own ++ ys) scope s0 H0 fp) ifs tt) (he:∀ s0 H0 fp,PE (cxC X (own ++ ys) scope s0 H0 fp) elt te)
    (I:Inv X pins σ H s) (h:tComp own.length js wi g tt te σ H Q)
    (hu:∀ (D C:Addr) (H':Hp) (s':Shared),Inv X pins σ H' s'→Q (.ref D) H'→FpOk X pins H' C→(∃ m,s'.heap.Ns C m)→compPost (model X.prog X.w) X.A X.xe use Q' (.ref D) C (.ok .next) s')
    (hs:∀ x,foldedSetIterable iter X.env x=pure x) :
    wpAny (model X.prog X.w) X.A (comprehension (.ListComp elt [⟨tg,iter,ifs,0⟩] scope pos) scope X.env p (newList []) false (eval iter X.env) use) Q' X.xe s:=by
  refine wpAny_comprehension_free (g:=⟨tg,iter,ifs,0⟩) (gs:=[]) rfl hs (closure_of hfr) hkind hnames (thn (hi pins s σ H _ I h) fun v s1 h1=>thn h1 fun itv s2 h2=>?_)
  obtain ⟨it,fp,tn,J,H2,e,I2,T,st2,f2,q⟩:=h2
  subst e
  refine wpAny_newObj_type (wpAny_newFunctionEnv hcell (by intro y hy; simp at hy) (fun h₁ hns₁ hsb₁=>?_) hkind)
  dsimp only at hns₁ hsb₁ ⊢
  have nD:H2 s2.heap.objs.size=none:=I2.fresh
  have I3:Inv X pins σ (upd H2 s2.heap.objs.size (.lst [])) { s2 with heap:=s2.heap.push { cls:=.type "list",data:=.seq ([]:List Value).toArray },toks:=s2.toks }:=I2.lnew (its:=[]) .nil (Nat.zero_le _)
  have hlt2:∀ b ∈ fp,b < s2.heap.objs.size:=fun b hb=>let ⟨o,e,_⟩:=T.obj _ _ st2 b hb; Heap.lt_size e
  obtain ⟨W,⟨m0,w0⟩,turn⟩:=q _ nD
  generalize hs3:({ s2 with heap:=s2.heap.push { cls:=.type "list",data:=.seq ([]:List Value).toArray },toks:=s2.toks }:Shared)=s3 at I3
  have hh3:s2.heap.push { cls:=.type "list",dict:=none,data:=.seq ([]:List Value).toArray } = s3.heap:=by rw [← hs3]
  have hsz3:s3.heap.objs.size=s2.heap.objs.size+1:=by rw [← hh3,Heap.size_push]
  have hlt3:∀ b ∈ fp,b < s3.heap.objs.size:=fun b hb=>by rw [hsz3]; exact Nat.lt_succ_of_lt (hlt2 b hb)
  have f3:∀ b ∈ fp,FpOk X pins (upd H2 s2.heap.objs.size (.lst [])) b:=fun b hb=>⟨by rw [upd_ne (Nat.ne_of_lt (hlt2 b hb))]; exact (f2 b hb).1,(f2 b hb).2⟩
  have fC:FpOk X pins (upd H2 s2.heap.objs.size (.lst [])) s3.heap.objs.size:=I3.fpOk (Nat.le_refl _) I3.fresh
  rw [hh3] at hns₁ hsb₁ ⊢
  have hk3:∀ b o,s3.heap.get? b=some o→h₁.get? b=some o:=fun b o e=>hsb₁.extBut b o (Nat.ne_of_lt (Heap.lt_size e)) (Heap.get?_push_of_some _ e)
  have es4:({ s2 with heap:=h₁,toks:=s2.toks+([]:List (Str × Value)).length }:Shared) = { s3 with heap:=h₁,toks:=s2.toks+([]:List (Str × Value)).length }:=by rw [← hs3]
  have I4:=cxC_inv (own:=own) (h1:=h₁) (tk:=s2.toks+([]:List (Str × Value)).length) I3 f3 hlt3 hkind hcell hfr hc hns₁ hk3
  have st4:tn 0 h₁:=T.keep _ _ _ st2 fun b hb o e=>hk3 b o (by rw [← hh3]; exact Heap.get?_push_of_some _ e)
  have stat:∀ {H':Hp},(∀ b ∈ fp,H' b=none)→∀ b ∈ fp,FpOk (cxC X (own ++ ys) scope s3 (upd H2 s2.heap.objs.size (.lst [])) fp) [] H' b:=fun hn b hb =>
    ⟨hn b hb,Nat.ne_of_lt (hlt3 b hb),(cxC_ok (N:=own ++ ys) I3 f3 hlt3 hkind hcell hfr).exfs b hb,.inl hb,fun x c e=>((cxC_ok (N:=own ++ ys) I3 f3 hlt3 hkind hcell hfr).exf b hb).2 x c e,fun p hp=>nomatch hp⟩
  have loop:∀ s4:Shared,s4 = { s3 with heap:=h₁,toks:=s2.toks+([]:List (Str × Value)).length } →
      codeAny (model X.prog X.w) X.A (.compLoop (.ListComp elt [⟨tg,iter,ifs,0⟩] scope pos) 0 (.ref it) (.ref s2.heap.objs.size) (compEnvC scope (clGo X.env.cells scope.names []) s3.heap.objs.size X.env))
        (compPost (model X.prog X.w) X.A X.xe use Q' (.ref s2.heap.objs.size) s3.heap.objs.size) s4:=by
    rintro s4 rfl
    refine compLoop_any (fun n s'=>∃ i ys' σ' H',Inv (cxC X (own ++ ys) scope s3 (upd H2 s2.heap.objs.size (.lst [])) fp) [] σ' H' s'∧tn i s'.heap∧(∀ b ∈ fp,H' b=none)∧W i n ys' σ' H') ?_ m0
      ⟨0,[],_,_,I4,st4,fun b hb=>(f3 b hb).1,w0⟩
    rintro n s5 ⟨i,ys',σ5,H5,I5,st5,fr5,w5⟩
    obtain ⟨hacc,rest⟩:=turn i n ys' σ5 H5 w5
    rcases rest with ⟨stop,qn⟩ | ⟨go,step⟩
    · refine thn (T.done (cxC X (own ++ ys) scope s3 (upd H2 s2.heap.objs.size (.lst [])) fp) rfl rfl rfl hcalm i [] s5 σ5 H5 _ I5 (stat fr5) st5 stop) fun r s6 ⟨hr,I6⟩=>?_
      subst hr
      exact hu _ _ H5 s6 (cxC_back I3 f3 I6) qn ⟨I6.free,fC.2⟩ (let ⟨m,hn,_⟩:=I6.loc; ⟨m,hn⟩)
    · refine thn (T.item (cxC X (own ++ ys) scope s3 (upd H2 s2.heap.objs.size (.lst [])) fp) rfl rfl rfl hcalm i [] s5 σ5 H5 _ I5 (stat fr5) st5 go) fun r s6 ⟨u,hr,h6⟩=>?_
      subst hr
      refine thn h6 fun _ s7 ⟨x,H7,I7,r7,y7,st7,fr7⟩=>?_
      have I7':=I7.pinned (stat fr7) (T.obj _ _ st7)
      refine thn (hg _ _ _ _ s7 σ5 H7 x u _ I7' r7 (step x H7 y7)) fun _ s8 ⟨σ8,H8,I8,q8⟩=>?_
      refine thn (ht _ _ _ _ s8 σ8 H8 _ I8 q8) fun ok s9 ⟨H9,I9,q9⟩=>?_
      have kept:∀ {s10:Shared} {σ10:St} {H10:Hp},Inv (cxC X (own ++ ys) scope s3 (upd H2 s2.heap.objs.size (.lst [])) fp) ([] ++ pinsAt fp s7.heap) σ10 H10 s10 →
          Inv (cxC X (own ++ ys) scope s3 (upd H2 s2.heap.objs.size (.lst [])) fp) [] σ10 H10 s10∧tn (i+1) s10.heap∧∀ b ∈ fp,H10 b=none:=fun {s10 σ10 H10} I10=>by
        refine ⟨I10.unpinned,T.keep _ _ _ st7 fun b hb o e=>(I10.pin (b,o) (List.mem_append_right _ (List.mem_append_right _ (mem_pinsAt hb e)))).1,fun b hb=>?_⟩
        obtain ⟨o,e,d⟩:=T.obj _ _ st7 b hb
        exact (I10.pin (b,o) (List.mem_append_right _ (List.mem_append_right _ (mem_pinsAt hb e)))).2.1
      cases ok with
      | false =>
        simp only [Bool.false_eq_true,if_false] at q9 ⊢
        obtain ⟨m',hm,w9⟩:=q9
        obtain ⟨k1,k2,k3⟩:=kept I9
        exact ⟨m',hm,i+1,ys',σ8,H9,k1,k2,k3,w9⟩
      | true =>
        simp only [if_true] at q9 ⊢
        refine thn (he _ _ _ _ s9 σ8 H9 _ I9 q9) fun yv s10 ⟨y,H10,I10,r10,a10,l10,m',hm,w10⟩=>?_
        refine thn (mt_append (X:=cxC X (own ++ ys) scope s3 (upd H2 s2.heap.objs.size (.lst [])) fp) _ s10 σ8 H10 (.ref s2.heap.objs.size) [y] (.ref s2.heap.objs.size) [yv] (fun v H'=>v = .non∧H'=upd H10 s2.heap.objs.size (.lst (ys' ++ [y]))) I10 rfl (.cons r10 .nil) ⟨_,_,_,rfl,rfl,a10,l10,rfl,rfl⟩) fun _ s11 ⟨_,H11,I11,_,_,e11⟩=>?_
        subst e11
        obtain ⟨k1,k2,k3⟩:=kept I11
        exact ⟨m',hm,i+1,_,σ8,_,k1,k2,k3,w10⟩
  have fin:=codeAny_compStart_list (R:=compPost (model X.prog X.w) X.A X.xe use Q' (.ref s2.heap.objs.size) s3.heap.objs.size) (loop _ rfl) (T.self X.A 0 { s3 with heap:=h₁,toks:=s2.toks+([]:List (Str × Value)).length } _ _ st4 (loop _ rfl))
  rw [← hs3] at fin ⊢
  exact fin
theorem frees_of {pins:List (Addr × Obj)} {σ:St} {H:Hp} {s:Shared} {scope:Scope} (I:Inv X pins σ H s) (h:(scope.names.all fun y=>y.2 != .free || X.env.kindOf y.1 == some .cell || X.env.kindOf y.1 == some .free)=true) :
    ∀ n,(n,NameKind.free) ∈ scope.names→∃ c,X.env.cells.lookup n=some c:=fun n hn=>by
  have q:=List.all_eq_true.mp h _ hn
  simp only [bne_self_eq_false,Bool.false_or,Bool.or_eq_true,beq_iff_eq] at q
  exact I.ok.has n q
theorem pe_comp {elt tg iter:Expr} {ifs:List Expr} {scope:Scope} {pos:Pos} (own:List Str) {ys:List Str} (js:List Nat) {wi:TI} {g:TG} {tt:TT} {te:TE} (hcalm:X.calm=true)
    (hi:PI X tg iter wi) (hc:Caps X scope js ys)
    (hg:∀ s0 H0 fp,PG (cxC X (own ++ ys) scope s0 H0 fp) tg g) (ht:∀ s0 H0 fp,PIfs (cxC X (own ++ ys) scope s0 H0 fp) ifs tt) (he:∀ s0 H0 fp,PE (cxC X (own ++ ys) scope s0 H0 fp) elt te)
    (hfr:(scope.names.all fun y=>y.2 != .free || X.env.kindOf y.1 == some .cell || X.env.kindOf y.1 == some .free)=true:=by rfl)
    (hkind:scope.kind = .function:=by rfl) (hcell:∀ y ∈ scope.names,y.2≠.cell:=by decide +kernel) (hnames:∀ y ∈ scope.names,y.2 = .local→scope.names.lookup y.1=some .local:=by decide +kernel)
    (hs:∀ x,foldedSetIterable iter X.env x=pure x:=by intro _; rfl):PE X (.ListComp elt [⟨tg,iter,ifs,0⟩] scope pos) (tComp own.length js wi g tt te):=by
  intro pins s σ H Q I h
  rw [eval_ListComp]
  refine comp_run (use:=none) hcalm hi hkind hcell hnames (frees_of I hfr) hc hg ht he I h (fun D C H' s' I' q fC ⟨m,hn⟩=>⟨m,hn,fun h' hs'=>⟨.ref D,H',?_,rfl,q⟩⟩) hs
  exact I'.turned (t':=s'.toks) (fun b o hb e=>(hs'.2 b hb).trans e) fC.1 fC.2.1 fC.2.2.2.1 fC.2.2.2.2.1 fC.2.2.2.2.2
end
end L2
namespace L2
open PySem PySem.Spec PyProof.Rows
mutual
def Rep (K:PySem.W.Frag) (H:Hp):PyData→V→Prop
  | .none,v=>v = .non
  | .bool b,v=>v = .bl b
  | .int i,v=>v = .int i
  | .str x,v=>v = .str x
  | .list ds,v=>∃ a xs,v = .ref a∧SqL K H a xs∧RepAll K H ds xs
  | .tuple ds,v=>∃ a xs,v = .ref a∧SqT K H a xs∧RepAll K H ds xs
  | .dict _,_=>False
def RepAll (K:PySem.W.Frag) (H:Hp):List PyData→List V→Prop
  | [],vs=>vs=[]
  | d :: ds,vs=>∃ v r,vs=v :: r∧Rep K H d v∧RepAll K H ds r
end
section
variable {X:Cx} {pins:List (Addr × Obj)} {σ:St} {H:Hp} {s:Shared}
mutual
theorem Rep.reads (I:Inv X pins σ H s):∀ (d:PyData) (v:V) (u:Value),Rep X.K H d v→RelV v u→∃ as,Reads s.heap u d as
  | .none, v, u, h, r => by
    cases (show v = .non by simpa only [Rep] using h)
    cases (show u=Value.none from r); exact ⟨_,.none⟩
  | .bool b, v, u, h, r => by
    cases (show v = .bl b by simpa only [Rep] using h)
    cases (show u=Value.bool b from r); exact ⟨_,.bool b⟩
  | .int i, v, u, h, r => by
    cases (show v = .int i by simpa only [Rep] using h)
    obtain ⟨t,rfl⟩:=(show ∃ t,u=Value.int i t from r); exact ⟨_,.int i t⟩
  | .str x, v, u, h, r => by
    cases (show v = .str x by simpa only [Rep] using h)
    obtain ⟨t,rfl⟩:=(show ∃ t,u=Value.str x t from r); exact ⟨_,.str x t⟩
  | .list ds, v, u, h, r => by
    obtain ⟨a,xs,rfl,hq,ha⟩:=(show ∃ a xs,v = .ref a∧SqL X.K H a xs∧RepAll X.K H ds xs by simpa only [Rep] using h)
    cases (show u=Value.ref a from r)
    obtain ⟨its,rv,⟨o,n,e1,e2,_,e3⟩,_⟩:=I.list hq
    obtain ⟨as,ra⟩:=RepAll.reads I ds xs its ha rv
    exact ⟨_,.list e1 e2 e3 (by simpa using ra)⟩
  | .tuple ds, v, u, h, r => by
    obtain ⟨a,xs,rfl,hq,ha⟩:=(show ∃ a xs,v = .ref a∧SqT X.K H a xs∧RepAll X.K H ds xs by simpa only [Rep] using h)
    cases (show u=Value.ref a from r)
    obtain ⟨its,rv,⟨o,e1,e2,n,e3⟩,_⟩:=I.tuple hq
    obtain ⟨as,ra⟩:=RepAll.reads I ds xs its ha rv
    exact ⟨_,.tuple e1 e2 e3 (by simpa using ra)⟩
  | .dict _,v,u,h,r=>absurd h (by simp only [Rep]; exact fun z=>z)
theorem RepAll.reads (I:Inv X pins σ H s):∀ (ds:List PyData) (vs:List V) (us:List Value),RepAll X.K H ds vs→Vals vs us→∃ as,ReadsAll s.heap us ds as
  | [], vs, us, h, r => by
    cases (show vs=[] by simpa only [RepAll] using h)
    cases r; exact ⟨_,.nil⟩
  | d :: ds, vs, us, h, r => by
    obtain ⟨v,rr,rfl,h1,h2⟩:=(show ∃ v r,vs=v :: r∧Rep X.K H d v∧RepAll X.K H ds r by simpa only [RepAll] using h)
    cases r with
    | cons ru rs =>
      obtain ⟨as,r1⟩:=Rep.reads I d v _ h1 ru
      obtain ⟨bs,r2⟩:=RepAll.reads I ds rr _ h2 rs
      exact ⟨_,.cons r1 r2⟩
end
end
theorem RepAll.cons {K:PySem.W.Frag} {H:Hp} {d:PyData} {v:V} {ds:List PyData} {vs:List V} (h1:Rep K H d v) (h2:RepAll K H ds vs):RepAll K H (d :: ds) (v :: vs):=by
  simp only [RepAll]; exact ⟨v,vs,rfl,h1,h2⟩
theorem RepAll.nil {K:PySem.W.Frag} {H:Hp}:RepAll K H [] []:=by simp only [RepAll]
theorem Rep.int {K:PySem.W.Frag} {H:Hp} (i:Int):Rep K H (.int i) (.int i):=by simp only [Rep]
theorem Rep.lst {K:PySem.W.Frag} {H:Hp} {a:Addr} {xs:List V} {ds:List PyData} (h:SqL K H a xs) (r:RepAll K H ds xs):Rep K H (.list ds) (.ref a):=by
  simp only [Rep]; exact ⟨a,xs,rfl,h,r⟩
theorem Rep.tup {K:PySem.W.Frag} {H:Hp} {a:Addr} {xs:List V} {ds:List PyData} (h:SqT K H a xs) (r:RepAll K H ds xs):Rep K H (.tuple ds) (.ref a):=by
  simp only [Rep]; exact ⟨a,xs,rfl,h,r⟩
theorem RepAll.ints {K:PySem.W.Frag} {H:Hp}:∀ (ns:List Int),RepAll K H (ns.map .int) (ns.map V.int)
  | []=>RepAll.nil
  | n :: ns=>RepAll.cons (Rep.int n) (RepAll.ints ns)
section
variable {X:Cx}
structure Fine (d:PyData):Prop where
  lay:d.canLay0=true
  dep:d.depth≤60
def rEqD (K:PySem.W.Frag) (neg:Bool):R2:=fun x y H Q=>∃ dx dy,Rep K H dx x∧Rep K H dy y∧Fine dx∧Fine dy∧Q (.bl (if neg then !PyData.eqv dx dy else PyData.eqv dx dy)) H
theorem op_eqD (hu:X.A.units+64 < cLine):OpR X (compareOp .Eq) (rEqD X.K false):=by
  intro pins s σ H x y v u Q I rx ry h
  obtain ⟨dx,dy,h1,h2,f1,f2,q⟩:=h
  obtain ⟨as,r1⟩:=Rep.reads I dx x v h1 rx
  obtain ⟨bs,r2⟩:=Rep.reads I dy y u h2 ry
  have:=f1.dep
  exact SeqAt.compareEq_reads r1 r2 f1.lay f2.lay (Nat.lt_of_le_of_lt (Nat.add_le_add_left (Nat.le_trans (Nat.min_le_left _ _) (Nat.le_trans f1.dep (by decide))) _) hu) ⟨.bl _,H,I,rfl,q⟩
theorem op_neD (hu:X.A.units+64 < cLine):OpR X (compareOp .NotEq) (rEqD X.K true):=by
  intro pins s σ H x y v u Q I rx ry h
  obtain ⟨dx,dy,h1,h2,f1,f2,q⟩:=h
  obtain ⟨as,r1⟩:=Rep.reads I dx x v h1 rx
  obtain ⟨bs,r2⟩:=Rep.reads I dy y u h2 ry
  exact SeqAt.compareNe_reads r1 r2 f1.lay f2.lay (Nat.lt_of_le_of_lt (Nat.add_le_add_left (Nat.le_trans (Nat.min_le_left _ _) (Nat.le_trans f1.dep (by decide))) _) hu) ⟨.bl _,H,I,rfl,q⟩
def rEqG (K:PySem.W.Frag):R2:=fun x y H Q=>rEq x y H Q∨rEqD K false x y H Q
def rNeG (K:PySem.W.Frag):R2:=fun x y H Q=>rNe x y H Q∨rEqD K true x y H Q
theorem op_eqG (hu:X.A.units+64 < cLine):OpR X (compareOp .Eq) (rEqG X.K):=op_eq.or (op_eqD hu)
theorem op_neG (hu:X.A.units+64 < cLine):OpR X (compareOp .NotEq) (rNeG X.K):=op_ne.or (op_neD hu)
def rInD (K:PySem.W.Frag) (neg:Bool):R2:=fun x y H Q=>∃ d ds,Rep K H d x∧(Rep K H (.list ds) y∨Rep K H (.tuple ds) y)∧Fine d∧PyData.canLayAll0 ds=true∧Q (.bl (if neg then !(ds.any fun e=>PyData.eqv e d) else ds.any fun e=>PyData.eqv e d)) H
theorem op_inD (hu:X.A.units+64 < cLine):OpR X (compareOp .In) (rInD X.K false):=by
  intro pins s σ H x y v u Q I rx ry h
  obtain ⟨d,ds,h1,h2,f1,f2,q⟩:=h
  obtain ⟨as,r1⟩:=Rep.reads I d x v h1 rx
  have hb:X.A.units+1+min (PyData.depthAll ds) d.depth < cLine:=Nat.lt_of_le_of_lt (by have:=f1.dep; omega) hu
  rcases h2 with h2 | h2
  · obtain ⟨bs,r2⟩:=Rep.reads I _ y u h2 ry
    exact SeqAt.in_list_reads r2 r1 f2 f1.lay hb ⟨.bl _,H,I,rfl,q⟩
  · obtain ⟨bs,r2⟩:=Rep.reads I _ y u h2 ry
    exact SeqAt.in_tuple_reads r2 r1 f2 f1.lay hb ⟨.bl _,H,I,rfl,q⟩
theorem op_notInD (hu:X.A.units+64 < cLine):OpR X (compareOp .NotIn) (rInD X.K true):=by
  intro pins s σ H x y v u Q I rx ry h
  obtain ⟨d,ds,h1,h2,f1,f2,q⟩:=h
  obtain ⟨as,r1⟩:=Rep.reads I d x v h1 rx
  have hb:X.A.units+1+min (PyData.depthAll ds) d.depth < cLine:=Nat.lt_of_le_of_lt (by have:=f1.dep; omega) hu
  rcases h2 with h2 | h2
  · obtain ⟨bs,r2⟩:=Rep.reads I _ y u h2 ry
    exact SeqAt.notIn_list_reads r2 r1 f2 f1.lay hb ⟨.bl _,H,I,rfl,q⟩
  · obtain ⟨bs,r2⟩:=Rep.reads I _ y u h2 ry
    exact SeqAt.notIn_tuple_reads r2 r1 f2 f1.lay hb ⟨.bl _,H,I,rfl,q⟩
def rInK (neg:Bool):R2:=fun y x H Q=>∃ a o,x = .ref a∧DGet H a y o∧Q (.bl (if neg then !o.isSome else o.isSome)) H
theorem op_inK (hu:X.A.units+64 < cLine):OpR X (compareOp .In) (rInK false):=by
  intro pins s σ H y x iv u Q I ry rx h
  obtain ⟨a,o,rfl,g,q⟩:=h
  cases rx
  exact d_in (Nat.lt_of_le_of_lt (by omega) hu) I g ry fun s' I'=>⟨.bl _,H,I',rfl,q⟩
theorem op_notInK (hu:X.A.units+64 < cLine):OpR X (compareOp .NotIn) (rInK true):=by
  intro pins s σ H y x iv u Q I ry rx h
  obtain ⟨a,o,rfl,g,q⟩:=h
  cases rx
  exact d_notIn (Nat.lt_of_le_of_lt (by omega) hu) I g ry fun s' I'=>⟨.bl _,H,I',rfl,q⟩
def rInG (K:PySem.W.Frag) (neg:Bool):R2:=fun x y H Q=>rInD K neg x y H Q∨rInK neg x y H Q
theorem op_inG (hu:X.A.units+64 < cLine):OpR X (compareOp .In) (rInG X.K false):=(op_inD hu).or (op_inK hu)
theorem op_notInG (hu:X.A.units+64 < cLine):OpR X (compareOp .NotIn) (rInG X.K true):=(op_notInD hu).or (op_notInK hu)
def rAddG:R2:=fun x y H Q=>rI0 (fun i j=>.int (i+j)) x y H Q∨rCat x y H Q
theorem op_addG:OpR X (binaryOp .Add) rAddG:=op_add.or op_cat
def rIxD:R2:=fun x y H Q=>∃ a v,x = .ref a∧DGet H a y (some v)∧Q v H
theorem ix_dict (hu:X.A.units+64 < cLine):IxR X rIxD:=by
  intro value slice pins s σ H x y v u Q I rx ry h hs
  obtain ⟨a,z,rfl,g,q⟩:=h
  cases rx
  exact tail_any (dict_typeIs I g) PySem.F.slot_dict_getitem.lookup (d_getItem (Nat.lt_of_le_of_lt (by omega) hu) I g ry fun w' s' I' r'=>⟨z,H,I',r',q⟩) hs
def rIxG (K:PySem.W.Frag):R2:=fun x y H Q=>(rIxL K x y H Q∨rIxT K x y H Q)∨rIxD x y H Q
theorem ix_G (hu:X.A.units+64 < cLine):IxR X (rIxG X.K):=(ix_list.or ix_tup).or (ix_dict hu)
def rSetD:V→V→V→Hp→(Hp→Prop)→Prop:=fun o i v H Q=>∃ a H',o = .ref a∧DPut H a i v H'∧Q H'
theorem set_dict (hu:X.A.units+64 < cLine):PSet X rSetD:=by
  intro pins s σ H o i v ov iv u Q I ro ri rv h
  obtain ⟨a,H',rfl,g,q⟩:=h
  cases ro
  exact d_setItem (Nat.lt_of_le_of_lt (by omega) hu) I g ri rv fun s' I'=>⟨H',I',q⟩
def rSetG:V→V→V→Hp→(Hp→Prop)→Prop:=fun o i v H Q=>rSetL o i v H Q∨rSetD o i v H Q
theorem set_G (hu:X.A.units+64 < cLine):PSet X rSetG:=by
  intro pins s σ H o i v ov iv u Q I ro ri rv h
  rcases h with h | h
  · exact set_list pins s σ H o i v ov iv u Q I ro ri rv h
  · exact set_dict hu pins s σ H o i v ov iv u Q I ro ri rv h
def rLen (K:PySem.W.Frag):List V→Hp→VK→Prop:=fun xs H Q=>(∃ p ys,xs=[.ref p]∧(SqL K H p ys∨SqT K H p ys)∧Q (.int ys.length) H)∨(∃ a kvs,xs=[V.ref a]∧H a=some (.dK kvs)∧Q (.int kvs.length) H)
theorem call_lenG:CallR X (.builtin "len") (rLen X.K):=call_len_seq.or call_lenD
def rIsi (K:PySem.W.Frag):List V→Hp→VK→Prop:=fun xs H Q=>∃ x T t b,xs=[x,.ty T]∧TyOf K H x t∧PySem.W.kitOne K t (.type T)=some b∧Q (.bl b) H
theorem call_isi:CallR X (.builtin "isinstance") (rIsi X.K):=by
  intro pins s σ H xs us Q I r h
  obtain ⟨x,T,t,b,rfl,ty,e,q⟩:=h
  obtain ⟨u,w',rfl,ru,rw'⟩:=vals2 r
  cases (show w'=Value.type T from rw')
  exact isinst_ok I ru ty e fun tk=>⟨.bl b,H,I.tok tk,rfl,q⟩
theorem Inv.frs {pins:List (Addr × Obj)} {σ:St} {H:Hp} {s:Shared} (I:Inv X pins σ H s):∃ m,Fr X.base X.env.locals s.heap m∧News X.base X.env.locals s.heap (allNews X.base s.heap X.env.locals) :=
  let ⟨m,F⟩:=I.fr
  ⟨m,F,news_all⟩
def rSorted (K:PySem.W.Frag):List V→Hp→VK→Prop:=fun xs H Q=>∃ (p:Addr) (ns:List Int),xs=[.ref p]∧SqL K H p (ns.map V.int)∧ns.length < 64 ∧
  ∀ (l:Addr) (ns':List Int),H l=none→ns'.Perm ns→ns'.Pairwise (·≤·)→Q (.ref l) (upd H l (.lst (ns'.map V.int)))
theorem call_sorted:CallR X (.builtin "sorted") (rSorted X.K):=by
  intro pins s σ H xs us Q I r h
  obtain ⟨p,ns,rfl,hq,h64,q⟩:=h
  obtain ⟨u,rfl,ru⟩:=vals1 r
  cases ru
  obtain ⟨its,rv,pl,hz⟩:=I.list hq
  have hi:IntsAre its ns:=intsAre_of rv
  have hl:=rv.length
  rw [List.length_map] at hl
  refine sorted_ints pl.isList hi (by omega) fun out ns' a1 a2 a3=>?_
  obtain ⟨e,he⟩:=sortedAll_at s.heap its out
  have hn:H (s.heap.objs.size+1)=none:=I.hok.fresh (Nat.le_succ _)
  refine ⟨.ref (s.heap.objs.size+1),_,I.laid (t':=s.toks) (o:=.lst (ns'.map V.int)) (fun b o e=>sortedAll_old e) (Nat.le_succ _) ⟨?_,out.toList,e,vals_ints a1,by simpa [seqObj] using he⟩,rfl,q _ _ hn a2 a3⟩
  rw [List.length_map,a2.length_eq]
  exact Nat.le_of_lt (Nat.lt_of_lt_of_le h64 (by rw [sizeLine_eq]; decide))
end
end L2
namespace L2
open PySem PySem.Spec PyProof.Rows
section
variable {σ:St} {H:Hp} {Q:VK} {D:Ends} {ta tb te:TE} {t u:TS} {c c':TT} {tA:TA} {QT:Bool→Hp→Prop} {QA:List V→Hp→Prop}
theorem x_seq (h:t { D with nx:=u D } σ H):tSeq t u D σ H:=h
theorem x_asg {g:TG} (h:te σ H fun x H1=>g x σ H1 D.nx):tAsg te g D σ H:=h
theorem x_gname {i:Nat} {v:V} {R:St→Hp→Prop} (h:R (σ.set i (some v)) H):gName i v σ H R:=h
theorem x_gsub {to ti:TE} {ts:TSet} {v:V} {R:St→Hp→Prop} (h:to σ H fun o H1=>ti σ H1 fun i H2=>ts o i v H2 fun H3=>R σ H3):gSub to ti ts v σ H R:=h
theorem x_var {i:Nat} {v:V} (h:σ[i]? = some (some v)) (k:Q v H):tVar i σ H Q:=⟨v,h,k⟩
theorem x_c {v:V} (k:Q v H):tC v σ H Q:=k
theorem x_op {r:R2} (h:ta σ H fun x H1=>tb σ H1 fun y H2=>r x y H2 Q):tOp r ta tb σ H Q:=h
theorem x_un {r:V→Hp→VK→Prop} (h:ta σ H fun x H1=>r x H1 Q):tUn r ta σ H Q:=h
theorem x_ret (h:te σ H D.rt):tRet te D σ H:=h
theorem x_drop (h:te σ H fun _ H1=>D.nx σ H1):tDrop te D σ H:=h
theorem x_next (h:D.nx σ H):tNext D σ H:=h
theorem x_ifS (h:c σ H fun b H1=>if b=true then t D σ H1 else u D σ H1):tIfS c t u D σ H:=h
theorem x_if (h:c σ H fun b H1=>if b=true then ta σ H1 Q else tb σ H1 Q):tIf c ta tb σ H Q:=h
theorem x_test (h:te σ H fun x H'=>∃ k,x = .bl k∧QT k H'):tTest te σ H QT:=h
theorem x_and (h:c σ H fun b H1=>if b=true then c' σ H1 QT else QT false H1):tAnd c c' σ H QT:=h
theorem x_or (h:c σ H fun b H1=>if b=true then QT true H1 else c' σ H1 QT):tOr c c' σ H QT:=h
theorem x_not (h:c σ H fun b H1=>QT (!b) H1):tNot c σ H QT:=h
theorem x_andV (h:ta σ H fun x H1=>∃ c,x = .bl c∧if c=true then tb σ H1 Q else Q (.bl false) H1):tAndV ta tb σ H Q:=h
theorem x_notV (h:ta σ H fun x H1=>∃ c,x = .bl c∧Q (.bl (!c)) H1):tNotV ta σ H Q:=h
theorem x_yes (h:QT true H):tYes σ H QT:=h
theorem x_nil (h:QA [] H):tNil σ H QA:=h
theorem x_cons (h:te σ H fun x H1=>tA σ H1 fun xs H2=>QA (x :: xs) H2):tCons te tA σ H QA:=h
theorem x_tup (h:tA σ H fun xs H1=>xs.length≤sizeLine∧∀ p,H1 p=none→Q (.ref p) (upd H1 p (.tup xs))):tTup tA σ H Q:=h
theorem x_lst (h:tA σ H fun xs H1=>xs.length≤sizeLine∧∀ p,H1 p=none→Q (.ref p) (upd H1 p (.lst xs))):tLst tA σ H Q:=h
theorem x_call {sp:Sp} {dvs:List V} {E:XK} (h:tA σ H fun vs H1=>sp (vs ++ dvs) H1 Q E):tCall sp dvs E tA σ H Q:=h
theorem x_cb {r:List V→Hp→VK→Prop} (h:tA σ H fun vs H1=>r vs H1 Q):tCB r tA σ H Q:=h
theorem x_bm {K:PySem.W.Frag} {T:String} {r:V→List V→Hp→VK→Prop} {to:TE} (h:to σ H fun x H1=>tyV K T x H1∧tA σ H1 fun xs H2=>r x xs H2 Q):tBM K T r to tA σ H Q:=h
theorem x_sl {r:V→Option Int→Option Int→Hp→VK→Prop} {tl th:TO} (h:te σ H fun x H1=>tl σ H1 fun l H2=>th σ H2 fun u H3=>r x l u H3 Q):tSl r te tl th σ H Q:=h
theorem x_nopart {R:Option Int→Hp→Prop} (h:R none H):tNoPart σ H R:=h
theorem x_part {R:Option Int→Hp→Prop} (h:te σ H fun x H1=>∃ i,x = .int i∧R (some i) H1):tPart te σ H R:=h
theorem x_rI0 {g:Int→Int→V} {i j:Int} (h:Q (g i j) H):rI0 g (.int i) (.int j) H Q:=⟨i,j,rfl,rfl,h⟩
theorem x_rI {C:Int→Int→Prop} {g:Int→Int→V} {i j:Int} (hc:C i j) (h:Q (g i j) H):rI C g (.int i) (.int j) H Q:=⟨i,j,rfl,rfl,hc,h⟩
theorem x_addI {i j:Int} (h:Q (.int (i+j)) H):rAddG (.int i) (.int j) H Q:=.inl ⟨i,j,rfl,rfl,h⟩
theorem x_eqI {K:PySem.W.Frag} {i j:Int} (h:Q (.bl (decide (V.int i=V.int j))) H):rEqG K (.int i) (.int j) H Q:=.inl ⟨rfl,h⟩
theorem x_ixL {K:PySem.W.Frag} {p:Addr} {xs:List V} {i:Int} {v:V} (h:SqL K H p xs) (e:atI xs i=some v) (k:Q v H):rIxG K (.ref p) (.int i) H Q:=.inl (.inl ⟨p,xs,i,v,rfl,rfl,h,e,k⟩)
theorem x_lenL {K:PySem.W.Frag} {p:Addr} {xs:List V} (h:SqL K H p xs) (k:Q (.int xs.length) H):rLen K [.ref p] H Q:=.inl ⟨p,xs,rfl,.inl h,k⟩
theorem x_append {l:Addr} {xs:List V} {y:V} (h:H l=some (.lst xs)) (hl:xs.length < sizeLine) (k:Q .non (upd H l (.lst (xs ++ [y])))):rAppend (.ref l) [y] H Q:=⟨l,xs,y,rfl,rfl,h,hl,k⟩
theorem x_setL {p:Addr} {xs:List V} {k:Int} {j:Nat} {v:V} {R:Hp→Prop} (h:H p=some (.lst xs)) (e:ixN xs.length k=some j) (q:R (upd H p (.lst (xs.set j v)))):rSetG (.ref p) (.int k) v H R:=.inl ⟨p,xs,k,j,rfl,rfl,h,e,q⟩
theorem ifd {p A B:Prop} [Decidable p] (h1:p→A) (h2:¬ p→B):if decide p=true then A else B:=by
  by_cases h:p
  · rw [if_pos (decide_eq_true h)]; exact h1 h
  · rw [if_neg (by rw [decide_eq_false h]; decide)]; exact h2 h
theorem ifV {p A B:Prop} {b:Bool} (hb:b=true↔p) (h1:p→A) (h2:¬ p→B):if b=true then A else B:=by
  by_cases h:b=true
  · rw [if_pos h]; exact h1 (hb.mp h)
  · rw [if_neg h]; exact h2 fun z=>h (hb.mpr z)
theorem eq_int_iff {i j:Int}:(V.int i=V.int j)↔i=j:=⟨fun h=>by injection h,fun h=>by rw [h]⟩
end
end L2
namespace BootT
open PySem
theorem len:bootBuiltins "len" = some (.builtin "len"):=by decide +kernel
theorem isinstance:bootBuiltins "isinstance" = some (.builtin "isinstance"):=by decide +kernel
theorem sorted:bootBuiltins "sorted" = some (.builtin "sorted"):=by decide +kernel
theorem min:bootBuiltins "min" = some (.builtin "min"):=by decide +kernel
theorem max:bootBuiltins "max" = some (.builtin "max"):=by decide +kernel
theorem int:bootBuiltins "int" = some (.type "int"):=by decide +kernel
theorem bool:bootBuiltins "bool" = some (.type "bool"):=by decide +kernel
theorem list:bootBuiltins "list" = some (.type "list"):=by decide +kernel
end BootT
namespace L2
open PySem PySem.Spec PyProof.Rows
def rMin2:List V→Hp→VK→Prop:=fun xs H Q=>∃ i j,xs=[.int i,.int j]∧Q (.int (if j < i then j else i)) H
def rMax2:List V→Hp→VK→Prop:=fun xs H Q=>∃ i j,xs=[.int i,.int j]∧Q (.int (if j > i then j else i)) H
def tTru (K:PySem.W.Frag) (ta:TE):TT:=fun σ H Q=>ta σ H fun x H'=>∃ k,TruV K x H' k∧Q k H'
theorem x_tru {K:PySem.W.Frag} {ta:TE} {σ:St} {H:Hp} {Q:Bool→Hp→Prop} (h:ta σ H fun x H'=>∃ k,TruV K x H' k∧Q k H'):tTru K ta σ H Q:=h
section
variable {X:Cx} {a:Expr} {ta:TE}
theorem pt_tru (ha:PE X a ta) (he:∀ whole,isTrue a X.env whole=(do let v ← whole; standAt a.pos; holding [v] (truthy v))):PT X a (tTru X.K ta):=pt_truth ha he
end
def Itd (a:Addr) (kvs:List (Key × V)) (o:Obj):It :=
  ⟨fun i H=>i < kvs.length∧H a=some (.frz o (.dK kvs)),fun i H x H'=>H'=H∧∃ k v,kvs[i]? = some (k,v)∧x=kV k,fun i H=>kvs.length≤i∧H a=some (.frz o (.dK kvs))⟩
theorem kV_rel {k:Key} {u:Value} (h:keyIs k u=true):RelV (kV k) u:=by
  rcases keyIs_shape h with ⟨i,t,rfl,rfl⟩ | ⟨x,t,rfl,rfl⟩
  · exact ⟨t,rfl⟩
  · exact ⟨t,rfl⟩
theorem KV.get {kvs:List (Key × V)} {vs:List (Key × Value)} (r:KV kvs vs) {i:Nat} {k:Key} {v:V} (e:kvs[i]? = some (k,v)):∃ u,vs[i]? = some (k,u)∧RelV v u:=by
  unfold KV at r
  induction r generalizing i with
  | nil=>simp at e
  | @cons p q ps qs h t ih =>
    cases i with
    | zero =>
      simp at e
      subst e
      obtain ⟨q1,q2⟩:=q
      obtain ⟨h1,h2⟩:=h
      simp only at h1 h2
      subst h1
      exact ⟨q2,rfl,h2⟩
    | succ i =>
      obtain ⟨u,e1,e2⟩:=ih (by simpa using e)
      exact ⟨u,by simpa using e1,e2⟩
theorem turn_dict {P:Program} {w:World} {K:PySem.W.Frag} {tg:Expr} (a it:Addr) (o:Obj) (kvs:List (Key × V)) (vs:List (Key × Value)) (ep:Nat) (rel:KV kvs vs)
    (od:∀ h:Heap,h.get? a=some o→h.DictAt (mixKind P w) a vs ep):Turn P w K tg (Itd a kvs o) [it] it (fun i h=>h.IsKeyIter it a i vs.length ep) where
  mem:=by simp
  obj:=fun i h st b hb=>by
    have e:b=it:=by simpa using hb
    subst e
    obtain ⟨o,e,c,d⟩:=st
    exact ⟨o,e,fun v z=>by rw [d] at z; cases z⟩
  keep:=fun i h h' st k=>st.at fun o e=>k it (by simp) o e
  item:=by
    intro X hP hw hK hc i pins s σ H E I hf st hg
    subst hP hw hK
    obtain ⟨hlt,hq⟩:=hg
    obtain ⟨e0,_⟩:=(show ObjOk X.prog X.w H s.heap a (.frz o (.dK kvs)) from I.hok a _ hq)
    obtain ⟨⟨k,v⟩,hx⟩:∃ p,kvs[i]? = some p:=⟨kvs[i],by simp [hlt]⟩
    obtain ⟨u,hu,ru⟩:=rel.get hx
    obtain ⟨f0,f1,f2,f3,f4,f5⟩:=hf it (by simp)
    refine wpAny_pyNext_dict_item st (od _ e0) hu fun key h' hkey st' sb=>?_
    have I1:Inv X pins σ H { s with heap:=h' }:=I.turned (t':=s.toks) (fun b o hb e=>(sb.2 b hb).trans e) f0 f1 f3 f4 f5
    obtain ⟨o',e,c,d⟩:=id st'
    exact ⟨key,rfl,go_of (s:={ s with heap:=h' }) e c d (by decide) ⟨kV k,H,I1,kV_rel hkey,⟨rfl,k,v,hx,rfl⟩,st',fun b hb=>(hf b hb).1⟩⟩
  done:=by
    intro X hP hw hK hc i pins s σ H E I hf st hg
    subst hP hw hK
    obtain ⟨hle,hq⟩:=hg
    obtain ⟨e0,_⟩:=(show ObjOk X.prog X.w H s.heap a (.frz o (.dK kvs)) from I.hok a _ hq)
    obtain ⟨f0,f1,f2,f3,f4,f5⟩:=hf it (by simp)
    have hl:=rel.length
    exact wpAny_pyNext_dict_end (I.ok.hd hc) st (od _ e0) (by simp; omega) fun h' eb=>⟨rfl,I.turned (t':=s.toks) (fun b o hb e=>eb b o hb e) f0 f1 f3 f4 f5⟩
  self:=fun _ _ _ _ _ st h=>wpAny_pyIter_keyiter st h
def iSeq (K:PySem.W.Frag) (tl:TE):TI:=fun σ H R=>tl σ H fun x H1=>∃ a,x = .ref a∧(((∃ xs,SqL K H1 a xs)∧R (Itl K a) H1)∨((∃ xs,SqT K H1 a xs)∧R (Itt K a) H1) ∨
  ∃ kvs,H1 a=some (.dK kvs)∧∀ o,R (Itd a kvs o) (upd H1 a (.frz o (.dK kvs))))
theorem x_iSeq {K:PySem.W.Frag} {tl:TE} {σ:St} {H:Hp} {R:It→Hp→Prop} (h:tl σ H fun x H1=>∃ a,x = .ref a∧(((∃ xs,SqL K H1 a xs)∧R (Itl K a) H1)∨((∃ xs,SqT K H1 a xs)∧R (Itt K a) H1) ∨
  ∃ kvs,H1 a=some (.dK kvs)∧∀ o,R (Itd a kvs o) (upd H1 a (.frz o (.dK kvs))))):iSeq K tl σ H R:=h
section
variable {X:Cx} {tg:Expr}
theorem pi_seq {l : Expr} {tl : TE} (hl : PE X l tl) : PI X tg l (iSeq X.K tl) := by
  intro pins s σ H R I h
  refine thn (hl pins s σ H _ I h) fun v s1 ⟨x,H1,I1,r1,q1⟩=>?_
  obtain ⟨a,e,q1⟩:=q1
  subst e
  cases r1
  rcases q1 with ⟨⟨xs,hq⟩,q⟩ | ⟨⟨xs,hq⟩,q⟩ | ⟨kvs,hq,q⟩
  · obtain ⟨its,rv,p,hz⟩:=I1.list hq
    refine wpAny_pyIter_list p.isList ?_
    refine ⟨s1.heap.objs.size,[s1.heap.objs.size],_,_,H1,rfl,I1.kept (t':=s1.toks) fun b o e=>Heap.get?_push_of_some _ e,turn_list a _,⟨_,Heap.get?_push_size _ rfl,rfl,rfl⟩,fun b hb=>?_,q⟩
    have e:b=s1.heap.objs.size:=by simpa using hb
    subst e
    exact I1.fpOk (Nat.le_refl _) (I1.hok.fresh (Nat.le_refl _))
  · obtain ⟨its,rv,p,hz⟩:=I1.tuple hq
    refine wpAny_pyIter_tuple (show s1.heap.IsTuple a its.toArray from p) ?_
    refine ⟨s1.heap.objs.size,[s1.heap.objs.size],_,_,H1,rfl,I1.kept (t':=s1.toks) fun b o e=>Heap.get?_push_of_some _ e,turn_tuple a _,⟨_,Heap.get?_push_size _ rfl,rfl,rfl⟩,fun b hb=>?_,q⟩
    have e:b=s1.heap.objs.size:=by simpa using hb
    subst e
    exact I1.fpOk (Nat.le_refl _) (I1.hok.fresh (Nat.le_refl _))
  · obtain ⟨hz,hsys,vs,rel,dd⟩:=dk_of I1.hok hq
    obtain ⟨ep,da⟩:=dd.dictAt
    obtain ⟨ob,es,ho,rr⟩:=id da
    have od:∀ h:Heap,h.get? a=some ob→h.DictAt (mixKind X.prog X.w) a vs ep:=fun h e=>⟨ob,es,e,rr⟩
    have un:Un X.fs [] H1 (upd H1 a (.frz ob (.dK kvs))) s1.heap s1.heap:=by
      have hne:∀ b u,H1 b=some u→u≠.dK kvs→b≠a:=fun b u e n z=>by subst z; rw [hq] at e; exact n (Option.some.inj e).symm
      refine ⟨fun b o e _ _ _=>e,fun b o e _ _ _=>⟨o.slots,e⟩,fun b o e n _=>?_,fun b o e _=>⟨o,e⟩,fun b ys e=>?_,fun b o u e=>?_,fun b ps e=>?_⟩
      · rw [upd_ne (fun z=>by subst z; rw [hq] at n; cases n)]; exact n
      · rw [upd_ne (hne b _ e (by intro z; cases z))]; exact e
      · rw [upd_ne (hne b _ e (by intro z; cases z))]; exact e
      · exact ⟨#[],by rw [upd_ne (hne b _ e (by intro z; cases z)),e]; simp⟩
    have hok:HOk X.prog X.w (upd H1 a (.frz ob (.dK kvs))) s1.heap:=fun b u e=>by
      by_cases hb:b=a
      · subst hb
        rw [upd_same] at e
        cases e
        exact ⟨ho,hz,hsys,vs,rel,dd⟩
      · rw [upd_ne hb] at e
        refine (I1.hok b u e).stay (fun c v _ q=>q) (fun c q0=>?_) fun c ys q0=>?_
        · rw [upd_ne (fun z=>by rw [z,hq] at q0; cases q0)]; exact q0
        · rw [upd_ne (fun z=>by rw [z,hq] at q0; cases q0)]; exact q0
    have I2:Inv X pins σ (upd H1 a (.frz ob (.dK kvs))) { s1 with heap:=s1.heap,toks:=s1.toks }:=I1.un un hok
    refine wpAny_pyIter_dict hsys da ?_
    refine ⟨s1.heap.objs.size,[s1.heap.objs.size],_,_,_,rfl,I2.kept (t':=s1.toks) fun b o e=>Heap.get?_push_of_some _ e,turn_dict a _ ob kvs vs ep rel od,⟨_,Heap.get?_push_size _ rfl,rfl,rfl⟩,fun b hb=>?_,q ob⟩
    have e:b=s1.heap.objs.size:=by simpa using hb
    subst e
    exact I2.fpOk (Nat.le_refl _) (I2.hok.fresh (Nat.le_refl _))
end
section
variable {K:PySem.W.Frag} {σ:St} {H:Hp} {Q:VK}
structure CNext (n i:Nat) (S:St→Prop) (Pv:List V→Hp→Prop) (m:Nat) (ys:List V) (σ:St) (H:Hp):Prop where
  m:m=n - i
  le:i≤n
  s:S σ
  p:Pv ys H
theorem CNext.mk' {n i:Nat} {S:St→Prop} {Pv:List V→Hp→Prop} {ys:List V} {σ:St} {H:Hp} (hi:i < n) (s:S σ) (p:Pv ys H):∃ m',m' < n - i∧CNext n (i+1) S Pv m' ys σ H:=⟨n - (i+1),by omega,rfl,hi,s,p⟩
theorem comp_by {σ0:St} {g:TG} {tt:TT} {te:TE} {J:It} {n:Nat} {acc:Addr} {R:Hp→Prop} (Pv:Nat→List V→Hp→Prop) (S:St→Prop) (h0:Pv 0 [] (upd H acc (.lst []))) (s0:S σ0)
    (ha:∀ i ys H,Pv i ys H→H acc=some (.lst ys)) (hst:∀ ys H,Pv n ys H→J.stop n H∧R H) (hgo:∀ i ys H,i < n→Pv i ys H→J.go i H)
    (hs:∀ i ys σ' H x H2,i < n→Pv i ys H→S σ'→J.yld i H x H2→g x σ' H2 fun σ2 H3=>tt σ2 H3 fun b H4=>if b=true then te σ2 H4 fun y H5=>H5 acc=some (.lst ys)∧ys.length < sizeLine∧∃ m',m' < n - i∧CNext n (i+1) S (Pv (i+1)) m' (ys ++ [y]) σ2 (upd H5 acc (.lst (ys ++ [y]))) else ∃ m',m' < n - i∧CNext n (i+1) S (Pv (i+1)) m' ys σ2 H4) :
    ∃ W:Nat→Nat→List V→St→Hp→Prop,(∃ m,W 0 m [] σ0 (upd H acc (.lst [])))∧∀ i m ys σ' H',W i m ys σ' H'→H' acc=some (.lst ys) ∧
    ((J.stop i H'∧R H')∨(J.go i H'∧∀ x H2,J.yld i H' x H2→g x σ' H2 fun σ2 H3=>tt σ2 H3 fun b H4 =>
      if b=true then te σ2 H4 fun y H5=>H5 acc=some (.lst ys)∧ys.length < sizeLine∧∃ m',m' < m∧W (i+1) m' (ys ++ [y]) σ2 (upd H5 acc (.lst (ys ++ [y]))) else ∃ m',m' < m∧W (i+1) m' ys σ2 H4)):=by
  refine ⟨fun i m ys σ' H'=>CNext n i S (Pv i) m ys σ' H',⟨n,by simp,Nat.zero_le _,s0,h0⟩,?_⟩
  rintro i m ys σ' H' ⟨rfl,hi,hS,p⟩
  refine ⟨ha i ys H' p,?_⟩
  by_cases hlt:i < n
  · exact .inr ⟨hgo i ys H' hlt p,fun x H2 y=>hs i ys σ' H' x H2 hlt p hS y⟩
  · have e:i=n:=by omega
    subst e
    exact .inl (hst ys H' p)
structure WNext (Pv:St→Hp→Prop) (μ:St→Hp→Nat) (m:Nat) (σ:St) (H:Hp):Prop where
  m:m = μ σ H
  p:Pv σ H
theorem while_on {c:TT} {tb:TS} {D:Ends} (Pv:St→Hp→Prop) (μ:St→Hp→Nat) (h0:Pv σ H)
    (hs:∀ σ H,Pv σ H→c σ H fun b H1=>if b=true then ∃ N:St→Hp→Prop,(∀ σ' H',N σ' H'→∃ m',m' < μ σ H∧WNext Pv μ m' σ' H')∧tb { D with nx:=N,ct:=N,bk:=D.nx } σ H1 else D.nx σ H1):tWhile c tb D σ H:=by
  refine ⟨WNext Pv μ,⟨_,rfl,h0⟩,?_⟩
  rintro m σ H ⟨rfl,p⟩
  exact hs σ H p
def wN (Pv:St→Hp→Prop) (μ:St→Hp→Nat) (b:Nat):St→Hp→Prop:=fun σ H=>Pv σ H∧μ σ H < b
theorem wN_ok {Pv:St→Hp→Prop} {μ:St→Hp→Nat} {b:Nat}:∀ σ' H',wN Pv μ b σ' H'→∃ m',m' < b∧WNext Pv μ m' σ' H':=fun σ' H' ⟨p,l⟩=>⟨_,l,rfl,p⟩
end
end L2
namespace L2
open PySem PySem.Spec PyProof.Rows
section
variable {σ:St} {H:Hp} {Q:VK} {D:Ends} {ta tb te:TE} {t u:TS} {tA:TA} {QT:Bool→Hp→Prop} {QA:List V→Hp→Prop} {K:PySem.W.Frag}
theorem x_chain {r r':R2} {tc:TE} (h:ta σ H fun x H1=>tb σ H1 fun y H2=>r x y H2 fun z H3=>∃ k,z = .bl k∧(if k=true then tc σ H3 fun w' H4=>r' y w' H4 Q else Q (.bl false) H3)):tChain r r' ta tb tc σ H Q:=h
theorem x_rU {g:Int→V} {i:Int} (h:Q (g i) H):rU g (.int i) H Q:=⟨i,rfl,h⟩
theorem x_tB (h:te σ H fun x H1=>∃ c,x = .bl c∧QT c H1):tB te σ H QT:=h
theorem x_notN (h:ta σ H fun x H1=>Q (.bl (!decide (x = .non))) H1):tNotN ta σ H Q:=h
theorem x_rng1 {R:It→Hp→Prop} (h:tA σ H fun vs H1=>∃ j:Int,vs=[.int j]∧-(2 ^ 62)≤j∧j < 2 ^ 62∧R (Itr 0 j.toNat) H1):iRng1 tA σ H R:=h
theorem x_for {wi:TI} {g:TG} {tb:TS} (h:wi σ H fun J H1=>∃ W:Nat→Nat→St→Hp→Prop,(∃ m,W 0 m σ H1)∧∀ i m σ H,W i m σ H →
  (J.stop i H∧D.nx σ H)∨(J.go i H∧∃ N:St→Hp→Prop,(∀ σ' H',N σ' H'→∃ m',m' < m∧W (i+1) m' σ' H')∧∀ x H',J.yld i H x H'→g x σ H' fun σ2 H2=>tb { D with nx:=N,ct:=N,bk:=D.nx } σ2 H2)):tFor wi g tb D σ H:=h
theorem x_comp {own:Nat} {js:List Nat} {wi:TI} {g:TG} {tt:TT} (h:wi σ H fun J H1=>∀ acc,H1 acc=none →
  ∃ W : Nat → Nat → List V → St → Hp → Prop, (∃ m, W 0 m [] (List.replicate own none ++ capV σ js) (upd H1 acc (.lst []))) ∧ ∀ i m ys σ' H', W i m ys σ' H' → H' acc = some (.lst ys) ∧
    ((J.stop i H'∧Q (.ref acc) H')∨(J.go i H'∧∀ x H2,J.yld i H' x H2→g x σ' H2 fun σ2 H3=>tt σ2 H3 fun b H4 =>
      if b=true then te σ2 H4 fun y H5=>H5 acc=some (.lst ys)∧ys.length < sizeLine∧∃ m',m' < m∧W (i+1) m' (ys ++ [y]) σ2 (upd H5 acc (.lst (ys ++ [y]))) else ∃ m',m' < m∧W (i+1) m' ys σ2 H4))):tComp own js wi g tt te σ H Q:=h
theorem x_tupG {n:Nat} {ts:TGs} {a:Addr} {xs:List V} {R:St→Hp→Prop} (h:SqT K H a xs) (hn:xs.length=n) (k:ts xs σ H R):gTup K n ts (.ref a) σ H R:=⟨a,xs,rfl,h,hn,k⟩
theorem x_gcons {g:TG} {gs:TGs} {v:V} {r:List V} {R:St→Hp→Prop} (h:g v σ H fun σ' H'=>gs r σ' H' R):gCons g gs (v :: r) σ H R:=⟨v,r,rfl,h⟩
theorem x_gnil {R:St→Hp→Prop} (h:R σ H):gNil [] σ H R:=⟨rfl,h⟩
theorem x_ext {l b:Addr} {xs zs:List V} (h:H l=some (.lst xs)) (h':H b=some (.lst zs)) (hl:xs.length+zs.length≤sizeLine) (k:Q .non (upd H l (.lst (xs ++ zs)))):rExtend (.ref l) [.ref b] H Q:=⟨l,b,xs,zs,rfl,rfl,h,h',hl,k⟩
theorem x_cat {l b:Addr} {xs zs:List V} (h:H l=some (.lst xs)) (h':H b=some (.lst zs)) (hl:xs.length+zs.length≤sizeLine) (k:∀ p,H p=none→Q (.ref p) (upd H p (.lst (xs ++ zs)))):rAddG (.ref l) (.ref b) H Q:=.inr ⟨l,b,xs,zs,rfl,rfl,h,h',hl,k⟩
theorem x_min {i j:Int} (k:Q (.int (if j < i then j else i)) H):rMin2 [.int i,.int j] H Q:=⟨i,j,rfl,k⟩
theorem x_max {i j:Int} (k:Q (.int (if j > i then j else i)) H):rMax2 [.int i,.int j] H Q:=⟨i,j,rfl,k⟩
theorem x_isi {x:V} {T:String} {t:Value} {b:Bool} (ty:TyOf K H x t) (e:PySem.W.kitOne K t (.type T)=some b) (k:Q (.bl b) H):rIsi K [x,.ty T] H Q:=⟨x,T,t,b,rfl,ty,e,k⟩
theorem x_slL {a:Addr} {xs:List V} {lo hi:Option Int} (h:SqL K H a xs) (k:∀ p,H p=none→Q (.ref p) (upd H p (.lst (cutV xs lo hi)))):rSlL K (.ref a) lo hi H Q:=⟨a,xs,rfl,h,k⟩
theorem x_eqD {x y:V} {dx dy:PyData} (h1:Rep K H dx x) (h2:Rep K H dy y) (f1:Fine dx) (f2:Fine dy) (k:Q (.bl (PyData.eqv dx dy)) H):rEqG K x y H Q:=.inr ⟨dx,dy,h1,h2,f1,f2,k⟩
theorem x_neD {x y:V} {dx dy:PyData} (h1:Rep K H dx x) (h2:Rep K H dy y) (f1:Fine dx) (f2:Fine dy) (k:Q (.bl (!PyData.eqv dx dy)) H):rNeG K x y H Q:=.inr ⟨dx,dy,h1,h2,f1,f2,k⟩
theorem x_notInD {x y:V} {d:PyData} {ds:List PyData} (h1:Rep K H d x) (h2:Rep K H (.list ds) y) (f1:Fine d) (f2:PyData.canLayAll0 ds=true) (k:Q (.bl (!(ds.any fun e=>PyData.eqv e d))) H):rInG K true x y H Q:=.inl ⟨d,ds,h1,.inl h2,f1,f2,k⟩
theorem x_inD {x y:V} {d:PyData} {ds:List PyData} (h1:Rep K H d x) (h2:Rep K H (.list ds) y) (f1:Fine d) (f2:PyData.canLayAll0 ds=true) (k:Q (.bl (ds.any fun e=>PyData.eqv e d)) H):rInG K false x y H Q:=.inl ⟨d,ds,h1,.inl h2,f1,f2,k⟩
end
section
variable {K:PySem.W.Frag}
theorem kit_ii:PySem.W.kitOne K (.type "int") (.type "int")=some true:=by rfl
theorem kit_ib:PySem.W.kitOne K (.type "int") (.type "bool")=some false:=by rfl
theorem kit_bi:PySem.W.kitOne K (.type "bool") (.type "int")=some true:=by rfl
theorem kit_bb:PySem.W.kitOne K (.type "bool") (.type "bool")=some true:=by rfl
theorem kit_ni:PySem.W.kitOne K (.type "NoneType") (.type "int")=some false:=by rfl
theorem kit_si:PySem.W.kitOne K (.type "str") (.type "int")=some false:=by rfl
end
theorem Same.upd_new {H:Hp} {l:Addr} {o:HO} (h:H l=none):Same H (upd H l o):=fun b u e=>by rw [upd_ne (ne_of_none e h)]; exact e
def SameBut1 (c:Addr) (H H':Hp):Prop:=∀ b o,H b=some o→b≠c→H' b=some o
theorem SameBut1.refl (c:Addr) (H:Hp):SameBut1 c H H:=fun _ _ h _=>h
theorem SameBut1.trans {c:Addr} {H H1 H2:Hp} (a:SameBut1 c H H1) (b:SameBut1 c H1 H2):SameBut1 c H H2:=fun x o h n=>b x o (a x o h n) n
theorem SameBut1.same {c:Addr} {H H':Hp} (e:Same H H'):SameBut1 c H H':=fun b o h _=>e b o h
theorem SameBut1.upd {c:Addr} {H:Hp} {o:HO}:SameBut1 c H (upd H c o):=fun b u e n=>by rw [upd_ne n]; exact e
theorem atI_of {α:Type} {xs:List α} {j:Nat} {i:Int} {v:α} (hi:i=(j:Int)) (h:xs[j]? = some v):atI xs i=some v:=by subst hi; exact atI_nat h
theorem ixN_of {n j:Nat} {i:Int} (hi:i=(j:Int)) (h:j < n):ixN n i=some j:=by
  subst hi
  unfold ixN
  rw [if_pos (by omega),if_pos (by omega)]
  rfl
theorem small_le {n m:Nat} (h:n≤m) (hm:m≤100000:=by decide):n≤sizeLine:=Nat.le_trans h (Nat.le_trans hm (by rw [sizeLine_eq]; decide))
theorem small_lt {n m:Nat} (h:n < m) (hm:m≤100000:=by decide):n < sizeLine:=Nat.lt_of_lt_of_le h (Nat.le_trans hm (by rw [sizeLine_eq]; decide))
mutual
def plainD:PyData→Bool
  | .int _=>true
  | .list xs=>plainAll xs
  | .tuple xs=>plainAll xs
  | _=>false
def plainAll:List PyData→Bool
  | []=>true
  | x :: xs=>plainD x && plainAll xs
end
mutual
theorem plain_lay:∀ d:PyData,plainD d=true→d.canLay0=true
  | .int _,_=>by simp [PyData.canLay0]
  | .list xs,h=>by simp only [plainD] at h; simp only [PyData.canLay0]; exact plainAll_lay xs h
  | .tuple xs,h=>by simp only [plainD] at h; simp only [PyData.canLay0]; exact plainAll_lay xs h
  | .none,h=>by simp [plainD] at h
  | .bool _,h=>by simp [plainD] at h
  | .str _,h=>by simp [plainD] at h
  | .dict _,h=>by simp [plainD] at h
theorem plainAll_lay:∀ ds:List PyData,plainAll ds=true→PyData.canLayAll0 ds=true
  | [],_=>by simp [PyData.canLayAll0]
  | d :: ds, h => by
    simp only [plainAll,Bool.and_eq_true] at h
    simp only [PyData.canLayAll0,Bool.and_eq_true]
    exact ⟨plain_lay d h.1,plainAll_lay ds h.2⟩
end
end L2
namespace L2
open PySem PySem.Spec PyProof.Rows
section
variable {σ:St} {H:Hp} {Q:VK} {K:PySem.W.Frag}
end
end L2
namespace L2
open PySem PySem.Spec PyProof.Rows
section
variable {K:PySem.W.Frag} {σ:St} {H:Hp} {Q:VK}
theorem keys_put {κ:Type} [DecidableEq κ] (kvs:List (κ × V)) (k:κ) (v:V):(putK kvs k v).map (·.1)=if (valV kvs k).isSome=true then kvs.map (·.1) else kvs.map (·.1) ++ [k]:=by
  unfold putK
  rw [valV_any]
  by_cases h:(valV kvs k).isSome=true
  · rw [if_pos h,if_pos h,List.map_map]
    refine List.map_congr_left fun kv _=>?_
    by_cases e:kv.1=k <;> simp [e]
  · rw [if_neg h,if_neg h,List.map_append]; rfl
theorem plain_ints:∀ ns:List Int,plainAll (ns.map .int)=true
  | []=>rfl
  | n :: ns=>by simp only [List.map_cons,plainAll,Bool.and_eq_true]; exact ⟨by simp [plainD],plain_ints ns⟩
theorem rep_ints {H:Hp} {a:Addr} {ns:List Int} (h:SqL K H a (ns.map V.int)):Rep K H (.list (ns.map .int)) (.ref a):=.lst h (RepAll.ints ns)
end
end L2
namespace BootT
open PySem
theorem zip:bootBuiltins "zip" = some (.type "zip"):=by decide +kernel
theorem set:bootBuiltins "set" = some (.type "set"):=by decide +kernel
theorem enumerate:bootBuiltins "enumerate" = some (.type "enumerate"):=by decide +kernel
end BootT
namespace L2
open PySem PySem.Spec PyProof.Rows PySem.SeqAt
section
variable {X:Cx}
def rIndex (K:PySem.W.Frag):V→List V→Hp→VK→Prop:=fun x vs H Q=>∃ (l:Addr) (ns:List Int) (k:Int),x = .ref l∧vs=[.int k]∧SqL K H l (ns.map V.int)∧k ∈ ns∧Q (.int (ns.idxOf k:Nat)) H
theorem mt_index:MtM X "list.index" (rIndex X.K):=by
  intro pins s σ H x vs v us Q I rx rv h
  obtain ⟨l,ns,k,rfl,rfl,hq,hk,q⟩:=h
  cases rx
  obtain ⟨u,rfl,t,rfl⟩:=rv.one
  obtain ⟨its,r,pl,hz⟩:=I.list hq
  have hi:IntsAre its ns:=intsAre_of r
  have hlen:=hi.length
  have hl2:=r.length
  have hj:ns.idxOf k < ns.length:=List.idxOf_lt_length_iff.mpr hk
  have h63:=line63
  rw [List.length_map] at hz hl2
  obtain ⟨⟨cls,dd,data,sl⟩,ho,hc,n,hd⟩:=pl.isList
  simp only at hc hd
  subst hc hd
  refine call_meets PySem.F.slot_list_index ⟨_,ho,rfl⟩ PySem.F.entry_list_index (PySem.F.args_list_index_2 _ _)
    (list_indexAt l its.toArray n dd sl (.int k t) (isInt k) (ns.idxOf k) (by rw [List.size_toArray]; omega) (by omega) ?_ ?_) ⟨ho,fun y hy=>(eq_isInt k t hi y (by simpa using hy)).at _ _,⟨.int _,H,I.tok _,⟨_,rfl⟩,q⟩⟩
  · show isInt k its[ns.idxOf k]=true
    rw [isInt_at k hi _ (by omega) hj]
    simpa using List.getElem_idxOf hj
  · intro j hjs hlt
    show isInt k its[j]=false
    rw [isInt_at k hi j (by simpa using hjs) (by omega)]
    exact ne_of_lt_idxOf hlt _
def rIndexD (K:PySem.W.Frag):V→List V→Hp→VK→Prop:=fun x vs H Q=>∃ (l:Addr) (y:V) (ds:List PyData) (d:PyData) (j:Nat) (ej:PyData),x = .ref l∧vs=[y]∧Rep K H (.list ds) (.ref l)∧Rep K H d y∧Fine d∧PyData.canLayAll0 ds=true ∧
  ds.length≤sizeLine∧ds[j]? = some ej∧PyData.eqv ej d=true∧(∀ m e,m < j→ds[m]? = some e→PyData.eqv e d=false)∧Q (.int (j:Nat)) H
theorem mt_indexD (hu:X.A.units+64 < cLine):MtM X "list.index" (rIndexD X.K):=by
  intro pins s σ H x vs v us Q I rx rv h
  obtain ⟨l,y,ds,d,j,ej,rfl,rfl,hR,hd,hf,hc,hz,hj,he,hno,q⟩:=h
  cases rx
  obtain ⟨u,rfl,ru⟩:=rv.one
  obtain ⟨as,r1⟩:=Rep.reads I _ _ _ hR rfl
  obtain ⟨bs,r2⟩:=Rep.reads I d y u hd ru
  have h63:=line63
  have hdep:=hf.dep
  have hjl:j < ds.length:=(List.getElem?_eq_some_iff.mp hj).1
  cases r1 with
  | @list _ o items n _ as2 h1 h2 h3 h4 =>
    obtain ⟨cls,dd,data,sl⟩:=o
    have h2':cls=_:=h2
    have h3':data=_:=h3
    subst h2' h3'
    have hm:=readsAll_map _ _ _ hc h4
    have hsz:items.size=ds.length:=by rw [← hm,List.length_map,Array.length_toList]
    have at_:∀ (m:Nat) (hm':m < items.size) (e:PyData),ds[m]? = some e→readOf s.heap items[m]=e:=fun m hm' e z=>by
      rw [← hm,List.getElem?_map,Array.getElem?_toList,Array.getElem?_eq_getElem hm'] at z
      exact Option.some.inj z
    refine call_meets PySem.F.slot_list_index ⟨_,h1,rfl⟩ PySem.F.entry_list_index (PySem.F.args_list_index_2 _ _)
      (list_indexAt l items n dd sl u (fun y=>PyData.eqv (readOf s.heap y) d) j (by omega) (by omega) ?_ ?_) ⟨h1,items_eqAt h4 r2 hc hf.lay (by omega),⟨.int _,H,I.tok _,⟨_,rfl⟩,q⟩⟩
    · show PyData.eqv (readOf s.heap items[j]) d=true
      rw [at_ j (by omega) _ hj]; exact he
    · intro m hm' hlt
      obtain ⟨e,z⟩:∃ e,ds[m]? = some e:=⟨_,List.getElem?_eq_getElem (by omega)⟩
      show PyData.eqv (readOf s.heap items[m]) d=false
      rw [at_ m hm' e z]
      exact hno m e hlt z
theorem MtM.or {id:String} {r r':V→List V→Hp→VK→Prop} (h:MtM X id r) (h':MtM X id r'):MtM X id (fun x vs H Q=>r x vs H Q∨r' x vs H Q):=by
  intro pins s σ H x vs v us Q I rx rv z
  rcases z with z | z
  · exact h pins s σ H x vs v us Q I rx rv z
  · exact h' pins s σ H x vs v us Q I rx rv z
def rIndexG (K:PySem.W.Frag):V→List V→Hp→VK→Prop:=fun x vs H Q=>rIndex K x vs H Q∨rIndexD K x vs H Q
theorem mt_indexG (hu:X.A.units+64 < cLine):MtM X "list.index" (rIndexG X.K):=mt_index.or (mt_indexD hu)
def Itr3 (lo c:Int) (n:Nat):It:=⟨fun i _=>i < n,fun i H x H'=>H'=H∧x = .int (lo+i * c),fun i _=>n≤i⟩
theorem turn_range3 {P:Program} {w:World} {K:PySem.W.Frag} {tg:Expr} (it:Addr) (lo c:Int) (n:Nat):Turn P w K tg (Itr3 lo c n) [it] it (fun i h=>IsRangeIter h it (lo+(i:Nat) * c) ((n:Int) - (i:Nat)) c) where
  mem:=by simp
  obj := fun i h st b hb => by
    have e:b=it:=by simpa using hb
    subst e
    exact ⟨_,st,fun v z=>by
      have z':Data.fields _=Data.cell v:=z
      cases z'⟩
  keep:=fun i h h' st k=>k it (by simp) _ st
  item:=by
    intro X hP hw hK hc i pins s σ H E I hf st hg
    subst hP hw hK
    obtain ⟨f0,f1,f2,f3,f4,f5⟩:=hf it (by simp)
    have W:=Walks.range (prog:=X.prog) (w:=X.w) (I.ok.hd hc) it lo c n
    refine W.item i s _ _ hg st fun v h' tk hv st' kk=>?_
    obtain ⟨t,rfl⟩:=hv
    have I1:Inv X pins σ H { s with heap:=h',toks:=tk }:=I.turned (fun b o hb e=>kk b o (by simpa using hb) e) f0 f1 f3 f4 f5
    exact ⟨_,rfl,go_of (s:={ s with heap:=h',toks:=tk }) (n:="range_iterator") st' rfl rfl (by decide) ⟨.int (lo+i * c),H,I1,⟨t,rfl⟩,⟨rfl,rfl⟩,st',fun b hb=>(hf b hb).1⟩⟩
  done:=by
    intro X hP hw hK hc i pins s σ H E I hf st hg
    subst hP hw hK
    obtain ⟨f0,f1,f2,f3,f4,f5⟩:=hf it (by simp)
    exact wpAny_pyNext_range_end (I.ok.hd hc) st (by have:n≤i:=hg; omega) fun h' eb=>⟨rfl,I.turned (t':=s.toks) (fun b o hb e=>eb b o hb e) f0 f1 f3 f4 f5⟩
  self:=fun _ _ _ _ _ st h=>wpAny_pyIter_rangeiter st h
def rng3 (i j c:Int):Nat:=if i < j then ((j - i - 1) / c+1).toNat else 0
def iRng3 (ta:TA):TI:=fun σ H R=>ta σ H fun vs H1=>∃ i j c:Int,vs=[.int i,.int j,.int c]∧(-(2 ^ 40)≤i∧i < 2 ^ 40∧-(2 ^ 40)≤j∧j < 2 ^ 40∧0 < c∧c < 2 ^ 20)∧R (Itr3 i c (rng3 i j c)) H1
theorem rangeSize3 {i j c:Int} (hc:0 < c):Builtin.Range.rangeSize i j c=(rng3 i j c:Int):=by
  unfold Builtin.Range.rangeSize rng3
  rw [if_pos hc]
  split
  · have:0≤(j - i - 1) / c:=Int.ediv_nonneg (by omega) (by omega)
    omega
  · rfl
theorem small3 {i j c:Int} (h:-(2 ^ 40)≤i∧i < 2 ^ 40∧-(2 ^ 40)≤j∧j < 2 ^ 40∧0 < c∧c < 2 ^ 20):Builtin.Range.small i j c=true:=by
  have hr:=rangeSize3 (i:=i) (j:=j) h.2.2.2.2.1
  have hb:(rng3 i j c:Int)≤2 ^ 42:=by
    unfold rng3
    split
    · have:(j - i - 1) / c≤j - i - 1:=Int.ediv_le_self _ (by omega)
      omega
    · decide
  unfold Builtin.Range.small
  rw [hr,if_pos h.2.2.2.2.1]
  have fit:∀ x:Int,-(2 ^ 43)≤x→x≤2 ^ 43→Builtin.Range.rangeFitsLong x=true:=fun x h1 h2=>by
    unfold Builtin.Range.rangeFitsLong
    simp only [Bool.and_eq_true,decide_eq_true_eq]
    omega
  rw [fit i (by omega) (by omega),fit j (by omega) (by omega),fit c (by omega) (by omega),fit _ (by omega) (by omega),fit (j+(c - 1)) (by omega) (by omega)]
  simp
variable {tg:Expr}
theorem pi_range3 {a b c : Expr} {ta : TA} {p pos : Pos} (hg : Gl X "range") (hm : X.mg "range" = none) (ha : PA X [a, b, c] ta) (hs : starEach [a, b, c] X.env = [(false, eval a X.env), (false, eval b X.env), (false, eval c X.env)] := by rfl) (hs2 : starEach [b, c] X.env = [(false, eval b X.env), (false, eval c X.env)] := by rfl) :
    PI X tg (.Call (.Name "range" p) [a,b,c] [] pos) (iRng3 ta):=by
  intro pins s σ H R I h
  refine Call_ (ld_blt I hg hm boot_range (PyProof.Rows.callWith_type1 (thn (ha pos pins s σ H _ I h) fun us s1 ⟨vs,H1,I1,r1,q1⟩=>?_) (by rw [hs,hs2]) (by rw [hs2]; rfl)))
  obtain ⟨i,j,c,e,hq,q⟩:=q1
  subst e
  cases r1 with
  | cons r rr =>
    cases rr with
    | cons r' rr =>
      cases rr with
      | cons r'' rr =>
        cases rr
        obtain ⟨t,rfl⟩:=r
        obtain ⟨t',rfl⟩:=r'
        obtain ⟨t'',rfl⟩:=r''
        refine call_range_3 (by omega) ?_ (.inl (PyProof.noPylong_small (by omega)))
        refine wpAny_pyIter_range (IsRange.new ..) (small3 hq) ?_
        have I2:Inv X pins σ H1 { s1 with heap:=s1.heap.push { cls:=.type "range",data:=.fields #[.int i t,.int j t',.int c t''] },toks:=s1.toks }:=I1.kept fun b o e=>Heap.get?_push_of_some _ e
        refine ⟨(s1.heap.push { cls:=.type "range",data:=.fields #[.int i t,.int j t',.int c t''] }).objs.size,[(s1.heap.push { cls:=.type "range",data:=.fields #[.int i t,.int j t',.int c t''] }).objs.size],_,_,H1,rfl,
          I2.kept (t':=s1.toks) fun b o e=>Heap.get?_push_of_some _ e,turn_range3 _ i c (rng3 i j c),?_,fun b hb=>?_,q⟩
        · have e1:i+((0:Nat):Int) * c=i:=by simp
          have e2:((rng3 i j c:Nat):Int) - ((0:Nat):Int)=Builtin.Range.rangeSize i j c:=by rw [rangeSize3 hq.2.2.2.2.1]; omega
          show IsRangeIter _ _ (i+((0:Nat):Int) * c) (((rng3 i j c:Nat):Int) - ((0:Nat):Int)) c
          rw [e1,e2]
          exact Heap.get?_push_size _ rfl
        · have e:b=(s1.heap.push { cls:=.type "range",data:=.fields #[.int i t,.int j t',.int c t''] }).objs.size:=by simpa using hb
          subst e
          exact I2.fpOk (Nat.le_refl _) (I2.hok.fresh (Nat.le_refl _))
theorem for_range3 {g:TG} {tb:TS} {D:Ends} {σ:St} {H:Hp} {lo c:Int} {n:Nat} (W:Nat→St→Hp→Prop) (h0:W 0 σ H) (turn:∀ i σ H,i < n→W i σ H→g (.int (lo+i * c)) σ H fun σ2 H2=>tb { D with nx:=W (i+1),ct:=W (i+1),bk:=D.nx } σ2 H2)
    (last:∀ σ H,W n σ H→D.nx σ H):∃ W':Nat→Nat→St→Hp→Prop,(∃ m,W' 0 m σ H)∧∀ i m σ H,W' i m σ H →
      ((Itr3 lo c n).stop i H∧D.nx σ H)∨((Itr3 lo c n).go i H∧∃ N:St→Hp→Prop,(∀ σ' H',N σ' H'→∃ m',m' < m∧W' (i+1) m' σ' H')∧∀ x H',(Itr3 lo c n).yld i H x H'→g x σ H' fun σ2 H2=>tb { D with nx:=N,ct:=N,bk:=D.nx } σ2 H2):=by
  refine ⟨fun i m σ H=>i≤n∧m=n - i∧W i σ H,⟨n,by omega,by omega,h0⟩,?_⟩
  rintro i m σ H ⟨hi,hm,w⟩
  by_cases h:i=n
  · subst h
    exact .inl ⟨Nat.le_refl _,last σ H w⟩
  · refine .inr ⟨show i < n by omega,W (i+1),fun σ' H' w'=>⟨n - (i+1),by omega,by omega,rfl,w'⟩,?_⟩
    rintro x H' ⟨rfl,rfl⟩
    exact turn i σ H' (by omega) w
theorem x_iRng3 {ta:TA} {σ:St} {H:Hp} {R:It→Hp→Prop} (h:ta σ H fun vs H1=>∃ i j c:Int,vs=[.int i,.int j,.int c]∧(-(2 ^ 40)≤i∧i < 2 ^ 40∧-(2 ^ 40)≤j∧j < 2 ^ 40∧0 < c∧c < 2 ^ 20)∧R (Itr3 i c (rng3 i j c)) H1):iRng3 ta σ H R:=h
theorem x_bm0 {K:PySem.W.Frag} {T:String} {r:V→List V→Hp→VK→Prop} {to:TE} {σ:St} {H:Hp} {Q:VK} (h:to σ H fun x H1=>tyV K T x H1∧r x [] H1 Q):tBM0 K T r to σ H Q:=h
theorem x_index {K:PySem.W.Frag} {l:Addr} {ns:List Int} {k:Int} {H:Hp} {Q:VK} (h:SqL K H l (ns.map V.int)) (hk:k ∈ ns) (q:Q (.int (ns.idxOf k:Nat)) H):rIndexG K (.ref l) [.int k] H Q:=.inl ⟨l,ns,k,rfl,rfl,h,hk,q⟩
end
end L2
namespace L2
end L2
namespace L2
open PySem PySem.Spec PyProof.Rows
section
variable {K:PySem.W.Frag} {H:Hp} {Q:VK} {a:Addr} {xs:List V} {ns:List Int} {i i':Int} {j j':Nat}
theorem sIx_of {n d:Nat} (h:i=(j:Int)):HT.sIx n d (some i)=min j n:=by subst h; exact HT.sIx_nat n d j
theorem cut_from (h:i=(j:Int)):cutV xs (some i) none=xs.drop j:=by
  unfold cutV
  rw [sIx_of h,HT.sIx_none]
  by_cases e:j≤xs.length
  · rw [Nat.min_eq_left e,List.take_of_length_le (by rw [List.length_drop]; omega)]
  · rw [Nat.min_eq_right (by omega),List.drop_of_length_le (Nat.le_refl _),List.drop_of_length_le (by omega)]; simp
theorem cut_to (h:i=(j:Int)):cutV xs none (some i)=xs.take j:=by
  unfold cutV
  rw [sIx_of h,HT.sIx_none,List.drop_zero,Nat.sub_zero]
  by_cases e:j≤xs.length
  · rw [Nat.min_eq_left e]
  · rw [Nat.min_eq_right (by omega),List.take_of_length_le (Nat.le_refl _),List.take_of_length_le (by omega)]
theorem cut_mid (h:i=(j:Int)) (h':i'=(j':Int)):cutV xs (some i) (some i')=(xs.drop j).take (j' - j):=by
  unfold cutV
  rw [sIx_of h,sIx_of h']
  by_cases e:j≤xs.length
  · rw [Nat.min_eq_left e]
    by_cases e':j'≤xs.length
    · rw [Nat.min_eq_left e']
    · rw [Nat.min_eq_right (by omega),List.take_of_length_le (by rw [List.length_drop]; omega),List.take_of_length_le (by rw [List.length_drop]; omega)]
  · rw [List.drop_of_length_le (show xs.length≤min j xs.length by omega),List.drop_of_length_le (show xs.length≤j by omega)]; simp
theorem x_slFrom (h:SqL K H a (ns.map V.int)) (e:i=(j:Int)) (k:∀ p,H p=none→Q (.ref p) (upd H p (.lst ((ns.drop j).map V.int)))):rSlL K (.ref a) (some i) none H Q :=
  x_slL h fun p hp=>by rw [cut_from e,← List.map_drop]; exact k p hp
theorem x_slTo (h:SqL K H a (ns.map V.int)) (e:i=(j:Int)) (k:∀ p,H p=none→Q (.ref p) (upd H p (.lst ((ns.take j).map V.int)))):rSlL K (.ref a) none (some i) H Q :=
  x_slL h fun p hp=>by rw [cut_to e,← List.map_take]; exact k p hp
theorem x_slMid (h:SqL K H a (ns.map V.int)) (e:i=(j:Int)) (e':i'=(j':Int)) (k:∀ p,H p=none→Q (.ref p) (upd H p (.lst (((ns.drop j).take (j' - j)).map V.int)))):rSlL K (.ref a) (some i) (some i') H Q :=
  x_slL h fun p hp=>by rw [cut_mid e e',← List.map_drop,← List.map_take]; exact k p hp
theorem x_catI {l b:Addr} {ms:List Int} (h:H l=some (.lst (ns.map V.int))) (h':H b=some (.lst (ms.map V.int))) (hl:ns.length+ms.length≤100000) (k:∀ p,H p=none→Q (.ref p) (upd H p (.lst ((ns ++ ms).map V.int)))):rAddG (.ref l) (.ref b) H Q :=
  x_cat h h' (by rw [List.length_map,List.length_map]; exact small_le hl) fun p hp=>by rw [← List.map_append]; exact k p hp
theorem get_int {j:Nat} {v:Int} (h:ns[j]? = some v):(ns.map V.int)[j]? = some (.int v):=by rw [List.getElem?_map,h]; rfl
theorem x_ixI {v:Int} (h:SqL K H a (ns.map V.int)) (e:i=(j:Int)) (g:ns[j]? = some v) (k:Q (.int v) H):rIxG K (.ref a) (.int i) H Q:=x_ixL h (atI_of e (get_int g)) k
theorem x_lenI (h:SqL K H a (ns.map V.int)) (k:Q (.int ns.length) H):rLen K [.ref a] H Q:=x_lenL h (by rw [List.length_map]; exact k)
theorem atI_neg {α:Type} {xs:List α} {j:Nat} {v:α} (hj:j < xs.length) (h:xs[xs.length - (j+1)]? = some v):atI xs (-((j:Int)+1))=some v:=by
  unfold atI ixN
  rw [if_neg (by omega),if_pos (by omega)]
  have e:(-((j:Int)+1)+(xs.length:Int)).toNat=xs.length - (j+1):=by omega
  simpa [e] using h
end
end L2
namespace L2
open PySem PySem.Spec PyProof.Rows
section
variable {K:PySem.W.Frag} {σ:St} {H:Hp} {Q:VK}
theorem x_pop {l:Addr} {xs:List V} {y:V} (h:H l=some (.lst (xs ++ [y]))) (k:Q y (upd H l (.lst xs))):rPop (.ref l) [] H Q:=⟨l,xs ++ [y],y,rfl,rfl,h,by simp,by simpa using k⟩
end
end L2
namespace Sx
open PySem PySem.W PyProof.Rows
variable {n:Nat} {k:Nat→Int}
def Sat (n:Nat) (k:Nat→Int) {α:Type}:KasT α→(α→Prop)→Prop
  | .ret a,Q=>Q a
  | .ask i j f,Q=>i < n∧j < n∧Sat n k (f (decide (k i < k j))) Q
theorem Sat.bind {α β:Type} {f:α→KasT β} {Q:β→Prop}:∀ {t:KasT α},Sat n k t (fun a=>Sat n k (f a) Q)→Sat n k (t.bind f) Q
  | .ret _,h=>h
  | .ask _ _ _,h=>⟨h.1,h.2.1,Sat.bind h.2.2⟩
theorem Sat.mono {α:Type} {Q Q':α→Prop} (hq:∀ a,Q a→Q' a):∀ {t:KasT α},Sat n k t Q→Sat n k t Q'
  | .ret _,h=>hq _ h
  | .ask _ _ _,h=>⟨h.1,h.2.1,Sat.mono hq h.2.2⟩
def Pm (n:Nat) (p:Array Nat):Prop:=p.toList.Perm (List.range n)
theorem Pm.size {p:Array Nat} (h:Pm n p):p.size=n:=by have:=h.length_eq; simpa using this
theorem Pm.lt {p:Array Nat} (h:Pm n p) (hn:0 < n) (i:Nat):p.getD i 0 < n:=by
  by_cases hi:i < p.size
  · have e:p.getD i 0=p[i]:=by simp [Array.getD,hi]
    rw [e]
    have:p[i] ∈ List.range n:=h.mem_iff.mp (by simp)
    simpa using this
  · have e:p.getD i 0=0:=by simp [Array.getD,hi]
    omega
def Ky (k:Nat→Int) (p:Array Nat) (i:Nat):Int:=k (p.getD i 0)
theorem Ky.congr {p q:Array Nat} {i j:Nat} (h:p[i]? = q[j]?):Ky k p i=Ky k q j:=by
  unfold Ky
  have e:∀ (r:Array Nat) (a:Nat),r.getD a 0=(r[a]?).getD 0:=fun r a=>by by_cases h:a < r.size <;> simp [Array.getD,h]
  rw [e,e,h]
theorem Pm.rev {p:Array Nat} (h:Pm n p) (i j:Nat):Pm n (kas_rev p i j):=(Array.perm_iff_toList_perm.mp (mirror_perm p i j _)).trans h
theorem Pm.bub {p:Array Nat} (h:Pm n p) (i j:Nat):Pm n (bubble p i j):=(Array.perm_iff_toList_perm.mp (bubble_perm p i j)).trans h
theorem ky_rev {p:Array Nat} {a b:Nat} (hb:b≤p.size) (i:Nat):Ky k (kas_rev p a b) i=if a≤i∧i < b then Ky k p (a+b - 1 - i) else Ky k p i:=by
  have e:=getElem?_mirror_all (i:=a) hb i
  split
  · rename_i h; rw [if_pos h] at e; exact Ky.congr e
  · rename_i h; rw [if_neg h] at e; exact Ky.congr e
theorem ky_same {p:Array Nat} {a b:Nat} (hb:b≤p.size) (h:∀ i,a≤i→i+1 < b→Ky k p i=Ky k p (i+1)) (i:Nat):Ky k (kas_rev p a b) i=Ky k p i:=by
  have all:∀ d i,a≤i→i+d < b→Ky k p i=Ky k p (i+d):=fun d=>by
    induction d with
    | zero=>intro i _ _; rfl
    | succ d ih=>intro i h1 h2; rw [ih i h1 (by omega),h (i+d) (by omega) (by omega)]; rfl
  rw [ky_rev hb]
  split
  · rename_i z
    by_cases c:a+b - 1 - i≤i
    · have:=all (i - (a+b - 1 - i)) (a+b - 1 - i) (by omega) (by omega)
      rw [this]; congr 1; omega
    · have:=all (a+b - 1 - i - i) i (by omega) (by omega)
      rw [this]; congr 1; omega
  · rfl
def Up (k:Nat→Int) (p:Array Nat) (m:Nat):Prop:=∀ i,i+1 < m→Ky k p i≤Ky k p (i+1)
def Dn (k:Nat→Int) (p:Array Nat) (m:Nat):Prop:=∀ i,i+1 < m→Ky k p (i+1)≤Ky k p i
theorem Up.le {p:Array Nat} {m:Nat} (h:Up k p m) {i j:Nat} (hij:i≤j) (hj:j < m):Ky k p i≤Ky k p j:=by
  induction j with
  | zero => have : i = 0 := by omega
            subst this; exact Int.le_refl _
  | succ j ih =>
    by_cases e:i=j+1
    · subst e; exact Int.le_refl _
    · exact Int.le_trans (ih (by omega) (by omega)) (h j hj)
theorem Up.one {p:Array Nat} {m:Nat} (hm:m≤1):Up k p m:=fun i hi=>absurd hi (by omega)
theorem sat_asc {p : Array Nat} (hp : Pm n p) (hn : 0 < n) : ∀ (f m : Nat), 1 ≤ m → m + f ≤ n → Up k p m → Sat n k (kas_asc p f m) fun m' => m ≤ m' ∧ m' ≤ m + f ∧ Up k p m' ∧ (m' < m + f → Ky k p m' < Ky k p (m' - 1))
  | 0,m,_,_,h=>⟨Nat.le_refl _,Nat.le_refl _,h,fun z=>absurd z (by omega)⟩
  | f + 1, m, h1, h2, h => by
    refine ⟨hp.lt hn _,hp.lt hn _,?_⟩
    by_cases c:k (p.getD m 0) < k (p.getD (m - 1) 0)
    · rw [decide_eq_true c]
      exact ⟨Nat.le_refl _,by omega,h,fun _=>c⟩
    · rw [decide_eq_false c]
      refine Sat.mono (fun m' z=>⟨by omega,by omega,z.2.2.1,fun w=>z.2.2.2 (by omega)⟩) (sat_asc hp hn f (m+1) (by omega) (by omega) fun i hi=>?_)
      by_cases e:i+1=m
      · subst e
        have:Ky k p i=k (p.getD (i+1 - 1) 0):=rfl
        have:Ky k p (i+1)=k (p.getD (i+1) 0):=rfl
        omega
      · exact h i (by omega)
structure Fall (n:Nat) (k:Nat→Int) (p:Array Nat) (m q:Nat):Prop where
  pm:Pm n p
  dn:Dn k p m
  le:q+1≤m
  eq:∀ i,m - (q+1)≤i→i+1 < m→Ky k p i=Ky k p (i+1)
theorem sat_desc (hn : 0 < n) : ∀ (f : Nat) (p : Array Nat) (m q : Nat), 1 ≤ m → m + f ≤ n → Fall n k p m q → Sat n k (kas_desc f p m q) fun r => m ≤ r.2.1 ∧ r.2.1 ≤ m + f ∧ Fall n k r.1 r.2.1 r.2.2
  | 0,p,m,q,_,_,h=>⟨Nat.le_refl _,Nat.le_refl _,h⟩
  | f + 1, p, m, q, h1, h2, h => by
    refine ⟨h.pm.lt hn _,h.pm.lt hn _,?_⟩
    by_cases c:k (p.getD m 0) < k (p.getD (m - 1) 0)
    · rw [decide_eq_true c]
      show Sat n k (if q > 0 then _ else _) _
      have hc:Ky k p m≤Ky k p (m - 1):=Int.le_of_lt c
      by_cases hq:q > 0
      · rw [if_pos hq]
        have sm:∀ i,Ky k (kas_rev p (m - (q+1)) m) i=Ky k p i:=ky_same (by rw [h.pm.size]; omega) h.eq
        refine Sat.mono (fun r z=>⟨by omega,by omega,z.2.2⟩) (sat_desc hn f _ (m+1) 0 (by omega) (by omega) ⟨h.pm.rev _ _,fun i hi=>?_,by omega,fun i h3 h4=>absurd h4 (by omega)⟩)
        rw [sm,sm]
        by_cases e:i+1=m
        · subst e; exact hc
        · exact h.dn i (by omega)
      · rw [if_neg hq]
        refine Sat.mono (fun r z=>⟨by omega,by omega,z.2.2⟩) (sat_desc hn f _ (m+1) 0 (by omega) (by omega) ⟨h.pm,fun i hi=>?_,by omega,fun i h3 h4=>absurd h4 (by omega)⟩)
        by_cases e:i+1=m
        · subst e; exact hc
        · exact h.dn i (by omega)
    · rw [decide_eq_false c]
      refine ⟨h.pm.lt hn _,h.pm.lt hn _,?_⟩
      by_cases d:k (p.getD (m - 1) 0) < k (p.getD m 0)
      · rw [decide_eq_true d]
        exact ⟨Nat.le_refl _,Nat.le_add_right m (f+1),h⟩
      · rw [decide_eq_false d]
        have he:Ky k p m=Ky k p (m - 1):=by
          have e1:Ky k p m=k (p.getD m 0):=rfl
          have e2:Ky k p (m - 1)=k (p.getD (m - 1) 0):=rfl
          omega
        have hle:=h.le
        refine Sat.mono (fun r z=>⟨by omega,by omega,z.2.2⟩) (sat_desc hn f p (m+1) (q+1) (by omega) (by omega) ⟨h.pm,fun i hi=>?_,by omega,fun i h3 h4=>?_⟩)
        · by_cases e:i+1=m
          · subst e; exact Int.le_of_eq he
          · exact h.dn i (by omega)
        · by_cases e:i+1=m
          · subst e; exact he.symm
          · exact h.eq i (by omega) (by omega)
theorem sat_tail {p:Array Nat} {m:Nat} (hn:0 < n) (hp:Pm n p) (h1:1≤m) (hm:m≤n) (h:Dn k p m):Sat n k (kas_tail3 m n p) fun r=>Pm n r.2∧1≤r.1∧r.1≤n∧Up k r.2 r.1:=by
  refine Sat.bind (Sat.mono (fun m' z=>⟨hp.rev _ _,by omega,by omega,z.2.2.1⟩) (sat_asc (hp.rev 0 m) hn (n - m) m h1 (by omega) fun i hi=>?_))
  rw [ky_rev (by rw [hp.size]; exact hm),ky_rev (by rw [hp.size]; exact hm),if_pos (by omega),if_pos (by omega)]
  have:=h (0+m - 1 - (i+1)) (by omega)
  have e:0+m - 1 - (i+1)+1=0+m - 1 - i:=by omega
  rw [e] at this; exact this
theorem sat_descPart {p:Array Nat} {m:Nat} (hn:0 < n) (hp:Pm n p) (h1:1≤m) (hm:m+1≤n) (h:Dn k p (m+1)):Sat n k (kas_descPart m n p) fun r=>Pm n r.2∧1≤r.1∧r.1≤n∧Up k r.2 r.1:=by
  refine Sat.bind (Sat.mono ?_ (sat_desc hn (n - (m+1)) p (m+1) 0 (by omega) (by omega) ⟨hp,h,by omega,fun i h3 h4=>absurd h4 (by omega)⟩))
  rintro ⟨p',m',q'⟩ ⟨a1,a2,a3⟩
  show Sat n k (if q' > 0 then _ else _) _
  have a1:m+1≤m':=a1
  have a2:m'≤m+1+(n - (m+1)):=a2
  have a3:Fall n k p' m' q':=a3
  by_cases hq:q' > 0
  · rw [if_pos hq]
    refine sat_tail hn (a3.pm.rev _ _) (by omega) (by omega) fun i hi=>?_
    have sm:∀ i,Ky k (kas_rev p' (m' - (q'+1)) m') i=Ky k p' i:=ky_same (by rw [a3.pm.size]; omega) a3.eq
    rw [sm,sm]; exact a3.dn i hi
  · rw [if_neg hq]
    exact sat_tail hn a3.pm (by omega) (by omega) a3.dn
theorem sat_count {p : Array Nat} (hn : 0 < n) (hp : Pm n p) : Sat n k (kas_count n p) fun r => Pm n r.2 ∧ 1 ≤ r.1 ∧ r.1 ≤ n ∧ Up k r.2 r.1 := by
  refine Sat.bind (Sat.mono ?_ (sat_asc hp hn (n - 1) 1 (Nat.le_refl _) (by omega) (Up.one (Nat.le_refl _))))
  rintro m ⟨a1,a2,a3,a4⟩
  show Sat n k (if (m == n)=true then _ else _) _
  by_cases e:m=n
  · subst e
    rw [if_pos (by simp)]
    exact ⟨hp,a1,Nat.le_refl _,a3⟩
  · rw [if_neg (by simpa using e)]
    have a4:=a4 (by omega)
    by_cases h1:m > 1
    · rw [if_pos h1]
      refine ⟨hp.lt hn _,hp.lt hn _,?_⟩
      by_cases c:k (p.getD 0 0) < k (p.getD (m - 1) 0)
      · rw [decide_eq_true c]
        exact ⟨hp,a1,by omega,a3⟩
      · rw [decide_eq_false c]
        have eqs:∀ i,i+1 < m→Ky k p i=Ky k p (i+1):=fun i hi=>by
          have b1:=a3.le (Nat.zero_le i) (show i < m by omega)
          have b2:=a3 i hi
          have b3:=a3.le (show i+1≤m - 1 by omega) (by omega)
          have e1:Ky k p 0=k (p.getD 0 0):=rfl
          have e2:Ky k p (m - 1)=k (p.getD (m - 1) 0):=rfl
          omega
        have sm:∀ i,Ky k (kas_rev p 0 m) i=Ky k p i:=ky_same (by rw [hp.size]; omega) fun i _ hi=>eqs i hi
        refine sat_descPart hn (hp.rev _ _) a1 (by omega) fun i hi=>?_
        rw [sm,sm]
        by_cases e3:i+1=m
        · subst e3; exact Int.le_of_lt a4
        · exact Int.le_of_eq (eqs i (by omega)).symm
    · rw [if_neg h1]
      have e1:m=1:=by omega
      subst e1
      refine sat_descPart hn hp (Nat.le_refl _) (by omega) fun i hi=>?_
      have e2:i=0:=by omega
      subst e2
      exact Int.le_of_lt a4
theorem sat_place {p : Array Nat} {x : Nat} (hn : 0 < n) (hp : Pm n p) (hx : Up k p x) : ∀ (f l r : Nat), r - l ≤ f → l ≤ r → r ≤ x → (∀ i, i < l → Ky k p i ≤ Ky k p x) → (∀ i, r ≤ i → i < x → Ky k p x < Ky k p i) →
    Sat n k (kas_place p x f l r) fun l'=>l'≤x∧(∀ i,i < l'→Ky k p i≤Ky k p x)∧∀ i,l'≤i→i < x→Ky k p x < Ky k p i
  | 0,l,r,h1,h2,h3,h4,h5=>⟨by omega,h4,fun i z1 z2=>h5 i (by omega) z2⟩
  | f + 1, l, r, h1, h2, h3, h4, h5 => by
    show Sat n k (if l ≥ r then _ else _) _
    by_cases c:l ≥ r
    · rw [if_pos c]
      exact ⟨by omega,h4,fun i z1 z2=>h5 i (by omega) z2⟩
    · rw [if_neg c]
      refine ⟨hp.lt hn _,hp.lt hn _,?_⟩
      by_cases d:k (p.getD x 0) < k (p.getD ((l+r) / 2) 0)
      · rw [decide_eq_true d]
        refine sat_place hn hp hx f l ((l+r) / 2) (by omega) (by omega) (by omega) h4 fun i z1 z2=>?_
        have b:=hx.le z1 z2
        have d:Ky k p x < Ky k p ((l+r) / 2):=d
        omega
      · rw [decide_eq_false d]
        refine sat_place hn hp hx f ((l+r) / 2+1) r (by omega) (by omega) h3 (fun i z1=>?_) h5
        have b:=hx.le (show i≤(l+r) / 2 by omega) (by omega)
        have d:¬ Ky k p x < Ky k p ((l+r) / 2):=d
        omega
theorem ky_bub {p:Array Nat} {x l:Nat} (hx:x < p.size) (hl:l≤x) (i:Nat):Ky k (bubble p x (x - l)) i=if i=l then Ky k p x else if l < i∧i≤x then Ky k p (i - 1) else Ky k p i:=by
  have e:=getElem?_bubble hx (x - l) (by omega) i
  have e2:x - (x - l)=l:=by omega
  rw [e2] at e
  by_cases h1:i=l
  · rw [if_pos h1] at e ⊢; exact Ky.congr e
  · rw [if_neg h1] at e ⊢
    by_cases h2:l < i∧i≤x
    · rw [if_pos h2] at e ⊢; exact Ky.congr e
    · rw [if_neg h2] at e ⊢; exact Ky.congr e
theorem sat_bin (hn : 0 < n) : ∀ (f : Nat) (p : Array Nat) (x : Nat), x + f = n → Pm n p → Up k p x → Sat n k (kas_bin f p x) fun p' => Pm n p' ∧ Up k p' n
  | 0,p,x,h1,hp,h=>⟨hp,by rw [← h1]; exact h⟩
  | f + 1, p, x, h1, hp, h => by
    refine Sat.bind (Sat.mono ?_ (sat_place hn hp h x 0 x (by omega) (Nat.zero_le _) (Nat.le_refl _) (fun i z=>absurd z (by omega)) (fun i z1 z2=>absurd z2 (by omega))))
    rintro l ⟨a1,a2,a3⟩
    refine sat_bin hn f _ (x+1) (by omega) (hp.bub _ _) fun i hi=>?_
    have hs:x < p.size:=by rw [hp.size]; omega
    rw [ky_bub hs a1,ky_bub hs a1]
    by_cases c1:i+1 < l
    · rw [if_neg (by omega),if_neg (by omega),if_neg (by omega),if_neg (by omega)]
      exact h i (by omega)
    · by_cases c2:i+1=l
      · rw [if_neg (by omega),if_neg (by omega),if_pos c2]
        exact a2 i (by omega)
      · by_cases c3:i=l
        · rw [if_pos c3,if_neg (by omega),if_pos (by omega)]
          have:=a3 i (by omega) (by omega)
          have e:i+1 - 1=i:=by omega
          rw [e]; omega
        · rw [if_neg c3,if_pos (by omega),if_neg (by omega),if_pos (by omega)]
          have:=h (i - 1) (by omega)
          have e:i - 1+1=i+1 - 1:=by omega
          rw [e] at this; exact this
theorem pm_range:Pm n (List.toArray (List.range n)):=by unfold Pm; simp
theorem sat_sort (hn:0 < n):Sat n k (kas_sort n) fun p=>Pm n p∧Up k p n:=by
  refine Sat.bind (Sat.mono ?_ (sat_count hn pm_range))
  rintro ⟨m,p⟩ ⟨a1,a2,a3,a4⟩
  show Sat n k (if m < n then _ else _) _
  have a2:1≤m:=a2
  have a3:m≤n:=a3
  have a4:Up k p m:=a4
  by_cases c:m < n
  · rw [if_pos c]
    have e:max m 1=m:=by omega
    show Sat n k (kas_bin (n - max m 1) p (max m 1)) _
    rw [e]
    exact sat_bin hn (n - m) p m (by omega) a1 a4
  · rw [if_neg c]
    have:m=n:=by omega
    subst this
    exact ⟨a1,a4⟩
theorem Sat.ask {cmp:Nat→Nat→(Bool→Shared→Prop)→Shared→Prop} {s:Shared} (hc:∀ i j C,i < n→j < n→C (decide (k i < k j)) s→cmp i j C s) {α:Type} {Q:α→Prop} {G:α→Shared→Prop} (hG:∀ a,Q a→G a s):∀ {t:KasT α},Sat n k t Q→t.kasWp cmp G s
  | .ret _,h=>hG _ h
  | .ask i j f,h=>hc i j _ h.1 h.2.1 (Sat.ask hc hG h.2.2)
end Sx
namespace L2
open PySem PySem.Spec PyProof.Rows PySem.W
theorem ns_one {h:Heap} {a:Addr} {m m':Str→Option Value} (x:h.Ns a m) (y:h.Ns a m'):m=m':=by
  obtain ⟨o,es,ep,e,d,_,r⟩:=x
  obtain ⟨o',es',ep',e',d',_,r'⟩:=y
  rw [e] at e'; cases e'
  rw [d] at d'; cases d'
  funext n
  rw [← r n,← r' n]
theorem ObjOk.obj {P:Program} {w:World} {H:Hp} {h:Heap} {a:Addr} {o:HO} (x:ObjOk P w H h a o):∃ ob,h.get? a=some ob:=by
  cases o with
  | lst xs=>obtain ⟨_,_,_,_,e⟩:=x; exact ⟨_,e⟩
  | tup xs=>obtain ⟨_,_,_,ob,e,_⟩:=x; exact ⟨_,e⟩
  | dK kvs=>obtain ⟨_,_,_,_,ob,_,_,e,_⟩:=x; exact ⟨_,e⟩
  | dT kvs=>obtain ⟨_,_,_,_,ob,_,_,e,_⟩:=x; exact ⟨_,e⟩
  | set S n=>obtain ⟨ob,_,_,_,e,_⟩:=x; exact ⟨_,e⟩
  | ins C dx fs=>obtain ⟨_,_,_,e,_⟩:=x; exact ⟨_,e⟩
  | own y=>exact x
  | xd fs=>obtain ⟨_,⟨ob,_,_,e,_⟩,_⟩:=x; exact ⟨_,e⟩
  | rng lo hi=>obtain ⟨_,_,_,e⟩:=x; exact ⟨_,e⟩
  | frz ob u=>exact ⟨_,x.1⟩
  | tbl ps=>exact ⟨_,x⟩
  | met f y=>exact ⟨_,x⟩
  | ext φ=>exact x.2.1
section
variable {X:Cx} {pins:List (Addr × Obj)} {σ:St} {H:Hp} {s:Shared}
theorem Inv.newsLaid {h':Heap} {m:Str→Option Value} {t':Nat} {D:Addr} {ob:Obj} {o:HO} (I:Inv X pins σ H s) (hm:s.heap.Ns X.env.locals m) (F:Fr X.base X.env.locals h' m)
    (N:News X.base X.env.locals h' ((D,ob) :: allNews X.base s.heap X.env.locals)) (hD:∀ q ∈ allNews X.base s.heap X.env.locals,q.1 < D) (new:ObjOk X.prog X.w (upd H D o) h' D o):H D=none∧Inv X pins σ (upd H D o) { s with heap:=h',toks:=t' }:=by
  have nd:=N (D,ob) List.mem_cons_self
  have gD:s.heap.get? D=none:=by
    cases q:s.heap.get? D with
    | none=>rfl
    | some u=>exact absurd (hD (D,u) (mem_allNews nd.2.1 nd.2.2 q)) (Nat.lt_irrefl _)
  have hn:H D=none:=by
    cases q:H D with
    | none=>rfl
    | some u =>
      obtain ⟨w,e⟩:∃ w,s.heap.get? D=some w:=(I.hok D u q).obj
      rw [gD] at e; cases e
  have k:∀ b o,b≠X.env.locals→s.heap.get? b=some o→h'.get? b=some o:=fun b o h1 e=>by
    cases q:X.base.get? b with
    | some u =>
      have z:=I.bk b u q
      rw [e] at z
      cases z
      exact F.keep b _ q
    | none=>exact (N (b,o) (List.mem_cons_of_mem _ (mem_allNews h1 q e))).1
  have nD:∀ b o,s.heap.get? b=some o→b≠D:=fun b o e z=>by rw [z,gD] at e; cases e
  have hH:∀ b u,H b=some u→b≠D:=fun b u e=>ne_of_none e hn
  refine ⟨hn,I.step (g':=s.gens) (d':=s.drawn) (ch:=[]) (fun _ z=>nomatch z) (fun b o h1 _ _ e _=>k b o h1 e) (fun b o h1 _ _ e _=>⟨o.slots,k b o h1 e⟩) (fun b o _ e n=>by rw [upd_ne (nD b o e)]; exact n) (fun b o _ e=>?_)
    (fun b _ e=>by rw [upd_ne (hH b _ e)]; exact e) (fun b _ _ e=>by rw [upd_ne (hH b _ e)]; exact e) (fun b ps e=>⟨#[],by rw [upd_ne (hH b _ e),e]; simp⟩) (fun m' hm'=>by rw [← ns_one hm hm']; exact F.ns) (fun b u e=>?_) I.bare⟩
  · by_cases hb:b=X.env.locals
    · subst hb
      obtain ⟨o',_,_,e',_⟩:=F.ns
      exact ⟨o',e'⟩
    · exact ⟨o,k b o hb e⟩
  · by_cases hb:b=D
    · subst hb
      rw [upd_same] at e
      cases e
      exact new
    · rw [upd_ne hb] at e
      refine (I.hok b u e).stay (fun c v hc q=>k c v ?_ q) (fun c q=>by rw [upd_ne (hH c _ q)]; exact q) fun c _ q=>by rw [upd_ne (hH c _ q)]; exact q
      rintro rfl
      rcases hc with hc | hc
      · rw [← hc,I.free] at e; cases e
      · rw [I.free] at hc; cases hc
end
def lexLt (z w:Int × Int):Bool:=decide (z.1 < w.1) || (z.1 == w.1 && decide (z.2 < w.2))
theorem lexLt_iff {z w:Int × Int}:lexLt z w=true↔z.1 < w.1∨(z.1=w.1∧z.2 < w.2):=by simp [lexLt]
def lexLe (z w:Int × Int):Prop:=z.1 < w.1∨(z.1=w.1∧z.2≤w.2)
theorem lexLe_of {z w:Int × Int} (h:lexLt w z=false):lexLe z w:=by
  have:¬ (w.1 < z.1∨(w.1=z.1∧w.2 < z.2)):=fun q=>by rw [lexLt_iff.mpr q] at h; cases h
  unfold lexLe
  omega
def rank (ts:List (Int × Int)) (t:Int × Int):Int:=(ts.countP fun u=>lexLt u t:Nat)
theorem count_lt {α:Type} {p q:α→Bool}:∀ {l:List α} {x:α},(∀ y ∈ l,p y=true→q y=true)→x ∈ l→p x=false→q x=true→l.countP p < l.countP q
  | y :: l, x, h, hx, h1, h2 => by
    have hl:∀ y ∈ l,p y=true→q y=true:=fun y hy=>h y (List.mem_cons_of_mem _ hy)
    have hle:l.countP p≤l.countP q:=List.countP_mono_left hl
    rw [List.countP_cons,List.countP_cons]
    rcases List.mem_cons.mp hx with e | hx
    · subst e
      rw [h1,h2]
      simp
      omega
    · have hlt:=count_lt hl hx h1 h2
      by_cases hp:p y=true
      · rw [if_pos hp,if_pos (h y List.mem_cons_self hp)]; omega
      · rw [if_neg hp]; omega
theorem rank_lt {ts : List (Int × Int)} {t u : Int × Int} (ht : t ∈ ts) (hu : u ∈ ts) : decide (rank ts t < rank ts u) = lexLt t u := by
  rw [Bool.eq_iff_iff,decide_eq_true_iff]
  constructor
  · intro h
    cases q:lexLt t u with
    | true=>rfl
    | false =>
      have hle:=lexLe_of q
      have:ts.countP (fun w=>lexLt w u)≤ts.countP (fun w=>lexLt w t):=List.countP_mono_left fun w _ hw=>by
        rw [lexLt_iff] at hw ⊢
        unfold lexLe at hle
        omega
      unfold rank at h
      omega
  · intro h
    have hlt:ts.countP (fun w=>lexLt w t) < ts.countP (fun w=>lexLt w u):=count_lt (x:=t) (fun w _ hw=>by rw [lexLt_iff] at hw h ⊢; omega) ht (by
      cases q:lexLt t t with
      | false=>rfl
      | true=>rw [lexLt_iff] at q; omega) h
    unfold rank
    omega
abbrev Zt:=Int × Int × Addr
def zP (z:Zt):Int × Int:=(z.1,z.2.1)
def refZ (z:Zt):V:=.ref z.2.2
def PairAt (H:Hp) (z:Zt):Prop:=H z.2.2=some (.tup [.int z.1,.int z.2.1])
section
variable {prog:Program} {w:World} {A:Around} {s:Shared}
theorem lt_pairs {x y : Addr} {a1 a2 b1 b2 : Int} {t1 t2 u1 u2 : Tok} {E : Value → Shared → Prop} {Q : Bool → Shared → Prop} (hx : IsTup s.heap x #[.int a1 t1, .int a2 t2]) (hy : IsTup s.heap y #[.int b1 u1, .int b2 u2]) (h : Q (lexLt (a1, a2) (b1, b2)) s) :
    wpAny (model prog w) A (keyLt' (tuples' true) (.ref x) (.ref y)) Q E s:=by
  obtain ⟨ox,ex,cx,nx,dx⟩:=hx
  obtain ⟨oy,ey,cy,ny,dy⟩:=hy
  refine kat_lt ex dx ey dy ?_
  have ez:(#[Value.int a1 t1,Value.int a2 t2].toList.zip #[Value.int b1 u1,Value.int b2 u2].toList)=[(.int a1 t1,.int b1 u1),(.int a2 t2,.int b2 u2)]:=rfl
  rw [ez]
  refine kat_cons (SeqAt.EqAt.int_int a1 t1 b1 u1 _ _ _ _ ?_)
  by_cases e:a1=b1
  · have e1:(a1 == b1)=true:=by simpa using e
    rw [e1]
    refine kat_yes (kat_cons (SeqAt.EqAt.int_int a2 t2 b2 u2 _ _ _ _ ?_))
    by_cases f:a2=b2
    · have f1:(a2 == b2)=true:=by simpa using f
      rw [f1]
      refine kat_yes (kat_nil ?_)
      have:lexLt (a1,a2) (b1,b2)=false:=by
        cases q:lexLt (a1,a2) (b1,b2) with
        | false=>rfl
        | true=>rw [lexLt_iff] at q; simp only at q; omega
      rw [this] at h
      exact h
    · have f1:(a2 == b2)=false:=by simpa using f
      rw [f1]
      refine kat_no (kat_one _ _ (lt_int ?_))
      have:lexLt (a1,a2) (b1,b2)=decide (a2 < b2):=by
        rw [Bool.eq_iff_iff,lexLt_iff,decide_eq_true_iff]
        simp only
        omega
      rw [this] at h
      exact h
  · have e1:(a1 == b1)=false:=by simpa using e
    rw [e1]
    refine kat_no (oneLt_int ?_)
    have:lexLt (a1,a2) (b1,b2)=decide (a1 < b1):=by
      rw [Bool.eq_iff_iff,lexLt_iff,decide_eq_true_iff]
      simp only
      omega
    rw [this] at h
    exact h
end
end L2
namespace L2
open PySem PySem.Spec PyProof.Rows PySem.W
def rSortedT (K:PySem.W.Frag):List V→Hp→VK→Prop:=fun xs H Q=>∃ (p:Addr) (zs:List Zt),xs=[.ref p]∧SqL K H p (zs.map refZ)∧(∀ z ∈ zs,PairAt H z)∧zs.length < 64 ∧
  ∀ (l:Addr) (zs':List Zt),H l=none→zs'.Perm zs→zs'.Pairwise (fun z w=>lexLe (zP z) (zP w))→Q (.ref l) (upd H l (.lst (zs'.map refZ)))
theorem refs_of:∀ {zs:List Zt} {us:List Value},Vals (zs.map refZ) us→us=zs.map fun z=>Value.ref z.2.2
  | [],_,r=>by cases r; rfl
  | z :: zs, _, r => by
    rw [List.map_cons] at r
    cases r with
    | cons h t =>
      cases (show _=Value.ref z.2.2 from h)
      rw [refs_of t]; rfl
theorem vals_refs:∀ zs:List Zt,Vals (zs.map refZ) (zs.map fun z=>Value.ref z.2.2)
  | []=>.nil
  | z :: zs=>.cons rfl (vals_refs zs)
theorem firsts_of {h:Heap}:∀ {zs:List Zt},(∀ z ∈ zs,∃ t u,IsTup h z.2.2 #[.int z.1 t,.int z.2.1 u])→∃ fs,KatTups h (zs.map fun z=>Value.ref z.2.2) fs∧fs.length=zs.length∧∀ v ∈ fs,∃ i t,v=Value.int i t
  | [],_=>⟨[],.nil,rfl,fun v hv=>nomatch hv⟩
  | z :: zs, hz => by
    obtain ⟨fs,h1,h2,h3⟩:=firsts_of (zs:=zs) fun y hy=>hz y (List.mem_cons_of_mem _ hy)
    obtain ⟨t,u,o,e,c,n,d⟩:=hz z List.mem_cons_self
    refine ⟨.int z.1 t :: fs,KatTups.cons e c d rfl h1,by simp [h2],fun v hv=>?_⟩
    rcases List.mem_cons.mp hv with rfl | hv
    · exact ⟨_,_,rfl⟩
    · exact h3 v hv
theorem getD_range {α:Type} (l:List α) (d:α):(List.range l.length).map (fun i=>l.getD i d)=l:=by
  apply List.ext_getElem?
  intro i
  rw [List.getElem?_map]
  by_cases h:i < l.length
  · rw [List.getElem?_range h,List.getElem?_eq_getElem h]; simp [h]
  · rw [List.getElem?_eq_none (by simp; omega),List.getElem?_eq_none (by omega)]; rfl
section
variable {X:Cx}
theorem sorted_short {prog:Program} {w:World} {A:Around} {E:Value→Shared→Prop} {s:Shared} {l:Addr} {vs:List Value} {Q:Value→Shared→Prop} (hl:s.heap.IsList l vs.toArray) (h2:vs.length < 2)
    (h:Q (.ref (s.heap.objs.size+1)) { s with heap:=sortedAll s.heap vs vs.toArray }):wpAny (model prog w) A (call (.builtin "sorted") [.ref l]) Q E s:=by
  have hz:vs.length≤sizeLine:=small_le (m:=2) (by omega)
  refine Calls.call_function_entry kind_sorted plain_sorted entry_sorted (args_sorted1 _) (wpAny_bind (m:=checkCount "sorted" 1 1 _) (wpAny_pure (wpAny_bind (collect_list hl (wpAny_bind (wpAny_newList ?_ hz)) hz))))
  have e1:((s.heap.push (seqObj "list" #[] 0)).update s.heap.objs.size (Obj.mapSeq (· ++ vs.toArray))).objs.size=s.heap.objs.size+1:=(Heap.size_update ..).trans (size_push' ..)
  have g1:(((s.heap.push (seqObj "list" #[] 0)).update s.heap.objs.size (Obj.mapSeq (· ++ vs.toArray))).push (seqObj "list" vs.toArray 0)).get? (s.heap.objs.size+1)=some (seqObj "list" vs.toArray 0):=e1 ▸ Heap.get?_push_size _ rfl
  have e0:(seqObj "list" vs.toArray 0:Obj) = { cls:=.type "list",data:=.seq vs.toArray }:=rfl
  have hlt:s.heap.objs.size+1 < (((s.heap.push (seqObj "list" #[] 0)).update s.heap.objs.size (Obj.mapSeq (· ++ vs.toArray))).push (seqObj "list" vs.toArray 0)).objs.size:=Heap.lt_size g1
  show wpAny (model prog w) A.in1 (do let _ ← holding [Value.ref ((s.heap.push (seqObj "list" #[] 0)).update s.heap.objs.size (Obj.mapSeq (· ++ vs.toArray))).objs.size] (call (.builtin "list.sort") [Value.ref ((s.heap.push (seqObj "list" #[] 0)).update s.heap.objs.size (Obj.mapSeq (· ++ vs.toArray))).objs.size]); ret (Value.ref ((s.heap.push (seqObj "list" #[] 0)).update s.heap.objs.size (Obj.mapSeq (· ++ vs.toArray))).objs.size)) _ _ { s with heap:=((s.heap.push (seqObj "list" #[] 0)).update s.heap.objs.size (Obj.mapSeq (· ++ vs.toArray))).push (seqObj "list" vs.toArray 0) }
  rw [e1]
  generalize hh:((s.heap.push (seqObj "list" #[] 0)).update s.heap.objs.size (Obj.mapSeq (· ++ vs.toArray))).push (seqObj "list" vs.toArray 0)=hp at g1 hlt
  unfold sortedAll at h
  rw [hh] at h
  refine wpAny_bind (wpAny_holding (wpAny_call_entry slot_list_sort ⟨_,g1,rfl⟩ entry_list_sort ?_ (args_list_sort _)))
  rw [list_sort_plain]
  obtain ⟨c1,g2⟩:∃ c1,(hp.update (s.heap.objs.size+1) (Obj.mapSeq fun _=>#[])).get? (s.heap.objs.size+1)=some (seqObj "list" #[] c1):=⟨_,get?_update_seq g1 fun _=>#[]⟩
  refine wpAny_bind (listItems_at g1 rfl (wpAny_bind (listUpdate_at g1 rfl (wpAny_bind (seqEpoch_at g2 rfl (wpAny_bind (wpAny_newTuple (wpAny_bind (wpAny_newList (wpAny_holding ?_) (Nat.zero_le _))) hz)))) (by rw [List.size_toArray]; exact hz) (Nat.zero_le _))))
  have g6:(((hp.update (s.heap.objs.size+1) (Obj.mapSeq fun _=>#[])).push (seqObj "tuple" vs.toArray 0)).push (seqObj "list" #[] 0)).get? (s.heap.objs.size+1)=some (seqObj "list" #[] c1):=Heap.get?_push_of_some _ (Heap.get?_push_of_some _ g2)
  have hn:vs.toArray.size < 2:=by rw [List.size_toArray]; exact h2
  show wpAny (model prog w) A.in1.in1 _ _ _ { s with heap:=((hp.update (s.heap.objs.size+1) (Obj.mapSeq fun _=>#[])).push (seqObj "tuple" vs.toArray 0)).push (seqObj "list" #[] 0) }
  dsimp only
  rw [if_pos hn,if_pos hn]
  refine wpAny_bind (wpAny_pure ?_)
  rw [StateT.run_pure]
  refine wpAny_bind (wpAny_pure ?_)
  dsimp only
  have es:(arrOf (SortSt.mk' general' (vs.toArray.zip vs.toArray) #[] 7 none)).map (·.2)=vs.toArray:=by
    show (vs.toArray.zip vs.toArray).map (·.2)=vs.toArray
    apply Array.toList_inj.mp
    simp
    exact List.map_snd_zip (Nat.le_refl _)
  rw [es]
  refine wpAny_bind (seqEpoch_at g6 rfl (wpAny_bind (listUpdate_at g6 rfl ?_ (Nat.zero_le _) (by rw [List.size_toArray]; exact Nat.le_succ_of_le hz))))
  simp only [bne_self_eq_false,Bool.false_eq_true,if_false]
  exact wpAny_pure ⟨_,rfl,wpAny_pure ⟨_,rfl,h⟩⟩
theorem call_sortedT : CallR X (.builtin "sorted") (rSortedT X.K) := by
  intro pins s σ H xs us Q I r h
  obtain ⟨p,zs,rfl,hq,hz,h64,q⟩:=h
  obtain ⟨u,rfl,ru⟩:=vals1 r
  cases ru
  obtain ⟨its,rv,pl,hsz⟩:=I.list hq
  have ei:=refs_of rv
  subst ei
  have tup0:∀ z ∈ zs,∃ t u,IsTup s.heap z.2.2 #[.int z.1 t,.int z.2.1 u]:=fun z hz'=>by
    obtain ⟨ts,r,it,_⟩:=I.tuple (.of (hz z hz'))
    cases r with
    | cons h1 r =>
      cases r with
      | cons h2 r =>
        cases r
        obtain ⟨t,rfl⟩:=h1
        obtain ⟨u,rfl⟩:=h2
        exact ⟨t,u,it⟩
  by_cases h2:2≤zs.length
  · obtain ⟨m,F,N⟩:=I.frs
    refine kat_sorted F N pl.isList (by rw [List.length_map]; exact h2) (by rw [List.length_map]; exact h64) fun D e1 h' F' N' hD=>?_
    have kept:∀ b o,b≠X.env.locals→s.heap.get? b=some o→h'.get? b=some o:=fun b o h1 e=>by
      cases w:X.base.get? b with
      | some u =>
        have z:=I.bk b u w
        rw [e] at z
        cases z
        exact F'.keep b _ w
      | none=>exact (N' (b,o) (List.mem_cons_of_mem _ (mem_allNews h1 w e))).1
    have tup:∀ z ∈ zs,∃ t u,IsTup h' z.2.2 #[.int z.1 t,.int z.2.1 u]:=fun z hz'=>by
      obtain ⟨t,u,o,e,rest⟩:=tup0 z hz'
      refine ⟨t,u,o,kept _ o (fun w=>?_) e,rest⟩
      have e2:=hz z hz'
      unfold PairAt at e2
      rw [w,I.free] at e2
      cases e2
    obtain ⟨fs,k1,k2,k3⟩:=firsts_of tup
    refine kat_kind (T:=.type "int") k1 (by omega) (fun v hv=>?_) rfl ?_
    · obtain ⟨i,t,rfl⟩:=k3 v hv
      exact Looks.now
    have et:(Value.type "int" != Value.type "tuple")=true:=by decide
    rw [et,List.length_map]
    have gz:∀ i,i < zs.length→(zs.map fun z=>Value.ref z.2.2).getD i Value.none=Value.ref (zs.getD i (0,0,0)).2.2:=fun i hi=>by simp [hi]
    have mz:∀ i,i < zs.length→zs.getD i (0,0,0) ∈ zs:=fun i hi=>by
      have:zs.getD i (0,0,0)=zs[i]:=by simp [hi]
      rw [this]; exact List.getElem_mem hi
    refine Sx.Sat.ask (n:=zs.length) (k:=fun i=>rank (zs.map zP) (zP (zs.getD i (0,0,0)))) (fun i j C hi hj hC=>?_) (fun pr hp=>?_) (Sx.sat_sort (by omega))
    · unfold kas_ask
      rw [gz i hi,gz j hj]
      obtain ⟨t,u,i1⟩:=tup _ (mz i hi)
      obtain ⟨t',u',i2⟩:=tup _ (mz j hj)
      refine lt_pairs (s:={ s with heap:=h' }) i1 i2 ?_
      rw [rank_lt (List.mem_map_of_mem (mz i hi)) (List.mem_map_of_mem (mz j hj))] at hC
      exact hC
    · obtain ⟨hp1,hp2⟩:=hp
      have plt:∀ i ∈ pr.toList,i < zs.length:=fun i hi=>by simpa using hp1.mem_iff.mp hi
      have eo:(pr.toList.map fun i=>(zs.map fun z=>Value.ref z.2.2).getD i Value.none)=(pr.toList.map fun i=>zs.getD i (0,0,0)).map fun z=>Value.ref z.2.2:=by
        rw [List.map_map]
        exact List.map_congr_left fun i hi=>gz i (plt i hi)
      rw [eo]
      have hperm:(pr.toList.map fun i=>zs.getD i (0,0,0)).Perm zs:=by
        have:=hp1.map fun i=>zs.getD i (0,0,0)
        rwa [getD_range] at this
      have hsort:(pr.toList.map fun i=>zs.getD i (0,0,0)).Pairwise fun z w=>lexLe (zP z) (zP w):=by
        rw [List.pairwise_iff_getElem]
        intro i j hi hj hij
        rw [List.length_map] at hi hj
        simp only [List.getElem_map]
        have hsz:pr.size=zs.length:=hp1.size
        have hj':j < zs.length:=by rw [← hsz]; simpa using hj
        have hle:=hp2.le (Nat.le_of_lt hij) hj'
        unfold Sx.Ky at hle
        have gi:∀ i (h:i < pr.toList.length),pr.getD i 0=pr.toList[i]:=fun i h=>by
          have h':i < pr.size:=by simpa using h
          simp [Array.getD,h']
        rw [gi i hi,gi j hj] at hle
        have hle:rank (zs.map zP) (zP (zs.getD pr.toList[i] (0,0,0)))≤rank (zs.map zP) (zP (zs.getD pr.toList[j] (0,0,0))):=hle
        refine lexLe_of ?_
        cases w:lexLt (zP (zs.getD pr.toList[j] (0,0,0))) (zP (zs.getD pr.toList[i] (0,0,0))) with
        | false=>rfl
        | true =>
          rw [← rank_lt (List.mem_map_of_mem (mz _ (plt _ (List.getElem_mem hj)))) (List.mem_map_of_mem (mz _ (plt _ (List.getElem_mem hi)))),decide_eq_true_iff] at w
          omega
      generalize (pr.toList.map fun i=>zs.getD i (0,0,0))=zs' at hperm hsort
      have hlen:zs'.length≤sizeLine:=small_le (m:=64) (by rw [hperm.length_eq]; omega)
      refine KasFin.intro F' N' (UpdF.head fun q hq=>Nat.ne_of_lt (hD q hq)) fun h'' c F'' N''=>?_
      obtain ⟨hn,I2⟩:=I.newsLaid (t':=s.toks) (o:=.lst (zs'.map refZ)) F.ns F'' N'' hD ⟨by rw [List.length_map]; exact hlen,_,c,vals_refs zs',(N'' _ List.mem_cons_self).1⟩
      exact ⟨.ref D,_,I2,rfl,q D zs' hn hperm hsort⟩
  · have hs:(zs.map fun z=>Value.ref z.2.2).length < 2:=by rw [List.length_map]; omega
    refine sorted_short pl.isList hs ?_
    obtain ⟨e,he⟩:=sortedAll_at s.heap (zs.map fun z=>Value.ref z.2.2) (zs.map fun z=>Value.ref z.2.2).toArray
    refine ⟨.ref (s.heap.objs.size+1),_,I.laid (t':=s.toks) (o:=.lst (zs.map refZ)) (fun b o e=>sortedAll_old e) (Nat.le_succ _) ⟨by rw [List.length_map]; exact small_le (m:=64) (by omega),_,e,vals_refs zs,by simpa [seqObj] using he⟩,rfl,q _ zs (I.hok.fresh (Nat.le_succ _)) (List.Perm.refl _) ?_⟩
    match zs,h2 with
    | [],_=>exact .nil
    | [z],_=>exact List.pairwise_singleton _ _
    | z :: w :: r,h2=>simp at h2
def rSortedG (K:PySem.W.Frag):List V→Hp→VK→Prop:=fun xs H Q=>rSorted K xs H Q∨rSortedT K xs H Q
theorem call_sortedG:CallR X (.builtin "sorted") (rSortedG X.K):=call_sorted.or call_sortedT
end
section
variable {X:Cx}
end
end L2
namespace Zl
open PySem PySem.W PyProof.Rows
section
variable {prog:Program} {w:World} {A:Around} {E:Value→Shared→Prop} {s:Shared} {z TI TO i1 i2 l1 l2:Addr} {xs ys:Array Value} {k:Nat}
abbrev IsOut (h:Heap) (z TI TO T:Addr) (f:Bool):Prop:=h.get? z=some { cls:=.type "zip",dict:=none,data:=.fields #[rawInt T,.bool f,.bool false,.ref TI,.ref TO],slots:=#[] }
theorem out_free {T:Addr} {f:Bool} {oT:Obj} {Q:Bool→Shared→Prop} (hz:IsOut s.heap z TI TO T f) (hT:s.heap.get? T=some oT)
    (hQ:∀ h',IsOut h' z TI TO T true→Heap.SameBut z s.heap h'→Q false { s with heap:=h' }):wpAny (model prog w) A (Builtin.SmallTypes.ownedTupleIsFree (.ref z)) Q E s:=by
  unfold Builtin.SmallTypes.ownedTupleIsFree
  refine wpAny_bind (wpAny_field hz rfl (x:=rawInt T) rfl ?_)
  unfold rawInt
  dsimp only
  refine wpAny_bind (kdx_alive (a:=T) hT ?_)
  simp only [Option.isNone_some,Bool.false_eq_true,if_false]
  refine wpAny_bind (wpAny_field hz rfl (x:=.bool f) rfl ?_)
  cases f with
  | true =>
    rw [if_neg (by decide)]
    exact wpAny_pure (hQ s.heap hz ⟨rfl,fun b hb=>rfl⟩)
  | false =>
    rw [if_pos (by decide)]
    exact wpAny_bind (wpAny_setField_rec hz (by simp) fun h' hz' hs'=>wpAny_pure (hQ h' hz' hs'))
theorem out_item {T:Addr} {f:Bool} {oT:Obj} {x y:Value} {Q:Value→Shared→Prop} (D:ZipApart z TI TO i1 i2 l1 l2) (hz:IsOut s.heap z TI TO T f) (hT:s.heap.get? T=some oT) (hTI:IsPair s.heap TI (.ref i1) (.ref i2))
    (h1:s.heap.IsListIter i1 l1 k) (h2:s.heap.IsListIter i2 l2 k) (hl1:s.heap.IsList l1 xs) (hl2:s.heap.IsList l2 ys) (hx:xs[k]? = some x) (hy:ys[k]? = some y)
    (hQ:∀ h',IsOut h' z TI TO T true→h'.IsListIter i1 l1 (k+1)→h'.IsListIter i2 l2 (k+1)→IsPair h' s.heap.objs.size x y →
      (∀ c o,c≠z→c≠i1→c≠i2→s.heap.get? c=some o→h'.get? c=some o)→Q (.ref s.heap.objs.size) { s with heap:=h' }) :
    wpAny (model prog w) A (Builtin.«zip.__next__» ⟨[.ref z],[]⟩) (fun fin s'=>∃ v,fin = .done (.ret v)∧Q v s') E s:=by
  show wpAny _ _ (field (.ref z) 2 >>= _) _ _ _
  refine wpAny_bind (wpAny_field hz rfl (x:=.bool false) rfl ?_)
  show wpAny _ _ (field (.ref z) 3 >>= _) _ _ _
  refine wpAny_bind (wpAny_field hz rfl (x:=.ref TI) rfl (wpAny_bind (wpAny_seqItems hTI rfl ?_)))
  show wpAny _ _ (Builtin.SmallTypes.ownedTupleIsFree (.ref z) >>= _) _ _ _
  refine wpAny_bind (out_free hz hT fun h₀ z₀ s₀=>?_)
  simp only [Bool.false_eq_true,if_false]
  refine wpAny_bind ?_
  rw [← Array.forIn_toList]
  simp only [List.forIn_cons,List.forIn_nil]
  refine wpAny_bind (wpAny_bind (wpAny_holding ?_))
  show wpAny _ _ (Builtin.SmallTypes.nextOf (.ref i1) >>= _) _ _ _
  refine wpAny_bind (wpAny_nextOf_list_item (s:={ s with heap:=h₀ }) (h1.extBut s₀.extBut D.i1z) (hl1.extBut s₀.extBut D.l1z) hx fun h₁ j₁ s₁=>wpAny_pure (wpAny_pure ?_))
  refine wpAny_bind (wpAny_bind (wpAny_holding ?_))
  show wpAny _ _ (Builtin.SmallTypes.nextOf (.ref i2) >>= _) _ _ _
  refine wpAny_bind (wpAny_nextOf_list_item (s:={ s with heap:=h₁ }) ((h2.extBut s₀.extBut D.i2z).extBut s₁.extBut D.i12.symm) ((hl2.extBut s₀.extBut D.l2z).extBut s₁.extBut D.l2i1) hy fun h₂ j₂ s₂=>wpAny_pure (wpAny_pure (wpAny_pure ?_)))
  have sz:h₂.objs.size=s.heap.objs.size:=by rw [s₂.1,s₁.1,s₀.1]
  have zz:IsOut h₂ z TI TO T true:=s₂.extBut _ _ D.i2z.symm (s₁.extBut _ _ D.i1z.symm z₀)
  have kp:∀ c o,c≠z→c≠i1→c≠i2→s.heap.get? c=some o→h₂.get? c=some o:=fun c o c1 c2 c3 e=>s₂.extBut _ _ c3 (s₁.extBut _ _ c2 (s₀.extBut _ _ c1 e))
  refine wpAny_bind (wpAny_newTuple ?_ (by show 2≤sizeLine; exact L2.small_le (m:=2) (Nat.le_refl 2)))
  refine wpAny_pure ⟨_,rfl,?_⟩
  show Q (.ref h₂.objs.size) { s with heap:=h₂.push { cls:=.type "tuple",data:=.seq #[x,y] } }
  rw [sz]
  refine hQ _ (Heap.get?_push_of_some _ zz) ((Heap.IsListIter.extBut j₁ s₂.extBut D.i12).at fun o e=>Heap.get?_push_of_some _ e) (j₂.at fun o e=>Heap.get?_push_of_some _ e) (by rw [← sz]; exact Heap.get?_push_size _ rfl) fun c o c1 c2 c3 e=>Heap.get?_push_of_some _ (kp c o c1 c2 c3 e)
theorem out_end {T:Addr} {f:Bool} {oT:Obj} {Q:PySem.Fin→Shared→Prop} (hh:A.handled=none) (D:ZipApart z TI TO i1 i2 l1 l2) (hz:IsOut s.heap z TI TO T f) (hT:s.heap.get? T=some oT) (hTI:IsPair s.heap TI (.ref i1) (.ref i2))
    (h1:s.heap.IsListIter i1 l1 k) (h2:s.heap.IsListIter i2 l2 k) (hl1:s.heap.IsList l1 xs) (hl2:s.heap.IsList l2 ys) (hend:xs[k]? = none∨ys[k]? = none)
    (hE:∀ h' e,(∀ c o,c≠z→c≠i1→c≠i2→s.heap.get? c=some o→h'.get? c=some o)→(∃ o,h'.get? e=some o∧o.cls = .type "StopIteration")→E (.ref e) { s with heap:=h' }) :
    wpAny (model prog w) A (Builtin.«zip.__next__» ⟨[.ref z],[]⟩) Q E s:=by
  show wpAny _ _ (field (.ref z) 2 >>= _) _ _ _
  refine wpAny_bind (wpAny_field hz rfl (x:=.bool false) rfl ?_)
  show wpAny _ _ (field (.ref z) 3 >>= _) _ _ _
  refine wpAny_bind (wpAny_field hz rfl (x:=.ref TI) rfl (wpAny_bind (wpAny_seqItems hTI rfl ?_)))
  show wpAny _ _ (Builtin.SmallTypes.ownedTupleIsFree (.ref z) >>= _) _ _ _
  refine wpAny_bind (out_free hz hT fun h₀ z₀ s₀=>?_)
  simp only [Bool.false_eq_true,if_false]
  refine wpAny_bind ?_
  rw [← Array.forIn_toList]
  simp only [List.forIn_cons,List.forIn_nil]
  refine wpAny_bind (wpAny_bind (wpAny_holding ?_))
  show wpAny _ _ (Builtin.SmallTypes.nextOf (.ref i1) >>= _) _ _ _
  cases hx:xs[k]? with
  | none=>exact wpAny_bind (wpAny_nextOf_list_end (s:={ s with heap:=h₀ }) hh (h1.extBut s₀.extBut D.i1z) (hl1.extBut s₀.extBut D.l1z) hx fun h₁ e s₁ he=>hE h₁ e (fun c o c1 c2 c3 q=>s₁ _ _ c2 (s₀.extBut _ _ c1 q)) he)
  | some x =>
    have hy:ys[k]? = none:=by rcases hend with q | q; rw [hx] at q; cases q; exact q
    refine wpAny_bind (wpAny_nextOf_list_item (s:={ s with heap:=h₀ }) (h1.extBut s₀.extBut D.i1z) (hl1.extBut s₀.extBut D.l1z) hx fun h₁ j₁ s₁=>wpAny_pure (wpAny_pure ?_))
    refine wpAny_bind (wpAny_bind (wpAny_holding ?_))
    show wpAny _ _ (Builtin.SmallTypes.nextOf (.ref i2) >>= _) _ _ _
    exact wpAny_bind (wpAny_nextOf_list_end (s:={ s with heap:=h₁ }) hh ((h2.extBut s₀.extBut D.i2z).extBut s₁.extBut D.i12.symm) ((hl2.extBut s₀.extBut D.l2z).extBut s₁.extBut D.l2i1) hy fun h₂ e s₂ he =>
      hE h₂ e (fun c o c1 c2 c3 q=>s₂ _ _ c3 (s₁.extBut _ _ c2 (s₀.extBut _ _ c1 q))) he)
structure ZS (h:Heap) (z TI TO i1 i2 l1 l2 S:Addr) (xs ys:Array Value) (k:Nat):Prop where
  zz:(k=0∧IsZip h z TI TO .none∧∃ a b,IsPair h TO a b)∨∃ T f oT,IsOut h z TI TO T f∧h.get? T=some oT∧T≠z∧T≠i1∧T≠i2∧T≠S
  ti:IsPair h TI (.ref i1) (.ref i2)
  a1:h.IsListIter i1 l1 k
  a2:h.IsListIter i2 l2 k
  b1:h.IsList l1 xs
  b2:h.IsList l2 ys
structure Off (z TI TO i1 i2 l1 l2 S:Addr):Prop where
  z:z≠S
  ti:TI≠S
  to:TO≠S
  i1:i1≠S
  i2:i2≠S
  l1:l1≠S
  l2:l2≠S
theorem ZS.keep {h h':Heap} {S:Addr} (x:ZS h z TI TO i1 i2 l1 l2 S xs ys k) (O:Off z TI TO i1 i2 l1 l2 S) (hk:∀ b o,b≠S→h.get? b=some o→h'.get? b=some o):ZS h' z TI TO i1 i2 l1 l2 S xs ys k where
  zz:=by
    rcases x.zz with ⟨e,hz,a,b,hp⟩ | ⟨T,f,oT,hz,hT,n1,n2,n3,n4⟩
    · exact .inl ⟨e,hk _ _ O.z hz,a,b,hk _ _ O.to hp⟩
    · exact .inr ⟨T,f,oT,hk _ _ O.z hz,hk _ _ n4 hT,n1,n2,n3,n4⟩
  ti:=hk _ _ O.ti x.ti
  a1:=x.a1.at fun o e=>hk _ o O.i1 e
  a2:=x.a2.at fun o e=>hk _ o O.i2 e
  b1:=x.b1.at fun o e=>hk _ o O.l1 e
  b2:=x.b2.at fun o e=>hk _ o O.l2 e
theorem ZS.item {S:Addr} {x y:Value} {Q:Option Value→Shared→Prop} (D:ZipApart z TI TO i1 i2 l1 l2) (st:ZS s.heap z TI TO i1 i2 l1 l2 S xs ys k) (hS:S < s.heap.objs.size) (hx:xs[k]? = some x) (hy:ys[k]? = some y)
    (hQ:∀ h',ZS h' z TI TO i1 i2 l1 l2 S xs ys (k+1)→IsPair h' s.heap.objs.size x y→(∀ c o,c≠z→c≠TO→c≠i1→c≠i2→s.heap.get? c=some o→h'.get? c=some o)→Q (some (.ref s.heap.objs.size)) { s with heap:=h' }) :
    wpAny (model prog w) A (pyNext (.ref z)) Q E s:=by
  have lt1:i1 < s.heap.objs.size:=by obtain ⟨_,e,_⟩:=st.a1; exact Heap.lt_size e
  have lt2:i2 < s.heap.objs.size:=by obtain ⟨_,e,_⟩:=st.a2; exact Heap.lt_size e
  rcases st.zz with ⟨e,hz,a,b,hp⟩ | ⟨T,f,oT,hz,hT,n1,n2,n3,n4⟩
  · refine wpAny_pyNext_zip_item D hz st.ti hp st.a1 st.a2 st.b1 st.b2 hx hy fun h' q1 q2 q3 q4 q5 q6 q7=>?_
    refine hQ h' ⟨.inr ⟨_,false,_,q1,q5,Nat.ne_of_gt (Heap.lt_size hz),Nat.ne_of_gt lt1,Nat.ne_of_gt lt2,Nat.ne_of_gt hS⟩,q7 _ _ D.TIz D.TITO D.TIi1 D.TIi2 st.ti,q3,q4,st.b1.at fun o e=>q7 _ o D.l1z D.l1TO D.l1i1 D.l1i2 e,st.b2.at fun o e=>q7 _ o D.l2z D.l2TO D.l2i1 D.l2i2 e⟩ q5 q7
  · have ty:s.TypeIs (.ref z) "zip":=⟨_,hz,rfl⟩
    unfold pyNext
    refine wpAny_bind (wpAny_attempt (wpAny_callSpecial?_slot (name:=Str.ofString "__next__") ty F.slot_zip_next (wpAny_call_entry F.slot_zip_next ty F.entry_zip_next
      (out_item D hz hT st.ti st.a1 st.a2 st.b1 st.b2 hx hy fun h' q1 q3 q4 q5 q7=>wpAny_pure ?_) (F.args_zip_next_1 _))))
    refine hQ h' ⟨.inr ⟨T,true,oT,q1,q7 _ _ n1 n2 n3 hT,n1,n2,n3,n4⟩,q7 _ _ D.TIz D.TIi1 D.TIi2 st.ti,q3,q4,st.b1.at fun o e=>q7 _ o D.l1z D.l1i1 D.l1i2 e,st.b2.at fun o e=>q7 _ o D.l2z D.l2i1 D.l2i2 e⟩ q5 fun c o c1 _ c3 c4 e=>q7 c o c1 c3 c4 e
theorem ZS.done {S:Addr} {Q:Option Value→Shared→Prop} (hh:A.handled=none) (D:ZipApart z TI TO i1 i2 l1 l2) (st:ZS s.heap z TI TO i1 i2 l1 l2 S xs ys k) (hend:xs[k]? = none∨ys[k]? = none)
    (hQ:∀ h',(∀ c o,c≠z→c≠TO→c≠i1→c≠i2→s.heap.get? c=some o→h'.get? c=some o)→Q none { s with heap:=h' }):wpAny (model prog w) A (pyNext (.ref z)) Q E s:=by
  rcases st.zz with ⟨e,hz,a,b,hp⟩ | ⟨T,f,oT,hz,hT,n1,n2,n3,n4⟩
  · exact wpAny_pyNext_zip_end hh D hz st.ti hp st.a1 st.a2 st.b1 st.b2 hend hQ
  · have ty:s.TypeIs (.ref z) "zip":=⟨_,hz,rfl⟩
    unfold pyNext
    refine wpAny_bind (wpAny_attempt (wpAny_callSpecial?_slot (name:=Str.ofString "__next__") ty F.slot_zip_next (wpAny_call_entry F.slot_zip_next ty F.entry_zip_next
      (out_end hh D hz hT st.ti st.a1 st.a2 st.b1 st.b2 hend fun h' e hk he=>?_) (F.args_zip_next_1 _))))
    obtain ⟨o,ho,hc⟩:=he
    exact wpAny_bind (wpAny_isInstance (T:="StopIteration") (b:=true) ⟨o,ho,hc⟩ isSubtype_stop (wpAny_pure (hQ _ fun c o c1 _ c3 c4 q=>hk c o c1 c3 c4 q)))
structure Made (h:Heap) (lo:Addr) (xs ys:Array Value) (as:List Addr):Prop where
  up:as.Pairwise (· < ·)
  lo:∀ a ∈ as,lo < a
  pr:∀ (j:Nat) (a:Addr),as[j]? = some a→∃ x y,xs[j]? = some x∧ys[j]? = some y∧IsPair h a x y
theorem loop {S n : Nat} {R : Result → Shared → Prop} (hh : A.handled = none) (D : ZipApart z TI TO i1 i2 l1 l2) (O : Off z TI TO i1 i2 l1 l2 S) (hn : min xs.size ys.size = n) (hn2 : n ≤ 100000) (res : Value) (lo : Addr) (hlo : z ≤ lo ∧ TO ≤ lo ∧ i1 ≤ lo ∧ i2 ≤ lo ∧ S ≤ lo) {h₀ : Heap}
    (hR:∀ h' tk acc c as,(∀ b o,b≠S→b≠z→b≠TO→b≠i1→b≠i2→h₀.get? b=some o→h'.get? b=some o)→h'.get? S=some { cls:=.type "list",dict:=none,data:=.seq acc c,slots:=#[] }→acc.toList=as.map Value.ref→as.length=n→Made h' lo xs ys as→R (.ok (.ret res)) { s with heap:=h',toks:=tk }) :
    ∀ (m i : Nat) (h : Heap) (tk c : Nat) (acc : Array Value) (as : List Addr), n - i = m → i ≤ n → ZS h z TI TO i1 i2 l1 l2 S xs ys i → (∀ b o, b ≠ S → b ≠ z → b ≠ TO → b ≠ i1 → b ≠ i2 → h₀.get? b = some o → h.get? b = some o) →
      h.get? S=some { cls:=.type "list",dict:=none,data:=.seq acc c,slots:=#[] }→acc.toList=as.map Value.ref→as.length=i→Made h lo xs ys as→lo < h.objs.size →
      codeAny (model prog w) A (.builtin "list.extend.loop" ⟨[.ref S,.ref z,res],[]⟩) R { s with heap:=h,toks:=tk }:=by
  intro m
  induction m with
  | zero =>
    intro i h tk c acc as hm hi st kp hS hacc hal hM hlh
    have ei:i=n:=by omega
    subst ei
    refine codeAny_builtin PySem.F.entry_extend_loop ?_
    rw [Around.under_plainId PySem.F.plain_extend_loop _]
    show wpAny _ A.in1 (pyNext (.ref z) >>= _) _ _ _
    have hend:xs[i]? = none∨ys[i]? = none:=by
      by_cases q:xs.size≤i
      · exact .inl (Array.getElem?_eq_none q)
      · exact .inr (Array.getElem?_eq_none (by omega))
    refine wpAny_bind (ZS.done (s:={ s with heap:=h,toks:=tk }) (A:=A.in1) hh D st hend fun h' he=>?_)
    refine wpAny_pure (hR h' tk acc c as (fun b o b1 b2 b3 b4 b5 e=>he b o b2 b3 b4 b5 (kp b o b1 b2 b3 b4 b5 e)) (he S _ (Ne.symm O.z) (Ne.symm O.to) (Ne.symm O.i1) (Ne.symm O.i2) hS) hacc hal ⟨hM.up,hM.lo,fun j a hj=>?_⟩)
    obtain ⟨x,y,q1,q2,q3⟩:=hM.pr j a hj
    have far:∀ {b:Addr},b≤lo→a≠b:=fun hb=>Nat.ne_of_gt (Nat.lt_of_le_of_lt hb (hM.lo a (List.mem_of_getElem? hj)))
    exact ⟨x,y,q1,q2,he a _ (far hlo.1) (far hlo.2.1) (far hlo.2.2.1) (far hlo.2.2.2.1) q3⟩
  | succ m ih =>
    intro i h tk c acc as hm hi st kp hS hacc hal hM hlh
    have hlt:i < n:=by omega
    obtain ⟨x,hx⟩:∃ x,xs[i]? = some x:=⟨_,Array.getElem?_eq_getElem (by omega)⟩
    obtain ⟨y,hy⟩:∃ y,ys[i]? = some y:=⟨_,Array.getElem?_eq_getElem (by omega)⟩
    refine codeAny_builtin PySem.F.entry_extend_loop ?_
    rw [Around.under_plainId PySem.F.plain_extend_loop _]
    show wpAny _ A.in1 (pyNext (.ref z) >>= _) _ _ _
    refine wpAny_bind (ZS.item (s:={ s with heap:=h,toks:=tk }) (A:=A.in1) D st (Heap.lt_size hS) hx hy fun h' st' hp kk=>?_)
    have hS':=kk S _ (Ne.symm O.z) (Ne.symm O.to) (Ne.symm O.i1) (Ne.symm O.i2) hS
    have hsz:acc.size=i:=by rw [← Array.length_toList,hacc,List.length_map,hal]
    show wpAny _ A.in1 (updateSeq S (·.push (Value.ref h.objs.size)) >>= _) _ _ _
    refine wpAny_bind (wpAny_updateSeq hS' rfl (wpAny_pure ⟨plainId_quiet PySem.F.plain_extend_loop _,?_⟩) (by rw [hsz]; exact L2.small_le (m:=100000) (by omega)) (by rw [Array.size_push,hsz]; exact Nat.le_succ_of_le (L2.small_le (m:=100000) (by omega))))
    have oth:∀ b o,b≠S→h'.get? b=some o→(h'.update S (Obj.mapSeq (·.push (Value.ref h.objs.size)))).get? b=some o:=fun b o hb e=>(Heap.get?_update_other _ _ (Ne.symm hb)).trans e
    have hnS:h.objs.size≠S:=Nat.ne_of_gt (Heap.lt_size hS)
    refine ih (i+1) _ tk _ (acc.push (Value.ref h.objs.size)) (as ++ [h.objs.size]) (by omega) hlt (st'.keep O oth) (fun b o b1 b2 b3 b4 b5 e=>oth b o b1 (kk b o b2 b3 b4 b5 (kp b o b1 b2 b3 b4 b5 e))) (Heap.get?_update_self _ hS' rfl) (by rw [Array.toList_push,hacc,List.map_append]; rfl) (by rw [List.length_append,hal]; rfl) ⟨?_,fun a ha=>?_,fun j a hj=>?_⟩ ?_
    · refine List.pairwise_append.mpr ⟨hM.up,List.pairwise_singleton _ _,fun a ha b hb=>?_⟩
      rw [List.mem_singleton.mp hb]
      obtain ⟨j,hj⟩:=List.mem_iff_getElem?.mp ha
      obtain ⟨_,_,_,_,q⟩:=hM.pr j a hj
      exact Heap.lt_size q
    · rcases List.mem_append.mp ha with q | q
      · exact hM.lo a q
      · rw [List.mem_singleton.mp q]; exact hlh
    · by_cases q:j < as.length
      · rw [List.getElem?_append_left q] at hj
        obtain ⟨x',y',q1,q2,q3⟩:=hM.pr j a hj
        have far:∀ {b:Addr},b≤lo→a≠b:=fun hb=>Nat.ne_of_gt (Nat.lt_of_le_of_lt hb (hM.lo a (List.mem_of_getElem? hj)))
        exact ⟨x',y',q1,q2,oth a _ (far hlo.2.2.2.2) (kk a _ (far hlo.1) (far hlo.2.1) (far hlo.2.2.1) (far hlo.2.2.2.1) q3)⟩
      · rw [List.getElem?_append_right (by omega)] at hj
        have ej:j - as.length=0:=by
          by_cases w:j - as.length=0
          · exact w
          · rw [List.getElem?_eq_none (by simp; omega)] at hj; cases hj
        rw [ej] at hj
        have ea:h.objs.size=a:=by simpa using hj
        have ej':j=i:=by omega
        subst ea ej'
        exact ⟨x,y,hx,hy,oth _ _ hnS hp⟩
    · rw [Heap.size_update]
      exact Nat.lt_of_lt_of_le hlh (Nat.le_of_lt (Heap.lt_size hp))
theorem no_len:typeLookup (.type "zip") "__len__" = pure none:=by rw [typeLookup_type,builtinLookup_eq_fast]; kernel_rfl
theorem no_hint:typeLookup (.type "zip") "__length_hint__" = pure none:=by rw [typeLookup_type,builtinLookup_eq_fast]; kernel_rfl
theorem hint {Q:Bool→Shared→Prop} (ty:s.TypeIs (.ref z) "zip") (h:Q true s):wpAny (model prog w) A (Builtin.List.listLengthHint (.ref z)) Q E s:=by
  unfold Builtin.List.listLengthHint
  refine wpAny_bind (wpAny_specialOf ty no_len ?_)
  refine wpAny_bind (wpAny_specialOf ty no_hint ?_)
  exact wpAny_pure h
theorem extend {S c₀ n:Nat} {R:Result→Shared→Prop} {va vb:Value} (hh:A.handled=none) (D:ZipApart z TI TO i1 i2 l1 l2) (O:Off z TI TO i1 i2 l1 l2 S) (hn:min xs.size ys.size=n) (hn2:n≤100000) (res:Value) (hz:IsZip s.heap z TI TO .none) (hTO:IsPair s.heap TO va vb)
    (st:ZS s.heap z TI TO i1 i2 l1 l2 S xs ys 0) (hS:s.heap.get? S=some { cls:=.type "list",data:=.seq #[] c₀ })
    (hR:∀ h' tk acc c as,(∀ b o,b≠S→b≠z→b≠TO→b≠i1→b≠i2→s.heap.get? b=some o→h'.get? b=some o)→h'.get? S=some { cls:=.type "list",dict:=none,data:=.seq acc c,slots:=#[] }→acc.toList=as.map Value.ref→as.length=n→Made h' (s.heap.objs.size - 1) xs ys as→R (.ok (.ret res)) { s with heap:=h',toks:=tk }) :
    wpAny (model prog w) A.in1 (Builtin.List.listExtendWith (.ref S) (.ref z) res) (fun fin s'=>match fin with | .done f=>R (.ok f) s' | .again c'=>c'.quiet=true∧codeAny (model prog w) A c' R s') (fun e s'=>R (.error e) s') s:=by
  have ty:s.TypeIs (.ref z) "zip":=⟨_,hz,rfl⟩
  have lts:∀ {b:Addr} {o:Obj},s.heap.get? b=some o→b≤s.heap.objs.size - 1:=fun e=>Nat.le_sub_one_of_lt (Heap.lt_size e)
  have lt1:i1≤s.heap.objs.size - 1:=by obtain ⟨_,e,_⟩:=st.a1; exact lts e
  have lt2:i2≤s.heap.objs.size - 1:=by obtain ⟨_,e,_⟩:=st.a2; exact lts e
  have pos:0 < s.heap.objs.size:=Nat.lt_of_le_of_lt (Nat.zero_le _) (Heap.lt_size hz)
  have key:∀ (h:Heap) (c₁ tk:Nat),h.objs.size=s.heap.objs.size→(∀ b o,b≠S→s.heap.get? b=some o→h.get? b=some o)→h.get? S=some { cls:=.type "list",data:=.seq #[] c₁ } →
      codeAny (model prog w) A (.builtin "list.extend.loop" ⟨[.ref S,.ref z,res],[]⟩) R { s with heap:=h,toks:=tk }:=fun h c₁ tk hsz kp hS₁ =>
    loop (h₀:=s.heap) hh D O hn hn2 res (s.heap.objs.size - 1) ⟨lts hz,lts hTO,lt1,lt2,lts hS⟩ hR n 0 h tk c₁ #[] [] rfl (Nat.zero_le _) (st.keep O kp) (fun b o b1 _ _ _ _ e=>kp b o b1 e) hS₁ rfl rfl ⟨List.Pairwise.nil,(fun a ha=>nomatch ha),fun j a hj=>by simp at hj⟩ (by rw [hsz]; exact Nat.sub_lt pos (by decide))
  unfold Builtin.List.listExtendWith
  refine wpAny_bind (wpAny_typeOf (T:="zip") ty ?_)
  have e1:Builtin.List.listSameRef (.ref S) (.ref z)=false:=by simp [Builtin.List.listSameRef,Ne.symm O.z]
  have e2:(Value.type "zip" == Value.type "list")=false:=by decide
  have e3:(Value.type "zip" == Value.type "tuple")=false:=by decide
  simp only [e1,e2,e3,Bool.or_false,Bool.false_eq_true,if_false]
  refine wpAny_bind (wpAny_pyIter_zip hz (wpAny_bind (wpAny_holding (hint ty ?_))))
  refine wpAny_ite_split (fun _=>wpAny_bind (wpAny_rule (wpAny_bind ?_))) (fun _=>wpAny_pure ⟨plainId_quiet PySem.F.plain_extend_loop _,key _ c₀ _ rfl (fun b o _ e=>e) hS⟩)
  show wpAny _ _ (updateSeq S (·.push .none) >>= fun _=>updateSeq S (·.pop)) _ _ _
  have g₂:=Heap.get?_update_self (Obj.mapSeq (·.push Value.none)) hS rfl
  have g₃:=Heap.get?_update_self (Obj.mapSeq (·.pop)) g₂ rfl
  refine wpAny_bind (wpAny_updateSeq hS rfl (wpAny_updateSeq (hz:=by seq_fits) g₂ rfl (wpAny_pure ⟨plainId_quiet PySem.F.plain_extend_loop _,key _ _ _ ?_ (fun b o hb e=>?_) g₃⟩)))
  · rw [Heap.size_update,Heap.size_update]
  · exact (Heap.get?_update_other _ _ (Ne.symm hb)).trans ((Heap.get?_update_other _ _ (Ne.symm hb)).trans e)
theorem call_list {n:Nat} {Q:Value→Shared→Prop} {va vb:Value} (hh:A.handled=none) (D:ZipApart z TI TO i1 i2 l1 l2) (hn:min xs.size ys.size=n) (hn2:n≤100000) (hz:IsZip s.heap z TI TO .none) (hTO:IsPair s.heap TO va vb) (hTI:IsPair s.heap TI (.ref i1) (.ref i2))
    (a1:s.heap.IsListIter i1 l1 0) (a2:s.heap.IsListIter i2 l2 0) (b1:s.heap.IsList l1 xs) (b2:s.heap.IsList l2 ys)
    (hQ:∀ h' tk acc c as,(∀ b o,b≠z→b≠TO→b≠i1→b≠i2→s.heap.get? b=some o→h'.get? b=some o)→h'.get? s.heap.objs.size=some { cls:=.type "list",dict:=none,data:=.seq acc c,slots:=#[] }→acc.toList=as.map Value.ref→as.length=n→Made h' s.heap.objs.size xs ys as→Q (.ref s.heap.objs.size) { s with heap:=h',toks:=tk }) :
    wpAny (model prog w) A (call (.type "list") [.ref z]) Q E s:=by
  refine callType_codes (Q₁:=fun obj s₁=>obj = .ref s.heap.objs.size∧s₁ = { s with heap:=s.heap.push { cls:=.type "list",data:=.seq #[] } }) PySem.F.called_list (PySem.F.typeCall_list_1 _) PySem.F.entry_list_init (code_list_new _ ⟨rfl,rfl⟩) ?_
  rintro obj s₁ ⟨rfl,rfl⟩
  have hS:(s.heap.push { cls:=.type "list",data:=.seq #[] }).get? s.heap.objs.size=some { cls:=.type "list",data:=.seq #[] }:=Heap.get?_push_size _ rfl
  refine ⟨⟨_,hS,rfl⟩,PySem.F.args_list_init_2 _ _,?_⟩
  have ne:∀ {b:Addr} {o:Obj},s.heap.get? b=some o→b≠s.heap.objs.size:=fun e=>Nat.ne_of_lt (Heap.lt_size e)
  have O:Off z TI TO i1 i2 l1 l2 s.heap.objs.size:=⟨ne hz,ne hTI,ne hTO,by obtain ⟨_,e,_⟩:=a1; exact ne e,by obtain ⟨_,e,_⟩:=a2; exact ne e,by obtain ⟨_,e,_⟩:=b1; exact ne e,by obtain ⟨_,e,_⟩:=b2; exact ne e⟩
  show wpAny _ _ (do let old ← Builtin.List.listItems (.ref s.heap.objs.size); Builtin.List.listUpdate (.ref s.heap.objs.size) (fun _=>#[]); letGo old.toList.reverse; Builtin.List.listExtendWith (.ref s.heap.objs.size) (.ref z) .none) _ _ _
  refine wpAny_bind (listItems_at hS rfl (wpAny_bind (listUpdate_at hS rfl (wpAny_bind (wpAny_letGo ?_)) (Nat.zero_le _) (Nat.zero_le _))))
  have g₂:=Heap.get?_update_self (Obj.mapSeq (fun _=>(#[]:Array Value))) hS rfl
  have kp:∀ b o,s.heap.get? b=some o→((s.heap.push { cls:=.type "list",data:=.seq #[] }).update s.heap.objs.size (Obj.mapSeq (fun _=>(#[]:Array Value)))).get? b=some o:=fun b o e=>(Heap.get?_update_other _ _ (Ne.symm (ne e))).trans (Heap.get?_push_of_some _ e)
  have sz:((s.heap.push { cls:=.type "list",data:=.seq #[] }).update s.heap.objs.size (Obj.mapSeq (fun _=>(#[]:Array Value)))).objs.size - 1=s.heap.objs.size:=by rw [Heap.size_update,Heap.size_push]; rfl
  refine extend (s:={ s with heap:=(s.heap.push { cls:=.type "list",data:=.seq #[] }).update s.heap.objs.size (Obj.mapSeq (fun _=>(#[]:Array Value))) }) (A:=A.in1) hh D O hn hn2 .none (kp _ _ hz) (kp _ _ hTO) ⟨.inl ⟨rfl,kp _ _ hz,_,_,kp _ _ hTO⟩,kp _ _ hTI,a1.at fun o e=>kp _ o e,a2.at fun o e=>kp _ o e,b1.at fun o e=>kp _ o e,b2.at fun o e=>kp _ o e⟩ g₂ fun h' tk acc c as k1 k2 k3 k4 k5=>?_
  have k5':Made h' s.heap.objs.size xs ys as:=sz ▸ k5
  exact ⟨rfl,hQ h' tk acc c as (fun b o c1 c2 c3 c4 e=>k1 b o (ne e) c1 c2 c3 c4 (kp b o e)) k2 k3 k4 k5'⟩
end
end Zl
namespace L2
open PySem PySem.Spec PyProof.Rows PySem.W
section
variable {X:Cx} {pins:List (Addr × Obj)} {σ:St} {H H':Hp} {s:Shared}
theorem Inv.grow {h':Heap} {t':Nat} (I:Inv X pins σ H s) (k:∀ b u,s.heap.get? b=some u→h'.get? b=some u) (sub:Same H H') (new:∀ b,b < s.heap.objs.size→H b=none→H' b=none) (ok:HOk X.prog X.w H' h'):Inv X pins σ H' { s with heap:=h',toks:=t' } :=
  I.un ⟨fun b o e _ _ _=>k b o e,fun b o e _ _ _=>⟨o.slots,k b o e⟩,fun b o e n _=>new b (Heap.lt_size e) n,fun b o e _=>⟨o,k b o e⟩,fun b _ e=>sub _ _ e,fun b _ _ e=>sub _ _ e,fun b ps e=>⟨#[],by rw [sub _ _ e]; simp⟩⟩ ok
end
def updZ (H:Hp) (zs:List Zt):Hp:=fun b=>match zs.find? (fun z=>z.2.2 == b) with | some z=>some (.tup [.int z.1,.int z.2.1]) | none=>H b
theorem updZ_old {H:Hp} {zs:List Zt} {b:Addr} (h:∀ z ∈ zs,z.2.2≠b):updZ H zs b=H b:=by
  unfold updZ
  rw [List.find?_eq_none.mpr fun z hz=>by simpa using h z hz]
theorem updZ_new {H : Hp} : ∀ {zs : List Zt} {z : Zt}, (zs.map fun z => z.2.2).Nodup → z ∈ zs → updZ H zs z.2.2 = some (.tup [.int z.1, .int z.2.1])
  | y :: zs, z, hn, hz => by
    unfold updZ
    rw [List.map_cons,List.nodup_cons] at hn
    rcases List.mem_cons.mp hz with e | hz
    · subst e
      rw [List.find?_cons_of_pos (by simp)]
    · have hne:¬ (y.2.2 == z.2.2)=true:=fun q=>hn.1 (by
        have e:y.2.2=z.2.2:=by simpa using q
        rw [e]; exact List.mem_map_of_mem hz)
      rw [List.find?_cons_of_neg (p:=fun w:Zt=>w.2.2 == z.2.2) hne]
      exact updZ_new hn.2 hz
def tZipL (K:PySem.W.Frag) (t:TA):TE:=fun σ H Q=>t σ H fun vs H1=>∃ (a b:Addr) (ns ms:List Int),vs=[.ref a,.ref b]∧SqL K H1 a (ns.map V.int)∧SqL K H1 b (ms.map V.int)∧ns.length≤100000 ∧
  ∀ (l:Addr) (zs:List Zt) (H2:Hp),Same H1 H2→H1 l=none→H2 l=some (.lst (zs.map refZ))→(∀ z ∈ zs,PairAt H2 z)→zs.map zP=ns.zip ms→Q (.ref l) H2
theorem ints_at:∀ {vs:List Value} {ns:List Int} {j:Nat} {v:Value},IntsAre vs ns→vs[j]? = some v→∃ i t,ns[j]? = some i∧v = .int i t
  | _,_,0,v,.cons n t r,e=>by simp at e; exact ⟨n,t,rfl,e.symm⟩
  | _,_,j+1,v,.cons n t r,e=>ints_at (j:=j) r (by simpa using e)
  | _,_,j,v,.nil,e=>by simp at e
theorem pairs_of {h:Heap} {lo:Addr} {xs ys:List Value} {ns ms:List Int} (hx:IntsAre xs ns) (hy:IntsAre ys ms):∀ {as:List Addr},(∀ (j:Nat) (a:Addr),as[j]? = some a→∃ x y,xs.toArray[j]? = some x∧ys.toArray[j]? = some y∧IsPair h a x y)→as.length=min ns.length ms.length →
    ∃ zs:List Zt,zs.map (fun z=>z.2.2)=as∧zs.map zP=ns.zip ms∧∀ z ∈ zs,∃ t u,IsPair h z.2.2 (.int z.1 t) (.int z.2.1 u):=by
  intro as hp hl
  have hlx:=hx.length
  have hly:=hy.length
  refine ⟨(ns.zip ms).zipWith (fun t a=>(t.1,t.2,a)) as,?_,?_,fun z hz=>?_⟩
  · apply List.ext_getElem?
    intro j
    rw [List.getElem?_map,List.getElem?_zipWith]
    by_cases hj:j < as.length
    · rw [List.getElem?_eq_getElem hj,List.getElem?_eq_getElem (by rw [List.length_zip]; omega)]; rfl
    · rw [List.getElem?_eq_none (Nat.le_of_not_lt hj)]
      cases (ns.zip ms)[j]? <;> rfl
  · apply List.ext_getElem?
    intro j
    rw [List.getElem?_map,List.getElem?_zipWith]
    by_cases hj:j < as.length
    · rw [List.getElem?_eq_getElem hj,List.getElem?_eq_getElem (by rw [List.length_zip]; omega)]; rfl
    · rw [List.getElem?_eq_none (Nat.le_of_not_lt hj),List.getElem?_eq_none (by rw [List.length_zip]; omega)]; rfl
  · obtain ⟨j,hj⟩:=List.mem_iff_getElem?.mp hz
    rw [List.getElem?_zipWith] at hj
    cases ea:as[j]? with
    | none =>
      rw [ea] at hj
      cases ew:(ns.zip ms)[j]? with
      | none=>rw [ew] at hj; cases hj
      | some w=>rw [ew] at hj; cases hj
    | some a =>
      obtain ⟨x,y,q1,q2,q3⟩:=hp j a ea
      obtain ⟨i,t,e1,rfl⟩:=ints_at (j:=j) hx (by simpa using q1)
      obtain ⟨i',u,e2,rfl⟩:=ints_at (j:=j) hy (by simpa using q2)
      have ez:(ns.zip ms)[j]? = some (i,i'):=by rw [List.getElem?_zip_eq_some]; exact ⟨e1,e2⟩
      rw [ea,ez] at hj
      have:z=(i,i',a):=(Option.some.inj hj).symm
      subst this
      exact ⟨t,u,q3⟩
section
variable {X:Cx} {x y:Expr} {t:TA} {p1 p2 q1 q2:Pos}
theorem pe_zipL (hc : X.calm = true) (hgl : Gl X "list") (hml : X.mg "list" = none) (hgz : Gl X "zip") (hmz : X.mg "zip" = none) (ha : PA X [x, y] t)
    (he:starEach [.Call (.Name "zip" p1) [x,y] [] p2] X.env=[(false,eval (.Call (.Name "zip" p1) [x,y] [] p2) X.env)]:=by rfl) (he2:starEach [x,y] X.env=(false,eval x X.env) :: starEach [y] X.env:=by rfl) (hpl:(backTo p2 (starEach [y] X.env)).any (·.1)=false:=by rfl) :
    PE X (.Call (.Name "list" q1) [.Call (.Name "zip" p1) [x,y] [] p2] [] q2) (tZipL X.K t):=by
  intro pins s σ H Q I h
  refine wpAny_Call_Name_kw (ld_blt I hgl hml BootT.list (PyProof.Rows.callWith_type1 ?_ he rfl))
  rw [he]
  show wpAny _ _ (spliced ((false,eval (.Call (.Name "zip" p1) [x,y] [] p2) X.env) :: backTo q2 (starEach [] X.env))) _ _ s
  refine Calls.spliced_cons (wpAny_Call_Name_kw (ld_blt I hgz hmz BootT.zip (PyProof.Rows.callWith_type1 (thn (ha p2 pins s σ H _ I h) fun us s1 ⟨vs,H1,I1,r1,q⟩=>?_) he2 hpl)))
  obtain ⟨a,b,ns,ms,rfl,hA,hB,hle,k⟩:=q
  obtain ⟨u,v,rfl,ru,rv⟩:=vals2 r1
  cases ru
  cases rv
  obtain ⟨xs,vx,px,_⟩:=I1.list hA
  obtain ⟨ys,vy,py,_⟩:=I1.list hB
  have ix:=intsAre_of vx
  have iy:=intsAre_of vy
  have lx:=ix.length
  have ly:=iy.length
  have al:a < s1.heap.objs.size:=by obtain ⟨_,e,_⟩:=px.isList; exact Heap.lt_size e
  have bl:b < s1.heap.objs.size:=by obtain ⟨_,e,_⟩:=py.isList; exact Heap.lt_size e
  refine call_zip_2 px.isList py.isList fun h' hz hTI hTO j1 j2 hsz hk=>Calls.spliced_nil ?_
  refine Zl.call_list (s:={ s1 with heap:=h' }) (n:=min ns.length ms.length) (I1.ok.hd hc) (zipApart_new al bl) (by rw [List.size_toArray,List.size_toArray,lx,ly]) (by omega) hz hTO hTI j1 j2 (px.isList.at fun o e=>hk _ o e) (py.isList.at fun o e=>hk _ o e) fun h2 tk acc c as k1 k2 k3 k4 k5=>?_
  obtain ⟨zs,e1,e2,e3⟩:=pairs_of (lo:=0) ix iy k5.pr k4
  have old:∀ b o,s1.heap.get? b=some o→h2.get? b=some o:=fun b o e=>by
    have hb:=Heap.lt_size e
    refine k1 b o (Nat.ne_of_lt (Nat.lt_of_lt_of_le hb (Nat.le_add_right _ _))) (Nat.ne_of_lt (Nat.lt_of_lt_of_le hb (Nat.le_add_right _ _))) (Nat.ne_of_lt hb) (Nat.ne_of_lt (Nat.lt_of_lt_of_le hb (Nat.le_add_right _ _))) (hk b o e)
  have up:∀ z ∈ zs,h'.objs.size < z.2.2:=fun z hz=>k5.lo _ (by rw [← e1]; exact List.mem_map_of_mem hz)
  have hs5:h'.objs.size=s1.heap.objs.size+5:=hsz
  have nd:(zs.map fun z=>z.2.2).Nodup:=by rw [e1]; exact k5.up.imp fun q=>Nat.ne_of_lt q
  have far:∀ z ∈ zs,∀ b:Addr,b < s1.heap.objs.size→z.2.2≠b:=fun z hz b hb=>Nat.ne_of_gt (Nat.lt_trans (Nat.lt_of_lt_of_le hb (by rw [hs5]; exact Nat.le_add_right _ _)) (up z hz))
  have lf:∀ b:Addr,b < s1.heap.objs.size→b≠h'.objs.size:=fun b hb=>Nat.ne_of_lt (Nat.lt_of_lt_of_le hb (by rw [hs5]; exact Nat.le_add_right _ _))
  have hold:∀ b:Addr,b < s1.heap.objs.size→upd (updZ H1 zs) h'.objs.size (.lst (zs.map refZ)) b=H1 b:=fun b hb=>by rw [upd_ne (lf b hb),updZ_old fun z hz=>far z hz b hb]
  have S:Same H1 (upd (updZ H1 zs) h'.objs.size (.lst (zs.map refZ))):=fun b o e=>by rw [hold b (I1.hok.lt e)]; exact e
  have hpair:∀ z ∈ zs,PairAt (upd (updZ H1 zs) h'.objs.size (.lst (zs.map refZ))) z:=fun z hz=>by
    show upd (updZ H1 zs) h'.objs.size (.lst (zs.map refZ)) z.2.2=_
    rw [upd_ne (Nat.ne_of_gt (up z hz))]
    exact updZ_new nd hz
  have hlz:zs.length≤100000:=by
    have:=congrArg List.length e2
    rw [List.length_map,List.length_zip] at this
    omega
  have I2 : Inv X pins σ (upd (updZ H1 zs) h'.objs.size (.lst (zs.map refZ))) { s1 with heap := h2, toks := tk } := I1.grow old S (fun b hb n => by rw [hold b hb]; exact n) fun b o e => by
    by_cases hb:b < s1.heap.objs.size
    · rw [hold b hb] at e
      exact (I1.hok b o e).stay (fun c v _ q=>old c v q) (fun c q=>S _ _ q) fun c _ q=>S _ _ q
    · by_cases hl:b=h'.objs.size
      · subst hl
        rw [upd_same] at e
        cases e
        refine ⟨by rw [List.length_map]; exact small_le hlz,acc.toList,c,?_,by rw [Array.toArray_toList]; exact k2⟩
        rw [k3,← e1,List.map_map]
        exact vals_refs zs
      · rw [upd_ne hl] at e
        unfold updZ at e
        cases w:zs.find? (fun z=>z.2.2 == b) with
        | none =>
          rw [w] at e
          have e:H1 b=some o:=e
          rw [I1.hok.fresh (Nat.le_of_not_lt hb)] at e
          cases e
        | some z =>
          rw [w] at e
          cases e
          have hz':=List.mem_of_find?_eq_some w
          have eb:z.2.2=b:=by simpa using List.find?_some w
          subst eb
          obtain ⟨t,u,hp⟩:=e3 z hz'
          exact ⟨small_le (m:=2) (Nat.le_refl 2),[.int z.1 t,.int z.2.1 u],.cons ⟨t,rfl⟩ (.cons ⟨u,rfl⟩ .nil),⟨_,hp,rfl,_,rfl⟩⟩
  exact ⟨.ref h'.objs.size,_,I2,rfl,k _ zs _ S (I1.hok.fresh (by rw [hs5]; exact Nat.le_add_right _ _)) upd_same hpair e2⟩
theorem x_zipL {K:PySem.W.Frag} {t:TA} {σ:St} {H:Hp} {Q:VK} (h:t σ H fun vs H1=>∃ (a b:Addr) (ns ms:List Int),vs=[.ref a,.ref b]∧SqL K H1 a (ns.map V.int)∧SqL K H1 b (ms.map V.int)∧ns.length≤100000 ∧
  ∀ (l:Addr) (zs:List Zt) (H2:Hp),Same H1 H2→H1 l=none→H2 l=some (.lst (zs.map refZ))→(∀ z ∈ zs,PairAt H2 z)→zs.map zP=ns.zip ms→Q (.ref l) H2):tZipL K t σ H Q:=h
end
end L2
namespace L2
open PySem PySem.Spec PyProof.Rows PySem.W
def RawD (h:Heap) (d:Addr) (ks:List Value) (ep:Nat):Prop:=∃ o es,h.get? d=some o∧o.ExactDict∧o.data = .dict es ep∧es.toList.map (·.key)=ks
theorem RawD.at {h h':Heap} {d:Addr} {ks:List Value} {ep:Nat} (x:RawD h d ks ep) (k:∀ o,h.get? d=some o→h'.get? d=some o):RawD h' d ks ep :=
  let ⟨o,es,e,r⟩:=x; ⟨o,es,k o e,r⟩
theorem RawD.lt {h:Heap} {d:Addr} {ks:List Value} {ep:Nat} (x:RawD h d ks ep):d < h.objs.size:=let ⟨_,_,e,_⟩:=x; Heap.lt_size e
section
variable {prog:Program} {w:World} {A:Around} {E:Value→Shared→Prop} {s:Shared} {d it:Addr} {ks:List Value} {ep i:Nat}
theorem RawD.typeIs (x:RawD s.heap d ks ep):s.TypeIs (.ref d) "dict":=let ⟨o,_,e,c,_⟩:=x; ⟨o,e,c.1⟩
theorem raw_iter {Q:Value→Shared→Prop} (hd:(d == sysModules)=false) (x:RawD s.heap d ks ep)
    (q:Q (.ref s.heap.objs.size) { s with heap:=s.heap.push { cls:=.type "dict_keyiterator",data:=.fields #[.ref d,.int 0 0,.int ks.length 0,.int ep 0] } }):wpAny (model prog w) A (pyIter (.ref d)) Q E s:=by
  have hT:=x.typeIs
  obtain ⟨o,es,e,c,da,hk⟩:=x
  have hs:es.size=ks.length:=by rw [← hk,List.length_map,Array.length_toList]
  refine wpAny_pyIter_slot hT F.slot_dict_iter (wpAny_call_entry F.slot_dict_iter hT F.entry_dict_iter ?_ (F.args_dict_iter_1 _))
  unfold Builtin.«dict.__iter__» Builtin.Dict.dictSlotNone
  refine wpAny_bind (wpAny_bind (wpAny_notOrdered_dict hT ?_))
  show wpAny _ _ (pure (Value.ref d)) _ _ s
  refine wpAny_pure ?_
  show wpAny _ _ (Builtin.Dict.showsAll d >>= _) _ _ s
  unfold Builtin.Dict.showsAll
  rw [if_neg (by rw [hd]; exact Bool.false_ne_true)]
  refine wpAny_bind (wpAny_pure (wpAny_bind (wpAny_dictEntries e da (wpAny_bind (wpAny_dictEpoch e da ?_)))))
  refine wpAny_bind (wpAny_newObj_type (wpAny_pure ⟨_,rfl,"dict_keyiterator",_,⟨_,Heap.get?_push_size _ rfl,rfl⟩,F.slot_dict_keyiterator_next.lookup,?_⟩))
  simpa [rawInt,hs] using q
theorem raw_next {Q:Option Value→Shared→Prop} {v:Value} (t:s.heap.IsKeyIter it d i ks.length ep) (x:RawD s.heap d ks ep) (hv:ks[i]? = some v)
    (q:∀ h',h'.IsKeyIter it d (i+1) ks.length ep→Heap.SameBut it s.heap h'→Q (some v) { s with heap:=h' }):wpAny (model prog w) A (pyNext (.ref it)) Q E s:=by
  have tt:=t.typeIs
  obtain ⟨ob,g,gc,gd⟩:=id t
  obtain ⟨o,es,e,c,da,hk⟩:=x
  have hs:es.size=ks.length:=by rw [← hk,List.length_map,Array.length_toList]
  have hi:i < es.size:=by rw [hs]; exact (List.getElem?_eq_some_iff.mp hv).1
  have ev:es[i].key=v:=by
    rw [← hk,List.getElem?_map] at hv
    simpa [hi] using hv
  unfold pyNext
  refine wpAny_bind (wpAny_attempt (wpAny_callSpecial?_slot (name:=Str.ofString "__next__") tt F.slot_dict_keyiterator_next (wpAny_call_entry F.slot_dict_keyiterator_next tt F.entry_dict_keyiterator_next ?_ (F.args_dict_keyiterator_next_1 _))))
  refine wpAny_bind (wpAny_pure (wpAny_bind (wpAny_bind ?_)))
  first | refine wpAny_bind (wpAny_typeNameOfWhole_keyiter tt (wpAny_pure ?_)) | refine wpAny_bind (wpAny_typeNameOf_keyiter tt (wpAny_pure ?_))
  refine wpAny_bind (wpAny_fieldsOf g gd ?_)
  simp only [show Builtin.Dict_items.ownsTuple "dict_keyiterator" = false by decide,Bool.false_eq_true,if_false]
  show wpAny _ _ (if (Value.ref d == Value.none)=true then _ else _) _ _ s
  rw [if_neg (show ¬ ((Value.ref d == Value.none)=true) from Bool.false_ne_true)]
  refine wpAny_bind (wpAny_pure (wpAny_bind (wpAny_dictEntries e da ?_)))
  rw [if_neg (by rw [hs]; simp)]
  refine wpAny_bind (wpAny_pure (wpAny_bind (wpAny_dictEpoch e da ?_)))
  rw [if_neg (by simp)]
  refine wpAny_pure ?_
  simp only [show ¬ ((i:Int) < 0) from by omega,if_false,Int.toNat_natCast,Array.getElem?_eq_getElem hi]
  refine wpAny_bind ?_
  first | refine wpAny_bind (wpAny_typeNameOfWhole_keyiter tt (wpAny_pure ?_)) | refine wpAny_bind (wpAny_typeNameOf_keyiter tt (wpAny_pure ?_))
  refine wpAny_bind (wpAny_isOneOf_keyiter tt ?_)
  show wpAny _ _ (setField (.ref it) 1 (rawInt ((i:Int)+1)) >>= _) _ _ s
  refine wpAny_bind (wpAny_setField g gd (by simp) ?_)
  have t':(s.heap.update it (Obj.mapFields (·.setIfInBounds 1 (rawInt ((i:Int)+1))))).IsKeyIter it d (i+1) ks.length ep :=
    ⟨_,Heap.get?_update_self _ g (Obj.isFreed_of_fields (Obj.data_mapFields gd _)),(Obj.cls_mapFields ..).trans gc,by rw [Obj.data_mapFields gd]; simp [rawInt]⟩
  refine wpAny_bind (wpAny_holding ?_)
  refine wpAny_bind (wpAny_isOneOf_keyiter (s:={ s with heap:=s.heap.update it (Obj.mapFields (·.setIfInBounds 1 (rawInt ((i:Int)+1)))) }) t'.typeIs ?_)
  show wpAny _ _ (pure es[i].key) _ _ _
  rw [ev]
  exact wpAny_pure (wpAny_pure ⟨_,rfl,wpAny_pure (q _ t' (Heap.SameBut.update ..))⟩)
theorem raw_end {Q:Option Value→Shared→Prop} (hh:A.handled=none) (hi:ks.length≤i) (t:s.heap.IsKeyIter it d i ks.length ep) (x:RawD s.heap d ks ep) (q:∀ h',Heap.ExtBut it s.heap h'→Q none { s with heap:=h' }):wpAny (model prog w) A (pyNext (.ref it)) Q E s:=by
  have tt:=t.typeIs
  obtain ⟨ob,g,gc,gd⟩:=id t
  obtain ⟨o,es,e,c,da,hk⟩:=x
  have hs:es.size=ks.length:=by rw [← hk,List.length_map,Array.length_toList]
  unfold pyNext
  refine wpAny_bind (wpAny_attempt (wpAny_callSpecial?_slot (name:=Str.ofString "__next__") tt F.slot_dict_keyiterator_next (wpAny_call_entry F.slot_dict_keyiterator_next tt F.entry_dict_keyiterator_next ?_ (F.args_dict_keyiterator_next_1 _))))
  refine wpAny_bind (wpAny_pure (wpAny_bind (wpAny_bind ?_)))
  first | refine wpAny_bind (wpAny_typeNameOfWhole_keyiter tt (wpAny_pure ?_)) | refine wpAny_bind (wpAny_typeNameOf_keyiter tt (wpAny_pure ?_))
  refine wpAny_bind (wpAny_fieldsOf g gd ?_)
  simp only [show Builtin.Dict_items.ownsTuple "dict_keyiterator" = false by decide,Bool.false_eq_true,if_false]
  show wpAny _ _ (if (Value.ref d == Value.none)=true then _ else _) _ _ s
  rw [if_neg (show ¬ ((Value.ref d == Value.none)=true) from Bool.false_ne_true)]
  refine wpAny_bind (wpAny_pure (wpAny_bind (wpAny_dictEntries e da ?_)))
  rw [if_neg (by rw [hs]; simp)]
  refine wpAny_bind (wpAny_pure (wpAny_bind (wpAny_dictEpoch e da ?_)))
  rw [if_neg (by simp)]
  refine wpAny_pure ?_
  simp only [show ¬ ((i:Int) < 0) from by omega,if_false,Int.toNat_natCast,Array.getElem?_eq_none (Nat.le_trans (Nat.le_of_eq hs) hi)]
  refine wpAny_bind ?_
  first | refine wpAny_bind (wpAny_typeNameOfWhole_keyiter tt (wpAny_pure ?_)) | refine wpAny_bind (wpAny_typeNameOf_keyiter tt (wpAny_pure ?_))
  show wpAny _ _ (setField (.ref it) 0 .none >>= _) _ _ s
  refine wpAny_bind (wpAny_setField g gd (by simp) ?_)
  show wpAny _ _ (newExc (.type "StopIteration") [] >>= _) _ _ _
  refine wpAny_bind ?_
  simp only [newExc,newTuple]
  refine wpAny_bind (wpAny_newObj_type ?_ (by size_fits))
  refine wpAny_bind (m:=firstArgMember _ _) (wpAny_of_eq (a:=Value.none) (by first | rfl | (simp only [firstArgMember]; rfl)) ?_)
  refine wpAny_newObj_type ?_ (by size_fits)
  simp only [raiseNew]
  refine wpAny_bind (wpAny_handled ?_)
  rw [show A.in1.handled=none from hh]
  refine wpAny_bind (wpAny_pure (wpAny_throw ?_))
  refine wpAny_bind (wpAny_isInstance (T:="StopIteration") (b:=true) ⟨_,Heap.get?_push_size _ rfl,rfl⟩ isSubtype_stop ?_)
  exact wpAny_pure (q _ (((Heap.SameBut.update ..).extBut.push _).push _))
theorem raw_walks (hh:A.handled=none) (I d:Addr) (hne:d≠I) (ks:List Value) (ep:Nat):Walks prog w A I [I,d] [I] ks.length (fun i v=>ks[i]? = some v) (fun i h=>h.IsKeyIter I d i ks.length ep∧RawD h d ks ep) where
  sub:=fun b hb=>by simp at hb; simp [hb]
  frame:=fun _ _ _ st hk=>⟨st.1.at fun o e=>hk I (by simp) o e,st.2.at fun o e=>hk d (by simp) o e⟩
  item:=fun i s Q E hi st hQ=>by
    have hv:ks[i]? = some ks[i]:=List.getElem?_eq_getElem hi
    refine raw_next st.1 st.2 hv fun h' t' hs'=>hQ _ h' s.toks hv ⟨t',st.2.at fun o e=>hs'.extBut d o hne e⟩ fun b o hb e=>hs'.extBut b o (fun h=>hb (by simp [h])) e
  done:=fun s Q E st hQ=>raw_end hh (Nat.le_refl _) st.1 st.2 fun h' he=>hQ h' s.toks fun b o hb e=>he b o (fun h=>hb (by simp [h])) e
  self:=fun _ _ _ _ st hQ=>wpAny_pyIter_keyiter st.1 hQ
theorem raw_src (lo:(d == sysModules)=false):KdlSrc prog w "dict" d d ks.length (fun i v=>ks[i]? = some v) (fun h=>RawD h d ks ep) where
  type:=fun _ x=>x.typeIs
  there:=fun _ x=>⟨x.lt,x.lt⟩
  keep:=fun _ _ x hk=>x.at fun o e=>hk d (.inl rfl) o e
  notList:=by decide
  notTuple:=by decide
  hint:=fun _ _ _ _ x hq=>kdl_hint_dict x.typeIs hq
  iter:=fun _ _ hh x=>⟨_,_,(fun _ _ hq=>raw_iter lo x hq),raw_walks hh _ d (Nat.ne_of_lt x.lt) ks ep,⟨⟨_,Heap.get?_push_size _ rfl,rfl,rfl⟩,x.at fun o e=>Heap.get?_push_of_some _ e⟩⟩
theorem iadd_src {T:String} {r S:Addr} {n:Nat} {P:Nat→Value→Prop} {OK:Heap→Prop} {R:Result→Shared→Prop} (K:KdlSrc prog w T r d n P OK) (hh:A.handled=none) (ok:OK s.heap) (h1:S≠r) (h2:S≠d) (hn:n≤sizeLine) (g:s.heap.get? S=some { cls:=.type "list",data:=.seq #[] 0 })
    (q:∀ h' tk acc' c',(∀ b o,b≠S→s.heap.get? b=some o→h'.get? b=some o)→h'.get? S=some { cls:=.type "list",dict:=none,data:=.seq acc' c',slots:=#[] }→ItemsOf P acc' n→R (.ok (.ret (.ref S))) { s with heap:=h',toks:=tk }) :
    codeAny (model prog w) A (.builtin "list.__iadd__" ⟨[.ref S,.ref r],[]⟩) R s:=by
  refine codeAny_builtin F.entry_list_iadd ?_
  rw [Around.under_plainId F.plain_list_iadd _]
  exact kdl_extend K hh ok S h1 h2 (.ref S) 0 g q hn
theorem collect_src {T:String} {r:Addr} {n:Nat} {P:Nat→Value→Prop} {OK:Heap→Prop} {Q:List Value→Shared→Prop} (K:KdlSrc prog w T r d n P OK) (hh:A.handled=none) (ok:OK s.heap) (hn:n≤sizeLine)
    (q:∀ h' tk acc,(∀ b o,s.heap.get? b=some o→h'.get? b=some o)→ItemsOf P acc n→Q acc.toList { s with heap:=h',toks:=tk }):wpAny (model prog w) A (collect (.ref r)) Q E s:=by
  have th:=K.there _ ok
  unfold collect
  refine wpAny_bind (wpAny_runValue (codeAny_builtin F.entry_proto_collect ?_))
  rw [Around.under_plainId F.plain_proto_collect _]
  show wpAny _ A.in1 (newList [] >>= fun l=>again (.builtin "list.__iadd__" ⟨[l,.ref r],[]⟩)) _ _ s
  have g:(s.heap.push { cls:=.type "list",data:=.seq ([]:List Value).toArray }).get? s.heap.objs.size=some { cls:=.type "list",data:=.seq #[] 0 }:=Heap.get?_push_size _ rfl
  refine wpAny_bind (wpAny_newObj_type (wpAny_pure ⟨plainId_quiet F.plain_list_iadd _,iadd_src (s:={ s with heap:=s.heap.push { cls:=.type "list",data:=.seq ([]:List Value).toArray } }) K hh (K.keep _ _ ok fun b _ o e=>Heap.get?_push_of_some _ e) (Nat.ne_of_gt th.1) (Nat.ne_of_gt th.2) hn g fun h' tk acc' c' hk hS hacc=>?_⟩))
  show wpAny _ A (load s.heap.objs.size >>= _) _ _ { s with heap:=h',toks:=tk }
  refine wpAny_bind (wpAny_load hS (wpAny_pure (q h' tk acc' (fun b o e=>hk b o (Nat.ne_of_lt (Heap.lt_size e)) (Heap.get?_push_of_some _ e)) hacc)))
theorem items_eq {acc:Array Value} (h:ItemsOf (fun i v=>ks[i]? = some v) acc ks.length):acc.toList=ks:=by
  apply List.ext_getElem?
  intro j
  cases e:acc.toList[j]? with
  | some v=>exact (h.2 j v (by rw [← Array.getElem?_toList]; exact e)).symm
  | none =>
    have:ks.length≤j:=by have:=List.getElem?_eq_none_iff.mp e; rw [Array.length_toList,h.1] at this; exact this
    exact (List.getElem?_eq_none this).symm
theorem sorted_src {T:String} {r:Addr} {vs:List Value} {n:Nat} {P:Nat→Value→Prop} {OK:Heap→Prop} {h₀:Heap} {L:Addr} {m:Str→Option Value} {news:List (Addr × Obj)} {Q:Value→Shared→Prop} (K:KdlSrc prog w T r d n P OK) (hh:A.handled=none) (ok:OK s.heap)
    (hv:∀ acc,ItemsOf P acc n→acc.toList=vs) (hn:n=vs.length) (F:Fr h₀ L s.heap m) (N:News h₀ L s.heap news) (h2:2≤vs.length) (h64:vs.length < 64)
    (h:∀ D e1 h' tk,Fr h₀ L h' m→News h₀ L h' ((D,seqObj "list" #[] e1) :: news)→(∀ q ∈ news,q.1 < D) →
      wpAny (model prog w) A.in1.in1 (keyKind' vs.toArray) (fun κ s'=>(kas_sort vs.length).kasWp (kas_ask prog w A.in1.in1 κ vs) (fun p s''=>KasFin h₀ L m D e1 (p.toList.map fun i=>vs.getD i Value.none) (fun s3=>Q (.ref D) s3) s'') s') (fun _ _=>False) { s with heap:=h',toks:=tk }) :
    wpAny (model prog w) A (call (.builtin "sorted") [.ref r]) Q E s:=by
  have hz:vs.length≤sizeLine:=small_le (m:=64) (by omega)
  refine Calls.call_function_entry kind_sorted plain_sorted entry_sorted (args_sorted1 _) (wpAny_bind (m:=checkCount "sorted" 1 1 _) (wpAny_pure (wpAny_bind (collect_src K hh ok (by rw [hn]; exact hz) fun h1 tk acc keep hacc=>?_))))
  rw [hv acc hacc]
  refine wpAny_bind (wpAny_newList ?_ hz)
  have F1:=F.kept keep
  have N1:=N.grown keep
  have k2:∀ b o,h1.get? b=some o→(h1.push (seqObj "list" vs.toArray 0)).get? b=some o:=fun b o e=>Heap.get?_push_of_some _ e
  have g:(h1.push (seqObj "list" vs.toArray 0)).get? h1.objs.size=some (seqObj "list" vs.toArray 0):=Heap.get?_push_size _ rfl
  have hL:L < h1.objs.size:=F1.ns.lt
  show wpAny (model prog w) A.in1 (do let _ ← holding [Value.ref h1.objs.size] (call (.builtin "list.sort") [Value.ref h1.objs.size]); ret (Value.ref h1.objs.size)) _ _ { s with heap:=h1.push (seqObj "list" vs.toArray 0),toks:=tk }
  refine wpAny_bind (wpAny_holding (wpAny_call_entry slot_list_sort ⟨_,g,rfl⟩ entry_list_sort ?body (args_list_sort _)))
  case body =>
    refine kat_list_sort (s:={ s with heap:=h1.push (seqObj "list" vs.toArray 0),toks:=tk }) (F1.kept k2) (N1.grown k2) g (Nat.ne_of_gt hL) (Heap.get?_none_of_le (Nat.le_trans F1.above (Nat.le_of_lt hL)))
      (fun p hp=>Nat.ne_of_lt (Heap.lt_size (N1 p hp).1)) h2 h64 fun e1 h' F' N'=>?_
    refine wpAny_mono (h _ e1 h' tk F' N' fun q hq=>Heap.lt_size (N1 q hq).1) (fun κ s' hk=>?_) fun _ _ x=>x
    rw [kat_ask_eq rfl] at hk ⊢
    exact kas_wp_mono hk fun p s'' hk'=>hk'.mono fun s3 hq=>⟨_,rfl,wpAny_pure ⟨_,rfl,hq⟩⟩
theorem sorted_src1 {T:String} {r:Addr} {vs:List Value} {n:Nat} {P:Nat→Value→Prop} {OK:Heap→Prop} {h₀:Heap} {L:Addr} {m:Str→Option Value} {news:List (Addr × Obj)} {Q:Value→Shared→Prop} (K:KdlSrc prog w T r d n P OK) (hh:A.handled=none) (ok:OK s.heap)
    (hv:∀ acc,ItemsOf P acc n→acc.toList=vs) (hn:n=vs.length) (F:Fr h₀ L s.heap m) (N:News h₀ L s.heap news) (h2:vs.length < 2)
    (h:∀ D c h' tk,Fr h₀ L h' m→News h₀ L h' ((D,seqObj "list" vs.toArray c) :: news)→(∀ q ∈ news,q.1 < D)→Q (.ref D) { s with heap:=h',toks:=tk }) :
    wpAny (model prog w) A (call (.builtin "sorted") [.ref r]) Q E s:=by
  have hz:vs.length≤sizeLine:=small_le (m:=2) (by omega)
  refine Calls.call_function_entry kind_sorted plain_sorted entry_sorted (args_sorted1 _) (wpAny_bind (m:=checkCount "sorted" 1 1 _) (wpAny_pure (wpAny_bind (collect_src K hh ok (by rw [hn]; exact hz) fun h1 tk acc keep hacc=>?_))))
  rw [hv acc hacc]
  refine wpAny_bind (wpAny_newList ?_ hz)
  have F1:=F.kept keep
  have N1:=N.grown keep
  have hL:L < h1.objs.size:=F1.ns.lt
  have g:(h1.push (seqObj "list" vs.toArray 0)).get? h1.objs.size=some (seqObj "list" vs.toArray 0):=Heap.get?_push_size _ rfl
  show wpAny (model prog w) A.in1 (do let _ ← holding [Value.ref h1.objs.size] (call (.builtin "list.sort") [Value.ref h1.objs.size]); ret (Value.ref h1.objs.size)) _ _ { s with heap:=h1.push (seqObj "list" vs.toArray 0),toks:=tk }
  have k2:∀ b o,b≠h1.objs.size→s.heap.get? b=some o→(h1.push (seqObj "list" vs.toArray 0)).get? b=some o:=fun b o _ e=>Heap.get?_push_of_some _ (keep b o e)
  have hb:∀ b o,s.heap.get? b=some o→b≠h1.objs.size:=fun b o e=>Nat.ne_of_lt (Heap.lt_size (keep b o e))
  generalize hh2:h1.push (seqObj "list" vs.toArray 0)=hp at g k2
  refine wpAny_bind (wpAny_holding (wpAny_call_entry slot_list_sort ⟨_,g,rfl⟩ entry_list_sort ?_ (args_list_sort _)))
  rw [list_sort_plain]
  obtain ⟨c1,g2⟩:∃ c1,(hp.update h1.objs.size (Obj.mapSeq fun _=>#[])).get? h1.objs.size=some (seqObj "list" #[] c1):=⟨_,get?_update_seq g fun _=>#[]⟩
  refine wpAny_bind (listItems_at g rfl (wpAny_bind (listUpdate_at g rfl (wpAny_bind (seqEpoch_at g2 rfl (wpAny_bind (wpAny_newTuple (wpAny_bind (wpAny_newList (wpAny_holding ?_) (Nat.zero_le _))) hz)))) (by rw [List.size_toArray]; exact hz) (Nat.zero_le _))))
  have g6:(((hp.update h1.objs.size (Obj.mapSeq fun _=>#[])).push (seqObj "tuple" vs.toArray 0)).push (seqObj "list" #[] 0)).get? h1.objs.size=some (seqObj "list" #[] c1):=Heap.get?_push_of_some _ (Heap.get?_push_of_some _ g2)
  have hn2:vs.toArray.size < 2:=by rw [List.size_toArray]; exact h2
  show wpAny (model prog w) A.in1.in1 _ _ _ { s with heap:=((hp.update h1.objs.size (Obj.mapSeq fun _=>#[])).push (seqObj "tuple" vs.toArray 0)).push (seqObj "list" #[] 0),toks:=tk }
  have k6:∀ b o,s.heap.get? b=some o→(((hp.update h1.objs.size (Obj.mapSeq fun _=>#[])).push (seqObj "tuple" vs.toArray 0)).push (seqObj "list" #[] 0)).get? b=some o:=fun b o e=>Heap.get?_push_of_some _ (Heap.get?_push_of_some _ ((Heap.get?_update_other _ _ (Ne.symm (hb b o e))).trans (k2 b o (hb b o e) e)))
  generalize ((hp.update h1.objs.size (Obj.mapSeq fun _=>#[])).push (seqObj "tuple" vs.toArray 0)).push (seqObj "list" #[] 0)=h6 at g6 k6
  dsimp only
  rw [if_pos hn2,if_pos hn2]
  refine wpAny_bind (wpAny_pure ?_)
  rw [StateT.run_pure]
  refine wpAny_bind (wpAny_pure ?_)
  dsimp only
  have es:(arrOf (SortSt.mk' general' (vs.toArray.zip vs.toArray) #[] 7 none)).map (·.2)=vs.toArray:=by
    show (vs.toArray.zip vs.toArray).map (·.2)=vs.toArray
    apply Array.toList_inj.mp
    simp
    exact List.map_snd_zip (Nat.le_refl _)
  rw [es]
  obtain ⟨c7,g7⟩:∃ c7,(h6.update h1.objs.size (Obj.mapSeq fun _=>vs.toArray)).get? h1.objs.size=some (seqObj "list" vs.toArray c7):=⟨_,get?_update_seq g6 fun _=>vs.toArray⟩
  refine wpAny_bind (seqEpoch_at g6 rfl (wpAny_bind (listUpdate_at g6 rfl ?_ (Nat.zero_le _) (by rw [List.size_toArray]; exact Nat.le_succ_of_le hz))))
  simp only [bne_self_eq_false,Bool.false_eq_true,if_false]
  have k7:∀ b o,s.heap.get? b=some o→(h6.update h1.objs.size (Obj.mapSeq fun _=>vs.toArray)).get? b=some o:=fun b o e=>(Heap.get?_update_other _ _ (Ne.symm (hb b o e))).trans (k6 b o e)
  refine wpAny_pure ⟨_,rfl,wpAny_pure ⟨_,rfl,h h1.objs.size c7 _ tk (F.kept k7) (fun p hp=>?_) fun q hq=>Heap.lt_size (N1 q hq).1⟩⟩
  rcases List.mem_cons.mp hp with rfl | hp
  · exact ⟨g7,Nat.ne_of_gt hL,Heap.get?_none_of_le (Nat.le_trans F1.above (Nat.le_of_lt hL))⟩
  · exact (N.grown k7) p hp
end
theorem sortedT_rest {prog : Program} {w : World} {A : Around} {s : Shared} {h₀ : Heap} {L : Addr} {m : Str → Option Value} {news : List (Addr × Obj)} {D : Addr} {e1 : Nat} {zs : List Zt} {Post : Shared → Prop} (F : Fr h₀ L s.heap m) (N : News h₀ L s.heap ((D, seqObj "list" #[] e1) :: news)) (hD : ∀ q ∈ news, q.1 < D)
    (h2:2≤zs.length) (tup:∀ z ∈ zs,∃ t u,IsTup s.heap z.2.2 #[.int z.1 t,.int z.2.1 u])
    (fin:∀ h'' c (zs':List Zt),zs'.Perm zs→zs'.Pairwise (fun z w=>lexLe (zP z) (zP w))→Fr h₀ L h'' m→News h₀ L h'' ((D,seqObj "list" (zs'.map fun z=>Value.ref z.2.2).toArray c) :: news)→Post { s with heap:=h'' }) :
    wpAny (model prog w) A (keyKind' (zs.map fun z=>Value.ref z.2.2).toArray) (fun κ s'=>(kas_sort (zs.map fun z=>Value.ref z.2.2).length).kasWp (kas_ask prog w A κ (zs.map fun z=>Value.ref z.2.2)) (fun p s''=>KasFin h₀ L m D e1 (p.toList.map fun i=>(zs.map fun z=>Value.ref z.2.2).getD i Value.none) Post s'') s') (fun _ _=>False) s:=by
  obtain ⟨fs,k1,k2,k3⟩:=firsts_of tup
  refine kat_kind (T:=.type "int") k1 (by omega) (fun v hv=>?_) rfl ?_
  · obtain ⟨i,t,rfl⟩:=k3 v hv
    exact Looks.now
  have et:(Value.type "int" != Value.type "tuple")=true:=by decide
  rw [et,List.length_map]
  have gz:∀ i,i < zs.length→(zs.map fun z=>Value.ref z.2.2).getD i Value.none=Value.ref (zs.getD i (0,0,0)).2.2:=fun i hi=>by simp [hi]
  have mz:∀ i,i < zs.length→zs.getD i (0,0,0) ∈ zs:=fun i hi=>by
    have:zs.getD i (0,0,0)=zs[i]:=by simp [hi]
    rw [this]; exact List.getElem_mem hi
  refine Sx.Sat.ask (n:=zs.length) (k:=fun i=>rank (zs.map zP) (zP (zs.getD i (0,0,0)))) (fun i j C hi hj hC=>?_) (fun pr hp=>?_) (Sx.sat_sort (by omega))
  · unfold kas_ask
    rw [gz i hi,gz j hj]
    obtain ⟨t,u,i1⟩:=tup _ (mz i hi)
    obtain ⟨t',u',i2⟩:=tup _ (mz j hj)
    refine lt_pairs (s:=s) i1 i2 ?_
    rw [rank_lt (List.mem_map_of_mem (mz i hi)) (List.mem_map_of_mem (mz j hj))] at hC
    exact hC
  · obtain ⟨hp1,hp2⟩:=hp
    have plt:∀ i ∈ pr.toList,i < zs.length:=fun i hi=>by simpa using hp1.mem_iff.mp hi
    have eo:(pr.toList.map fun i=>(zs.map fun z=>Value.ref z.2.2).getD i Value.none)=(pr.toList.map fun i=>zs.getD i (0,0,0)).map fun z=>Value.ref z.2.2:=by
      rw [List.map_map]
      exact List.map_congr_left fun i hi=>gz i (plt i hi)
    rw [eo]
    have hperm:(pr.toList.map fun i=>zs.getD i (0,0,0)).Perm zs:=by
      have:=hp1.map fun i=>zs.getD i (0,0,0)
      rwa [getD_range] at this
    have hsort:(pr.toList.map fun i=>zs.getD i (0,0,0)).Pairwise fun z w=>lexLe (zP z) (zP w):=by
      rw [List.pairwise_iff_getElem]
      intro i j hi hj hij
      rw [List.length_map] at hi hj
      simp only [List.getElem_map]
      have hsz:pr.size=zs.length:=hp1.size
      have hj':j < zs.length:=by rw [← hsz]; simpa using hj
      have hle:=hp2.le (Nat.le_of_lt hij) hj'
      unfold Sx.Ky at hle
      have gi:∀ i (h:i < pr.toList.length),pr.getD i 0=pr.toList[i]:=fun i h=>by
        have h':i < pr.size:=by simpa using h
        simp [Array.getD,h']
      rw [gi i hi,gi j hj] at hle
      have hle:rank (zs.map zP) (zP (zs.getD pr.toList[i] (0,0,0)))≤rank (zs.map zP) (zP (zs.getD pr.toList[j] (0,0,0))):=hle
      refine lexLe_of ?_
      cases w:lexLt (zP (zs.getD pr.toList[j] (0,0,0))) (zP (zs.getD pr.toList[i] (0,0,0))) with
      | false=>rfl
      | true =>
        rw [← rank_lt (List.mem_map_of_mem (mz _ (plt _ (List.getElem_mem hj)))) (List.mem_map_of_mem (mz _ (plt _ (List.getElem_mem hi)))),decide_eq_true_iff] at w
        omega
    generalize (pr.toList.map fun i=>zs.getD i (0,0,0))=zs' at hperm hsort
    exact KasFin.intro F N (UpdF.head fun q hq=>Nat.ne_of_lt (hD q hq)) fun h'' c F'' N''=>fin h'' c zs' hperm hsort F'' N''
theorem keys_of {H:Hp}:∀ {kvs:List (List Key × V)} {xs:List (List Key × Addr × Value)},Paired (fun (p:List Key × V) (q:List Key × Addr × Value)=>p.1=q.1∧H q.2.1=some (.tup (p.1.map kV))∧RelV p.2 q.2.2) kvs xs →
    (∀ p ∈ kvs,∃ x y:Int,p.1=[Sum.inl x,Sum.inl y])→∃ zs:List Zt,xs.map (fun q=>Value.ref q.2.1)=(zs.map fun z=>Value.ref z.2.2)∧(∀ z ∈ zs,PairAt H z)∧kvs.map (·.1)=zs.map fun z=>[Sum.inl z.1,Sum.inl z.2.1]
  | _,_,.nil,_=>⟨[],rfl,(fun z hz=>nomatch hz),rfl⟩
  | _, _, .cons (a := p) (b := q) r t, hp => by
    obtain ⟨zs,e1,e2,e3⟩:=keys_of t fun p' hp'=>hp p' (List.mem_cons_of_mem _ hp')
    obtain ⟨x,y,exy⟩:=hp _ List.mem_cons_self
    refine ⟨(x,y,q.2.1) :: zs,by simp [e1],fun z hz=>?_,by simp [exy,e3]⟩
    rcases List.mem_cons.mp hz with rfl | hz
    · have:=r.2.1
      rw [exy] at this
      exact this
    · exact e2 z hz
section
variable {X:Cx}
def rSortedD:List V→Hp→VK→Prop:=fun xs H Q=>∃ (p:Addr) (kvs:List (List Key × V)),xs=[.ref p]∧H p=some (.dT kvs)∧(∀ q ∈ kvs,∃ x y:Int,q.1=[Sum.inl x,Sum.inl y])∧kvs.length < 64 ∧
  ∀ (l:Addr) (zs:List Zt),H l=none→(∀ z ∈ zs,PairAt H z)→(zs.map fun z=>([Sum.inl z.1,Sum.inl z.2.1]:List Key)).Perm (kvs.map (·.1))→zs.Pairwise (fun z w=>lexLe (zP z) (zP w))→Q (.ref l) (upd H l (.lst (zs.map refZ)))
theorem call_sortedD (hc : X.calm = true) : CallR X (.builtin "sorted") rSortedD := by
  intro pins s σ H xs us Q I r h
  obtain ⟨p,kvs,rfl,hp,hk,h64,q⟩:=h
  obtain ⟨u,rfl,ru⟩:=vals1 r
  cases ru
  obtain ⟨hz,lo,ys,rel,o,es,ep,e1,e2,e3,e4,e5⟩:=(show ObjOk X.prog X.w H s.heap p (.dT kvs) from I.hok p _ hp)
  obtain ⟨zs,k1,k2,k3⟩:=keys_of rel hk
  have hlen:zs.length=kvs.length:=by have:=congrArg List.length k3; simpa using this.symm
  have raw:RawD s.heap p (zs.map fun z=>Value.ref z.2.2) ep:=⟨o,es,e1,e2,e3,by rw [e4,← k1,List.map_map]; rfl⟩
  have hh:X.A.handled=none:=I.ok.hd hc
  obtain ⟨m,F,N⟩:=I.frs
  have tup0:∀ z ∈ zs,∃ t u,IsTup s.heap z.2.2 #[.int z.1 t,.int z.2.1 u]:=fun z hz'=>by
    obtain ⟨ts,r,it,_⟩:=I.tuple (.of (k2 z hz'))
    cases r with
    | cons h1 r =>
      cases r with
      | cons h2 r =>
        cases r
        obtain ⟨t,rfl⟩:=h1
        obtain ⟨u,rfl⟩:=h2
        exact ⟨t,u,it⟩
  by_cases h2:2≤zs.length
  · refine sorted_src (raw_src lo) hh raw (fun acc ha=>items_eq ha) rfl F N (by rw [List.length_map]; exact h2) (by rw [List.length_map]; omega) fun D ed h' tk F' N' hD=>?_
    have kept:∀ b o,b≠X.env.locals→s.heap.get? b=some o→h'.get? b=some o:=fun b o h1 e=>by
      cases w:X.base.get? b with
      | some u =>
        have z:=I.bk b u w
        rw [e] at z
        cases z
        exact F'.keep b _ w
      | none=>exact (N' (b,o) (List.mem_cons_of_mem _ (mem_allNews h1 w e))).1
    have tup:∀ z ∈ zs,∃ t u,IsTup h' z.2.2 #[.int z.1 t,.int z.2.1 u]:=fun z hz'=>by
      obtain ⟨t,u,o,e,rest⟩:=tup0 z hz'
      refine ⟨t,u,o,kept _ o (fun w=>?_) e,rest⟩
      have e2:=k2 z hz'
      unfold PairAt at e2
      rw [w,I.free] at e2
      cases e2
    refine sortedT_rest (s:={ s with heap:=h',toks:=tk }) F' N' hD h2 tup fun h'' c zs' hperm hsort F'' N''=>?_
    have hl2:zs'.length≤sizeLine:=small_le (m:=64) (by rw [hperm.length_eq]; omega)
    obtain ⟨hn,I2⟩:=I.newsLaid (t':=tk) (o:=.lst (zs'.map refZ)) F.ns F'' N'' hD ⟨by rw [List.length_map]; exact hl2,_,c,vals_refs zs',(N'' _ List.mem_cons_self).1⟩
    exact ⟨.ref D,_,I2,rfl,q D zs' hn (fun z hz=>k2 z (hperm.mem_iff.mp hz)) (by rw [k3]; exact hperm.map _) hsort⟩
  · refine sorted_src1 (raw_src lo) hh raw (fun acc ha=>items_eq ha) rfl F N (by rw [List.length_map]; omega) fun D c h' tk F' N' hD=>?_
    obtain ⟨hn,I2⟩:=I.newsLaid (t':=tk) (o:=.lst (zs.map refZ)) F.ns F' N' hD ⟨by rw [List.length_map]; exact small_le (m:=64) (by omega),_,c,vals_refs zs,(N' _ List.mem_cons_self).1⟩
    refine ⟨.ref D,_,I2,rfl,q D zs hn k2 (by rw [k3]) ?_⟩
    match zs,h2 with
    | [],_=>exact .nil
    | [z],_=>exact List.pairwise_singleton _ _
    | z :: w :: r,h2=>simp at h2
def rSortedH (K:PySem.W.Frag):List V→Hp→VK→Prop:=fun xs H Q=>rSortedG K xs H Q∨rSortedD xs H Q
theorem call_sortedH (hc:X.calm=true):CallR X (.builtin "sorted") (rSortedH X.K):=call_sortedG.or (call_sortedD hc)
end
end L2
namespace L2
open PySem PySem.Spec PyProof.Rows PySem.W
theorem Paired.at {α β:Type} {F:α→β→Prop} {l₁:List α} {l₂:List β} (r:Paired F l₁ l₂):∀ {i:Nat} {a:α},l₁[i]? = some a→∃ b,l₂[i]? = some b∧F a b:=by
  induction r with
  | nil=>intro i a e; simp at e
  | cons h t ih =>
    intro i a e
    cases i with
    | zero =>
      simp only [List.getElem?_cons_zero,Option.some.injEq] at e
      subst e
      exact ⟨_,rfl,h⟩
    | succ i=>exact ih (by simpa using e)
theorem Paired.len {α β:Type} {F:α→β→Prop} {l₁:List α} {l₂:List β} (r:Paired F l₁ l₂):l₁.length=l₂.length:=by
  induction r with
  | nil=>rfl
  | cons h t ih=>simp [ih]
def ItT (a:Addr) (kvs:List (List Key × V)) (o:Obj):It :=
  ⟨fun i H=>i < kvs.length∧H a=some (.frz o (.dT kvs)),fun i H x H'=>H'=H∧∃ k v b,kvs[i]? = some (k,v)∧x = .ref b∧H b=some (.tup (k.map kV)),fun i H=>kvs.length≤i∧H a=some (.frz o (.dT kvs))⟩
theorem turn_dT {P:Program} {w:World} {K:PySem.W.Frag} {tg:Expr} (a it:Addr) (o:Obj) (kvs:List (List Key × V)) (es:Array DictEntry) (ep:Nat) (hx:o.ExactDict) (hd:o.data = .dict es ep) (hl:es.size=kvs.length) :
    Turn P w K tg (ItT a kvs o) [it] it (fun i h=>h.IsKeyIter it a i (es.toList.map (·.key)).length ep) where
  mem:=by simp
  obj:=fun i h st b hb=>by
    have e:b=it:=by simpa using hb
    subst e
    obtain ⟨o,e,c,d⟩:=st
    exact ⟨o,e,fun v z=>by rw [d] at z; cases z⟩
  keep:=fun i h h' st k=>st.at fun o e=>k it (by simp) o e
  item:=by
    intro X hP hw hK hc i pins s σ H E I hf st hg
    subst hP hw hK
    obtain ⟨hlt,hq⟩:=hg
    obtain ⟨e0,_,_,xs,rel,o',es',ep',e1,e2,e3,e4,e5⟩:=(show ObjOk X.prog X.w H s.heap a (.frz o (.dT kvs)) from I.hok a _ hq)
    rw [e0] at e1
    cases e1
    rw [hd] at e3
    injection e3 with e3 e3'
    subst e3 e3'
    obtain ⟨⟨k,v⟩,hkv⟩:∃ p,kvs[i]? = some p:=⟨kvs[i],by simp [hlt]⟩
    obtain ⟨q,hq2,rq⟩:=L2.Paired.at rel hkv
    have hkey:(es.toList.map (·.key))[i]? = some (.ref q.2.1):=by rw [e4,List.map_map,List.getElem?_map,hq2]; rfl
    obtain ⟨f0,f1,f2,f3,f4,f5⟩:=hf it (by simp)
    refine raw_next st ⟨o,es,e0,hx,hd,rfl⟩ hkey fun h' st' sb=>?_
    have I1:Inv X pins σ H { s with heap:=h' }:=I.turned (t':=s.toks) (fun b o hb e=>(sb.2 b hb).trans e) f0 f1 f3 f4 f5
    obtain ⟨o',e,c,d⟩:=id st'
    exact ⟨_,rfl,go_of (s:={ s with heap:=h' }) e c d (by decide) ⟨.ref q.2.1,H,I1,rfl,⟨rfl,k,v,q.2.1,hkv,rfl,rq.2.1⟩,st',fun b hb=>(hf b hb).1⟩⟩
  done:=by
    intro X hP hw hK hc i pins s σ H E I hf st hg
    subst hP hw hK
    obtain ⟨hle,hq⟩:=hg
    obtain ⟨e0,_⟩:=(show ObjOk X.prog X.w H s.heap a (.frz o (.dT kvs)) from I.hok a _ hq)
    obtain ⟨f0,f1,f2,f3,f4,f5⟩:=hf it (by simp)
    have hn:(es.toList.map (·.key)).length=kvs.length:=by rw [List.length_map,Array.length_toList,hl]
    exact raw_end (I.ok.hd hc) (by omega) st ⟨o,es,e0,hx,hd,rfl⟩ fun h' eb=>⟨rfl,I.turned (t':=s.toks) (fun b o hb e=>eb b o hb e) f0 f1 f3 f4 f5⟩
  self:=fun _ _ _ _ _ st h=>wpAny_pyIter_keyiter st h
def iDT (tl:TE):TI:=fun σ H R=>tl σ H fun x H1=>∃ a kvs,x = .ref a∧((H1 a=some (.dT kvs)∧∀ o,R (ItT a kvs o) (upd H1 a (.frz o (.dT kvs))))∨∃ o,H1 a=some (.frz o (.dT kvs))∧R (ItT a kvs o) H1)
theorem x_iDT {tl:TE} {σ:St} {H:Hp} {R:It→Hp→Prop} (h:tl σ H fun x H1=>∃ a kvs,x = .ref a∧((H1 a=some (.dT kvs)∧∀ o,R (ItT a kvs o) (upd H1 a (.frz o (.dT kvs))))∨∃ o,H1 a=some (.frz o (.dT kvs))∧R (ItT a kvs o) H1)):iDT tl σ H R:=h
section
variable {X:Cx} {tg:Expr}
theorem pi_dT {l:Expr} {tl:TE} (hl:PE X l tl):PI X tg l (iDT tl):=by
  intro pins s σ H R I h
  refine thn (hl pins s σ H _ I h) fun v s1 ⟨x,H1,I1,r1,q1⟩=>?_
  obtain ⟨a,kvs,e,q1⟩:=q1
  subst e
  cases r1
  rcases q1 with ⟨hq,q⟩ | ⟨ob,hq,q⟩
  rotate_left
  · obtain ⟨ho,hz,hsys,xs,rel,ob',es,ep,ho',hx,hd,he,hn⟩:=(show ObjOk X.prog X.w H1 s1.heap a (.frz ob (.dT kvs)) from I1.hok a _ hq)
    rw [ho] at ho'
    cases ho'
    have hl:es.size=kvs.length:=by rw [← Array.length_toList,he,List.length_map,Paired.len rel]
    refine raw_iter hsys ⟨ob,es,ho,hx,hd,rfl⟩ ?_
    refine ⟨s1.heap.objs.size,[s1.heap.objs.size],_,_,_,rfl,I1.kept (t':=s1.toks) fun b o e=>Heap.get?_push_of_some _ e,turn_dT a _ ob kvs es ep hx hd hl,⟨_,Heap.get?_push_size _ rfl,rfl,rfl⟩,fun b hb=>?_,q⟩
    have e:b=s1.heap.objs.size:=by simpa using hb
    subst e
    exact I1.fpOk (Nat.le_refl _) (I1.hok.fresh (Nat.le_refl _))
  obtain ⟨hz,hsys,xs,rel,ob,es,ep,ho,hx,hd,he,hn⟩:=(show ObjOk X.prog X.w H1 s1.heap a (.dT kvs) from I1.hok a _ hq)
  have un:Un X.fs [] H1 (upd H1 a (.frz ob (.dT kvs))) s1.heap s1.heap:=by
    have hne:∀ b u,H1 b=some u→u≠.dT kvs→b≠a:=fun b u e n z=>by subst z; rw [hq] at e; exact n (Option.some.inj e).symm
    refine ⟨fun b o e _ _ _=>e,fun b o e _ _ _=>⟨o.slots,e⟩,fun b o e n _=>?_,fun b o e _=>⟨o,e⟩,fun b ys e=>?_,fun b o u e=>?_,fun b ps e=>?_⟩
    · rw [upd_ne (fun z=>by subst z; rw [hq] at n; cases n)]; exact n
    · rw [upd_ne (hne b _ e (by intro z; cases z))]; exact e
    · rw [upd_ne (hne b _ e (by intro z; cases z))]; exact e
    · exact ⟨#[],by rw [upd_ne (hne b _ e (by intro z; cases z)),e]; simp⟩
  have nt:∀ c ys,H1 c=some (.tup ys)→(upd H1 a (.frz ob (.dT kvs))) c=some (.tup ys):=fun c ys q0=>by
    rw [upd_ne (fun z=>by rw [z,hq] at q0; cases q0)]; exact q0
  have hok:HOk X.prog X.w (upd H1 a (.frz ob (.dT kvs))) s1.heap:=fun b u e=>by
    by_cases hb:b=a
    · subst hb
      rw [upd_same] at e
      cases e
      exact ⟨ho,hz,hsys,xs,Paired.mapP rel fun p q z=>⟨z.1,nt _ _ z.2.1,z.2.2⟩,ob,es,ep,ho,hx,hd,he,hn⟩
    · rw [upd_ne hb] at e
      refine (I1.hok b u e).stay (fun c v _ q=>q) (fun c q0=>?_) nt
      rw [upd_ne (fun z=>by rw [z,hq] at q0; cases q0)]; exact q0
  have I2:Inv X pins σ (upd H1 a (.frz ob (.dT kvs))) { s1 with heap:=s1.heap,toks:=s1.toks }:=I1.un un hok
  have hl:es.size=kvs.length:=by rw [← Array.length_toList,he,List.length_map,Paired.len rel]
  refine raw_iter hsys ⟨ob,es,ho,hx,hd,rfl⟩ ?_
  refine ⟨s1.heap.objs.size,[s1.heap.objs.size],_,_,_,rfl,I2.kept (t':=s1.toks) fun b o e=>Heap.get?_push_of_some _ e,turn_dT a _ ob kvs es ep hx hd hl,⟨_,Heap.get?_push_size _ rfl,rfl,rfl⟩,fun b hb=>?_,q ob⟩
  have e:b=s1.heap.objs.size:=by simpa using hb
  subst e
  exact I2.fpOk (Nat.le_refl _) (I2.hok.fresh (Nat.le_refl _))
end
theorem for_dT {a:Addr} {kvs:List (List Key × V)} {o:Obj} {g:TG} {tb:TS} {D:Ends} {σ:St} {H:Hp} (Pv:Nat→St→Hp→Prop) (h0:Pv 0 σ H) (hl:∀ i σ H,i≤kvs.length→Pv i σ H→H a=some (.frz o (.dT kvs)))
    (hs:∀ i k v b σ H,kvs[i]? = some (k,v)→H b=some (.tup (k.map kV))→Pv i σ H→g (.ref b) σ H fun σ2 H2=>tb { D with nx:=Pv (i+1),ct:=Pv (i+1),bk:=D.nx } σ2 H2) (hd:∀ σ H,Pv kvs.length σ H→D.nx σ H) :
    ∃ W : Nat → Nat → St → Hp → Prop, (∃ m, W 0 m σ H) ∧ ∀ i m σ H, W i m σ H →
      ((ItT a kvs o).stop i H∧D.nx σ H)∨((ItT a kvs o).go i H∧∃ N:St→Hp→Prop,(∀ σ' H',N σ' H'→∃ m',m' < m∧W (i+1) m' σ' H')∧∀ x H',(ItT a kvs o).yld i H x H'→g x σ H' fun σ2 H2=>tb { D with nx:=N,ct:=N,bk:=D.nx } σ2 H2):=by
  refine ⟨fun i m σ H=>m=kvs.length - i∧i≤kvs.length∧Pv i σ H,⟨kvs.length,by simp,Nat.zero_le _,h0⟩,?_⟩
  rintro i m σ H ⟨hm,hi,p⟩
  by_cases e:i=kvs.length
  · subst e
    exact .inl ⟨⟨Nat.le_refl _,hl _ _ _ (Nat.le_refl _) p⟩,hd _ _ p⟩
  · refine .inr ⟨⟨by omega,hl _ _ _ hi p⟩,Pv (i+1),fun σ' H' p'=>⟨kvs.length - (i+1),by omega,rfl,by omega,p'⟩,?_⟩
    rintro x H' ⟨rfl,k,v,b,hk,rfl,hb⟩
    exact hs i k v b σ H' hk hb p
def Thaw (H:Hp) (Q:VK):VK:=fun x H'=>Q x H'∨∃ a o kvs,(∀ o' u',H a≠some (.frz o' u'))∧H' a=some (.frz o (.dT kvs))∧Q x (upd H' a (.dT kvs))
theorem Un.thaw {fs ex:List Addr} {H H':Hp} {h h':Heap} {a:Addr} {o:Obj} {kvs:List (List Key × V)} (u:Un fs ex H H' h h') (hn:∀ o' u',H a≠some (.frz o' u')) (ha:H' a=some (.frz o (.dT kvs))):Un fs ex H (upd H' a (.dT kvs)) h h' where
  keep:=u.keep
  slot:=u.slot
  free:=fun b ob e n hx=>by
    have q:=u.free b ob e n hx
    rw [upd_ne (fun z=>by rw [z,ha] at q; cases q)]; exact q
  there:=u.there
  tups:=fun b xs e=>by
    have q:=u.tups b xs e
    rw [upd_ne (fun z=>by rw [z,ha] at q; cases q)]; exact q
  frzs:=fun b ob w e=>by
    have q:=u.frzs b ob w e
    rw [upd_ne (fun z=>hn ob w (by rw [← z]; exact e))]; exact q
  tbls:=fun b ps e=>by
    obtain ⟨more,q⟩:=u.tbls b ps e
    exact ⟨more,by rw [upd_ne (fun z=>by rw [z,ha] at q; cases q)]; exact q⟩
theorem HOk.thaw {P:Program} {w:World} {H:Hp} {h:Heap} {a:Addr} {o:Obj} {kvs:List (List Key × V)} (k:HOk P w H h) (ha:H a=some (.frz o (.dT kvs))):HOk P w (upd H a (.dT kvs)) h:=by
  have nt:∀ c ys,H c=some (.tup ys)→(upd H a (.dT kvs)) c=some (.tup ys):=fun c ys q0=>by
    rw [upd_ne (fun z=>by rw [z,ha] at q0; cases q0)]; exact q0
  intro b u e
  by_cases hb:b=a
  · subst hb
    rw [upd_same] at e
    cases e
    obtain ⟨_,hz,hsys,xs,rel,ob,es,ep,r⟩:=(show ObjOk P w H h b (.frz o (.dT kvs)) from k b _ ha)
    exact ⟨hz,hsys,xs,Paired.mapP rel fun p q z=>⟨z.1,nt _ _ z.2.1,z.2.2⟩,ob,es,ep,r⟩
  · rw [upd_ne hb] at e
    refine (k b u e).stay (fun c v _ q=>q) (fun c q0=>?_) nt
    rw [upd_ne (fun z=>by rw [z,ha] at q0; cases q0)]; exact q0
end L2
namespace BootT
end BootT
namespace L2
open PySem PySem.Spec PyProof.Rows PySem.W
theorem FnOk.thaw {P:Program} {w:World} {K:PySem.W.Frag} {mg:Str→Option Value} {base:Heap} {CX:CXT} {k:Nat} {f:Addr} {fd:FuncData} {ps:List Str} {sp sp':Sp} (F:FnOk P w K mg base CX k f fd ps sp')
    (h:∀ vs H Q E,sp vs H Q E→sp' vs H (Thaw H Q) E):FnOk P w K mg base CX k f fd ps sp:=by
  refine ⟨fun vs H Q E q=>F.len vs H _ E (h _ _ _ _ q),fun A outer s H args us vs Q E hr he hb hv hs=>?_⟩
  refine codeAny_mono (F.run A outer s H args us vs _ E hr he hb hv (h _ _ _ _ hs)) fun r s' q=>?_
  cases r with
  | error e=>exact q
  | ok fl =>
    cases fl with
    | ret u =>
      obtain ⟨v,H',h1,h2,h3,h4,h5,q⟩:=(show CE outer P w H s (Thaw H Q) u s' from q)
      rcases q with q | ⟨a,o,kvs,hn,ha,q⟩
      · exact (show CE outer P w H s Q u s' from ⟨v,H',h1,h2,h3,h4,h5,q⟩)
      · exact (show CE outer P w H s Q u s' from ⟨v,_,h1,h2,h3.thaw hn ha,h4.thaw ha,h5,q⟩)
    | _=>exact q
theorem Paired.eraseIdx {α β:Type} {F:α→β→Prop} {l₁:List α} {l₂:List β} (r:Paired F l₁ l₂):∀ j,Paired F (l₁.eraseIdx j) (l₂.eraseIdx j):=by
  induction r with
  | nil=>intro j; exact .nil
  | cons h t ih =>
    intro j
    cases j with
    | zero=>exact t
    | succ j=>exact .cons h (ih j)
theorem erase_drop {κ:Type} [DecidableEq κ] {k:κ} {v:V}:∀ {kvs:List (κ × V)} {j:Nat},(kvs.map (·.1)).Nodup→kvs[j]? = some (k,v)→kvs.eraseIdx j=dropK kvs k
  | [],j,_,e=>by simp at e
  | p :: r, 0, hn, e => by
    simp only [List.getElem?_cons_zero,Option.some.injEq] at e
    subst e
    have h1:=(List.nodup_cons.mp hn).1
    rw [dropK_pos rfl,dropK_no h1]; rfl
  | p :: r, j + 1, hn, e => by
    simp only [List.getElem?_cons_succ] at e
    have h1:=(List.nodup_cons.mp hn).1
    have hm:k ∈ r.map (·.1):=List.mem_map.mpr ⟨_,List.mem_of_getElem? e,rfl⟩
    have hne:¬ p.1=k:=fun z=>h1 (by rw [show (fun x:κ × V=>x.1) p=k from z]; exact hm)
    rw [dropK_neg hne,List.eraseIdx_cons_succ,erase_drop (List.nodup_cons.mp hn).2 e]
theorem valV_of_get {κ:Type} [DecidableEq κ] {k:κ} {v:V}:∀ {kvs:List (κ × V)} {j:Nat},(kvs.map (·.1)).Nodup→kvs[j]? = some (k,v)→valV kvs k=some v
  | [],j,_,e=>by simp at e
  | p :: r, 0, hn, e => by
    simp only [List.getElem?_cons_zero,Option.some.injEq] at e
    subst e
    exact valV_pos rfl
  | p :: r, j + 1, hn, e => by
    simp only [List.getElem?_cons_succ] at e
    have h1:=(List.nodup_cons.mp hn).1
    have hm:k ∈ r.map (·.1):=List.mem_map.mpr ⟨_,List.mem_of_getElem? e,rfl⟩
    have hne:¬ p.1=k:=fun z=>h1 (by rw [show (fun x:κ × V=>x.1) p=k from z]; exact hm)
    rw [valV_neg hne]
    exact valV_of_get (List.nodup_cons.mp hn).2 e
theorem map_erase {α β:Type} (f:α→β):∀ (l:List α) (j:Nat),(l.map f).eraseIdx j=(l.eraseIdx j).map f
  | [],_=>by simp
  | a :: l,0=>rfl
  | a :: l,j+1=>by simp [List.eraseIdx_cons_succ,map_erase f l j]
theorem keys_same {H:Hp} {kvs:List (List Key × V)} {xs:List (List Key × Addr × Value)} (r:KT H kvs xs):kvs.map (·.1)=xs.map (·.1):=by
  induction r with
  | nil=>rfl
  | cons h t ih=>simp [h.1,ih]
section
variable {X:Cx}
def rLenT:List V→Hp→VK→Prop:=fun xs H Q=>∃ a kvs,xs=[V.ref a]∧H a=some (.dT kvs)∧Q (.int kvs.length) H
theorem call_lenT:CallR X (.builtin "len") rLenT:=by
  intro pins s σ H xs us Q I r h
  obtain ⟨a,kvs,rfl,ha,q⟩:=h
  obtain ⟨u,rfl,ru⟩:=vals1 r
  cases ru
  obtain ⟨hz,lo,ys,rel,o,es,ep,e1,e2,e3,e4,e5⟩:=(show ObjOk X.prog X.w H s.heap a (.dT kvs) from I.hok a _ ha)
  have hl:es.size=kvs.length:=by rw [← Array.length_toList,e4,List.length_map,Paired.len rel]
  have hT:s.TypeIs (.ref a) "dict":=⟨o,e1,e2.1⟩
  have hfit:(kvs.length:Int) < 2 ^ 63:=by rw [sizeLine_eq] at hz; omega
  refine Calls.call_function_entry kind_len plain_len entry_len (args_len1 _) ?_
  unfold Builtin.«len»
  refine wpAny_bind (m:=oneArg "len" _) (wpAny_pure ?_)
  refine wpAny_bind (m:=callSpecial? (.ref a) (Str.ofString "__len__")) (wpAny_callSpecial?_slot (name:=Str.ofString "__len__") hT F.slot_dict_len (wpAny_call_entry F.slot_dict_len hT F.entry_dict_len ?_ (F.args_dict_len_1 _)))
  show wpAny _ _ (dictSize a >>= _) _ _ s
  unfold dictSize
  refine wpAny_bind (wpAny_bind (wpAny_dictEntries e1 e3 (wpAny_pure ?_)))
  show wpAny _ _ (Builtin.Dict.pendingCount a >>= _) _ _ s
  refine wpAny_bind (wpAny_pendingCount_other lo (wpAny_ret_mkInt ?_))
  rw [Nat.add_zero,hl]
  show wpAny _ _ _ _ _ { s with toks:=s.toks+1 }
  refine wpAny_bind (wpAny_holding (wpAny_pure (wpAny_bind (wpAny_letGo ?_))))
  show wpAny _ _ (if ((kvs.length:Nat):Int) < 0 then _ else _) _ _ _
  rw [if_neg (by omega)]
  show wpAny _ _ (if ((kvs.length:Nat):Int) ≥ 2 ^ 63 then _ else _) _ _ _
  rw [if_neg (by omega)]
  exact wpAny_bind (wpAny_mkInt (wpAny_pure ⟨_,rfl,.int kvs.length,H,(I.tok _).tok _,⟨_,rfl⟩,q⟩))
def rPopD:V→List V→Hp→VK→Prop:=fun x vs H Q=>∃ a kvs k b v,x = .ref a∧vs=[.ref b]∧H a=some (.dT kvs)∧H b=some (.tup (k.map kV))∧valV kvs k=some v∧Q v (upd H a (.dT (dropK kvs k)))
theorem mt_popD (hu : X.A.units + 64 < cLine) : MtM X "dict.pop" rPopD := by
  intro pins s σ H x xs v us Q I rx rs h
  obtain ⟨a,kvs,k,b,y,rfl,rfl,ha,hb,hy,q⟩:=h
  cases rx
  obtain ⟨u,rfl,ru⟩:=vals1 rs
  cases ru
  obtain ⟨hz,lo,ys,rel,o,es,ep,e1,e2,e3,e4,e5⟩:=(show ObjOk X.prog X.w H s.heap a (.dT kvs) from I.hok a _ ha)
  have hl:es.size=kvs.length:=by rw [← Array.length_toList,e4,List.length_map,Paired.len rel]
  have hT:s.TypeIs (.ref a) "dict":=⟨o,e1,e2.1⟩
  have hes:es.size≤sizeLine:=by rw [hl]; exact hz
  have hkey:=key_of (P:=X.prog) (w:=X.w) I.hok hb
  have his:∀ x ∈ ys,(tupleKind (mixKind X.prog X.w)).is s.heap x.1 x.2.1:=fun x hx=>by
    obtain ⟨i,hi⟩:=List.mem_iff_getElem?.mp hx
    obtain ⟨p,hp⟩:∃ p,kvs[i]? = some p:=⟨kvs[i]'(by rw [Paired.len rel]; exact (List.getElem?_eq_some_iff.mp hi).1),by simp⟩
    obtain ⟨x',hx',r1,r2,_⟩:=L2.Paired.at rel hp
    rw [hi] at hx'
    cases hx'
    rw [← r1]
    exact key_of I.hok r2
  have rel:KT H kvs ys:=rel
  have ev:=KT.val rel k
  rw [hy] at ev
  have hroom:(tupleKind (mixKind X.prog X.w)).room X.A.in1:=tupleKind_room_in1 (by omega)
  have hnd:(kvs.map (·.1)).Nodup:=by rw [keys_same rel]; exact e5
  refine wpAny_call_entry F.slot_dict_pop hT F.entry_dict_pop ?_ (F.args_dict_pop_2 _ _)
  unfold Builtin.«dict.pop» Builtin.Dict.keyAndDefault
  refine wpAny_bind (wpAny_bind (wpAny_notOrdered_dict hT ?_))
  show wpAny _ _ (pure (a,Value.ref b,none)) _ _ s
  refine wpAny_pure ?_
  have hne:es.isEmpty=false:=by
    cases e:es.isEmpty with
    | false=>rfl
    | true =>
      have:es.size=0:=by simpa [Array.isEmpty] using e
      have:kvs=[]:=List.eq_nil_of_length_eq_zero (by omega)
      subst this
      cases hy
  show wpAny _ _ (dictEntries a >>= _) _ _ s
  refine wpAny_bind (wpAny_dictEntries e1 e3 ?_)
  simp only [hne,Bool.false_eq_true,if_false,pure_bind]
  refine wpAny_bind ?_
  unfold Builtin.Dict.takeOut
  try with_reducible refine wpAny_holding ?_
  refine wpAny_bind ((tupleKind (mixKind X.prog X.w)).pyHash hroom hkey ?_)
  refine wpAny_bind (wpAny_dictFind_heap (s:={ s with toks:=s.toks+(tupleKind (mixKind X.prog X.w)).draws k }) hroom hkey e1 e3 e4 his e5 (fun hno=>?_) fun j p hj=>?_)
  · rw [atKey_none_of_get hno] at ev
    exact ev.elim
  · have ep':atKey ys k=some p:=atKey_of_get e5 hj
    rw [ep'] at ev
    have ev:RelV y p.2:=ev
    refine wpAny_bind (wpAny_dictEntries (s:={ s with toks:=s.toks+(tupleKind (mixKind X.prog X.w)).draws k }) e1 e3 ?_)
    rw [entry_at e4 j,hj]
    refine wpAny_bind (wpAny_updateDictKeys (hz:=hes) (s:={ s with toks:=s.toks+(tupleKind (mixKind X.prog X.w)).draws k }) e1 e3 (wpAny_pure ?_))
    simp only [Option.map_some,Option.isNone_some,Bool.false_eq_true,if_false]
    refine wpAny_bind (wpAny_letGo (wpAny_pure ⟨_,rfl,y,upd H a (.dT (dropK kvs k)),?_,ev,q⟩))
    have hk2:kvs[j]? = some (k,y):=by
      have hjl:j < kvs.length:=by rw [Paired.len rel]; exact (List.getElem?_eq_some_iff.mp hj).1
      obtain ⟨x',hx',r1,_⟩:=L2.Paired.at rel (List.getElem?_eq_getElem hjl)
      rw [hj] at hx'
      cases hx'
      have e:kvs[j]? = some (k,kvs[j].2):=by
        rw [List.getElem?_eq_getElem hjl]
        have r1:kvs[j].1=k:=r1
        exact congrArg some (Prod.ext r1 rfl)
      have:=valV_of_get hnd e
      rw [hy] at this
      rw [e,← Option.some.inj this]
    have hrel:KT H (dropK kvs k) (ys.eraseIdx j):=by rw [← erase_drop hnd hk2]; exact Paired.eraseIdx rel j
    refine d_write I (by rw [ha]; exact True.intro) (Heap.SameBut.update ..) ⟨_,Heap.get?_update_self _ e1 (Obj.isFreed_of_dict (Obj.data_mapDictKeys e3 _))⟩
      ⟨Nat.le_trans (List.length_filter_le _ _) hz,lo,_,hrel.keeps fun c zs ec=>?_,_,_,ep+1,Heap.get?_update_self _ e1 (Obj.isFreed_of_dict (Obj.data_mapDictKeys e3 _)),e2.mapDictKeys _,Obj.data_mapDictKeys e3 _,?_,?_⟩
    · rw [upd_ne (ne_of ec ha (fun z=>nomatch z))]
      exact ec
    · have:(es.eraseIdxIfInBounds j).toList=es.toList.eraseIdx j:=by obtain ⟨l⟩:=es; simp
      rw [this,e4,map_erase]
    · exact (List.Sublist.map _ (List.eraseIdx_sublist _ _)).nodup e5
end
end L2
namespace L2
open PySem PySem.Spec PyProof.Rows PySem.W
namespace Rv
section
variable {prog:Program} {w:World} {A:Around} {E:Value→Shared→Prop} {s:Shared} {I l:Addr}
end
end Rv
section
variable {X:Cx} {x:Expr} {t:TA} {p1 p2 q1 q2:Pos}
end
end L2
namespace Sw
open PySem
def Rise (xs:Array Nat):Prop:=xs.toList.Pairwise (· < ·)
theorem Rise.lt {xs:Array Nat} (h:Rise xs) {i j a b:Nat} (hij:i < j) (h1:xs[i]? = some a) (h2:xs[j]? = some b):a < b:=by
  rw [← Array.getElem?_toList] at h1 h2
  obtain ⟨hi,e1⟩:=List.getElem?_eq_some_iff.mp h1
  obtain ⟨hj,e2⟩:=List.getElem?_eq_some_iff.mp h2
  have:=List.pairwise_iff_getElem.mp h i j hi hj hij
  rw [e1,e2] at this; exact this
theorem below_go {xs : Array Nat} {j : Nat} (h : Rise xs) : ∀ (fuel lo hi : Nat), lo ≤ hi → hi ≤ xs.size → hi - lo ≤ fuel → (∀ i a, i < lo → xs[i]? = some a → a < j) → (∀ i a, hi ≤ i → xs[i]? = some a → j ≤ a) →
    (SetTable.below.go xs j fuel lo hi≤xs.size∧(∀ i a,i < SetTable.below.go xs j fuel lo hi→xs[i]? = some a→a < j)∧∀ i a,SetTable.below.go xs j fuel lo hi≤i→xs[i]? = some a→j≤a)
  | 0, lo, hi, h1, h2, h3, h4, h5 => by
    have:lo=hi:=by omega
    subst this
    exact ⟨h2,h4,h5⟩
  | fuel + 1, lo, hi, h1, h2, h3, h4, h5 => by
    unfold SetTable.below.go
    by_cases c:lo < hi
    · rw [if_pos c]
      have hm:(lo+hi) / 2 < xs.size:=by omega
      have em:xs[(lo+hi) / 2]? = some xs[(lo+hi) / 2]:=Array.getElem?_eq_getElem hm
      have eg:xs.getD ((lo+hi) / 2) j=xs[(lo+hi) / 2]:=by simp [Array.getD,hm]
      simp only [eg]
      by_cases c2:xs[(lo+hi) / 2] < j
      · rw [if_pos c2]
        refine below_go h fuel _ _ (by omega) h2 (by omega) (fun i a hi' ha=>?_) h5
        by_cases e:i=(lo+hi) / 2
        · subst e; rw [em] at ha; cases ha; exact c2
        · exact Nat.lt_trans (h.lt (show i < (lo+hi) / 2 by omega) ha em) c2
      · rw [if_neg c2]
        refine below_go h fuel _ _ (by omega) (by omega) (by omega) h4 (fun i a hi' ha=>?_)
        by_cases e:i=(lo+hi) / 2
        · subst e; rw [em] at ha; cases ha; omega
        · have:=h.lt (show (lo+hi) / 2 < i by omega) em ha; omega
    · rw [if_neg c]
      have:lo=hi:=by omega
      subst this
      exact ⟨h2,h4,h5⟩
theorem below_spec {xs:Array Nat} (h:Rise xs) (j:Nat):SetTable.below xs j≤xs.size∧(∀ i a,i < SetTable.below xs j→xs[i]? = some a→a < j)∧∀ i a,SetTable.below xs j≤i→xs[i]? = some a→j≤a :=
  below_go h _ _ _ (Nat.zero_le _) (Nat.le_refl _) (by omega) (fun i a hi=>absurd hi (by omega)) fun i a hi ha=>by
    have:=(Array.getElem?_eq_some_iff.mp ha).1; omega
theorem below_at {xs:Array Nat} (h:Rise xs) {k p:Nat} (hk:k=0∧p=0∨∃ k',k=k'+1∧∃ a,xs[k']? = some a∧p=a+1):SetTable.below xs p=k:=by
  obtain ⟨h1,h2,h3⟩:=below_spec h p
  rcases hk with ⟨rfl,rfl⟩ | ⟨k',rfl,a,ha,rfl⟩
  · by_cases e:SetTable.below xs 0=0
    · exact e
    · have:xs[0]? = some xs[0]:=Array.getElem?_eq_getElem (by omega)
      have:=h2 0 _ (by omega) this; omega
  · have hk:=(Array.getElem?_eq_some_iff.mp ha).1
    rcases Nat.lt_trichotomy (SetTable.below xs (a+1)) (k'+1) with c | c | c
    · have:=h3 k' a (by omega) ha; omega
    · exact c
    · have e:xs[k'+1]? = some (xs[k'+1]'(by omega)):=Array.getElem?_eq_getElem (by omega)
      have q1:=h2 (k'+1) _ c e
      have q2:=h.lt (show k' < k'+1 by omega) ha e
      omega
theorem Rise.insert {xs : Array Nat} (h : Rise xs) {j : Nat} (hj : xs[SetTable.below xs j]? ≠ some j) : Rise (SetTable.insertAt xs (SetTable.below xs j) j) := by
  obtain ⟨h1,h2,h3⟩:=below_spec h j
  generalize SetTable.below xs j=p at h1 h2 h3 hj
  unfold Rise
  rw [SetTable.toList_insertAt]
  have e:xs.toList=xs.toList.take p ++ xs.toList.drop p:=(List.take_append_drop _ _).symm
  have hp:(xs.toList.take p ++ xs.toList.drop p).Pairwise (· < ·):=by rw [← e]; exact h
  rw [List.pairwise_append] at hp
  obtain ⟨p1,p2,p3⟩:=hp
  have m1:∀ a ∈ xs.toList.take p,a < j:=fun a ha=>by
    obtain ⟨i,hi⟩:=List.mem_iff_getElem?.mp ha
    rw [List.getElem?_take] at hi
    split at hi
    · exact h2 i a (by assumption) (by rw [← Array.getElem?_toList]; exact hi)
    · cases hi
  have m2:∀ a ∈ xs.toList.drop p,j < a:=fun a ha=>by
    obtain ⟨i,hi⟩:=List.mem_iff_getElem?.mp ha
    rw [List.getElem?_drop,Array.getElem?_toList] at hi
    have q:=h3 (p+i) a (by omega) hi
    rcases Nat.lt_or_eq_of_le q with q | q
    · exact q
    · subst q
      cases i with
      | zero=>exact absurd hi hj
      | succ i =>
        have e0:xs[p]? = some (xs[p]'(by have:=(Array.getElem?_eq_some_iff.mp hi).1; omega)):=Array.getElem?_eq_getElem _
        have q1:=h3 p _ (Nat.le_refl _) e0
        have q2:=h.lt (show p < p+(i+1) by omega) e0 hi
        omega
  rw [List.pairwise_append]
  refine ⟨p1,List.pairwise_cons.mpr ⟨m2,p2⟩,fun a ha b hb=>?_⟩
  rcases List.mem_cons.mp hb with rfl | hb
  · exact m1 a ha
  · exact p3 a ha b hb
structure TI (t:SetTable):Prop where
  rise:Rise t.place
  nod:t.dummies = #[]
theorem has_nil (j:Nat):SetTable.has #[] j=false:=by simp [SetTable.has]
theorem probe_go {t:SetTable} (h:TI t) {hashAt:Nat→Int} {hh:Int}:∀ (fuel:Nat) (p:SetTable.Probe) {j:Nat} {d:Option Nat},SetTable.probe.go t hashAt hh fuel p=some (.empty j d)→p.dummy=none→d=none∧t.place[SetTable.below t.place j]?≠some j
  | 0,p,j,d,e,_=>by simp [SetTable.probe.go] at e
  | fuel + 1, p, j, d, e, hd => by
    unfold SetTable.probe.go at e
    have adv:(t.advance p).dummy=none:=by unfold SetTable.advance; split <;> exact hd
    cases hs:t.slot p.j with
    | empty =>
      rw [hs] at e
      simp only [Option.some.injEq,SetTable.Met.empty.injEq] at e
      obtain ⟨rfl,rfl⟩:=e
      refine ⟨hd,fun z=>?_⟩
      unfold SetTable.slot at hs
      simp [z] at hs
    | dummy =>
      unfold SetTable.slot at hs
      rw [h.nod] at hs
      simp only [has_nil] at hs
      split at hs <;> simp at hs
    | live i =>
      rw [hs] at e
      simp only at e
      split at e
      · simp at e
      · exact probe_go h fuel _ e adv
theorem free_slot {t:SetTable} (h:TI t) {hh:Int} {j:Nat} {b:Bool} (e:t.freeSlot hh=some (j,b)):t.place[SetTable.below t.place j]?≠some j:=by
  unfold SetTable.freeSlot at e
  split at e
  · rename_i j' d he
    obtain ⟨e1,e2⟩:=probe_go h _ _ he rfl
    subst e1
    simp at e
    rw [← e.1]; exact e2
  · cases e
theorem TI.standIn (t:SetTable) (n:Nat):TI (t.standIn n):=⟨by unfold Rise SetTable.standIn; simp only [Array.toList_range]; exact List.pairwise_lt_range,rfl⟩
theorem TI.orStandIn {t:SetTable} (h:TI t) (n:Nat):TI (t.orStandIn n):=by
  unfold SetTable.orStandIn
  split
  · exact h
  · exact TI.standIn t n
theorem TI.put {t:SetTable} (h:TI t) {j:Nat} (hj:t.place[SetTable.below t.place j]?≠some j):TI (t.put j).1:=by
  refine ⟨h.rise.insert hj,?_⟩
  show (if SetTable.has t.dummies j then _ else t.dummies) = #[]
  rw [h.nod,has_nil,if_neg (by decide)]
theorem TI.layNew {t:SetTable} (h:TI t) (es:Array (Int × Value)) (hh:Int) (x:Value):TI (PySem.layNew t es hh x).2.1:=by
  unfold PySem.layNew
  split
  · rename_i slot wd he
    exact (h.put (free_slot h he)).orStandIn _
  · exact TI.standIn t _
theorem TI.relayAll {t:SetTable} (es:Array (Int × Value)) (wanted:Nat):TI (PySem.relayAll t es wanted).2.1:=by
  unfold PySem.relayAll
  split
  · rename_i t' order he
    dsimp only
    split
    · unfold SetTable.relaid SetTable.laid at he
      simp only [Option.bind_eq_bind,Option.bind_eq_some_iff,Option.pure_def,Option.some.injEq] at he
      obtain ⟨owner,_,he⟩:=he
      have:=(Prod.mk.inj he).1
      subst this
      refine ⟨?_,rfl⟩
      show ((List.range _).filterMap _ |>.map _).toArray.toList.Pairwise _
      rw [List.toList_toArray,List.map_filterMap]
      have:(fun x=>Option.map (fun y:Nat × Nat=>y.1) (Option.map (fun y=>(x,y)) (owner.getD x none)))=fun x=>Option.map (fun _=>x) (owner.getD x none):=by funext x; cases owner.getD x none <;> rfl
      refine List.Pairwise.filterMap _ (fun a b hab c hc d hd=>?_) List.pairwise_lt_range
      cases ha:owner.getD a none <;> rw [ha] at hc <;> simp at hc
      cases hb:owner.getD b none <;> rw [hb] at hd <;> simp at hd
      omega
    · exact TI.standIn t _
  · exact TI.standIn t _
theorem TI.off {t:SetTable} (h:TI t):TI { t with plain:=false }:=⟨h.rise,h.nod⟩
theorem TI.fresh (a b:Nat) (c:Bool):TI (SetTable.fresh a b c):=⟨by simp [Rise,SetTable.fresh],rfl⟩
theorem led_layNew (t:SetTable) (es:Array (Int × Value)) (hh:Int) (x:Value):(PySem.layNew t es hh x).2.1.led=t.led:=by
  unfold PySem.layNew
  split
  · simp only [SetTable.orStandIn]; split <;> rfl
  · rfl
theorem led_relayAll (t:SetTable) (es:Array (Int × Value)) (wanted:Nat):(PySem.relayAll t es wanted).2.1.led=t.led:=by
  unfold PySem.relayAll
  split
  · rename_i t' order he
    dsimp only
    split
    · unfold SetTable.relaid SetTable.laid at he
      simp only [Option.bind_eq_bind,Option.bind_eq_some_iff,Option.pure_def,Option.some.injEq] at he
      obtain ⟨owner,_,he⟩:=he
      have:=(Prod.mk.inj he).1
      subst this
      rfl
    · rfl
  · rfl
end Sw
namespace Sw
open PySem PySem.Spec PyProof.Rows
def key (e:Int × Value):Int:=match e.2 with | .int i _=>i | _=>0
section
variable {prog:Program} {w:World}
def SO (prog:Program) (w:World) (bt:Bool) (h:Heap) (a:Addr) (ks:List Int):Prop :=
  ∃ o es ep t,h.get? a=some o∧o.ExactSet∧o.data = .set es ep t∧ElemsOf (intKind prog w) es.toList∧(∀ e ∈ es.toList,∃ u,e.2 = .int (key e) u)∧es.size < scanBound∧t.fits es.size=true∧TI t∧t.led = !bt∧ks=es.toList.map key∧ks.Nodup
theorem SO.keep {bt:Bool} {h h':Heap} {a:Addr} {ks:List Int} (x:SO prog w bt h a ks) (k:∀ o,h.get? a=some o→h'.get? a=some o):SO prog w bt h' a ks :=
  let ⟨o,es,ep,t,e,r⟩:=x; ⟨o,es,ep,t,k o e,r⟩
theorem SO.lt {bt:Bool} {h:Heap} {a:Addr} {ks:List Int} (x:SO prog w bt h a ks):a < h.objs.size:=let ⟨_,_,_,_,e,_⟩:=x; Heap.lt_size e
variable {A:Around} {E:Value→Shared→Prop} {s:Shared}
theorem add_tail {g : Bool → Sem Unit} (hg : ∀ (b : Bool) (s₁ : Shared) (Q' : Unit → Shared → Prop), Q' () s₁ → wpAny (model prog w) A (g b) Q' E s₁)
    {a:Addr} {o:Obj} {es:Array (Int × Value)} {ep:Nat} {t:SetTable} (ho:s.heap.get? a=some o) (hd:o.data = .set es ep t)
    {es1:Array (Int × Value)} {t2:SetTable} (hb1:es1.size < scanBound) (hf2:t2.fits es1.size=true) (ti:TI t2) {wasDummy:Bool} {R:Option Bool→Shared→Prop}
    (h:∀ h' es2 ep2 t3,Heap.SameBut a s.heap h'→h'.get? a=some { o with data:=.set es2 ep2 t3 }→es2.toList.Perm es1.toList→t3.fits es2.size=true→TI t3→t3.led=t2.led→R (some true) { s with heap:=h' }) :
    wpAny (model prog w) A (do
        storeSet a es1 t2
        if (!wasDummy && t2.tooFull)=true then do
            g (relayAll t2 es1 (SetTable.grown es1.size)).2.2
            storeSet a (relayAll t2 es1 (SetTable.grown es1.size)).1 (relayAll t2 es1 (SetTable.grown es1.size)).2.1
            pure (some true)
          else pure (some true)) R E s:=by
  refine wpAny_bind (wpAny_storeSet_of ho hd ?_ (fits_of_scanBound hb1))
  have g1:(s.heap.update a (Obj.putSet es1 t2)).get? a=some { o with data:=.set es1 (ep+1) t2 }:=by
    have:=Heap.get?_update_self (Obj.putSet es1 t2) ho (by rw [putSet_of es1 t2 hd]; rfl)
    rw [putSet_of es1 t2 hd] at this; exact this
  have b1:=Heap.SameBut.update s.heap a (Obj.putSet es1 t2)
  split
  · have hp:=relayAll_perm t2 es1 (SetTable.grown es1.size)
    have hfr:=relayAll_fits t2 es1 (SetTable.grown es1.size)
    have tir:=TI.relayAll (t:=t2) es1 (SetTable.grown es1.size)
    have lr:=led_relayAll t2 es1 (SetTable.grown es1.size)
    generalize relayAll t2 es1 (SetTable.grown es1.size)=Rl at hp hfr tir lr ⊢
    obtain ⟨es2,t3,gave2⟩:=Rl
    dsimp only at hp hfr tir lr ⊢
    have hsz:es2.size=es1.size:=by rw [← Array.length_toList,hp.length_eq,Array.length_toList]
    refine wpAny_bind (hg _ _ _ (wpAny_bind (wpAny_storeSet_of g1 rfl ?_ (fits_of_scanBound (by rw [hsz]; exact hb1)))))
    have g2:((s.heap.update a (Obj.putSet es1 t2)).update a (Obj.putSet es2 t3)).get? a=some { o with data:=.set es2 (ep+1+1) t3 }:=Heap.get?_update_self (Obj.putSet es2 t3) g1 rfl
    exact wpAny_pure (h _ es2 _ t3 (b1.trans (Heap.SameBut.update _ a _)) g2 hp hfr tir lr)
  · exact wpAny_pure (h _ es1 _ t2 b1 g1 (List.Perm.refl _) hf2 ti rfl)
theorem so_add {bt : Bool} {a : Addr} {ks : List Int} {k : Int} {u : Tok} {Q : Bool → Shared → Prop} (hS : SO prog w bt s.heap a ks) (hroom : ks.length + 1 < scanBound)
    (h:∀ h' ks' b,Heap.SameBut a s.heap h'→SO prog w bt h' a ks'→(∀ x,x ∈ ks'↔x ∈ ks∨x=k)→ks'.length≤ks.length+1→Q b { s with heap:=h' }) :
    wpAny (model prog w) A (setAddHashed a (.int k u) ((intKind prog w).hash k)) Q E s:=by
  obtain ⟨o,es,ep,t,ho,hex,hd,hel,hin,hb,hf,ti,hled,rfl,hnd⟩:=hS
  have hsc:(Value.int k u).scannable=true:=rfl
  have hkey:(intKind prog w).is k (.int k u)=true:=intKind_is _ _ _ _
  have hisk:∀ e ∈ es.toList,((intKind prog w).is k e.2=true↔key e=k):=fun e he=>by
    obtain ⟨v,hv⟩:=hin e he
    rw [hv,KeyKind.is_eq_decide (intKind_is prog w (key e) v) k,decide_eq_true_iff]
    exact eq_comm
  unfold setAddHashed setAddHashedIn
  refine wpAny_holding (wpAny_bind (wpAny_setState_of ho hd hf ?_))
  dsimp only
  rw [byScan_of hsc hb hel]
  simp only [↓reduceIte]
  unfold setAddByScan
  refine wpAny_bind (wpAny_bind (wpAny_rule (wpAny_bind (wpAny_setScan_of hkey ho hd hf hel ?_))))
  cases hr:List.findIdx? (fun e=>(intKind prog w).is k e.2) es.toList with
  | some j =>
    dsimp only
    obtain ⟨hj,hpj,_⟩:=List.findIdx?_eq_some_iff_getElem.mp hr
    have hm:k ∈ es.toList.map key:=List.mem_map.mpr ⟨es.toList[j],List.getElem_mem hj,(hisk _ (List.getElem_mem hj)).mp hpj⟩
    refine wpAny_pure (wpAny_pure ?_)
    have e:s = { s with heap:=s.heap }:=by cases s; rfl
    rw [e]
    exact h s.heap _ _ (Heap.SameBut.refl a s.heap) ⟨o,es,ep,t,ho,hex,hd,hel,hin,hb,hf,ti,hled,rfl,hnd⟩ (fun x=>⟨.inl,fun q=>q.elim id fun e=>e ▸ hm⟩) (Nat.le_succ _)
  | none =>
    dsimp only
    have hnm:k ∉ es.toList.map key:=fun hm=>by
      obtain ⟨e,he,ek⟩:=List.mem_map.mp hm
      have:=List.findIdx?_eq_none_iff.mp hr e he
      rw [(hisk e he).mpr ek] at this; exact Bool.noConfusion this
    have hgw:∀ (b:Bool) {s₁:Shared} {Q':Unit→Shared→Prop},Q' () s₁→wpAny (model prog w) A (match b with | true=>rule "set.scan.the-table-gave-way" | false=>pure ()) Q' E s₁ :=
      fun b s₁ Q' hq=>by cases b <;> first | exact wpAny_pure hq | exact wpAny_rule hq
    have hperm:=layNew_perm t es ((intKind prog w).hash k) (.int k u)
    have hfits:=layNew_fits t es ((intKind prog w).hash k) (.int k u)
    have tin:=ti.layNew es ((intKind prog w).hash k) (.int k u)
    have ledn:=led_layNew t es ((intKind prog w).hash k) (.int k u)
    generalize layNew t es ((intKind prog w).hash k) (.int k u)=L at hperm hfits tin ledn ⊢
    obtain ⟨es1,t1,wasDummy,gave⟩:=L
    dsimp only at hperm hfits tin ledn ⊢
    rw [Array.toList_push] at hperm
    have hsz1:es1.size=es.size+1:=by rw [← Array.length_toList,hperm.length_eq,List.length_append,Array.length_toList]; rfl
    rw [List.length_map,Array.length_toList] at hroom
    have hb1:es1.size < scanBound:=by omega
    refine wpAny_bind (hgw _ ?_)
    have hend:∀ (h':Heap) (es2:Array (Int × Value)) (ep2:Nat) (t2 t3:SetTable),t2.led=t1.led→Heap.SameBut a s.heap h'→h'.get? a=some { o with data:=.set es2 ep2 t3 }→es2.toList.Perm es1.toList→t3.fits es2.size=true→TI t3→t3.led=t2.led→Q true { s with heap:=h' }:=by
      intro h' es2 ep2 t2 t3 l2 sb g2 hp2 hf3 ti3 l3
      have hpp:=hp2.trans hperm
      have hpk:=hpp.map key
      rw [List.map_append] at hpk
      have ek:[((intKind prog w).hash k,Value.int k u)].map key=[k]:=rfl
      rw [ek] at hpk
      have hs2:es2.size=es.size+1:=by rw [← Array.length_toList,hp2.length_eq,Array.length_toList]; exact hsz1
      refine h h' (es2.toList.map key) true sb ⟨_,es2,ep2,t3,g2,hex,rfl,(hel.push hkey hsc).perm hpp,fun e he=>?_,by omega,hf3,ti3,by rw [l3,l2,ledn,hled],rfl,?_⟩ (fun x=>?_) (by rw [List.length_map,List.length_map,Array.length_toList,Array.length_toList]; omega)
      · rcases List.mem_append.mp (hpp.mem_iff.mp he) with he | he
        · exact hin e he
        · rw [List.mem_singleton.mp he]; exact ⟨u,rfl⟩
      · exact hpk.nodup_iff.mpr (L2.nd_snoc hnd hnm)
      · rw [hpk.mem_iff,List.mem_append,List.mem_singleton]
    split
    · refine wpAny_bind ?_
      rw [hashByValue_scannable 8 hsc]
      refine wpAny_pure ?_
      refine add_tail (fun b s₁ Q' hq=>by cases b <;> first | exact wpAny_pure hq | exact wpAny_rule hq) ho hd hb1 ?_ ?_ ?_
      · split
        · exact hfits
        · exact SetTable.fits_plain_off hfits
      · split
        · exact tin
        · exact tin.off
      · intro h' es2 ep2 t3 q1 q2 q3 q4 q5 q6
        dsimp only
        refine wpAny_pure (hend h' es2 ep2 _ t3 ?_ q1 q2 q3 q4 q5 q6)
        split <;> rfl
    · refine wpAny_bind (wpAny_pure ?_)
      simp only [↓reduceIte]
      refine add_tail (fun b s₁ Q' hq=>by cases b <;> first | exact wpAny_pure hq | exact wpAny_rule hq) ho hd hb1 hfits tin ?_
      intro h' es2 ep2 t3 q1 q2 q3 q4 q5 q6
      dsimp only
      exact wpAny_pure (hend h' es2 ep2 _ t3 rfl q1 q2 q3 q4 q5 q6)
end
end Sw
namespace Sw
open PySem PySem.Spec PyProof.Rows
abbrev bt (w:World):Bool:=w.params.followText "set-order"
section
variable {prog:Program} {w:World} {A:Around} {E:Value→Shared→Prop} {s:Shared}
theorem set_new1 (a:Value) {Q₁:Value→Shared→Prop} (h:Q₁ (.ref s.heap.objs.size) { s with heap:=s.heap.push { cls:=.type "set",dict:=none,data:=.set #[] 0 (.fresh 0 0 (!bt w)) } }) :
    codeAny (model prog w) A (.call (.builtin "set.__new__") ⟨[.type "set",a],[]⟩) (wants Q₁ E) s:=by
  refine codeAny_of_tree ?_
  show wpAny _ A.in1 (do checkBuiltinCall "set.__new__" ⟨[.type "set",a],[]⟩; again (.builtin "set.__new__" ⟨[.type "set",a],[]⟩)) _ _ s
  refine wpAny_bind (wpAny_of_eq (F.newCall_set_1 a) (wpAny_pure ⟨plainId_quiet F.plain_set_new _,codeAny_builtin F.entry_set_new ?_⟩))
  rw [Around.under_plainId F.plain_set_new _]
  unfold Builtin.«set.__new__» Builtin.Frozenset.newClass
  have hsub:=sub_set_self
  obtain ⟨hp,g,d,tk,os⟩:=s
  dsimp only
  wp_walk
  refine wpAny_askSetting (wpAny_pure ?_)
  dsimp only
  simp only [newObj]
  refine wpAny_bind (wpAny_alloc (wpAny_pure ?_))
  exact wpAny_pure h
theorem so_loop {R:Result→Shared→Prop} {I:Addr} {fp wr:List Addr} {G:Array GenState→Array GenState→Prop} {n:Nat} {P:Nat→Value→Prop} {St:Nat→Shared→Prop} (W:WalksS prog w A.in1 I fp wr G n P St) (S:Addr) (hSf:S ∉ fp) (ns:List Int) (hl:ns.length=n) (hval:∀ i v,P i v→∃ k t,ns[i]? = some k∧v = .int k t) (hb:n+1 < scanBound) :
    ∀ (k i : Nat) (s : Shared) (ks : List Int), n - i = k → i ≤ n → St i s → SO prog w (bt w) s.heap S ks → (∀ x, x ∈ ks ↔ x ∈ ns.take i) → ks.length ≤ i →
      (∀ s' ks',Moved (S :: wr) G s s'→SO prog w (bt w) s'.heap S ks'→(∀ x,x ∈ ks'↔x ∈ ns)→ks'.length≤n→R (.ok (.ret .none)) s') →
      codeAny (model prog w) A (.builtin "set.update.loop" ⟨[.ref S,.ref I],[]⟩) R s:=by
  have hSw:S ∉ wr:=fun h=>hSf (W.sub _ h)
  have hsub:∀ b ∈ wr,b ∈ S :: wr:=fun b hb=>List.mem_cons_of_mem _ hb
  intro k
  induction k with
  | zero =>
    intro i s ks hk hi hst hS hm0 hle hR
    have hin:i=n:=by omega
    subst hin
    refine codeAny_builtin F.entry_set_update_loop ?_
    rw [Around.under_plainId F.plain_set_update_loop _]
    show wpAny _ A.in1 (pyNext (.ref I) >>= _) _ _ s
    refine wpAny_bind (W.done s _ _ hst fun s' hm=>?_)
    show wpAny _ A.in1 (ret Value.none) _ _ s'
    exact wpAny_pure (hR s' ks (hm.mono hsub) (hS.keep fun o e=>hm.heap S o hSw e) (fun x=>by rw [hm0,← hl,List.take_length]) hle)
  | succ k ih =>
    intro i s ks hk hi hst hS hm0 hle hR
    have hlt:i < n:=by omega
    refine codeAny_builtin F.entry_set_update_loop ?_
    rw [Around.under_plainId F.plain_set_update_loop _]
    show wpAny _ A.in1 (pyNext (.ref I) >>= _) _ _ s
    refine wpAny_bind (W.item i s _ _ hlt hst fun v s' hP hst' hm=>?_)
    obtain ⟨c,t,hc,rfl⟩:=hval i v hP
    show wpAny _ A.in1 (holding [Value.int c t] (setAdd S (.int c t)) >>= _) _ _ s'
    refine wpAny_bind (wpAny_holding ?_)
    unfold setAdd
    refine wpAny_holding ?_
    refine wpAny_bind ((intKind prog w).pyHash (k:=c) (intKind_is _ _ _ _) ?_)
    refine so_add (s:={ s' with toks:=s'.toks+1 }) (hS.keep fun o e=>hm.heap S o hSw e) (by omega) fun h' ks' b hsb hS2 hmem hlen=>?_
    refine wpAny_pure ⟨plainId_quiet F.plain_set_update_loop _,ih (i+1) _ ks' (by omega) hlt (W.frame _ s' _ _ hst' (Nat.le_succ _) fun b hb o e=>?_) hS2 (fun x=>?_) (by omega) fun s'' ks'' hm'' hS'' hmem'' hlen''=>?_⟩
    · rw [hsb.2 b (fun h:b=S=>hSf (by rw [← h]; exact hb))]; exact e
    · rw [hmem,hm0,List.take_succ,hc,List.mem_append]; simp
    · refine hR s'' ks'' (Moved.trans W.gtrans ((hm.mono hsub).then_heap (Nat.le_succ _) fun b o hb e=>?_) hm'') hS'' hmem'' hlen''
      rw [hsb.2 b (fun h:b=S=>hb (by rw [h]; exact List.mem_cons_self))]; exact e
theorem call_set {l : Addr} {items : Array Value} {ns : List Int} {Q : Value → Shared → Prop} (hh : A.handled = none) (hl : s.heap.IsList l items) (hi : IntsAre items.toList ns) (hb : items.size + 1 < scanBound)
    (h:∀ (h':Heap) (tk:Nat) (ks:List Int),SO prog w (bt w) h' s.heap.objs.size ks→(∀ x,x ∈ ks↔x ∈ ns)→ks.length≤items.size→(∀ b o,s.heap.get? b=some o→h'.get? b=some o)→Q (.ref s.heap.objs.size) { s with heap:=h',toks:=tk }) :
    wpAny (model prog w) A (call (.type "set") [.ref l]) Q E s:=by
  obtain ⟨c,tl,hmro⟩:=F.called_set.mro
  have hmade:=F.called_set.made
  have hsub:=F.called_set.sub
  refine wpAny_call (codeAny_of_tree ?_)
  show wpAny _ _ (callAny (.type "set") _) _ _ _
  refine wpAny_pure ⟨Code.quiet_builtin _ (by decide +kernel),codeAny_builtin F.entry_type_call ?_⟩
  rw [Around.under_plain (weight_type_call_type "set" [.ref l] []) rfl]
  have h1:=F.called_set.notType
  have h2:=F.called_set.canCreate
  have hct:=F.typeCall_set_1 (.ref l)
  repeat (any_goals (first | assumption | wp_step))
  refine codeAny_mono (set_new1 (.ref l) (E:=E) (Q₁:=fun obj s₁=>obj = .ref s.heap.objs.size∧s₁ = { s with heap:=s.heap.push { cls:=.type "set",dict:=none,data:=.set #[] 0 (.fresh 0 0 (!bt w)) } }) ⟨rfl,rfl⟩) fun r s₁ hr=>?_
  cases r with
  | error e=>exact hr
  | ok fl =>
    cases fl with
    | ret obj =>
      obtain ⟨rfl,rfl⟩:=hr
      have hS:(s.heap.push { cls:=.type "set",dict:=none,data:=.set #[] 0 (.fresh 0 0 (!bt w)) }).get? s.heap.objs.size=some { cls:=.type "set",dict:=none,data:=.set #[] 0 (.fresh 0 0 (!bt w)) }:=Heap.get?_push_size _ rfl
      have hT:Shared.TypeIs { s with heap:=s.heap.push { cls:=.type "set",dict:=none,data:=.set #[] 0 (.fresh 0 0 (!bt w)) } } (.ref s.heap.objs.size) "set":=⟨_,hS,rfl⟩
      have hli:=F.called_set.init.lookup
      have hbi:=F.called_set.init.bind (.ref s.heap.objs.size)
      repeat (any_goals (first | assumption | wp_step))
      refine codeAny_mono (codeAny_call_builtin (R:=wants (fun r s₂=>r = .none∧∃ h' tk ks,s₂ = { s with heap:=h',toks:=tk }∧SO prog w (bt w) h' s.heap.objs.size ks∧(∀ x,x ∈ ks↔x ∈ ns)∧ks.length≤items.size∧(∀ b o,s.heap.get? b=some o→h'.get? b=some o)) E) F.called_set.init.plain F.entry_set_init (check_set_init_1 hT ?_)) fun r₂ s₂ hr₂=>?_
      · obtain ⟨ol,hol,hcl,nl,hdl⟩:=hl
        obtain ⟨ocls,odict,odata,oslots⟩:=ol
        simp only at hcl hdl
        subst hcl; subst hdl
        have hol':(s.heap.push { cls:=.type "set",dict:=none,data:=.set #[] 0 (.fresh 0 0 (!bt w)) }).get? l=some { cls:=.type "list",dict:=odict,data:=.seq items nl,slots:=oslots }:=Heap.get?_push_of_some _ hol
        have hsls:=F.sub_list_set
        have hslf:=F.sub_list_frozenset
        have hne:(Value.type "list" == Value.type "dict")=false:=by decide
        have hl1:(s.heap.push { cls:=.type "set",dict:=none,data:=.set #[] 0 (.fresh 0 0 (!bt w)) }).IsList l items:=⟨_,hol',rfl,nl,rfl⟩
        unfold Builtin.«set.__init__» noKeywords Builtin.Frozenset.updateFrom
        generalize hPI:pyIter=PI
        wp_walk
        subst hPI
        refine wpAny_pyIter_list hl1 ?_
        refine wpAny_bind (wpAny_runValue ?_)
        have hlS:l < s.heap.objs.size:=Heap.lt_size hol
        have hh3:A.in1.in1.in1.handled=none:=by simp [hh]
        have hneI:l≠(s.heap.push { cls:=.type "set",dict:=none,data:=.set #[] 0 (.fresh 0 0 (!bt w)) }).objs.size:=by
          rw [Heap.size_push]; exact Nat.ne_of_lt (Nat.lt_succ_of_lt hlS)
        have hSf:s.heap.objs.size ∉ [(s.heap.push { cls:=.type "set",dict:=none,data:=.set #[] 0 (.fresh 0 0 (!bt w)) }).objs.size,l]:=by
          rw [Heap.size_push]; simp only [List.mem_cons,List.mem_singleton,List.not_mem_nil,or_false,not_or]
          exact ⟨Nat.ne_of_lt (Nat.lt_succ_self _),Nat.ne_of_gt hlS⟩
        have hlen:=hi.length
        rw [Array.length_toList] at hlen
        have hval:∀ (i:Nat) (v:Value),items[i]? = some v→∃ k t,ns[i]? = some k∧v = .int k t:=fun i v hv=>by
          obtain ⟨t,e⟩:=PyProof.Rows.IntsAre.int_at hi i v (by rw [Array.getElem?_toList]; exact hv)
          have hlt:=(Array.getElem?_eq_some_iff.mp hv).1
          have:ns[i]? = some (ns.getD i 0):=by rw [List.getD_eq_getElem?_getD,List.getElem?_eq_getElem (by omega)]; rfl
          exact ⟨_,t,this,e⟩
        refine so_loop ((Walks.list hh3 _ l hneI items).toS) s.heap.objs.size hSf ns hlen.symm hval hb (items.size - 0) 0 _ [] (by omega) (Nat.zero_le _)
          ⟨⟨_,Heap.get?_push_size _ rfl,rfl,rfl⟩,(hl1.push _)⟩ ?hS0 (fun x=>by simp) (Nat.le_refl _) ?hR
        case hS0 =>
          have hget:((s.heap.push { cls:=.type "set",dict:=none,data:=.set #[] 0 (.fresh 0 0 (!bt w)) }).push { cls:=.type "list_iterator",data:=.fields #[.ref l,.int 0 0] }).get? s.heap.objs.size
              = some { cls:=.type "set",dict:=none,data:=.set #[] 0 (.fresh 0 0 (!bt w)) }:=Heap.get?_push_of_some _ hS
          exact ⟨_,#[],0,_,hget,⟨rfl,rfl,rfl⟩,rfl,(fun e he=>by simp at he),(fun e he=>by simp at he),by decide,rfl,TI.fresh _ _ _,rfl,rfl,List.nodup_nil⟩
        case hR =>
          intro s' ks' hm hS' hmem hlen'
          obtain ⟨h',g',d',tk',os'⟩:=s'
          have eg:g'=s.gens:=hm.gens
          have ed:d'=s.drawn:=hm.drawn
          have eo:os'=s.os:=hm.os
          subst eg; subst ed; subst eo
          show wpAny _ _ _ _ _ _
          refine wpAny_pure ?_
          show wpAny _ _ (ret Value.none) _ _ _
          refine wpAny_pure ⟨rfl,h',tk',ks',rfl,hS',hmem,hlen',fun b o e=>?_⟩
          have hb:=Heap.lt_size e
          have hb1:b≠s.heap.objs.size:=Nat.ne_of_lt hb
          have hb2:b≠(s.heap.push { cls:=.type "set",dict:=none,data:=.set #[] 0 (.fresh 0 0 (!bt w)) }).objs.size:=by
            rw [Heap.size_push]; exact Nat.ne_of_lt (Nat.lt_succ_of_lt hb)
          exact hm.heap b o (by simp only [List.mem_cons,List.mem_singleton,List.not_mem_nil,or_false,not_or]; exact ⟨hb1,hb2⟩) (Heap.get?_push_of_some _ (Heap.get?_push_of_some _ e))
      · cases r₂ with
        | error e=>exact hr₂
        | ok fl₂ =>
          cases fl₂ with
          | ret r =>
            obtain ⟨rfl,h',tk,ks,rfl,hS',hm',hl',hk'⟩:=hr₂
            repeat (any_goals (first | assumption | wp_step))
            exact h _ _ _ hS' hm' hl' hk'
          | _=>exact hr₂.elim
    | _=>exact hr.elim
end
end Sw
namespace Sw
open PySem PySem.Spec PyProof.Rows
theorem owner_si:Manifest.owners.lookup (String.ofList ['r','o','t','a','r','e','t','i','_','t','e','s'].reverse)=some Manifest.sig_set_iterator:=by kernel_rfl
theorem slot_si_next:Slot "set_iterator" "__next__" "set_iterator.__next__" :=
  .of (owner:="set_iterator") (n:="__next__") (by rw [typeLookup_type,builtinLookup_eq_fast]; kernel_rfl) (by decide +kernel) (by decide +kernel) (by decide +kernel)
    (by first | exact .inl (by decide +kernel) | exact .inr (by decide +kernel)) (by rw [isSubtype_type]; kernel_rfl)
theorem entry_si_next:entryFor table "set_iterator.__next__" = some Builtin.«set_iterator.__next__»:=entryFor_of_tree (by kernel_rfl)
theorem args_si_next (a:Value):argsOk "set_iterator.__next__" ⟨[a],[]⟩:=by
  unfold argsOk; rw [signature?_of (id:="set_iterator.__next__") (n:=['_','_','t','x','e','n','_','_']) (o:=['r','o','t','a','r','e','t','i','_','t','e','s']) (by kernel_rfl) owner_si]; kernel_rfl
theorem slot_si_iter:Slot "set_iterator" "__iter__" "set_iterator.__iter__" :=
  .of (owner:="set_iterator") (n:="__iter__") (by rw [typeLookup_type,builtinLookup_eq_fast]; kernel_rfl) (by decide +kernel) (by decide +kernel) (by decide +kernel)
    (by first | exact .inl (by decide +kernel) | exact .inr (by decide +kernel)) (by rw [isSubtype_type]; kernel_rfl)
theorem args_si_iter (a:Value):argsOk "set_iterator.__iter__" ⟨[a],[]⟩:=by
  unfold argsOk; rw [signature?_of (id:="set_iterator.__iter__") (n:=['_','_','r','e','t','i','_','_']) (o:=['r','o','t','a','r','e','t','i','_','t','e','s']) (by kernel_rfl) owner_si]; kernel_rfl
theorem entry_si_iter:entryFor table "set_iterator.__iter__" = some Builtin.«dict_keyiterator.__iter__» :=
  entryFor_alias (id':="dict_keyiterator.__iter__") (by kernel_rfl) rfl (by decide +kernel) (by kernel_rfl)
theorem entry_set_iter:entryFor table "set.__iter__" = some Builtin.«frozenset.__iter__» :=
  entryFor_alias (id':="frozenset.__iter__") (by kernel_rfl) rfl (by decide +kernel) (by kernel_rfl)
theorem erase_perm {α:Type} {l:List α} {i:Nat} (h:i < l.length):(l[i] :: l.eraseIdx i).Perm l:=by
  rw [List.eraseIdx_eq_take_drop_succ]
  have e:l=l.take i ++ l[i] :: l.drop (i+1):=by rw [List.getElem_cons_drop,List.take_append_drop]
  conv=>rhs; rw [e]
  exact List.perm_middle.symm
theorem pick_perm {α:Type} (next:Nat→Nat):∀ (fuel k:Nat) (left:List α) (out:Array α),fuel=left.length→(pickOrder.go next fuel k left out).toList.Perm (out.toList ++ left)
  | 0, k, left, out, h => by
    have:left=[]:=List.eq_nil_of_length_eq_zero h.symm
    subst this; simp [pickOrder.go]
  | fuel + 1, k, left, out, h => by
    unfold pickOrder.go
    have hlt:next k % left.length < left.length:=Nat.mod_lt _ (by omega)
    rw [List.getElem?_eq_getElem hlt]
    dsimp only
    refine (pick_perm next fuel _ _ _ (by rw [List.length_eraseIdx]; simp [hlt]; omega)).trans ?_
    rw [Array.toList_push,List.append_assoc]
    refine List.Perm.append_left _ ?_
    exact erase_perm hlt
def IsSI (h:Heap) (it:Addr) (first:Value) (i:Nat) (a:Addr) (n ep:Nat):Prop:=∃ o,h.get? it=some o∧o.cls = .type "set_iterator"∧o.data = .fields #[first,rawInt i,.ref a,rawInt n,rawInt ep]
theorem IsSI.keep {h h':Heap} {it a:Addr} {first:Value} {i n ep:Nat} (x:IsSI h it first i a n ep) (k:∀ o,h.get? it=some o→h'.get? it=some o):IsSI h' it first i a n ep:=let ⟨o,e,r⟩:=x; ⟨o,k o e,r⟩
def RS (h:Heap) (a:Addr) (es:Array (Int × Value)) (ep:Nat) (t:SetTable):Prop:=∃ o,h.get? a=some o∧o.ExactSet∧o.data = .set es ep t∧t.fits es.size=true
theorem RS.keep {h h':Heap} {a:Addr} {es:Array (Int × Value)} {ep:Nat} {t:SetTable} (x:RS h a es ep t) (k:∀ o,h.get? a=some o→h'.get? a=some o):RS h' a es ep t:=let ⟨o,e,r⟩:=x; ⟨o,k o e,r⟩
section
variable {prog:Program} {w:World} {A:Around} {E:Value→Shared→Prop} {s:Shared} {it a:Addr} {es:Array (Int × Value)} {ep n:Nat} {t:SetTable}
theorem si_iter {first:Value} {i:Nat} {Q:Value→Shared→Prop} (x:IsSI s.heap it first i a n ep) (h:Q (.ref it) s):wpAny (model prog w) A (pyIter (.ref it)) Q E s:=by
  have hT:s.TypeIs (.ref it) "set_iterator":=let ⟨o,e,c,_⟩:=x; ⟨o,e,c⟩
  refine wpAny_pyIter_slot hT slot_si_iter (wpAny_call_entry slot_si_iter hT entry_si_iter ?_ (args_si_iter _))
  show wpAny _ _ (ret (.ref it)) _ _ s
  exact wpAny_pure ⟨_,rfl,"set_iterator",_,hT,slot_si_next.lookup,h⟩
def Ord (w : World) (a : Addr) (es : Array (Int × Value)) (ep : Nat) (t : SetTable) (vs : List Value) (sl : Nat → Nat) : Prop :=
  sl 0=0∧vs.length=es.size∧((bt w=true∧vs=(pickOrder (w.params.setOrder a ep) es).toList.map (·.2)∧∀ i,sl i=0) ∨
    (bt w=false∧vs=es.toList.map (·.2)∧(!t.plain && decide (es.size > 1))=false∧(t.led=true)∧Rise t.place∧∀ i p,t.place[i]? = some p→sl (i+1)=p+1))
theorem next_item {i : Nat} {v : Value} {vs : List Value} {sl : Nat → Nat} {Q : Option Value → Shared → Prop} (x : IsSI s.heap it (rawInt (sl i)) i a es.size ep) (r : RS s.heap a es ep t) (o : Ord w a es ep t vs sl) (hv : vs[i]? = some v)
    (q:∀ h',IsSI h' it (rawInt (sl (i+1))) (i+1) a es.size ep→Heap.SameBut it s.heap h'→Q (some v) { s with heap:=h' }):wpAny (model prog w) A (pyNext (.ref it)) Q E s:=by
  have hT:s.TypeIs (.ref it) "set_iterator":=let ⟨o,e,c,_⟩:=x; ⟨o,e,c⟩
  obtain ⟨ob,g,gc,gd⟩:=x
  obtain ⟨oa,ra,rx,rd,rf⟩:=r
  unfold pyNext
  refine wpAny_bind (wpAny_attempt (wpAny_callSpecial?_slot (name:=Str.ofString "__next__") hT slot_si_next (wpAny_call_entry slot_si_next hT entry_si_next ?_ (args_si_next _))))
  unfold Builtin.«set_iterator.__next__»
  refine wpAny_bind (m:=slotArgs "__next__" 0 _) (wpAny_pure ?_)
  refine wpAny_bind (wpAny_fieldsOf g gd ?_)
  show wpAny _ _ (setEntries a >>= _) _ _ s
  refine wpAny_bind (wpAny_setEntries_of ra rd rf ?_)
  rw [if_neg (by simp)]
  show wpAny _ _ (setNext a ((sl i:Nat):Int).toNat ((i:Nat):Int).toNat ((ep:Nat):Int).toNat >>= _) _ _ s
  simp only [Int.toNat_natCast]
  have nxt:wpAny (model prog w) A.in1 (setNext a (sl i) i ep) (fun z s'=>z=some (v,sl (i+1))∧s'=s) (fun _ _=>False) s:=by
    unfold setNext
    refine wpAny_bind (wpAny_setState_of ra rd rf ?_)
    dsimp only
    refine wpAny_bind ?_
    unfold setsByText
    refine wpAny_bind (wpAny_askSetting (wpAny_pure ?_))
    obtain ⟨o0,o1,⟨b1,b2,b3⟩ | ⟨b1,b2,b3,b4,b5,b6⟩⟩:=o
    · have b1':(({ program:=(model prog w).prog,params:=(model prog w).w.params }:Setting).params.followText "set-order")=true:=b1
      rw [b1']
      simp only [↓reduceIte]
      rw [if_neg (by simp)]
      refine wpAny_bind ?_
      unfold setWalk
      refine wpAny_bind (wpAny_setState_of ra rd rf ?_)
      dsimp only
      refine wpAny_bind ?_
      unfold setsByText
      refine wpAny_bind (wpAny_askSetting (wpAny_pure ?_))
      rw [b1']
      simp only [↓reduceIte]
      refine wpAny_bind (wpAny_askSetting (wpAny_pure (wpAny_pure ⟨?_,rfl⟩)))
      have hv':=hv
      rw [b2,List.getElem?_map,Array.getElem?_toList] at hv'
      show Option.map (fun e=>(e.2,sl i)) (pickOrder (w.params.setOrder a ep) es)[i]? = _
      obtain ⟨e,he,ev⟩:=Option.map_eq_some_iff.mp hv'
      rw [he,b3 i,b3 (i+1)]
      simp [ev]
    · have b1':(({ program:=(model prog w).prog,params:=(model prog w).w.params }:Setting).params.followText "set-order")=false:=b1
      rw [b1']
      simp only [Bool.false_eq_true,↓reduceIte]
      refine wpAny_ite_split (fun hd=>absurd (show (!t.plain && decide (es.size > 1))=true from hd) (by rw [b3]; decide)) (fun _=>wpAny_bind ?_)
      show wpAny _ _ (if (!t.led && !es.isEmpty)=true then _ else _) _ _ _
      rw [if_neg (by rw [b4]; simp)]
      refine wpAny_pure (wpAny_pure ⟨?_,rfl⟩)
      have hlt:i < es.size:=by rw [← o1]; exact (List.getElem?_eq_some_iff.mp hv).1
      have hfs:t.place.size=es.size:=by
        have:=rf
        unfold SetTable.fits at this
        simp at this
        exact this.1
      have hp:t.place[i]? = some (t.place[i]'(by omega)):=Array.getElem?_eq_getElem _
      have hbel:SetTable.below t.place (sl i)=i:=by
        refine below_at b5 ?_
        cases i with
        | zero=>exact .inl ⟨rfl,o0⟩
        | succ k =>
          have hk:t.place[k]? = some (t.place[k]'(by omega)):=Array.getElem?_eq_getElem _
          exact .inr ⟨k,rfl,_,hk,b6 k _ hk⟩
      rw [hbel,hp,b6 i _ hp]
      rw [b2,List.getElem?_map,Array.getElem?_toList] at hv
      obtain ⟨e,he,ev⟩:=Option.map_eq_some_iff.mp hv
      rw [he]
      obtain ⟨e1,e2⟩:=e
      simp at ev
      simp [ev]
  refine wpAny_bind (wpAny_mono nxt (fun z s' hz=>?_) fun _ _ x=>x.elim)
  obtain ⟨rfl,rfl⟩:=hz
  dsimp only
  have g1:=Heap.get?_update_self (Obj.mapFields (·.setIfInBounds 0 (rawInt ((sl (i+1):Nat):Int)))) g (Obj.isFreed_of_fields (Obj.data_mapFields gd _))
  refine wpAny_bind (wpAny_setField g gd (by simp) (wpAny_bind (wpAny_setField g1 (Obj.data_mapFields gd _) (by simp) ?_)))
  have g2:=Heap.get?_update_self (Obj.mapFields (·.setIfInBounds 1 (rawInt ((i:Int)+1)))) g1 (Obj.isFreed_of_fields (Obj.data_mapFields (Obj.data_mapFields gd _) _))
  refine wpAny_pure ⟨_,rfl,wpAny_pure (q _ ⟨_,g2,(Obj.cls_mapFields ..).trans ((Obj.cls_mapFields ..).trans gc),?_⟩ ((Heap.SameBut.update ..).trans (Heap.SameBut.update ..)))⟩
  rw [Obj.data_mapFields (Obj.data_mapFields gd _)]
  simp [rawInt]
theorem next_end {vs : List Value} {sl : Nat → Nat} {Q : Option Value → Shared → Prop} (hh : A.handled = none) (x : IsSI s.heap it (rawInt (sl vs.length)) vs.length a es.size ep) (r : RS s.heap a es ep t) (o : Ord w a es ep t vs sl)
    (q:∀ h',Heap.ExtBut it s.heap h'→Q none { s with heap:=h' }):wpAny (model prog w) A (pyNext (.ref it)) Q E s:=by
  have hT:s.TypeIs (.ref it) "set_iterator":=let ⟨o,e,c,_⟩:=x; ⟨o,e,c⟩
  obtain ⟨ob,g,gc,gd⟩:=x
  obtain ⟨oa,ra,rx,rd,rf⟩:=r
  unfold pyNext
  refine wpAny_bind (wpAny_attempt (wpAny_callSpecial?_slot (name:=Str.ofString "__next__") hT slot_si_next (wpAny_call_entry slot_si_next hT entry_si_next ?_ (args_si_next _))))
  unfold Builtin.«set_iterator.__next__»
  refine wpAny_bind (m:=slotArgs "__next__" 0 _) (wpAny_pure ?_)
  refine wpAny_bind (wpAny_fieldsOf g gd ?_)
  show wpAny _ _ (setEntries a >>= _) _ _ s
  refine wpAny_bind (wpAny_setEntries_of ra rd rf ?_)
  rw [if_neg (by simp)]
  show wpAny _ _ (setNext a ((sl vs.length:Nat):Int).toNat ((vs.length:Nat):Int).toNat ((ep:Nat):Int).toNat >>= _) _ _ s
  simp only [Int.toNat_natCast]
  have nxt:wpAny (model prog w) A.in1 (setNext a (sl vs.length) vs.length ep) (fun z s'=>z=none∧s'=s) (fun _ _=>False) s:=by
    unfold setNext
    refine wpAny_bind (wpAny_setState_of ra rd rf ?_)
    dsimp only
    refine wpAny_bind ?_
    unfold setsByText
    refine wpAny_bind (wpAny_askSetting (wpAny_pure ?_))
    obtain ⟨o0,o1,⟨b1,b2,b3⟩ | ⟨b1,b2,b3,b4,b5,b6⟩⟩:=o
    · have b1':(({ program:=(model prog w).prog,params:=(model prog w).w.params }:Setting).params.followText "set-order")=true:=b1
      rw [b1']
      simp only [↓reduceIte]
      rw [if_neg (by simp)]
      refine wpAny_bind ?_
      unfold setWalk
      refine wpAny_bind (wpAny_setState_of ra rd rf ?_)
      dsimp only
      refine wpAny_bind ?_
      unfold setsByText
      refine wpAny_bind (wpAny_askSetting (wpAny_pure ?_))
      rw [b1']
      simp only [↓reduceIte]
      refine wpAny_bind (wpAny_askSetting (wpAny_pure (wpAny_pure ⟨?_,rfl⟩)))
      show Option.map (fun e=>(e.2,sl vs.length)) (pickOrder (w.params.setOrder a ep) es)[vs.length]? = _
      rw [Array.getElem?_eq_none (by have h:=o1; rw [b2,List.length_map,Array.length_toList] at h; rw [o1]; exact Nat.le_of_eq h)]
      rfl
    · have b1':(({ program:=(model prog w).prog,params:=(model prog w).w.params }:Setting).params.followText "set-order")=false:=b1
      rw [b1']
      simp only [Bool.false_eq_true,↓reduceIte]
      refine wpAny_ite_split (fun hd=>absurd (show (!t.plain && decide (es.size > 1))=true from hd) (by rw [b3]; decide)) (fun _=>wpAny_bind ?_)
      show wpAny _ _ (if (!t.led && !es.isEmpty)=true then _ else _) _ _ _
      rw [if_neg (by rw [b4]; simp)]
      refine wpAny_pure (wpAny_pure ⟨?_,rfl⟩)
      have hfs:t.place.size=es.size:=by
        have:=rf
        unfold SetTable.fits at this
        simp at this
        exact this.1
      have hbel:SetTable.below t.place (sl vs.length)=vs.length:=by
        refine below_at b5 ?_
        cases e:vs.length with
        | zero=>exact .inl ⟨rfl,o0⟩
        | succ k =>
          have hk:t.place[k]? = some (t.place[k]'(by omega)):=Array.getElem?_eq_getElem _
          exact .inr ⟨k,rfl,_,hk,b6 k _ hk⟩
      rw [hbel,Array.getElem?_eq_none (by omega)]
  refine wpAny_bind (wpAny_mono nxt (fun z s' hz=>?_) fun _ _ x=>x.elim)
  obtain ⟨rfl,rfl⟩:=hz
  dsimp only
  refine wpAny_bind (wpAny_setField g gd (by simp) ?_)
  show wpAny _ _ (newExc (.type "StopIteration") [] >>= _) _ _ _
  refine wpAny_bind ?_
  simp only [newExc,newTuple]
  refine wpAny_bind (wpAny_newObj_type ?_ (by size_fits))
  refine wpAny_bind (m:=firstArgMember _ _) (wpAny_of_eq (a:=Value.none) (by first | rfl | (simp only [firstArgMember]; rfl)) ?_)
  refine wpAny_newObj_type ?_ (by size_fits)
  simp only [raiseNew]
  refine wpAny_bind (wpAny_handled ?_)
  rw [show A.in1.handled=none from hh]
  refine wpAny_bind (wpAny_pure (wpAny_throw ?_))
  refine wpAny_bind (wpAny_isInstance (T:="StopIteration") (b:=true) ⟨_,Heap.get?_push_size _ rfl,rfl⟩ isSubtype_stop ?_)
  exact wpAny_pure (q _ (((Heap.SameBut.update ..).extBut.push _).push _))
theorem walks_ord (hh:A.handled=none) (I a:Addr) (hne:a≠I) {vs:List Value} {sl:Nat→Nat} (o:Ord w a es ep t vs sl) :
    Walks prog w A I [I,a] [I] vs.length (fun i v=>vs[i]? = some v) (fun i h=>IsSI h I (rawInt (sl i)) i a es.size ep∧RS h a es ep t) where
  sub:=fun b hb=>by simp at hb; simp [hb]
  frame:=fun _ _ _ st hk=>⟨st.1.keep fun o e=>hk I (by simp) o e,st.2.keep fun o e=>hk a (by simp) o e⟩
  item:=fun i s Q E hi st hQ=>by
    have hv:vs[i]? = some vs[i]:=List.getElem?_eq_getElem hi
    exact next_item st.1 st.2 o hv fun h' x' hs'=>hQ _ h' s.toks hv ⟨x',st.2.keep fun o e=>hs'.extBut a o hne e⟩ fun b o hb e=>hs'.extBut b o (fun h=>hb (by simp [h])) e
  done:=fun s Q E st hQ=>next_end hh st.1 st.2 o fun h' he=>hQ h' s.toks fun b o hb e=>he b o (fun h=>hb (by simp [h])) e
  self:=fun _ _ _ _ st hQ=>si_iter st.1 hQ
end
end Sw
namespace Sw
open PySem PySem.Spec PyProof.Rows
section
variable {prog:Program} {w:World} {A:Around} {E:Value→Shared→Prop} {s:Shared} {it a:Addr} {es:Array (Int × Value)} {ep n:Nat} {t:SetTable}
theorem wp_choose {M:Model} {src:Source} {k:Nat} {Q:Nat→Shared→Prop} (hk:k≠0) (h:∀ i d,i < k→Q i { s with drawn:=d }):wpAny M A (choose src k) Q E s :=
  fun Γ p hΓ=>⟨hk,h _ _ (Nat.mod_lt _ (Nat.pos_of_ne_zero hk))⟩
theorem wp_draw {α:Type}:∀ (k:Nat) (xs:List α) {s:Shared} {Q:List α→Shared→Prop},xs.length=k→(∀ ys d,ys.Perm xs→Q ys { s with drawn:=d })→wpAny (model prog w) A (drawOrder k xs) Q E s
  | 0, xs, s, Q, hl, h => by
    have:xs=[]:=List.eq_nil_of_length_eq_zero hl
    subst this
    exact wpAny_pure (h [] s.drawn (List.Perm.refl _))
  | k+1,[],s,Q,hl,h=>by simp at hl
  | k + 1, x :: xs, s, Q, hl, h => by
    unfold drawOrder
    refine wpAny_bind (wp_choose (by simp) fun i d hi=>?_)
    rw [List.getElem?_eq_getElem hi]
    dsimp only
    refine wpAny_bind (wp_draw k _ (by rw [List.length_eraseIdx,if_pos hi]; omega) fun ys d' hp=>wpAny_pure (h _ d' ?_))
    exact (hp.cons _).trans (erase_perm hi)
structure Dr (h:Heap) (T:Addr) (es:Array (Int × Value)) (ord:List Nat) (vs:List Value):Prop where
  tup:∃ o,h.get? T=some o∧o.data = .seq (ord.map fun (i:Nat)=>rawInt (i:Int)).toArray 0
  len:vs.length=ord.length
  at_:∀ (i:Nat) p,ord[i]? = some p→∃ e,es[p]? = some e∧vs[i]? = some e.2
theorem dr_next {T:Addr} {ord:List Nat} {i:Nat} {v:Value} {vs:List Value} {Q:Option Value→Shared→Prop} (x:IsSI s.heap it (.ref T) i a es.size ep) (r:RS s.heap a es ep t) (o:Dr s.heap T es ord vs) (hv:vs[i]? = some v)
    (q:∀ h',IsSI h' it (.ref T) (i+1) a es.size ep→Heap.SameBut it s.heap h'→Q (some v) { s with heap:=h' }):wpAny (model prog w) A (pyNext (.ref it)) Q E s:=by
  have hT:s.TypeIs (.ref it) "set_iterator":=let ⟨o,e,c,_⟩:=x; ⟨o,e,c⟩
  obtain ⟨ob,g,gc,gd⟩:=x
  obtain ⟨oa,ra,rx,rd,rf⟩:=r
  obtain ⟨⟨ot,gt,gtd⟩,ol,oat⟩:=o
  have hi:i < ord.length:=by rw [← ol]; exact (List.getElem?_eq_some_iff.mp hv).1
  obtain ⟨e,he,hve⟩:=oat i _ (List.getElem?_eq_getElem hi)
  rw [hv] at hve
  cases hve
  unfold pyNext
  refine wpAny_bind (wpAny_attempt (wpAny_callSpecial?_slot (name:=Str.ofString "__next__") hT slot_si_next (wpAny_call_entry slot_si_next hT entry_si_next ?_ (args_si_next _))))
  unfold Builtin.«set_iterator.__next__»
  refine wpAny_bind (m:=slotArgs "__next__" 0 _) (wpAny_pure ?_)
  refine wpAny_bind (wpAny_fieldsOf g gd ?_)
  show wpAny _ _ (setEntries a >>= _) _ _ s
  refine wpAny_bind (wpAny_setEntries_of ra rd rf ?_)
  rw [if_neg (by simp)]
  show wpAny _ _ (seqItems? (.ref T) >>= _) _ _ s
  have sq:wpAny (model prog w) A.in1 (seqItems? (.ref T)) (fun z s'=>z=some (ord.map fun (i:Nat)=>rawInt (i:Int)).toArray∧s'=s) (fun _ _=>False) s:=by
    unfold seqItems?
    refine wpAny_bind (wpAny_load gt ?_)
    rw [gtd]
    exact wpAny_pure ⟨rfl,rfl⟩
  refine wpAny_bind (wpAny_mono sq (fun z s' hz=>?_) fun _ _ x=>x.elim)
  obtain ⟨rfl,rfl⟩:=hz
  dsimp only
  have hpi:(ord.map fun (i:Nat)=>rawInt (i:Int)).toArray[((i:Nat):Int).toNat]? = some (rawInt (ord[i]:Int)):=by
    rw [Int.toNat_natCast,List.getElem?_toArray,List.getElem?_map,List.getElem?_eq_getElem hi]; rfl
  show wpAny _ _ (match (ord.map fun (i:Nat)=>rawInt (i:Int)).toArray[((i:Nat):Int).toNat]? with | some (.int place _)=>_ | some _=>_ | none=>_) _ _ _
  rw [hpi]
  show wpAny _ _ (setNextDrawn a ((ord[i]:Nat):Int).toNat ((ep:Nat):Int).toNat >>= _) _ _ _
  simp only [Int.toNat_natCast]
  refine wpAny_bind ?_
  unfold setNextDrawn
  refine wpAny_bind (wpAny_setState_of ra rd rf ?_)
  dsimp only
  rw [if_neg (by simp),he]
  refine wpAny_pure (wpAny_bind (wpAny_setField g gd (by simp) ?_))
  have g1:=Heap.get?_update_self (Obj.mapFields (·.setIfInBounds 1 (rawInt ((i:Int)+1)))) g (Obj.isFreed_of_fields (Obj.data_mapFields gd _))
  refine wpAny_pure ⟨_,rfl,wpAny_pure (q _ ⟨_,g1,(Obj.cls_mapFields ..).trans gc,?_⟩ (Heap.SameBut.update ..))⟩
  rw [Obj.data_mapFields gd]
  simp [rawInt]
theorem dr_end {T:Addr} {ord:List Nat} {vs:List Value} {Q:Option Value→Shared→Prop} (hh:A.handled=none) (x:IsSI s.heap it (.ref T) vs.length a es.size ep) (r:RS s.heap a es ep t) (o:Dr s.heap T es ord vs)
    (q:∀ h',Heap.ExtBut it s.heap h'→Q none { s with heap:=h' }):wpAny (model prog w) A (pyNext (.ref it)) Q E s:=by
  have hT:s.TypeIs (.ref it) "set_iterator":=let ⟨o,e,c,_⟩:=x; ⟨o,e,c⟩
  obtain ⟨ob,g,gc,gd⟩:=x
  obtain ⟨oa,ra,rx,rd,rf⟩:=r
  obtain ⟨⟨ot,gt,gtd⟩,ol,oat⟩:=o
  unfold pyNext
  refine wpAny_bind (wpAny_attempt (wpAny_callSpecial?_slot (name:=Str.ofString "__next__") hT slot_si_next (wpAny_call_entry slot_si_next hT entry_si_next ?_ (args_si_next _))))
  unfold Builtin.«set_iterator.__next__»
  refine wpAny_bind (m:=slotArgs "__next__" 0 _) (wpAny_pure ?_)
  refine wpAny_bind (wpAny_fieldsOf g gd ?_)
  show wpAny _ _ (setEntries a >>= _) _ _ s
  refine wpAny_bind (wpAny_setEntries_of ra rd rf ?_)
  rw [if_neg (by simp)]
  show wpAny _ _ (seqItems? (.ref T) >>= _) _ _ s
  have sq:wpAny (model prog w) A.in1 (seqItems? (.ref T)) (fun z s'=>z=some (ord.map fun (i:Nat)=>rawInt (i:Int)).toArray∧s'=s) (fun _ _=>False) s:=by
    unfold seqItems?
    refine wpAny_bind (wpAny_load gt ?_)
    rw [gtd]
    exact wpAny_pure ⟨rfl,rfl⟩
  refine wpAny_bind (wpAny_mono sq (fun z s' hz=>?_) fun _ _ x=>x.elim)
  obtain ⟨rfl,rfl⟩:=hz
  dsimp only
  have hpi:(ord.map fun (i:Nat)=>rawInt (i:Int)).toArray[((vs.length:Nat):Int).toNat]? = none:=by
    rw [Int.toNat_natCast,List.getElem?_toArray,List.getElem?_map,List.getElem?_eq_none (by omega)]; rfl
  show wpAny _ _ (match (ord.map fun (i:Nat)=>rawInt (i:Int)).toArray[((vs.length:Nat):Int).toNat]? with | some (.int place _)=>_ | some _=>_ | none=>_) _ _ _
  rw [hpi]
  dsimp only
  have g1:=Heap.get?_update_self (Obj.mapFields (·.setIfInBounds 0 (rawInt 0))) g (Obj.isFreed_of_fields (Obj.data_mapFields gd _))
  refine wpAny_bind (wpAny_setField g gd (by simp) (wpAny_bind (wpAny_setField g1 (Obj.data_mapFields gd _) (by simp) ?_)))
  show wpAny _ _ (newExc (.type "StopIteration") [] >>= _) _ _ _
  refine wpAny_bind ?_
  simp only [newExc,newTuple]
  refine wpAny_bind (wpAny_newObj_type ?_ (by size_fits))
  refine wpAny_bind (m:=firstArgMember _ _) (wpAny_of_eq (a:=Value.none) (by first | rfl | (simp only [firstArgMember]; rfl)) ?_)
  refine wpAny_newObj_type ?_ (by size_fits)
  simp only [raiseNew]
  refine wpAny_bind (wpAny_handled ?_)
  rw [show A.in1.handled=none from hh]
  refine wpAny_bind (wpAny_pure (wpAny_throw ?_))
  refine wpAny_bind (wpAny_isInstance (T:="StopIteration") (b:=true) ⟨_,Heap.get?_push_size _ rfl,rfl⟩ isSubtype_stop ?_)
  exact wpAny_pure (q _ ((((Heap.SameBut.update ..).trans (Heap.SameBut.update ..)).extBut.push _).push _))
theorem walks_dr (hh:A.handled=none) (I a T:Addr) (hne:a≠I) (hnT:T≠I) {ord:List Nat} {vs:List Value} :
    Walks prog w A I [I,a,T] [I] vs.length (fun i v=>vs[i]? = some v) (fun i h=>IsSI h I (.ref T) i a es.size ep∧RS h a es ep t∧Dr h T es ord vs) where
  sub:=fun b hb=>by simp at hb; simp [hb]
  frame:=fun _ _ _ st hk=>⟨st.1.keep fun o e=>hk I (by simp) o e,st.2.1.keep fun o e=>hk a (by simp) o e,let ⟨o,e,d⟩:=st.2.2.tup; ⟨⟨o,hk T (by simp) o e,d⟩,st.2.2.len,st.2.2.at_⟩⟩
  item:=fun i s Q E hi st hQ=>by
    have hv:vs[i]? = some vs[i]:=List.getElem?_eq_getElem hi
    exact dr_next st.1 st.2.1 st.2.2 hv fun h' x' hs'=>hQ _ h' s.toks hv ⟨x',st.2.1.keep fun o e=>hs'.extBut a o hne e,let ⟨o,e,d⟩:=st.2.2.tup; ⟨⟨o,hs'.extBut T o hnT e,d⟩,st.2.2.len,st.2.2.at_⟩⟩ fun b o hb e=>hs'.extBut b o (fun h=>hb (by simp [h])) e
  done:=fun s Q E st hQ=>dr_end hh st.1 st.2.1 st.2.2 fun h' he=>hQ h' s.toks fun b o hb e=>he b o (fun h=>hb (by simp [h])) e
  self:=fun _ _ _ _ st hQ=>si_iter st.1 hQ
theorem set_iter {ks : List Int} {Q : Value → Shared → Prop} (hh : A.handled = none) (hS : SO prog w (bt w) s.heap a ks)
    (q:∀ I h1 d (vs:List Value) (ns:List Int) fp St,Walks prog w A I fp [I] vs.length (fun i v=>vs[i]? = some v) St→St 0 h1→(∀ b o,s.heap.get? b=some o→h1.get? b=some o)→I ∈ fp→(∀ b ∈ fp,b=a∨s.heap.objs.size≤b)→s.heap.objs.size≤I→IntsAre vs ns→ns.Perm ks→Q (.ref I) { s with heap:=h1,drawn:=d }) :
    wpAny (model prog w) A (pyIter (.ref a)) Q E s:=by
  have hlt:=hS.lt
  obtain ⟨o,es,ep,t,ho,hex,hd,hel,hin,hb,hf,ti,hled,rfl,hnd⟩:=hS
  have hT:s.TypeIs (.ref a) "set":=⟨o,ho,hex.1⟩
  have hints:∀ {l:List (Int × Value)},(∀ e ∈ l,∃ u,e.2 = .int (key e) u)→IntsAre (l.map (·.2)) (l.map key):=by
    intro l
    induction l with
    | nil=>intro _; exact .nil
    | cons e l ih =>
      intro h
      obtain ⟨u,eu⟩:=h e List.mem_cons_self
      rw [List.map_cons,List.map_cons,eu]
      exact .cons _ _ (ih fun e' he'=>h e' (List.mem_cons_of_mem _ he'))
  refine wpAny_pyIter_slot hT F.slot_set_iter (wpAny_call_entry F.slot_set_iter hT entry_set_iter ?_ (F.args_set_iter_1 _))
  unfold Builtin.«frozenset.__iter__» Builtin.Frozenset.slot0 slotArgs
  simp only [List.isEmpty_nil,Bool.not_true,Bool.false_eq_true,↓reduceIte,bind_assoc,List.length_nil,bne_self_eq_false]
  unfold Builtin.Frozenset.addrOf Builtin.Frozenset.sizeOf
  refine wpAny_bind (wpAny_pure ?_)
  try dsimp only
  refine wpAny_bind (wpAny_pure ?_)
  refine wpAny_bind (wpAny_bind (wpAny_setEntries_of ho hd hf (wpAny_pure ?_)))
  refine wpAny_bind ?_
  unfold setDrawn
  refine wpAny_bind (wpAny_setState_of ho hd hf ?_)
  dsimp only
  refine wpAny_bind ?_
  unfold setsByText
  refine wpAny_bind (wpAny_askSetting (wpAny_pure (wpAny_pure ?_)))
  have hz:es.size≤sizeLine:=fits_of_scanBound hb
  have hrs:RS s.heap a es ep t:=⟨o,ho,hex,hd,hf⟩
  refine wpAny_ite_split (fun hdr=>?_) (fun hdr=>?_)
  · refine wpAny_bind (wp_draw es.size (List.range es.size) (List.length_range) fun ord d hp=>?_)
    have hol:ord.length=es.size:=by rw [hp.length_eq,List.length_range]
    refine wpAny_bind (wpAny_newTuple ?_ (by rw [List.length_map,hol]; exact hz))
    have k1:∀ b ob,s.heap.get? b=some ob→(s.heap.push (seqObj "tuple" (ord.map fun (i:Nat)=>rawInt (i:Int)).toArray 0)).get? b=some ob:=fun b ob e=>Heap.get?_push_of_some _ e
    have gT:(s.heap.push (seqObj "tuple" (ord.map fun (i:Nat)=>rawInt (i:Int)).toArray 0)).get? s.heap.objs.size=some (seqObj "tuple" (ord.map fun (i:Nat)=>rawInt (i:Int)).toArray 0):=Heap.get?_push_size _ rfl
    have hsz:(s.heap.push (seqObj "tuple" (ord.map fun (i:Nat)=>rawInt (i:Int)).toArray 0)).objs.size=s.heap.objs.size+1:=Heap.size_push ..
    generalize s.heap.push (seqObj "tuple" (ord.map fun (i:Nat)=>rawInt (i:Int)).toArray 0)=h0 at k1 gT hsz
    refine wpAny_bind (wpAny_setEpoch_of (s:={ s with heap:=h0,drawn:=d }) (k1 _ _ ho) hd hf ?_)
    unfold newFields
    refine wpAny_bind (wpAny_newObj_type (wpAny_pure ⟨_,rfl,"set_iterator",_,⟨_,Heap.get?_push_size _ rfl,rfl⟩,slot_si_next.lookup,?_⟩))
    have hmem:∀ p ∈ ord,p < es.size:=fun p hpm=>by simpa using hp.mem_iff.mp hpm
    have hget:∀ p,p < es.size→es[p]? = some (es.getD p (0,.none)):=fun p hp'=>by rw [Array.getElem?_eq_getElem hp']; simp [Array.getD,hp']
    have hperm:(ord.map fun p=>es.getD p (0,.none)).Perm es.toList:=by
      refine (hp.map _).trans ?_
      have:(List.range es.size).map (fun p=>es.getD p (0,.none))=es.toList:=by
        apply List.ext_getElem?
        intro i
        rw [List.getElem?_map]
        by_cases hi:i < es.size
        · rw [List.getElem?_range hi,Array.getElem?_toList,hget i hi]; rfl
        · rw [List.getElem?_eq_none (by rw [List.length_range]; omega),List.getElem?_eq_none (by rw [Array.length_toList]; omega)]; rfl
      rw [this]
    have hsub:∀ e ∈ ord.map (fun p=>es.getD p (0,.none)),∃ u,e.2 = .int (key e) u:=fun e he=>hin e (hperm.mem_iff.mp he)
    have hst:IsSI (h0.push { cls:=.type "set_iterator",data:=.fields [Value.ref s.heap.objs.size,rawInt 0,.ref a,rawInt es.size,rawInt ep].toArray }) h0.objs.size (.ref s.heap.objs.size) 0 a es.size ep:=⟨_,Heap.get?_push_size _ rfl,rfl,rfl⟩
    have haI:a≠h0.objs.size:=by rw [hsz]; exact Nat.ne_of_lt (Nat.lt_succ_of_lt hlt)
    have hTI:s.heap.objs.size≠h0.objs.size:=by rw [hsz]; exact Nat.ne_of_lt (Nat.lt_succ_self _)
    refine q h0.objs.size _ d ((ord.map fun p=>es.getD p (0,.none)).map (·.2)) ((ord.map fun p=>es.getD p (0,.none)).map key) [h0.objs.size,a,s.heap.objs.size] _ (walks_dr (es:=es) (ep:=ep) (t:=t) (ord:=ord) hh h0.objs.size a s.heap.objs.size haI hTI) ⟨hst,hrs.keep fun ob e=>Heap.get?_push_of_some _ (k1 _ _ e),⟨_,Heap.get?_push_of_some _ gT,rfl⟩,by rw [List.length_map,List.length_map],fun i p hip=>?_⟩
      (fun b ob e=>Heap.get?_push_of_some _ (k1 _ _ e)) (by simp) (fun b hb'=>?_) (by rw [hsz]; exact Nat.le_succ _) (hints hsub) (hperm.map key)
    · have hpl:=hmem p (List.mem_of_getElem? hip)
      exact ⟨_,hget p hpl,by rw [List.getElem?_map,List.getElem?_map,hip]; rfl⟩
    · simp only [List.mem_cons,List.not_mem_nil,or_false] at hb'
      rcases hb' with rfl | rfl | rfl
      · exact .inr (by rw [hsz]; exact Nat.le_succ _)
      · exact .inl rfl
      · exact .inr (Nat.le_refl _)
  · refine wpAny_bind (wpAny_pure (wpAny_bind (wpAny_setEpoch_of ho hd hf ?_)))
    unfold newFields
    refine wpAny_bind (wpAny_newObj_type (wpAny_pure ⟨_,rfl,"set_iterator",_,⟨_,Heap.get?_push_size _ rfl,rfl⟩,slot_si_next.lookup,?_⟩))
    have hst:IsSI (s.heap.push { cls:=.type "set_iterator",data:=.fields [rawInt 0,rawInt 0,.ref a,rawInt es.size,rawInt ep].toArray }) s.heap.objs.size (rawInt 0) 0 a es.size ep:=⟨_,Heap.get?_push_size _ rfl,rfl,rfl⟩
    obtain ⟨vs,sl,ns,hord,hiv,hpn⟩:∃ vs sl ns,Ord w a es ep t vs sl∧IntsAre vs ns∧ns.Perm (es.toList.map key):=by
      by_cases hbt:bt w=true
      · have hpp:=pick_perm (w.params.setOrder a ep) es.size 0 es.toList #[] (Array.length_toList).symm
        rw [show (#[]:Array (Int × Value)).toList ++ es.toList=es.toList by simp] at hpp
        have hpp:(pickOrder (w.params.setOrder a ep) es).toList.Perm es.toList:=hpp
        exact ⟨(pickOrder (w.params.setOrder a ep) es).toList.map (·.2),fun _=>0,(pickOrder (w.params.setOrder a ep) es).toList.map key,⟨rfl,by rw [List.length_map,hpp.length_eq,Array.length_toList],.inl ⟨hbt,rfl,fun _=>rfl⟩⟩,hints fun e he=>hin e (hpp.mem_iff.mp he),hpp.map key⟩
      · have hbf:bt w=false:=by cases h:bt w <;> simp_all
        refine ⟨es.toList.map (·.2),fun i=>match i with | 0=>0 | k+1=>t.place.getD k 0+1,es.toList.map key,⟨rfl,by rw [List.length_map,Array.length_toList],.inr ⟨hbf,rfl,?_,by rw [hled,hbf]; rfl,ti.rise,fun i p hp=>?_⟩⟩,hints hin,List.Perm.refl _⟩
        · cases hx:(!t.plain && decide (es.size > 1)) with
          | false=>rfl
          | true =>
            refine absurd ?_ hdr
            show (!(w.params.followText "set-order") && (!t.plain && decide (es.size > 1)))=true
            rw [hx,show w.params.followText "set-order" = false from hbf]; rfl
        · have:=(Array.getElem?_eq_some_iff.mp hp)
          obtain ⟨hlt',e⟩:=this
          show t.place.getD i 0+1=p+1
          simp [Array.getD,hlt',e]
    have h0:=hord.1
    refine q s.heap.objs.size _ s.drawn vs ns [s.heap.objs.size,a] _ (walks_ord hh s.heap.objs.size a (Nat.ne_of_lt hlt) hord) ⟨by rw [h0]; exact hst,hrs.keep fun ob e=>Heap.get?_push_of_some _ e⟩ (fun b ob e=>Heap.get?_push_of_some _ e) (by simp) (fun b hb'=>?_) (Nat.le_refl _) hiv hpn
    simp only [List.mem_cons,List.not_mem_nil,or_false] at hb'
    rcases hb' with rfl | rfl
    · exact .inr (Nat.le_refl _)
    · exact .inl rfl
end
end Sw
namespace Sw
open PySem PySem.Spec PyProof.Rows PySem.W
section
variable {prog:Program} {w:World} {A:Around} {E:Value→Shared→Prop} {s:Shared} {a:Addr}
theorem hint_set {Q:Bool→Shared→Prop} (hT:s.TypeIs (.ref a) "set") (h:Q false s):wpAny (model prog w) A (Builtin.List.listLengthHint (.ref a)) Q E s:=by
  unfold Builtin.List.listLengthHint
  refine wpAny_bind (wpAny_specialOf hT PySem.F.slot_set_len.lookup ?_)
  generalize hid:("set.__len__":String)=id0
  wp_delta
  rw [show splitId id0=some ("set","__len__") from by subst hid; decide +kernel]
  subst hid
  refine wpAny_bind (wpAny_isInstance (T:="set") (b:=true) hT (by rw [isSubtype_type]; kernel_rfl) ?_)
  refine wpAny_ite_split (fun hab=>absurd hab (by decide)) (fun _=>?_)
  refine wpAny_ite_split (fun _=>?_) (fun hab=>absurd (by decide +kernel) hab)
  refine wpAny_bind (wpAny_typeOf hT ?_)
  exact wpAny_pure h
theorem iadd_set {S:Addr} {ks:List Int} {R:Result→Shared→Prop} (hh:A.handled=none) (hS:SO prog w (bt w) s.heap a ks) (hSa:S≠a) (hn:ks.length≤sizeLine) (g:s.heap.get? S=some { cls:=.type "list",data:=.seq #[] 0 })
    (q:∀ h' tk d acc' c' (ns:List Int),(∀ b o,b≠S→s.heap.get? b=some o→h'.get? b=some o)→h'.get? S=some { cls:=.type "list",dict:=none,data:=.seq acc' c',slots:=#[] }→IntsAre acc'.toList ns→ns.Perm ks→R (.ok (.ret (.ref S))) { s with heap:=h',toks:=tk,drawn:=d }) :
    codeAny (model prog w) A (.builtin "list.__iadd__" ⟨[.ref S,.ref a],[]⟩) R s:=by
  have hT:s.TypeIs (.ref a) "set":=let ⟨o,_,_,_,e,c,_⟩:=hS; ⟨o,e,c.1⟩
  refine codeAny_builtin F.entry_list_iadd ?_
  rw [Around.under_plainId F.plain_list_iadd _]
  show wpAny _ A.in1 (Builtin.List.listExtendWith (.ref S) (.ref a) (.ref S)) _ _ s
  unfold Builtin.List.listExtendWith
  refine wpAny_bind (wpAny_typeOf (T:="set") hT ?_)
  have h1:Builtin.List.listSameRef (.ref S) (.ref a)=false:=by simp [Builtin.List.listSameRef,hSa]
  have h2:(Value.type "set" == Value.type "list")=false:=by decide
  have h3:(Value.type "set" == Value.type "tuple")=false:=by decide
  simp only [h1,h2,h3,Bool.or_false,Bool.false_eq_true,if_false]
  refine wpAny_bind (set_iter (A:=A.in1) hh hS fun I h1 d vs ns fp St W st kp hI hfp hIl hiv hpn=>?_)
  have hSf:S ∉ fp:=fun hm=>by
    rcases hfp S hm with e | e
    · exact hSa e
    · exact absurd (Heap.lt_size g) (Nat.not_lt.mpr e)
  have hln:vs.length=ks.length:=by rw [hiv.length,hpn.length_eq]
  have hn':vs.length≤sizeLine:=by omega
  have hT1:({ s with heap:=h1,drawn:=d }:Shared).TypeIs (.ref a) "set":=let ⟨o,e,c⟩:=hT; ⟨o,kp _ _ e,c⟩
  have key:∀ (h:Heap) (c₁:Nat),St 0 h→(∀ b o,b≠S→s.heap.get? b=some o→h.get? b=some o)→h.get? S=some { cls:=.type "list",data:=.seq #[] c₁ } →
      codeAny (model prog w) A (.builtin "list.extend.loop" ⟨[.ref S,.ref I,.ref S],[]⟩) R { s with heap:=h,drawn:=d }:=by
    intro h c₁ hst hk hS₁
    refine codeAny_extend_loopS W.toS hn' S hSf (.ref S) vs.length 0 _ #[] c₁ rfl (Nat.zero_le _) hst hS₁ (ItemsOf.nil _) fun s' acc' c' hm hS' hacc=>?_
    have es:s' = { s with heap:=s'.heap,toks:=s'.toks,drawn:=d }:=by have e:=Moved.eq_with hm; exact e
    rw [es]
    have ea:acc'.toList=vs:=L2.items_eq hacc
    refine q s'.heap s'.toks d acc' c' ns (fun b o hb e=>hm.heap b o (fun hmem=>?_) (hk b o hb e)) hS' (by rw [ea]; exact hiv) hpn
    rcases List.mem_cons.mp hmem with e' | hmem
    · exact hb e'
    · rw [List.mem_singleton.mp hmem] at e
      exact absurd (Heap.lt_size e) (Nat.not_lt.mpr hIl)
  refine wpAny_bind (wpAny_holding (hint_set hT1 ?_))
  refine wpAny_ite_split (fun _=>?_) (fun _=>wpAny_pure ⟨plainId_quiet PySem.F.plain_extend_loop _,key _ 0 st (fun b o _ e=>kp b o e) (kp _ _ g)⟩)
  refine wpAny_bind (wpAny_rule (wpAny_bind ?_))
  show wpAny _ _ (updateSeq S (·.push .none) >>= fun _=>updateSeq S (·.pop)) _ _ _
  refine wpAny_bind (wpAny_updateSeq (kp _ _ g) rfl ?_)
  have g2:=Heap.get?_update_self (Obj.mapSeq (·.push Value.none)) (kp _ _ g) rfl
  refine wpAny_updateSeq (hz:=by seq_fits) g2 rfl ?_
  have g3:=Heap.get?_update_self (Obj.mapSeq (·.pop)) g2 rfl
  refine wpAny_pure ⟨plainId_quiet PySem.F.plain_extend_loop _,key _ _ ?_ (fun b o hb e=>?_) g3⟩
  · refine W.frame 0 _ _ st fun b hb o e=>?_
    have hbS:b≠S:=fun h=>hSf (h ▸ hb)
    exact (Heap.get?_update_other _ _ (Ne.symm hbS)).trans ((Heap.get?_update_other _ _ (Ne.symm hbS)).trans e)
  · exact (Heap.get?_update_other _ _ (Ne.symm hb)).trans ((Heap.get?_update_other _ _ (Ne.symm hb)).trans (kp b o e))
theorem collect_set {ks:List Int} {Q:List Value→Shared→Prop} (hh:A.handled=none) (hS:SO prog w (bt w) s.heap a ks) (hn:ks.length≤sizeLine)
    (q:∀ h' tk d vs (ns:List Int),(∀ b o,s.heap.get? b=some o→h'.get? b=some o)→IntsAre vs ns→ns.Perm ks→Q vs { s with heap:=h',toks:=tk,drawn:=d }):wpAny (model prog w) A (collect (.ref a)) Q E s:=by
  have hlt:=hS.lt
  unfold collect
  refine wpAny_bind (wpAny_runValue (codeAny_builtin F.entry_proto_collect ?_))
  rw [Around.under_plainId F.plain_proto_collect _]
  show wpAny _ A.in1 (newList [] >>= fun l=>again (.builtin "list.__iadd__" ⟨[l,.ref a],[]⟩)) _ _ s
  have g:(s.heap.push { cls:=.type "list",data:=.seq ([]:List Value).toArray }).get? s.heap.objs.size=some { cls:=.type "list",data:=.seq #[] 0 }:=Heap.get?_push_size _ rfl
  refine wpAny_bind (wpAny_newObj_type (wpAny_pure ⟨plainId_quiet F.plain_list_iadd _,iadd_set (s:={ s with heap:=s.heap.push { cls:=.type "list",data:=.seq ([]:List Value).toArray } }) hh (hS.keep fun o e=>Heap.get?_push_of_some _ e) (Nat.ne_of_gt hlt) hn g fun h' tk d acc' c' ns hk hS' hi hp=>?_⟩))
  show wpAny _ A (load s.heap.objs.size >>= _) _ _ { s with heap:=h',toks:=tk,drawn:=d }
  refine wpAny_bind (wpAny_load hS' (wpAny_pure (q h' tk d acc'.toList ns (fun b o e=>hk b o (Nat.ne_of_lt (Heap.lt_size e)) (Heap.get?_push_of_some _ e)) hi hp)))
theorem sorted_set {ks:List Int} {h₀:Heap} {L:Addr} {m:Str→Option Value} {news:List (Addr × Obj)} {Q:Value→Shared→Prop} (hh:A.handled=none) (hS:SO prog w (bt w) s.heap a ks) (h64:ks.length < 64) (F:Fr h₀ L s.heap m) (N:News h₀ L s.heap news)
    (q:∀ D c h' tk d (out:List Value) (ns:List Int),Fr h₀ L h' m→News h₀ L h' ((D,seqObj "list" out.toArray c) :: news)→(∀ p ∈ news,p.1 < D)→IntsAre out ns→ns.Perm ks→ns.Pairwise (·≤·)→Q (.ref D) { s with heap:=h',toks:=tk,drawn:=d }) :
    wpAny (model prog w) A (call (.builtin "sorted") [.ref a]) Q E s:=by
  refine Calls.call_function_entry kind_sorted plain_sorted entry_sorted (args_sorted1 _) (wpAny_bind (m:=checkCount "sorted" 1 1 _) (wpAny_pure (wpAny_bind (collect_set hh hS (L2.small_le (m:=64) (by omega)) fun h1 tk d vs ns keep hi hp=>?_))))
  have hvl:vs.length < 64:=by rw [hi.length,hp.length_eq]; exact h64
  have hz:vs.length≤sizeLine:=L2.small_le (m:=64) (by omega)
  refine wpAny_bind (wpAny_newList ?_ hz)
  have F1:=F.kept keep
  have N1:=N.grown keep
  have hL:L < h1.objs.size:=F1.ns.lt
  have g:(h1.push (seqObj "list" vs.toArray 0)).get? h1.objs.size=some (seqObj "list" vs.toArray 0):=Heap.get?_push_size _ rfl
  show wpAny (model prog w) A.in1 (do let _ ← holding [Value.ref h1.objs.size] (call (.builtin "list.sort") [Value.ref h1.objs.size]); ret (Value.ref h1.objs.size)) _ _ { s with heap:=h1.push (seqObj "list" vs.toArray 0),toks:=tk,drawn:=d }
  refine wpAny_bind (wpAny_holding (wpAny_call_entry slot_list_sort ⟨_,g,rfl⟩ entry_list_sort (list_sort_tree (s:={ s with heap:=h1.push (seqObj "list" vs.toArray 0),toks:=tk,drawn:=d }) g hi hvl fun out ns' a1 a2 a3=>⟨_,rfl,wpAny_pure ⟨_,rfl,?_⟩⟩) (args_list_sort _)))
  have hb:∀ b o,s.heap.get? b=some o→b≠h1.objs.size:=fun b o e=>Nat.ne_of_lt (Heap.lt_size (keep b o e))
  have k7:∀ b o,s.heap.get? b=some o→(sortedHeap (h1.push (seqObj "list" vs.toArray 0)) h1.objs.size vs out).get? b=some o:=fun b o e=>by
    unfold sortedHeap
    exact (Heap.get?_update_other _ _ (Ne.symm (hb b o e))).trans (Heap.get?_push_of_some _ (Heap.get?_push_of_some _ ((Heap.get?_update_other _ _ (Ne.symm (hb b o e))).trans (Heap.get?_push_of_some _ (keep b o e)))))
  obtain ⟨c1,g2⟩:∃ c1,((h1.push (seqObj "list" vs.toArray 0)).update h1.objs.size (Obj.mapSeq fun _=>#[])).get? h1.objs.size=some (seqObj "list" #[] c1):=⟨_,get?_update_seq g fun _=>#[]⟩
  obtain ⟨c7,g7⟩:∃ c7,(sortedHeap (h1.push (seqObj "list" vs.toArray 0)) h1.objs.size vs out).get? h1.objs.size=some (seqObj "list" out c7):=⟨_,get?_update_seq (Heap.get?_push_of_some _ (Heap.get?_push_of_some _ g2)) fun _=>out⟩
  refine q h1.objs.size c7 _ tk d out.toList ns' (F.kept k7) (fun p hp'=>?_) (fun p hp'=>Heap.lt_size (N1 p hp').1) a1 (a2.trans hp) a3
  rcases List.mem_cons.mp hp' with rfl | hp'
  · exact ⟨by simpa using g7,Nat.ne_of_gt hL,Heap.get?_none_of_le (Nat.le_trans F1.above (Nat.le_of_lt hL))⟩
  · exact (N.grown k7) p hp'
end
end Sw
namespace L2
open PySem PySem.Spec PyProof.Rows PySem.W
theorem Inv.drawn {X:Cx} {pins:List (Addr × Obj)} {σ:St} {H:Hp} {s:Shared} (I:Inv X pins σ H s) (d:Drawn):Inv X pins σ H { s with drawn:=d }:=⟨I.ok,I.os,I.bare,I.base,I.loc,I.cell,I.free,I.freeC,I.pin,I.hok,I.len⟩
def tSortSet (K:PySem.W.Frag) (t:TA):TE:=fun σ H Q=>t σ H fun vs H1=>∃ (a:Addr) (ns:List Int),vs=[.ref a]∧SqL K H1 a (ns.map V.int)∧ns.length≤4000∧(∃ ds:List Int,ds.length < 64∧∀ x ∈ ns,x ∈ ds) ∧
  ∀ p (ks:List Int),H1 p=none→ks.Pairwise (· < ·)→(∀ x,x ∈ ks↔x ∈ ns)→Q (.ref p) (upd H1 p (.lst (ks.map V.int)))
theorem x_sortSet {K:PySem.W.Frag} {t:TA} {σ:St} {H:Hp} {Q:VK} (h:t σ H fun vs H1=>∃ (a:Addr) (ns:List Int),vs=[.ref a]∧SqL K H1 a (ns.map V.int)∧ns.length≤4000∧(∃ ds:List Int,ds.length < 64∧∀ x ∈ ns,x ∈ ds) ∧
  ∀ p (ks:List Int),H1 p=none→ks.Pairwise (· < ·)→(∀ x,x ∈ ks↔x ∈ ns)→Q (.ref p) (upd H1 p (.lst (ks.map V.int)))):tSortSet K t σ H Q:=h
theorem nodup_le {ks ds : List Int} (hn : ks.Nodup) (h : ∀ x ∈ ks, x ∈ ds) : ks.length ≤ ds.length := by
  induction ks generalizing ds with
  | nil=>simp
  | cons a ks ih =>
    obtain ⟨h1,h2⟩:=List.nodup_cons.mp hn
    obtain ⟨l1,l2,rfl⟩:=List.append_of_mem (h a List.mem_cons_self)
    have:=ih (ds:=l1 ++ l2) h2 fun x hx=>by
      have hx':=h x (List.mem_cons_of_mem _ hx)
      rcases List.mem_append.mp hx' with q | q
      · exact List.mem_append_left _ q
      · rcases List.mem_cons.mp q with q | q
        · exact absurd (q ▸ hx) h1
        · exact List.mem_append_right _ q
    simp at this ⊢; omega
section
variable {X:Cx} {x:Expr} {t:TA} {p1 p2 q1 q2:Pos}
theorem pe_sortSet (hc:X.calm=true) (hgl:Gl X "sorted") (hml:X.mg "sorted" = none) (hgz:Gl X "set") (hmz:X.mg "set" = none) (ha:PA X [x] t)
    (he:starEach [.Call (.Name "set" p1) [x] [] p2] X.env=[(false,eval (.Call (.Name "set" p1) [x] [] p2) X.env)]:=by rfl) (he2:starEach [x] X.env=(false,eval x X.env) :: starEach [] X.env:=by rfl) (hpl:(backTo p2 (starEach [] X.env)).any (·.1)=false:=by rfl) :
    PE X (.Call (.Name "sorted" q1) [.Call (.Name "set" p1) [x] [] p2] [] q2) (tSortSet X.K t):=by
  intro pins s σ H Q I h
  refine wpAny_Call_Name_kw (ld_blt I hgl hml BootT.sorted (PyProof.Rows.callWith_builtin1 ?_ he rfl))
  rw [he]
  show wpAny _ _ (spliced ((false,eval (.Call (.Name "set" p1) [x] [] p2) X.env) :: backTo q2 (starEach [] X.env))) _ _ s
  refine Calls.spliced_cons (wpAny_Call_Name_kw (ld_blt I hgz hmz BootT.set (PyProof.Rows.callWith_type1 (thn (ha p2 pins s σ H _ I h) fun us s1 ⟨vs,H1,I1,r1,q⟩=>?_) he2 hpl)))
  obtain ⟨a,ns,rfl,hA,hl4,⟨ds,hds,hsub⟩,k⟩:=q
  obtain ⟨u,rfl,ru⟩:=vals1 r1
  cases ru
  obtain ⟨its,rv,pl,hz⟩:=I1.list hA
  have hi:IntsAre its ns:=intsAre_of rv
  have hlen:=hi.length
  refine Sw.call_set (ns:=ns) (I1.ok.hd hc) pl.isList (by simpa using hi) (by rw [List.size_toArray,hlen]; unfold scanBound; omega) fun h2 tk ks hS hmem hle hk=>Calls.spliced_nil ?_
  have hnd:ks.Nodup:=by obtain ⟨_,_,_,_,_,_,_,_,_,_,_,_,_,_,hn⟩:=hS; exact hn
  have h64:ks.length < 64:=Nat.lt_of_le_of_lt (nodup_le hnd fun x hx=>hsub x ((hmem x).mp hx)) hds
  have I2:Inv X pins σ H1 { s1 with heap:=h2,toks:=tk }:=I1.kept (t':=tk) hk
  obtain ⟨m,F,N⟩:=I2.frs
  refine Sw.sorted_set (s:={ s1 with heap:=h2,toks:=tk }) (I1.ok.hd hc) hS h64 F N fun D c h' tk' d out ms F' N' hD a1 a2 a3=>?_
  obtain ⟨hn,I3⟩:=I2.newsLaid (t':=tk') (o:=.lst (ms.map V.int)) F.ns F' N' hD ⟨by rw [List.length_map,a2.length_eq]; exact small_le (m:=64) (by omega),out,c,vals_ints a1,(N' _ List.mem_cons_self).1⟩
  refine ⟨.ref D,_,I3.drawn d,rfl,k D ms hn ?_ (fun x=>by rw [a2.mem_iff,hmem])⟩
  have hnd':ms.Nodup:=a2.nodup_iff.mpr hnd
  exact (List.Pairwise.and a3 hnd').imp fun {x y} h=>by
    have h1:=h.1; have h2:x≠y:=h.2
    omega
end
end L2
namespace L2
open PySem PySem.Spec PyProof.Rows PySem.W
def Ite (K:PySem.W.Frag) (a:Addr):It :=
  ⟨fun i H=>∃ xs x,SqL K H a xs∧xs[i]? = some x,fun i H v H'=>∃ p,H p=none∧v = .ref p∧∀ xs,SqL K H a xs→∃ y,xs[i]? = some y∧H'=upd H p (.tup [.int (i:Int),y]),fun i H=>∃ xs,SqL K H a xs∧xs.length≤i⟩
theorem turn_enum {P : Program} {w : World} {K : PySem.W.Frag} {elts : List Expr} {k : Nat} {pos : Pos} (a e it : Addr) (hei : e ≠ it) : Turn P w K (.Tuple elts k pos) (Ite K a) [e, it] e (fun i h => (∃ old, IsEnum h e it (i : Int) old) ∧ h.IsListIter it a i) where
  mem:=by simp
  obj := fun i h st b hb => by
    obtain ⟨⟨old,x⟩,y⟩:=st
    simp only [List.mem_cons,List.not_mem_nil,or_false] at hb
    rcases hb with rfl | rfl
    · exact ⟨_,x,fun v z=>by
        have z':Data.fields _=Data.cell v:=z
        cases z'⟩
    · obtain ⟨o,q,c,d⟩:=y
      exact ⟨o,q,fun v z=>by rw [d] at z; cases z⟩
  keep:=fun i h h' st kp=>⟨let ⟨old,x⟩:=st.1; ⟨old,kp e (by simp) _ x⟩,st.2.at fun o x=>kp it (by simp) o x⟩
  item := by
    intro X hP hw hK hc i pins s σ H E I hf st hg
    subst hP hw hK
    obtain ⟨⟨old,he⟩,hit⟩:=st
    obtain ⟨xs,x,hq,hx⟩:=hg
    obtain ⟨its,rv,pl,hz⟩:=I.list hq
    obtain ⟨u,hu,ru⟩:=rv.get hx
    refine wpAny_pyNext_enum_item he hit pl.isList (x:=u) (by simpa using hu) hei fun h1 ho hit1 hT hsz hk=>?_
    refine ⟨_,rfl,wpAny_letOwnedTupleGo_enum ho fun h2 he2 hs2=>?_⟩
    have hTn:H s.heap.objs.size=none:=I.hok.fresh (Nat.le_refl _)
    have helt:e < s.heap.objs.size:=Heap.lt_size he
    have hTe:s.heap.objs.size≠e:=Nat.ne_of_gt helt
    have k2:∀ b o,b ∉ [e,it]→s.heap.get? b=some o→h2.get? b=some o:=fun b o hb q=>by
      have h1':b≠e:=fun z=>hb (by simp [z])
      have h2':b≠it:=fun z=>hb (by simp [z])
      exact (hs2.2 b h1').trans (hk b o h1' h2' q)
    have nf:∀ b u,H b=some u→b ∉ [e,it]:=fun b u q hb=>by rw [(hf b hb).1] at q; cases q
    have nT:∀ b u,H b=some u→b≠s.heap.objs.size:=fun b u q z=>by rw [z,hTn] at q; cases q
    have nT2:∀ b o,s.heap.get? b=some o→b≠s.heap.objs.size:=fun b o q=>Nat.ne_of_lt (Heap.lt_size q)
    have T2:h2.get? s.heap.objs.size=some { cls:=.type "tuple",data:=.seq #[.int i s.toks,u] }:=(hs2.2 _ hTe).trans hT
    have I2:Inv X pins σ (upd H s.heap.objs.size (.tup [.int (i:Int),x])) { s with heap:=h2,gens:=s.gens,drawn:=s.drawn,toks:=s.toks+1 }:=by
      refine I.step (ch:=[e,it]) (fun b hb=>?_) (fun b o _ _ hb q _=>k2 b o hb q) (fun b o _ _ hb q _=>⟨o.slots,k2 b o hb q⟩) (fun b o hb q n=>by rw [upd_ne (nT2 b o q)]; exact n) (fun b o hb q=>⟨o,k2 b o hb q⟩)
        (fun b ys q=>by rw [upd_ne (nT b _ q)]; exact q) (fun b o u q=>by rw [upd_ne (nT b _ q)]; exact q) (fun b ps q=>⟨#[],by rw [upd_ne (nT b _ q),q]; simp⟩) (fun m hm=>?_) (fun b v q=>?_) I.bare
      · obtain ⟨f0,f1,f2,f3,f4,f5⟩:=hf b hb
        exact ⟨f3,f1,f4,f5⟩
      · obtain ⟨o,es,ep,ho,r⟩:=hm
        refine ⟨o,es,ep,k2 _ o (fun hb=>?_) ho,r⟩
        exact (hf _ hb).2.1 rfl
      · by_cases hb:b=s.heap.objs.size
        · subst hb
          rw [upd_same] at q
          cases q
          exact ⟨small_le (m:=2) (Nat.le_refl 2),[.int i s.toks,u],.cons ⟨_,rfl⟩ (.cons ru .nil),_,T2,rfl,0,rfl⟩
        · rw [upd_ne hb] at q
          refine (I.hok b v q).stay (fun c o hc q2=>k2 c o ?_ q2) (fun c q2=>by rw [upd_ne (nT c _ q2)]; exact q2) fun c ys q2=>by rw [upd_ne (nT c _ q2)]; exact q2
          rcases hc with z | z
          · rw [z]; exact nf b v q
          · exact nf c _ z
    refine ⟨.ref s.heap.objs.size,_,I2,rfl,⟨_,hTn,rfl,fun ys hy=>⟨x,by rw [I.list_inj hy hq]; exact hx,rfl⟩⟩,⟨⟨_,by simpa using he2⟩,hit1.at fun o q=>(hs2.2 it (Ne.symm hei)).trans q⟩,fun b hb=>?_⟩
    have hbl:b < s.heap.objs.size:=by
      simp only [List.mem_cons,List.not_mem_nil,or_false] at hb
      rcases hb with rfl | rfl
      · exact helt
      · obtain ⟨_,q,_⟩:=hit; exact Heap.lt_size q
    rw [upd_ne (Nat.ne_of_lt hbl)]
    exact (hf b hb).1
  done:=by
    intro X hP hw hK hc i pins s σ H E I hf st hg
    subst hP hw hK
    obtain ⟨⟨old,he⟩,hit⟩:=st
    obtain ⟨xs,hq,hx⟩:=hg
    obtain ⟨its,rv,pl,hz⟩:=I.list hq
    have hl:=rv.length
    obtain ⟨f0,f1,f2,f3,f4,f5⟩:=hf it (by simp)
    exact wpAny_pyNext_enum_end (I.ok.hd hc) he hit pl.isList (by simp; omega) fun h' eb=>⟨rfl,I.turned (t':=s.toks) (fun b o hb q=>eb b o hb q) f0 f1 f3 f4 f5⟩
  self:=fun _ _ _ _ _ st h=>let ⟨_,x⟩:=st.1; wpAny_pyIter_enum x h
def iEnum (K:PySem.W.Frag) (ta:TA):TI:=fun σ H R=>ta σ H fun vs H1=>∃ (a:Addr) (xs:List V),vs=[.ref a]∧SqL K H1 a xs∧R (Ite K a) H1
theorem x_iEnum {K:PySem.W.Frag} {ta:TA} {σ:St} {H:Hp} {R:It→Hp→Prop} (h:ta σ H fun vs H1=>∃ (a:Addr) (xs:List V),vs=[.ref a]∧SqL K H1 a xs∧R (Ite K a) H1):iEnum K ta σ H R:=h
section
variable {X:Cx}
theorem pi_enum {elts:List Expr} {k:Nat} {pos':Pos} {a:Expr} {ta:TA} {p pos:Pos} (hg:Gl X "enumerate") (hm:X.mg "enumerate" = none) (ha:PA X [a] ta) (hs:starEach [a] X.env=[(false,eval a X.env)]:=by rfl) :
    PI X (.Tuple elts k pos') (.Call (.Name "enumerate" p) [a] [] pos) (iEnum X.K ta):=by
  intro pins s σ H R I h
  refine Call_ (ld_blt I hg hm BootT.enumerate (PyProof.Rows.callWith_type1 (thn (ha pos pins s σ H _ I h) fun us s1 ⟨vs,H1,I1,r1,q1⟩=>?_) hs rfl))
  obtain ⟨l,xs,e,hq,q⟩:=q1
  subst e
  cases r1 with
  | cons r rr =>
    cases rr
    cases r
    obtain ⟨its,rv,pl,hz⟩:=I1.list hq
    refine call_enumerate_list pl.isList fun h' he hit hsz hk=>?_
    refine wpAny_pyIter_enum he ?_
    have hei:s1.heap.objs.size+1≠s1.heap.objs.size:=Nat.succ_ne_self _
    refine ⟨s1.heap.objs.size+1,[s1.heap.objs.size+1,s1.heap.objs.size],_,_,H1,rfl,I1.kept (t':=s1.toks) hk,turn_enum l (s1.heap.objs.size+1) s1.heap.objs.size hei,⟨⟨_,he⟩,hit⟩,fun b hb=>?_,q⟩
    have hb':s1.heap.objs.size≤b:=by
      simp only [List.mem_cons,List.not_mem_nil,or_false] at hb
      rcases hb with rfl | rfl
      · exact Nat.le_succ _
      · exact Nat.le_refl _
    exact I1.fpOk hb' (I1.hok.fresh hb')
end
theorem for_enum {K:PySem.W.Frag} {a:Addr} {xs:List V} {g:TG} {tb:TS} {D:Ends} {σ:St} {H:Hp} (Pv:Nat→St→Hp→Prop) (h0:Pv 0 σ H) (hl:∀ i σ H,i≤xs.length→Pv i σ H→SqL K H a xs)
    (hs:∀ i x p σ H,xs[i]? = some x→H p=none→Pv i σ H→g (.ref p) σ (upd H p (.tup [.int (i:Int),x])) fun σ2 H2=>tb { D with nx:=Pv (i+1),ct:=Pv (i+1),bk:=D.nx } σ2 H2) (hd:∀ σ H,Pv xs.length σ H→D.nx σ H) :
    ∃ W : Nat → Nat → St → Hp → Prop, (∃ m, W 0 m σ H) ∧ ∀ i m σ H, W i m σ H →
      ((Ite K a).stop i H∧D.nx σ H)∨((Ite K a).go i H∧∃ N:St→Hp→Prop,(∀ σ' H',N σ' H'→∃ m',m' < m∧W (i+1) m' σ' H')∧∀ x H',(Ite K a).yld i H x H'→g x σ H' fun σ2 H2=>tb { D with nx:=N,ct:=N,bk:=D.nx } σ2 H2):=by
  refine ⟨fun i m σ H=>m=xs.length - i∧i≤xs.length∧Pv i σ H,⟨xs.length,by simp,Nat.zero_le _,h0⟩,?_⟩
  rintro i m σ H ⟨hm,hi,p⟩
  have hq:=hl _ _ _ hi p
  by_cases e:i=xs.length
  · subst e
    exact .inl ⟨⟨xs,hq,Nat.le_refl _⟩,hd _ _ p⟩
  · obtain ⟨x,hx⟩:∃ x,xs[i]? = some x:=⟨_,List.getElem?_eq_getElem (by omega)⟩
    refine .inr ⟨⟨xs,x,hq,hx⟩,Pv (i+1),fun σ' H' p'=>⟨xs.length - (i+1),by omega,rfl,by omega,p'⟩,?_⟩
    rintro v H' ⟨q,hn,rfl,hy⟩
    obtain ⟨y,h1,rfl⟩:=hy xs hq
    rw [hx] at h1
    cases h1
    exact hs i x q σ H hx hn p
end L2
namespace L2
open PySem PySem.Spec PyProof.Rows
def Kp (h h':Heap):Prop:=∀ b o,h.get? b=some o→∃ o',h'.get? b=some o'∧o'.cls=o.cls∧o'.dict=o.dict
theorem Kp.refl (h:Heap):Kp h h:=fun b o e=>⟨o,e,rfl,rfl⟩
theorem Kp.trans {h h1 h2:Heap} (a:Kp h h1) (b:Kp h1 h2):Kp h h2:=fun c o e=>by
  obtain ⟨o1,e1,p1,q1⟩:=a c o e
  obtain ⟨o2,e2,p2,q2⟩:=b c o1 e1
  exact ⟨o2,e2,p2.trans p1,q2.trans q1⟩
inductive Quiet {α:Type}:Sem α→Prop where
  | pure (a:α):Quiet (.pure a)
  | unsup (w:String):Quiet (.unsupported w)
  | load {a:Addr} {p:Option Value} {k:Obj→Sem α} (h:∀ o,Quiet (k o)):Quiet (.load a p k)
  | update {a:Addr} {p:Option Value} {f:Obj→Obj} {k:Unit→Sem α} (hf:∀ o,(f o).cls=o.cls∧(f o).dict=o.dict∧(o.isFreed=false→(f o).isFreed=false)) (h:Quiet (k ())):Quiet (.update a p f k)
  | alloc {o:Obj} {k:Addr→Sem α} (h:∀ a,Quiet (k a)):Quiet (.alloc o k)
  | stack {k:List (Code × Pos)→Sem α} (h:∀ x,Quiet (k x)):Quiet (.stack k)
theorem Quiet.bind {α β:Type} {t:Sem α} {f:α→Sem β} (ht:Quiet t) (hf:∀ a,Quiet (f a)):Quiet (t.bind f):=by
  induction ht with
  | pure a=>exact hf a
  | unsup w=>exact .unsup w
  | load h ih=>exact .load ih
  | update h1 h2 ih=>exact .update h1 ih
  | alloc h ih=>exact .alloc ih
  | stack h ih=>exact .stack ih
theorem Quiet.bind' {α β:Type} {t:Sem α} {f:α→Sem β} (ht:Quiet t) (hf:∀ a,Quiet (f a)):Quiet (t >>= f):=ht.bind hf
theorem get_alive {h:Heap} {b:Addr} {o:Obj} (e:h.get? b=some o):o.isFreed=false:=by
  unfold Heap.get? at e
  split at e
  · cases e
  · rename_i x hx
    obtain ⟨c,d,da,sl⟩:=o
    cases da with
    | freed=>exact absurd e (hx c d sl)
    | _=>rfl
theorem kp_update {h:Heap} {a:Addr} {f:Obj→Obj} (hf:∀ o,(f o).cls=o.cls∧(f o).dict=o.dict∧(o.isFreed=false→(f o).isFreed=false)):Kp h (h.update a f):=fun b o e=>by
  by_cases hb:b=a
  · subst hb
    exact ⟨f o,Heap.get?_update_self f e ((hf o).2.2 (get_alive e)),(hf o).1,(hf o).2.1⟩
  · exact ⟨o,by rw [Heap.get?_update_other _ _ (Ne.symm hb)]; exact e,rfl,rfl⟩
theorem kp_push {h:Heap} {o:Obj}:Kp h (h.push o):=fun b u e=>⟨u,Heap.get?_push_of_some o e,rfl,rfl⟩
theorem Quiet.wp {α:Type} {t:Sem α} (ht:Quiet t) {M:Model} {Γ:PySem.Ctx}:∀ {Q:α→Pos→Shared→Prop} {E:Value→Pos→Shared→Prop} {p:Pos} {s:Shared},Sem.wp M Γ t Q E p s→Sem.wp M Γ t (fun a p' s'=>Q a p' s'∧Kp s.heap s'.heap) E p s:=by
  induction ht with
  | pure a=>intro Q E p s h; exact ⟨h,Kp.refl _⟩
  | unsup w=>intro Q E p s h; exact h
  | load h ih=>intro Q E p s h; obtain ⟨o,e,q⟩:=h; exact ⟨o,e,ih o q⟩
  | update hf h ih =>
    intro Q E p s h
    obtain ⟨e,q⟩:=h
    exact ⟨e,Sem.wp_mono _ _ _ (fun x p' s' z=>⟨z.1,(kp_update hf).trans z.2⟩) (fun _ _ _ z=>z) _ _ (ih q)⟩
  | alloc h ih=>intro Q E p s h; exact Sem.wp_mono _ _ _ (fun x p' s' z=>⟨z.1,kp_push.trans z.2⟩) (fun _ _ _ z=>z) _ _ (ih _ h)
  | stack h ih=>intro Q E p s h; exact ih _ h
theorem wpAny_quiet {α:Type} {t:Sem α} (ht:Quiet t) {M:Model} {A:Around} {Q:α→Shared→Prop} {E:Value→Shared→Prop} {s:Shared} (h:wpAny M A t Q E s):wpAny M A t (fun a s'=>Q a s'∧Kp s.heap s'.heap) E s :=
  fun Γ p hΓ=>ht.wp (h Γ p hΓ)
theorem q_load (a:Addr):Quiet (load a):=.load fun o=>.pure o
theorem q_stack:Quiet stack:=.stack fun x=>.pure x
theorem q_fields (v:Value):Quiet (fieldsOf v):=by
  unfold fieldsOf
  split
  · refine (q_load _).bind' fun o=>?_
    split
    · exact .pure _
    · exact .unsup _
  · exact .unsup _
theorem q_field (v:Value) (i:Nat):Quiet (field v i):=by
  unfold field
  refine (q_fields v).bind' fun o=>?_
  split
  · exact .pure _
  · exact .unsup _
theorem map_keeps (g:Array Value→Array Value) (o:Obj):(Obj.mapFields g o).cls=o.cls∧(Obj.mapFields g o).dict=o.dict∧(o.isFreed=false→(Obj.mapFields g o).isFreed=false):=by
  obtain ⟨c,d,da,sl⟩:=o
  cases da <;> first | exact ⟨rfl,rfl,fun z=>z⟩ | exact ⟨rfl,rfl,fun _=>rfl⟩
theorem q_setField (v:Value) (i:Nat) (x:Value):Quiet (setField v i x):=by
  unfold setField
  split
  · unfold updateField
    refine (q_load _).bind' fun o=>?_
    split
    · split
      · exact .update (map_keeps _) (.pure _)
      · exact .unsup _
    · exact .unsup _
  · exact .unsup _
theorem q_frameEnvs:Quiet frameEnvs:=q_stack.bind' fun _=>.pure _
theorem q_import (env:Env) (outer:List Env):Quiet (behindIsImport env outer):=by
  unfold behindIsImport
  split
  · exact .pure _
  · split
    · exact .pure _
    · exact (q_field _ _).bind' fun _=>.pure _
theorem q_kept (env:Env) (b:Bool) (outer:List Env):Quiet (keptBack env b outer):=by
  unfold keptBack
  split
  · split
    · exact .pure _
    · exact (q_stack.bind' fun _=>.pure _:Quiet underTheClaimsCaller).bind' fun _=>.pure _
  · exact .pure _
theorem q_ready : ∀ l : List Env, Quiet (readyFrames l)
  | []=>by rw [readyFrames.eq_def]; exact .pure _
  | env :: outer => by
    rw [readyFrames.eq_def]
    simp only
    split
    · refine (q_load _).bind' fun o=>?_
      split
      · exact .pure _
      · refine (q_import _ _).bind' fun _=>?_
        refine (q_kept _ _ _).bind' fun _=>?_
        refine Quiet.bind' (.update (fun o=>⟨rfl,rfl,fun z=>?_⟩) (.pure _)) fun _=>q_ready outer
        obtain ⟨c,d,da,sl⟩:=o
        cases da <;> first | exact z | rfl | (unfold Obj.isFreed at z ⊢; exact z)
    · exact .unsup _
theorem q_frameObj (l:List Env):Quiet (frameObject l):=by
  unfold frameObject
  split
  · exact .pure _
  · exact (q_ready _).bind' fun _=>.pure _
theorem q_frameOf (env:Env):Quiet (PySem.frameOf env):=by
  unfold PySem.frameOf
  refine q_frameEnvs.bind' fun _=>?_
  refine (q_frameObj _).bind' fun _=>?_
  split
  · exact .pure _
  · exact .unsup _
theorem q_place (f:Addr) (b:Bool):Quiet (entryPlaceOf f b):=by
  unfold entryPlaceOf
  refine q_stack.bind' fun _=>?_
  split
  · exact .pure _
  · exact .pure _
theorem q_asIs (ty:String) (d:Data) (x:Option Addr):Quiet (newObjAsIs (.type ty) d x):=by
  unfold newObjAsIs
  exact Quiet.bind' (.alloc fun _=>.pure _) fun _=>.pure _
theorem q_entry (a b c d e:Value) (p:List Value):Quiet (EntryCells.newEntry a b c d e p):=by
  unfold EntryCells.newEntry newFields
  generalize ([a,b,c,d,e] ++ if p.isEmpty=true then List.replicate 6 Value.none else p)=vs
  unfold newObj
  simp only
  split
  · exact Quiet.bind' (.unsup _) fun _=>q_asIs _ _ _
  · exact q_asIs _ _ _
theorem q_note (v : Value) (env : Env) : Quiet (noteFrame v env) := by
  unfold noteFrame
  split
  · refine (q_field _ _).bind' fun head=>?_
    have jp:∀ f,Quiet (do
        let x ← PySem.frameOf env
        let y ← entryPlaceOf f (head != Value.none)
        let z ← EntryCells.newEntry head x Value.none (rawInt ↑f) Value.none y
        setField v 1 z):=fun f=>by
      refine (q_frameOf _).bind' fun _=>?_
      refine (q_place _ _).bind' fun _=>?_
      refine (q_entry _ _ _ _ _ _).bind' fun _=>q_setField _ _ _
    split
    · refine (q_field _ _).bind' fun _=>?_
      split
      · exact .pure _
      · exact (q_setField _ _ _).bind' fun _=>jp _
    · exact jp _
  · exact .unsup _
theorem q_flight (v:Value) (f:Option Addr):Quiet (setFlight v f):=by
  unfold setFlight
  refine (q_field _ _).bind' fun _=>?_
  split
  · exact q_setField _ _ _
  · exact .pure _
theorem q_leaving (env:Env) (v:Value):Quiet (leaving env v):=(q_note _ _).bind' fun _=>q_flight _ _
end L2
namespace L2
open PySem PySem.Spec PyProof.Rows
theorem ObjOk.at {P:Program} {w:World} {H:Hp} {h:Heap} {a:Addr} {o:HO} (x:ObjOk P w H h a o):∃ u,h.get? a=some u:=by
  cases o with
  | lst xs=>obtain ⟨_,_,_,_,e⟩:=x; exact ⟨_,e⟩
  | tup xs=>obtain ⟨_,_,_,o,e,_⟩:=x; exact ⟨_,e⟩
  | dK kvs=>obtain ⟨_,_,_,_,o,_,_,e,_⟩:=x; exact ⟨_,e⟩
  | dT kvs=>obtain ⟨_,_,_,_,o,_,_,e,_⟩:=x; exact ⟨_,e⟩
  | set S n=>obtain ⟨o,_,_,_,e,_⟩:=x; exact ⟨_,e⟩
  | ins C dx fs=>obtain ⟨_,_,_,e,_⟩:=x; exact ⟨_,e⟩
  | own y=>obtain ⟨_,e⟩:=x; exact ⟨_,e⟩
  | xd fs=>obtain ⟨_,⟨_,_,_,e,_⟩,_⟩:=x; exact ⟨_,e⟩
  | rng lo hi=>obtain ⟨_,_,_,e⟩:=x; exact ⟨_,e⟩
  | frz ob u=>obtain ⟨e,_⟩:=x; exact ⟨_,e⟩
  | tbl ps=>exact ⟨_,(show h.get? a=some _ from x)⟩
  | met f y=>exact ⟨_,(show h.get? a=some _ from x)⟩
  | ext φ=>obtain ⟨_,⟨_,e⟩,_⟩:=x; exact ⟨_,e⟩
structure Fly (P:Program) (w:World) (st:List Env) (H:Hp) (s:Shared) (H2:Hp) (a:Addr) (B h:Heap):Prop where
  un:Un (frs st) [] H H2 s.heap h
  hok:HOk P w H2 h
  stays:B.StaysIn h
  has:∀ b o,H2 b=some o→∃ u,B.get? b=some u
  old:∀ b o,s.heap.get? b=some o→b ∉ frs st→∃ u,B.get? b=some u
  no:B.get? a=none
  dict:∃ o,h.get? a=some o∧o.dict=none
section
variable {P:Program} {w:World} {st:List Env} {H H2:Hp} {s:Shared} {a:Addr} {B h h':Heap}
theorem Fly.step (F:Fly P w st H s H2 a B h) (hf:∀ b ∈ frs st,H b=none∧∃ o,s.heap.get? b=some o∧∀ vs,o.data≠.fields vs) (us:h.UpToSlots h') (sy:B.StaysIn h') (kp:Kp h h'):Fly P w st H s H2 a B h':=by
  have keep:∀ b o u,B.get? b=some u→h.get? b=some o→h'.get? b=some o:=fun b o u e1 e2=>by
    have:=F.stays b u e1
    rw [e2] at this; cases this
    exact sy b _ e1
  have slot:∀ b o,s.heap.get? b=some o→H b=none→b ∈ frs st→∃ sl,h'.get? b=some { o with slots:=sl }:=fun b o e n hb=>by
    obtain ⟨sl,e1⟩:=F.un.slot b o e n hb (by simp)
    obtain ⟨_,o',e',nd⟩:=hf b hb
    rw [e] at e'; cases e'
    obtain ⟨sl',e2⟩:=us b { o with slots:=sl } e1 nd
    exact ⟨sl',e2⟩
  refine ⟨⟨fun b o e n hb _=>?_,fun b o e n hb _=>slot b o e n hb,fun b o e n _=>F.un.free b o e n (by simp),fun b o e _=>?_,F.un.tups,F.un.frzs,F.un.tbls⟩,fun b o e=>?_,sy,F.has,F.old,F.no,?_⟩
  · obtain ⟨u,hu⟩:=F.old b o e hb
    exact keep b o u hu (F.un.keep b o e n hb (by simp))
  · by_cases hb:b ∈ frs st
    · obtain ⟨sl,e1⟩:=slot b o e (hf b hb).1 hb; exact ⟨_,e1⟩
    · obtain ⟨u,hu⟩:=F.old b o e hb; exact ⟨u,sy b u hu⟩
  · refine (F.hok b o e).stay (fun c v hc r=>?_) (fun _ z=>z) fun _ _ z=>z
    obtain ⟨u,hu⟩:∃ u,B.get? c=some u:=by
      rcases hc with rfl | hc
      · exact F.has _ o e
      · exact F.has _ _ hc
    exact keep c v u hu r
  · obtain ⟨o,e,d⟩:=F.dict
    obtain ⟨o',e',_,d'⟩:=kp a o e
    exact ⟨o',e',d'.trans d⟩
end
def CXr (P:Program) (w:World):CXT:=fun outer H s E e s'=>∃ (a:Addr) (cls a0:Value) (B:Heap) (H2:Hp),e = .ref a∧s'.os=s.os∧AllBare s'.gens∧B.FlyingW outer a cls a0 s'.heap∧Fly P w outer H s H2 a B s'.heap∧E cls none H2
theorem passR0 {P:Program} {w:World} {X:Cx}:Passes (CXr P w) X E0:=fun _ _ _ _ _ _ _ ⟨_,_,_,_,_,_,_,_,_,_,z⟩=>z.elim
theorem stk_frames {X:Cx} {pins:List (Addr × Obj)} {σ:St} {H:Hp} {s:Shared} (I:Inv X pins σ H s):∀ b ∈ frs X.stack,H b=none∧∃ o,s.heap.get? b=some o∧∀ vs,o.data≠.fields vs:=fun b hb=>⟨I.stkFree b hb,(I.stack.mem hb).2⟩
section
variable {P:Program} {w:World} {K:PySem.W.Frag} {mg:Str→Option Value} {base:Heap} {N:List Str} {qual:Str} {scope:Scope} {f:Addr} {cd:Value} {A:Around} {outer:List Env} {s:Shared} {H:Hp} {E E':XK}
theorem raises_cx {pins:List (Addr × Obj)} {σ:St} {H1:Hp} {s1:Shared} {h':Heap} {a:Addr} {cls:Value} {args:List Value} (I:Inv (cxOf (CXr P w) P w K mg base N qual scope f cd A outer s H E) pins σ H1 s1) (mk:s1.heap.MadeExcOf h' a cls args) (q:E cls none H1) :
    (cxOf (CXr P w) P w K mg base N qual scope f cd A outer s H E).xe (.ref a) { s1 with heap:=h' }:=by
  have hL:∀ b o,s.heap.get? b=some o→b≠s.heap.objs.size:=fun b o e=>Nat.ne_of_lt (Heap.lt_size e)
  have hfr:∀ b o,s.heap.get? b=some o→b ∉ frs outer→b ∉ frs (envOfC qual scope s.heap.objs.size f cd :: outer):=fun b o e hb z=>by
    rcases List.mem_cons.mp (show b ∈ s.heap.objs.size :: frs outer from z) with z | z
    · exact hL b o e z
    · exact hb z
  have trk:∀ b o u,H1 b=some o→s1.heap.get? b=some u→(PySem.W.hideAll s1.heap (frs (envOfC qual scope s.heap.objs.size f cd :: outer))).get? b=some u:=fun b o u e r =>
    PySem.W.hideAll_get _ r fun z=>by have:=I.stkFree b z; rw [e] at this; cases this
  refine thn (wpAny_quiet (q_leaving _ _) (wpAny_leaves_madeW (base:=PySem.W.hideAll s1.heap (frs (envOfC qual scope s.heap.objs.size f cd :: outer))) (h:=s1.heap) (L:=s.heap.objs.size) (outer:=outer) (Q:=fun _ s2=>∃ t,(PySem.W.hideAll s1.heap (frs (envOfC qual scope s.heap.objs.size f cd :: outer))).FlyingW outer a cls (.ref t) s2.heap∧h'.UpToSlots s2.heap∧s2.os=s1.os∧s2.gens=s1.gens)
    I.ok.frames rfl (fun b o e=>PySem.W.of_hideAll _ e) (PySem.W.funFrames_hide I.stack fun e he c hc=>List.mem_filterMap.mpr ⟨e,he,hc⟩) mk fun h2 t fl tp nt us=>⟨t,fl,us,rfl,rfl⟩)) fun _ s2 ⟨⟨t,fl,us,e1,e2⟩,kp⟩=>?_
  have slot:∀ b o,s.heap.get? b=some o→H b=none→b ∈ frs outer→∃ sl,s2.heap.get? b=some { o with slots:=sl }:=fun b o e n hb=>by
    obtain ⟨sl,e3⟩:=I.base.slot b o e n hb (by simp [cxOf])
    obtain ⟨_,o',e',nd⟩:=I.ok.funs.mem hb
    have e':s.heap.get? b=some o':=e'
    rw [e] at e'; cases e'
    obtain ⟨sl',e4⟩:=us b { o with slots:=sl } (mk.keeps b { o with slots:=sl } e3) nd
    exact ⟨sl',e4⟩
  refine ⟨a,cls,.ref t,_,H1,rfl,e1.trans I.os,by rw [e2]; exact I.bare,fl,⟨⟨fun b o e n hb _=>?_,fun b o e n hb _=>slot b o e n hb,fun b o e n _=>I.base.free b o e n (by simp [cxOf]),fun b o e _=>?_,I.base.tups,I.base.frzs,I.base.tbls⟩,fun b o e=>?_,fl.1,fun b o e=>?_,fun b o e hb=>?_,fl.2.1,?_⟩,q⟩
  · exact fl.1 b o (PySem.W.hideAll_get _ (I.base.keep b o e n hb (by simp [cxOf])) (hfr b o e hb))
  · by_cases hb:b ∈ frs outer
    · obtain ⟨sl,e3⟩:=slot b o e (I.ok.frf b hb) hb; exact ⟨_,e3⟩
    · obtain ⟨o',e3⟩:=I.base.there b o e (by simp [cxOf])
      exact ⟨o',fl.1 b o' (PySem.W.hideAll_get _ e3 (hfr b o e hb))⟩
  · refine (I.hok b o e).stay (fun c v hc r=>fl.1 c v ?_) (fun _ z=>z) fun _ _ z=>z
    rcases hc with rfl | hc
    · exact trk _ o v e r
    · exact trk _ _ v hc r
  · obtain ⟨u,hu⟩:=(I.hok b o e).at
    exact ⟨u,trk b o u e hu⟩
  · obtain ⟨o',e3⟩:=I.base.there b o e (by simp [cxOf])
    exact ⟨o',PySem.W.hideAll_get _ e3 (hfr b o e hb)⟩
  · obtain ⟨t',e3,_⟩:=mk.there
    obtain ⟨o',e4,_,d⟩:=kp a _ e3
    exact ⟨o',e4,d⟩
theorem pass_cx (hE:∀ cls H,E cls none H→E' cls none H):Passes (CXr P w) (cxOf (CXr P w) P w K mg base N qual scope f cd A outer s H E') E:=by
  rintro pins σ H1 s1 e s2 I ⟨a,cls,a0,B,H2,rfl,os,bare,fl,F,q⟩
  have hfr:∀ b o,s.heap.get? b=some o→b ∉ frs outer→b ∉ frs (envOfC qual scope s.heap.objs.size f cd :: outer):=fun b o e hb z=>by
    rcases List.mem_cons.mp (show b ∈ s.heap.objs.size :: frs outer from z) with z | z
    · exact Nat.ne_of_lt (Heap.lt_size e) z
    · exact hb z
  refine thn (wpAny_quiet (q_leaving _ _) (wpAny_leaves_onW (L:=s.heap.objs.size) (outer:=outer) (Q:=fun _ s3=>B.FlyingW outer a cls a0 s3.heap∧s2.heap.UpToSlots s3.heap∧s3.os=s2.os∧s3.gens=s2.gens) I.ok.frames rfl fl fun h' fl' us=>⟨fl',us,rfl,rfl⟩)) fun _ s3 ⟨⟨fl',us,e1,e2⟩,kp⟩=>?_
  have F':=F.step (stk_frames I) us fl'.1 kp
  refine ⟨a,cls,a0,B,H2,rfl,(e1.trans os).trans I.os,by rw [e2]; exact bare,fl',⟨⟨fun b o e n hb _=>?_,fun b o e n hb _=>?_,fun b o e n _=>?_,fun b o e _=>?_,fun b xs e=>F'.un.tups _ _ (I.base.tups _ _ e),fun b o u e=>F'.un.frzs _ _ _ (I.base.frzs _ _ _ e),fun b ps e=>?_⟩,F'.hok,F'.stays,F'.has,fun b o e hb=>?_,F'.no,F'.dict⟩,hE _ _ q⟩
  · exact F'.un.keep b o (I.base.keep b o e n hb (by simp [cxOf])) (I.base.free b o e n (by simp [cxOf])) (hfr b o e hb) (by simp)
  · obtain ⟨sl,e3⟩:=I.base.slot b o e n hb (by simp [cxOf])
    obtain ⟨sl',e4⟩:=F'.un.slot b _ e3 (I.base.free b o e n (by simp [cxOf])) (List.mem_cons_of_mem _ hb:b ∈ s.heap.objs.size :: frs outer) (by simp)
    exact ⟨sl',e4⟩
  · obtain ⟨o',e3⟩:=I.base.there b o e (by simp [cxOf])
    exact F'.un.free b o' e3 (I.base.free b o e n (by simp [cxOf])) (by simp)
  · obtain ⟨o',e3⟩:=I.base.there b o e (by simp [cxOf])
    exact F'.un.there b o' e3 (by simp)
  · obtain ⟨m1,e3⟩:=I.base.tbls b ps e
    obtain ⟨m2,e4⟩:=F'.un.tbls b _ e3
    exact ⟨m1 ++ m2,by rw [e4,Array.append_assoc]⟩
  · obtain ⟨o',e3⟩:=I.base.there b o e (by simp [cxOf])
    exact F'.old b o' e3 (hfr b o e hb)
end
end L2
namespace L2
open PySem PySem.Spec PyProof.Rows
abbrev vErr:List Value:=[.type "ValueError",.type "Exception",.type "BaseException",.type "object"]
def NsQ (K:PySem.W.Frag) (N:Addr):Prop:=PySem.W.nsOkIn K N=true∧∀ n ∈ quietNames,PySem.W.nsIn K N n=some none
theorem nsq {K:PySem.W.Frag} {N:Addr} {c:Value} {d:Option Addr} {es:Array DictEntry} {ep:Nat} {sl:Array (Option Value)} (h:List.lookup N K=some ⟨c,d,.dict es ep,sl⟩)
    (ho:(es.toList.all fun e=>match e.key with | .str _ _=>true | _=>false)=true) (h1:PySem.W.nsIn K N "__init__" = some none) (h2:PySem.W.nsIn K N "__getattribute__" = some none) (h3:PySem.W.nsIn K N "__getattr__" = some none) (h4:PySem.W.nsIn K N "args" = some none):NsQ K N:=by
  refine ⟨?_,fun n hn=>?_⟩
  · unfold PySem.W.nsOkIn
    rw [h]
    simp only [← Array.all_toList]
    exact ho
  · unfold quietNames at hn
    simp only [List.mem_cons,List.not_mem_nil,or_false] at hn
    rcases hn with rfl | rfl | rfl | rfl
    · exact h1
    · exact h2
    · exact h3
    · exact h4
def ExcK (K:PySem.W.Frag) (C:Addr):Prop:=∃ (N A:Addr) (nm q:Str) (bs:List Value) (hdct:Bool) (sn:List Str) (sub:List Value) (ab:Bool) (col:Option Bool) (dd:Option Addr) (k0 k1 k2 k3 k5:Option Value) (c0:Value) (dd':Option Addr) (cd:ClassData) (sl:Array (Option Value)),
  List.lookup C K=some (excClassObj nm q C N bs (.ref A :: vErr) hdct sn sub ab col dd k0 k1 k2 k3 k5 "ValueError.__new__")∧List.lookup A K=some ⟨c0,dd',.cls cd,sl⟩∧NsQ K N∧NsQ K cd.ns
theorem exK {K:PySem.W.Frag} {C N A:Addr} {nm q:Str} {bs:List Value} {hdct:Bool} {sn:List Str} {sub:List Value} {ab:Bool} {col:Option Bool} {dd:Option Addr} {k0 k1 k2 k3 k5:Option Value} {c0:Value} {dd':Option Addr} {cd:ClassData} {sl:Array (Option Value)}
    (h1:List.lookup C K=some (excClassObj nm q C N bs (.ref A :: vErr) hdct sn sub ab col dd k0 k1 k2 k3 k5 "ValueError.__new__")) (h2:List.lookup A K=some ⟨c0,dd',.cls cd,sl⟩) (h3:NsQ K N) (h4:NsQ K cd.ns):ExcK K C :=
  ⟨N,A,nm,q,bs,hdct,sn,sub,ab,col,dd,k0,k1,k2,k3,k5,c0,dd',cd,sl,h1,h2,h3,h4⟩
theorem exc_obj {K:PySem.W.Frag} {h:Heap} {C:Addr} (X:K.In h) (e:ExcK K C):∃ bm N nm q bs hdct sn sub ab col dd k0 k1 k2 k3 k5 mN,
    h.get? C=some (excClassObj nm q C N bs bm hdct sn sub ab col dd k0 k1 k2 k3 k5 "ValueError.__new__")∧h.Ns N mN∧(∀ n ∈ quietNames,mN n=none)∧OwnTailQ h vErr bm:=by
  obtain ⟨N,A,nm,q,bs,hdct,sn,sub,ab,col,dd,k0,k1,k2,k3,k5,c0,dd',cd,sl,h1,h2,⟨n1,n2⟩,⟨m1,m2⟩⟩:=e
  refine ⟨.ref A :: vErr,N,nm,q,bs,hdct,sn,sub,ab,col,dd,k0,k1,k2,k3,k5,h.nsMap N,X _ _ h1,Heap.Ns.of_isNs (PySem.W.isNs_of_in X n1),fun n hn=>PySem.W.nsMap_none_of_in X n1 (n2 n hn),?_⟩
  exact .own (X _ _ h2) (Heap.Ns.of_isNs (PySem.W.isNs_of_in X m1)) (fun n hn=>PySem.W.nsMap_none_of_in X m1 (m2 n hn)) .base
structure Exc (K:PySem.W.Frag) (mg:Str→Option Value) (x:Str) (C:Addr):Prop where
  at_:mg x=some (.ref C)
  ex:ExcK K C
def tRaise (cls:Value) (E:XK):TS:=fun _ _ H=>E cls none H
def RaisesTo (X:Cx) (E:XK):Prop:=∀ (pins:List (Addr × Obj)) (σ:St) (H:Hp) (s:Shared) (h':Heap) (a:Addr) (cls:Value) (args:List Value),Inv X pins σ H s→s.heap.MadeExcOf h' a cls args→E cls none H→X.xe (.ref a) { s with heap:=h' }
theorem ps_raise {X:Cx} {x:Str} {C:Addr} {txt:Str} {k:Nat} {np cp cpos pos:Pos} {E:XK} (hc:X.calm=true) (hg:Gl X x) (ex:Exc X.K X.mg x C) (hx:RaisesTo X E) (hd:(x == ("__debug__":Str))=false:=by decide) :
    PS X (.Raise (some (.Call (.Name x np) [.Constant (.str txt) k cp] [] cpos)) none pos) (tRaise (.ref C) E):=by
  intro pins s σ H D I h
  obtain ⟨bm,N,nm,q,bs,hdct,sn,sub,ab,col,dd,k0,k1,k2,k3,k5,mN,o1,o2,o3,o4⟩:=exc_obj I.mod.kin ex.ex
  refine wpAny_Raise_call_subT (bmB:=vErr) (nm:=nm) (q:=q) (C:=C) (N:=N) (bs:=bs) (hdct:=hdct) (sn:=sn) (sub:=sub) (ab:=ab) (col:=col) (dd:=dd) (k0:=k0) (k1:=k1) (k2:=k2) (k3:=k3) (k5:=k5) F.excBase_ValueError (o4.tail.hasType rfl) (I.ok.hd hc) rfl (o3 _ (by simp [quietNames])) ?_
  refine ld_glob I hg ex.at_ ⟨rfl,?_⟩ hd
  refine Calls.evalArgs_plain ?_
  refine thn ((show PA X [.Constant (.str txt) k cp] (tCons (tC (.str txt)) tNil) from pa_cons pe_str pa_nil) cpos pins s σ H (fun vs H'=>vs.length=1∧H'=H) I ⟨rfl,rfl⟩) fun us s2 ⟨vs,H',I2,r,hl,eH⟩=>?_
  subst eH
  refine ⟨rfl,by rw [← r.length,hl]; decide,I2.bk _ _ o1,o2.keeps I2.bk,o4.tail.keeps I2.bk,fun h' e mk=>hx pins σ H' s2 h' e _ _ I2 mk h⟩
theorem PS.nox {X:Cx} {st:Stmt} {t:TS} (h:PS X.nox st t):PS X st t:=fun pins s σ H D I hw =>
  wpAny_mono (h pins s σ H D (I.wish _) hw) (fun _ _ q=>q.unwish) fun _ _ z=>False.elim z
theorem Fun.okR {P:Program} {w:World} {K:PySem.W.Frag} {mg:Str→Option Value} {base:Heap} {x qual:Str} {st:Stmt} {f:Addr} {fd:FuncData} {N ps:List Str} {k:Nat} {sp:Sp} (F:Fun K x qual st f fd) (S:FnScope N ps (defScope st)) (len:∀ vs H Q E,sp vs H Q E→vs.length=ps.length)
    (hbody:∀ (cdv:Value) (A:Around) (outer:List Env) (s:Shared) (H:Hp) (vs:List V) (Q:VK) (E:XK),Room k (A.deeper (envOfC qual (defScope st) s.heap.objs.size f cdv))→sp vs H Q E →
      ∃ t,PSs (cxOf (CXr P w) P w K mg base N qual (defScope st) f cdv A outer s H E) (defBody st) t∧t { nx:=fun _ H'=>Q .non H',rt:=Q } (start N vs) H):FnOk P w K mg base (CXr P w) (k+1) f fd ps sp:=by
  obtain ⟨oc,od,kV,doc,pm,an,cdv,ct,osl,rfl,lk,hcd⟩:=F.ex
  exact fn_of lk hcd S len fun A outer s H vs Q E hr hsp=>hbody cdv A outer s H vs Q E hr hsp
theorem raisesTo_cx {P:Program} {w:World} {K:PySem.W.Frag} {mg:Str→Option Value} {base:Heap} {N:List Str} {qual:Str} {scope:Scope} {f:Addr} {cd:Value} {A:Around} {outer:List Env} {s:Shared} {H:Hp} {E:XK}:RaisesTo (cxOf (CXr P w) P w K mg base N qual scope f cd A outer s H E) E:=fun _ _ _ _ _ _ _ _ I mk q=>raises_cx I mk q
theorem passR {P:Program} {w:World} {K:PySem.W.Frag} {mg:Str→Option Value} {base:Heap} {N:List Str} {qual:Str} {scope:Scope} {f:Addr} {cd:Value} {A:Around} {outer:List Env} {s:Shared} {H:Hp} {E:XK}:Passes (CXr P w) (cxOf (CXr P w) P w K mg base N qual scope f cd A outer s H E) E:=pass_cx fun _ _ z=>z
end L2
namespace L2
open PySem PySem.Spec PyProof.Rows
def ExO (a:Addr) (cls:Value):HO:=.ext fun h=>∃ o vs,h.get? a=some o∧o.cls=cls∧o.dict=none∧o.data = .fields vs
theorem exO_ok {P:Program} {w:World} {H:Hp} {h:Heap} {a:Addr} {cls:Value} {o:Obj} {vs:Array Value} (e:h.get? a=some o) (c:o.cls=cls) (d:o.dict=none) (f:o.data = .fields vs):ObjOk P w H h a (ExO a cls) :=
  ⟨⟨o,vs,e,c,d,f⟩,⟨o,e⟩,fun h1 h2 ⟨o',vs',e',r⟩ k=>⟨o',vs',k _ e',r⟩⟩
section
variable {X:Cx} {pins:List (Addr × Obj)} {σ:St} {H:Hp} {s:Shared}
theorem unbind_ok {M:Model} {A:Around} {E:Value→Shared→Prop} {i:Nat} {x:Str} {v:V} {Q:Unit→Shared→Prop} (I:Inv X pins σ H s) (hN:X.N.Nodup) (hi:X.N[i]? = some x) (hk:X.env.scope.names.lookup x=some .local) (hv:σ[i]? = some (some v))
    (h:∀ s',Inv X pins (σ.set i none) H s'→Q () s'):wpAny M A (unbindName X.env x) Q E s:=by
  obtain ⟨m,hn,hl⟩:=id I.loc
  have hcls:(X.env.scope.kind == .class || (X.env.scope.kind == .module && X.env.locals != X.env.globals))=false:=by rw [I.ok.kind]; rfl
  have hiσ:i < σ.length:=by rw [I.len]; exact (List.getElem?_eq_some_iff.mp hi).1
  have cne:=I.cne
  obtain ⟨u0,_,l0⟩:=hl i x v hi hv (.inl hk)
  obtain ⟨_,hm⟩:X.env.kindOf x=some .local∧m x=some u0:=by
    rcases l0 with z | ⟨z,_⟩
    · exact z
    · have hk':X.env.kindOf x=some .local:=hk
      rcases z with z | z <;> rw [hk'] at z <;> cases z
  refine wpAny_unbindName_local hk hn hm hcls (fun h' u hn' hs=>?_)
  obtain ⟨oL,_,_,hoL,_⟩:=id hn
  refine h _ ⟨I.ok,I.os,I.bare,⟨fun b o e n hb hx=>?_,fun b o e n hb hx=>?_,I.base.free,fun b o e hx=>?_,I.base.tups,I.base.frzs,I.base.tbls⟩,⟨_,hn',fun j y v' e1 e2 e3=>?_⟩,fun y c e=>?_,I.free,I.freeC,fun p hp=>?_,fun b ob e=>?_,by simpa using I.len⟩
  · exact (hs.2 b (Nat.ne_of_lt (Nat.lt_of_lt_of_le (Heap.lt_size e) I.ok.above))).trans (I.base.keep b o e n hb hx)
  · obtain ⟨sl,e1⟩:=I.base.slot b o e n hb hx
    exact ⟨sl,(hs.2 b (Nat.ne_of_lt (Nat.lt_of_lt_of_le (Heap.lt_size e) I.ok.above))).trans e1⟩
  · obtain ⟨o',e1⟩:=I.base.there b o e hx
    exact ⟨o',(hs.2 b (Nat.ne_of_lt (Nat.lt_of_lt_of_le (Heap.lt_size e) I.ok.above))).trans e1⟩
  · have hj:j≠i:=fun z=>by
      subst z
      rw [List.getElem?_set_self hiσ] at e2; cases e2
    rw [List.getElem?_set_ne (Ne.symm hj)] at e2
    obtain ⟨u',r',q⟩:=hl j y v' e1 e2 e3
    refine ⟨u',r',?_⟩
    rcases q with ⟨k,e⟩ | ⟨k,c,e,z⟩
    · refine .inl ⟨k,?_⟩
      have:y≠x:=fun e=>hj (nodup_ix hN e1 (e ▸ hi))
      simp [this,e]
    · exact .inr ⟨k,c,e,z.sameBut hs (cne y c e)⟩
  · obtain ⟨w',z⟩:=I.cell y c e
    exact ⟨w',z.sameBut hs (cne y c e)⟩
  · obtain ⟨e,n,ne,nf,d⟩:=I.pin p hp
    exact ⟨(hs.2 p.1 ne).trans e,n,ne,nf,d⟩
  · refine (I.hok b ob e).stay (fun c w' hc q=>(hs.2 c ?_).trans q) (fun _ q=>q) fun _ _ q=>q
    rintro rfl
    have hf:=I.free
    rcases hc with rfl | hc
    · rw [hf] at e; cases e
    · rw [hf] at hc; cases hc
theorem behind_ok {M:Model} {A:Around} {E:Value→Shared→Prop} {i:Nat} {x:Str} {pos:Pos} {Q:Unit→Shared→Prop} (I:Inv X pins σ H s) (hN:X.N.Nodup) (hi:X.N[i]? = some x) (hk:X.env.scope.names.lookup x=some .local)
    (h:∀ s',Inv X pins (σ.set i none) H s'→Q () s'):wpAny M A (do bindName X.env x .none; unbindBehindTheSuite X.env x pos) Q E s:=by
  have hiσ:i < σ.length:=by rw [I.len]; exact (List.getElem?_eq_some_iff.mp hi).1
  refine wpAny_bind ?_
  unfold bindName
  refine wpAny_bind (wpAny_holding (wpAny_point ?_))
  refine wpAny_bind ?_
  refine store_ok I hN hi (.inl hk) (v:=.non) rfl (fun s' I'=>wpAny_point ?_) (.inr hk)
  unfold unbindBehindTheSuite
  refine wpAny_onRaise ?_
  refine unbind_ok I' hN hi hk (v:=.non) (by rw [List.getElem?_set_self hiσ]) fun s2 I2=>h s2 ?_
  rw [List.set_set] at I2
  exact I2
abbrev Cx.marked (X:Cx) (a:Addr):Cx:={ X with A:=X.A.mark (some (.ref a)),calm:=false,xe:=fun _ _=>False }
theorem Inv.mark (I:Inv X pins σ H s) (a:Addr):Inv (X.marked a) pins σ H s :=
  ⟨⟨I.ok.mod,I.ok.kind,I.ok.glob,I.ok.blt,I.ok.above,I.ok.inj,I.ok.has,I.ok.cab,(fun z=>nomatch z),I.ok.frames,I.ok.stk,I.ok.exf,I.ok.bs,I.ok.bsz,I.ok.noex,I.ok.exfs,I.ok.funs,I.ok.frf⟩,I.os,I.bare,I.base,I.loc,I.cell,I.free,I.freeC,I.pin,I.hok,I.len⟩
theorem Inv.unmark {a:Addr} (ok:X.Ok) (I:Inv (X.marked a) pins σ H s):Inv X pins σ H s:=⟨ok,I.os,I.bare,I.base,I.loc,I.cell,I.free,I.freeC,I.pin,I.hok,I.len⟩
theorem Inv.track {a:Addr} {o:HO} (I:Inv X pins σ H s) (ha:H a=none) (h0:X.s₀.heap.get? a=none) (hL:a≠X.env.locals) (hc:∀ x c,X.env.cells.lookup x=some c→c≠a) (hp:∀ p ∈ X.pn ++ pins,p.1≠a) (ok:ObjOk X.prog X.w (upd H a o) s.heap a o):Inv X pins σ (upd H a o) s:=by
  refine ⟨I.ok,I.os,I.bare,⟨fun b ob e n hb hx=>I.base.keep b ob e n hb hx,I.base.slot,fun b ob e n hx=>?_,I.base.there,fun b xs e=>?_,fun b ob u e=>?_,fun b ps e=>?_⟩,I.loc,I.cell,?_,fun x c e=>?_,fun p hp'=>?_,fun b ob e=>?_,I.len⟩
  · rw [upd_ne (fun z=>by rw [z,h0] at e; cases e)]; exact I.base.free b ob e n hx
  · have:=I.base.tups b xs e
    rw [upd_ne (ne_of_none this ha)]; exact this
  · have:=I.base.frzs b ob u e
    rw [upd_ne (ne_of_none this ha)]; exact this
  · obtain ⟨m,this⟩:=I.base.tbls b ps e
    exact ⟨m,by rw [upd_ne (ne_of_none this ha)]; exact this⟩
  · rw [upd_ne (Ne.symm hL)]; exact I.free
  · rw [upd_ne (hc x c e)]; exact I.freeC x c e
  · obtain ⟨e,n,r⟩:=I.pin p hp'
    exact ⟨e,by rw [upd_ne (hp p hp')]; exact n,r⟩
  · by_cases hb:b=a
    · subst hb
      rw [upd_same] at e; cases e; exact ok
    · rw [upd_ne hb] at e
      refine (I.hok b ob e).stay (fun c v _ q=>q) (fun c q=>?_) fun c xs q=>?_
      · rw [upd_ne (ne_of_none q ha)]; exact q
      · rw [upd_ne (ne_of_none q ha)]; exact q
end
end L2
namespace L2
open PySem PySem.Spec PyProof.Rows
def tTry (K:PySem.W.Frag) (sp:Sp) (t:TA) (cT:Value) (i:Nat) (th:TS):TS:=fun D σ H=>t σ H fun vs H1=>∃ E:XK,sp (vs ++ []) H1 (fun _ H2=>D.nx σ H2) E ∧
  ∀ cls H2,E cls none H2→∃ Dc:Addr,cls = .ref Dc∧PySem.W.exmOne K cls cT=some true∧∀ a,H2 a=none→th { nx:=fun _ _=>False,rt:=D.rt } (σ.set i (some (.ref a))) (upd H2 a (ExO a cls))
section
variable {X:Cx} {k:Nat} {f CT:Addr} {fd:FuncData} {ps:List Str} {sp:Sp} {x xT n:Str} {p np cpos epos hpos pos:Pos} {e:Expr} {es:List Expr} {t:TA} {th:TS} {i:Nat} {b₀:Stmt} {suite:List Stmt}
theorem ps_try (F : FnOk X.prog X.w X.K X.mg X.base (CXr X.prog X.w) k f fd ps sp) (hr : Room k X.A) (hg : Gl X x) (hm : X.mg x = some (.ref f)) (hk : PySem.W.keepIn X.K (.ref f) = true) (hb : Binds X.K fd ps [])
    (ha:PA X.nox (e :: es) t) (hex0:X.ex=[]) (hst:X.stack=X.env :: X.outer∧X.env.frame=some X.env.locals) (hgT:Gl X xT) (hmT:X.mg xT=some (.ref CT)) (hN:X.N.Nodup) (hi:X.N[i]? = some n) (hn:X.env.scope.names.lookup n=some .local)
    (hth:∀ a,PSs (X.marked a) (b₀ :: suite) th)
    (hs:swapsWith (.Call (.Name x p) (e :: es) [] cpos) none epos.line X.env=pure false:=by rfl)
    (hdb:(x == ("__debug__":Str))=false:=by decide) (hdT:(xT == ("__debug__":Str))=false:=by decide) (he:starEach (e :: es) X.env=(false,eval e X.env) :: starEach es X.env:=by rfl) (hpl:(backTo cpos (starEach es X.env)).any (·.1)=false:=by rfl) :
    PS X (.Try [.Expr (.Call (.Name x p) (e :: es) [] cpos) epos] [.ExceptHandler (some (.Name xT np)) (some n) (b₀ :: suite) hpos] [] [] pos) (tTry X.K sp t (.ref CT) i th):=by
  intro pins s σ H D I h
  refine wpAny_Try_except ?_
  refine wpAny_execs_cons ?_
  refine wpAny_Expr_any ?_ I.quiet hs
  refine wpAny_Call_Name_kw (ld_glob I hg hm ?_ hdb)
  refine PySem.W.callWith_K (h₀:=X.base) I.ok.mod.kin hk (wpAny_mono (ha cpos pins s σ H _ (I.wish _) h) (fun us s1 ⟨vs,H1,I1,r,E,q,hE⟩=>⟨I1.kIn,?_⟩) fun _ _ z=>False.elim z) he hpl
  · have I1 := I1.unwish
    have r2:Vals (vs ++ []) (us ++ []):=r.append .nil
    have hl:(us ++ []).length=ps.length:=by rw [← r2.length]; exact F.len _ _ _ _ q
    refine wpAny_call (codeAny_mono (F.run X.A X.stack s1 H1 ⟨us,[]⟩ (us ++ []) (vs ++ []) _ E hr I1.env0 (hb s1 us I1.kIn hl) r2 q) fun r s' hq=>?_)
    cases r with
    | ok fl =>
      cases fl with
      | ret u =>
        obtain ⟨v,H2,I2,_,q2⟩:=I1.after hq
        exact wpAny_execs_nil (wpAny_execs_nil ⟨σ,H2,I2,q2⟩)
      | next=>exact False.elim hq
      | brk=>exact False.elim hq
      | cont=>exact False.elim hq
    | error ev =>
      obtain ⟨a,cls,a0,B,H2,rfl,os,bare,fl,Fl,qE⟩:=hq
      obtain ⟨Dc,rfl,hex,hh⟩:=hE cls H2 qE
      have frm:=stk_frames I1
      have fl':=fl
      rw [hst.1] at fl'
      have hfm:=I1.ok.frames
      rw [hst.1] at hfm
      -- the exception is no thing of ours so far
      have na1:s1.heap.get? a=none:=by
        cases ea:s1.heap.get? a with
        | none=>rfl
        | some o =>
          by_cases hb:a ∈ frs X.stack
          · obtain ⟨hfree,o',eo',nd⟩:=frm a hb
            rw [ea] at eo'; cases eo'
            obtain ⟨sl,e1⟩:=Fl.un.slot a o ea hfree hb (by simp)
            obtain ⟨_,_,_,oe,vs',_,_,_,e2,_,e3,_⟩:=fl
            rw [e1] at e2; cases e2
            exact absurd e3 (nd vs')
          · obtain ⟨u,hu⟩:=Fl.old a o ea hb
            rw [Fl.no] at hu; cases hu
      have na2:H2 a=none:=by
        cases ea:H2 a with
        | none=>rfl
        | some o=>obtain ⟨u,hu⟩:=Fl.has a o ea; rw [Fl.no] at hu; cases hu
      have na0:X.s₀.heap.get? a=none:=by
        cases ea:X.s₀.heap.get? a with
        | none=>rfl
        | some o => 
          obtain ⟨o',e1⟩:=I1.base.there a o ea (by rw [hex0]; simp)
          rw [na1] at e1; cases e1
      refine thn (wpAny_quiet (q_note _ _) (wpAny_looks_onW (L:=X.env.locals) (outer:=X.outer) (Q:=fun _ s3=>B.HeldW (X.env :: X.outer) a (.ref Dc) a0 X.env.locals s3.heap∧s'.heap.UpToSlots s3.heap∧s3.os=s'.os∧s3.gens=s'.gens) hfm hst.2 fl' fun h' hd us=>⟨hd,us,rfl,rfl⟩)) fun _ s3 ⟨⟨hd3,us3,o3,g3⟩,kp3⟩=>?_
      have F3:=Fl.step frm us3 hd3.1 kp3
      refine thn (wpAny_quiet (q_flight _ _) (wpAny_landsW (Q:=fun _ s4=>B.FlyingW (X.env :: X.outer) a (.ref Dc) a0 s4.heap∧s3.heap.UpToSlots s4.heap∧s4.os=s3.os∧s4.gens=s3.gens) hd3 fun h' fl us=>⟨fl,us,rfl,rfl⟩)) fun _ s4 ⟨⟨fl4,us4,o4,g4⟩,kp4⟩=>?_
      have F4:=F3.step frm us4 fl4.1 kp4
      have I4:Inv X pins σ H2 s4:=I1.call' (ch:=[]) ((o4.trans o3).trans os) F4.un F4.hok (by rw [g4,g3]; exact bare) (fun b z=>absurd z (by simp))
      refine wpAny_handleBy_cons ?_ (fun z=>nomatch z)
      refine codeAny_handlers_test ?_
      have I4m:=I4.mark a
      refine ld_glob I4m hgT hmT ?_ hdT
      obtain ⟨oe4,vs4,T4,oT4,ts4,e4,⟨c4,_⟩,d4,_⟩:=fl4.2.2.2
      have dict4:oe4.dict=none:=by
        obtain ⟨o,e5,d5⟩:=F4.dict
        rw [e4] at e5; cases e5; exact d5
      have inst4:PySem.W.InstAt s4.heap a oe4 Dc none:=⟨e4,c4,by unfold PySem.W.notCls; rw [d4],by rw [dict4]; trivial⟩
      refine PySem.W.exm_one (K:=X.K) I4.kIn inst4.type hex _ _ _ s4 (fun _ _ z=>z) ?_
      refine codeAny_handlers_suite_as ?_
      refine thn (wpAny_quiet (q_flight _ _) (lands_againW (Q:=fun _ s5=>B.FlyingW (X.env :: X.outer) a (.ref Dc) a0 s5.heap∧s4.heap.UpToSlots s5.heap∧s5.os=s4.os∧s5.gens=s4.gens) fl4 fun h' fl us=>⟨fl,us,rfl,rfl⟩)) fun _ s5 ⟨⟨fl5,us5,o5,g5⟩,kp5⟩=>?_
      have F5:=F4.step frm us5 fl5.1 kp5
      have I5:Inv X pins σ H2 s5:=I1.call' (ch:=[]) (((o5.trans o4).trans o3).trans os) F5.un F5.hok (by rw [g5,g4,g3]; exact bare) (fun b z=>absurd z (by simp))
      obtain ⟨oe5,vs5,T5,oT5,ts5,e5,⟨c5,_⟩,d5,_⟩:=fl5.2.2.2
      have dict5:oe5.dict=none:=by
        obtain ⟨o,e6,d6⟩:=F5.dict
        rw [e5] at e6; cases e6; exact d6
      have I6:Inv X pins σ (upd H2 a (ExO a (.ref Dc))) s5:=by
        refine I5.track na2 na0 (fun z=>?_) (fun y c hc z=>?_) (fun p hp z=>?_) (exO_ok e5 c5 dict5 d5)
        · obtain ⟨m,⟨o,_,_,ho,_⟩,_⟩:=I1.loc
          rw [← z,na1] at ho; cases ho
        · obtain ⟨v,o,ho,_⟩:=I1.cell y c hc
          rw [z,na1] at ho; cases ho
        · have:=(I1.pin p hp).1
          rw [z,na1] at this; cases this
      refine store_ok I6 hN hi (.inl hn) (v:=.ref a) rfl (fun s6 I7=>?_) (.inr hn)
      refine wpAny_mono (hth a pins s6 _ _ _ (I7.mark a) (hh a na2)) (fun f s7 z=>?_) fun _ _ z=>False.elim z
      cases f with
      | ret u =>
        obtain ⟨v,σ',H',I8,rv,q8⟩:=z
        exact behind_ok (I8.unmark I1.ok) hN hi hn fun s8 I9=>⟨v,_,H',I9,rv,q8⟩
      | next=>obtain ⟨_,_,_,z⟩:=z; exact False.elim z
      | brk=>obtain ⟨_,_,_,z⟩:=z; exact False.elim z
      | cont=>obtain ⟨_,_,_,z⟩:=z; exact False.elim z
end
end L2
namespace L2
open PySem PySem.Spec PyProof.Rows
structure ExcI (K:PySem.W.Frag) (D:Addr):Prop where
  ex:ExcK K D
  it:PySem.W.kitCls K (.ref D) (.ref D)=some true
  ga:PySem.W.findIn K (.ref D) "__getattribute__" = some (some (.builtin "BaseException.__getattribute__"))
  gt:PySem.W.findIn K (.ref D) "__getattr__" = some none
  ha:PySem.W.findIn K (.ref D) "__class__" = some (some (.builtin "object.__class__"))
  hn:PySem.W.specialIn K (.builtin "object.__class__") "__get__" = some (some (.builtin "getset_descriptor.__get__"))
  htk:PySem.W.takesIn K (.builtin "object.__class__")=some true
  hm:PySem.W.mroIn K D (.type "object")=some true
theorem ExcI.cls {K:PySem.W.Frag} {D:Addr} (e:ExcI K D):∃ cd,PySem.W.clsIn K D=some cd:=by
  have h:=e.it
  unfold PySem.W.kitCls at h
  simp only at h
  split at h
  · rename_i hc
    rw [Bool.and_eq_true] at hc
    exact Option.isSome_iff_exists.mp hc.1
  · cases h
theorem noGetattr_v:typeLookup (Value.type "ValueError") (Str.ofString "__getattr__")=pure none:=by
  unfold typeLookup
  rfl
theorem excAttr_v:ExcAttrBase "ValueError" vErr:=⟨F.excAttr_ValueError,F.excBase_ValueError.mroIs,noGetattr_v,rfl⟩
theorem exc_class {prog:Program} {w:World} {A:Around} {E:Value→Shared→Prop} {Q:Option Value→Shared→Prop} {K:PySem.W.Frag} {x D:Addr} {ox:Obj} {s:Shared} (e:ExcI K D) (X:K.In s.heap) (i:PySem.W.InstAt s.heap x ox D none)
    (q:Q (some (.ref D)) { s with toks:=s.toks+1 }):wpAny (model prog w) A (getAttr? (.ref x) (Str.ofString "__class__")) Q E s:=by
  obtain ⟨cd,hcd⟩:=e.cls
  obtain ⟨h,g,d,t,os⟩:=s
  unfold getAttr?
  refine wpAny_bind (wpAny_mkText ?_)
  unfold getAttrBy?
  refine wpAny_bind (wpAny_attempt ?_)
  unfold getAttrBy
  refine wpAny_holding ?_
  refine wpAny_bind (i.type.at ?_)
  refine wpAny_bind ((PySem.W.looks_findIn X e.ga).at ?_)
  show wpAny _ _ (if (onTheHeap (Value.ref D) && Value.builtin "BaseException.__getattribute__" == Value.builtin "object.__getattribute__")=true then _ else _) _ _ _
  have hne:¬ (onTheHeap (Value.ref D) && Value.builtin "BaseException.__getattribute__" == Value.builtin "object.__getattribute__")=true:=by
    have h1:(Value.builtin "BaseException.__getattribute__" == Value.builtin "object.__getattribute__")=false:=by decide
    rw [h1,Bool.and_false]; decide
  rw [if_neg hne]
  unfold getAttrByItsOwn
  refine wpAny_bind ?_
  unfold hookBefore
  show wpAny _ _ (if onTheHeap (Value.ref D)=true then _ else _) _ _ _
  rw [if_pos (show onTheHeap (Value.ref D)=true from rfl)]
  refine (PySem.W.looks_findIn X e.gt).at ?_
  refine wpAny_bind (wpAny_attempt (wpAny_holding ?_))
  unfold callGetattribute
  show wpAny _ _ (if (false && onTheHeap (Value.builtin "BaseException.__getattribute__"))=true then _ else _) _ _ _
  rw [if_neg (by decide)]
  unfold boundAndCalled
  rw [excAttr_v.toExcAttrFacts.ga.bind]
  refine wpAny_bind (wpAny_pure ?_)
  show wpAny _ _ (call (Value.builtin "BaseException.__getattribute__") ([Value.ref x] ++ [Value.str (Str.ofString "__class__") t])) _ _ _
  refine wpAny_call (codeAny_call_builtin excAttr_v.toExcAttrFacts.ga.plain F.entry_bexc_ga ?_)
  obtain ⟨bm,N,nm,q',bs,hdct,sn,sub,ab,col,dd,k0,k1,k2,k3,k5,mN,o1,o2,o3,o4⟩:=exc_obj X e.ex
  refine wpAny_check_ga_own excAttr_v o1 o4 i.at_ i.cls ?_
  unfold Builtin.«object.__getattribute__»
  refine wpAny_bind (wpAny_pure ?_)
  refine wpAny_bind (wpAny_pure ?_)
  refine wpAny_bind (i.type.at ?_)
  have hf:PySem.W.findObj K D none (Str.ofString "__class__")=some (Builtin.ObjectAttr.Found.bind (.builtin "getset_descriptor.__get__") (.builtin "object.__class__")):=by
    unfold PySem.W.findObj
    simp [hcd,e.ha,e.hn,e.htk]
  refine wpAny_bind ((PySem.W.looks_find X i hf).at ?_)
  show wpAny _ _ (Builtin.ObjectAttr.bindTo (.builtin "getset_descriptor.__get__") (.builtin "object.__class__") (.ref x) (.ref D)) _ _ _
  unfold Builtin.ObjectAttr.bindTo
  refine wpAny_bind (wpAny_holding (wpAny_call (PySem.W.class_get X i e.hm ?_)))
  refine wpAny_pure ?_
  refine PySem.W.handed_on rfl ?_
  exact wpAny_pure q
theorem kitx_exc {K:PySem.W.Frag} {x D:Addr} (e:ExcI K D):PySem.W.KitX K (.ref x) (.ref D) fun h=>∃ o vs,h.get? x=some o∧o.cls = .ref D∧o.dict=none∧o.data = .fields vs:=by
  have inst:∀ h:Heap,(∃ o vs,h.get? x=some o∧o.cls = .ref D∧o.dict=none∧o.data = .fields vs)→∃ o,PySem.W.InstAt h x o D none:=fun h ⟨o,vs,e1,e2,e3,e4⟩ =>
    ⟨o,e1,e2,by unfold PySem.W.notCls; rw [e4],by rw [e3]; trivial⟩
  obtain ⟨cd,hcd⟩:=e.cls
  refine ⟨fun M h _ hh=>?_,fun M h X _=>(PySem.W.kit_cls X e.it).2.1,fun h tp dd its n sl X ht=>?_,fun {prog w A E Q s} X hh q=>?_⟩
  · obtain ⟨o,i⟩:=inst h hh
    exact i.type
  · rw [beq_eq_false_iff_ne]
    intro z
    cases z
    unfold PySem.W.clsIn at hcd
    split at hcd
    · rename_i hl
      rw [X _ _ hl] at ht
      cases ht
    · cases hcd
  · obtain ⟨o,i⟩:=inst s.heap hh
    exact exc_class e X i q
def rIsiX (K:PySem.W.Frag):List V→Hp→VK→Prop:=fun xs H Q=>∃ (a D C:Addr) (b:Bool),xs=[.ref a,.ref C]∧H a=some (ExO a (.ref D))∧ExcI K D∧PySem.W.kitOne K (.ref D) (.ref C)=some b∧Q (.bl b) H
theorem call_isiX {X:Cx}:CallR X (.builtin "isinstance") (rIsiX X.K):=by
  intro pins s σ H xs us Q I r h
  obtain ⟨a,D,C,b,rfl,ha,hD,e,q⟩:=h
  obtain ⟨u,w',rfl,ru,rw'⟩:=vals2 r
  cases (show u=Value.ref a from ru)
  cases (show w'=Value.ref C from rw')
  obtain ⟨hφ,_⟩:=I.hok a _ ha
  exact PySem.W.kia_one (kitx_exc hD) I.kIn hφ e (fun z=>nomatch z) fun tk=>⟨.bl b,H,I.tok tk,rfl,q⟩
end L2
namespace L2
open PySem PySem.Spec PyProof.Rows
structure RoomN (k:Nat) (A:Around):Prop where
  dp:A.depth+3 * k+5 < recursionLimit
  un:A.units+16 * k+200 < cLine
theorem Room.n {k:Nat} {A:Around} (r:Room k A):RoomN k A:=⟨r.dp,r.un⟩
theorem RoomN.mark {k:Nat} {A:Around} (r:RoomN k A) (v:Option Value):RoomN k (A.mark v):=⟨r.dp,r.un⟩
theorem RoomN.mono {j k:Nat} {A:Around} (r:RoomN k A) (h:j≤k):RoomN j A:=⟨by have:=r.dp; omega,by have:=r.un; omega⟩
theorem RoomN.deeper {k:Nat} {A:Around} (r:RoomN (k+1) A) (env:Env):RoomN k (A.deeper env) :=
  ⟨by have:=r.dp; show A.depth+1+3 * k+5 < _; omega,by have:=r.un; show A.units+3+16 * k+200 < _; omega⟩
theorem RoomN.depth {k:Nat} {A:Around} (r:RoomN k A):A.depth < recursionLimit:=by have:=r.dp; omega
structure FnOkN (P:Program) (w:World) (K:PySem.W.Frag) (mg:Str→Option Value) (base:Heap) (k:Nat) (f:Addr) (fd:FuncData) (ps:List Str) (sp:Sp):Prop where
  len:∀ vs H Q E,sp vs H Q E→vs.length=ps.length
  run:∀ (A:Around) (outer:List Env) (s:Shared) (H:Hp) (args:Args) (us:List Value) (vs:List V) (Q:VK) (E:XK),RoomN k A→Env0 P w K mg base A outer s H→BindsTo s fd args (ps.zip us)→Vals vs us→sp vs H Q E →
    codeAny (model P w) A (.call (.ref f) args) (CR CX0 outer P w H s Q E) s
def cxN (P:Program) (w:World) (K:PySem.W.Frag) (mg:Str→Option Value) (base:Heap) (N:List Str) (qual:Str) (scope:Scope) (f:Addr) (cd:Value) (A:Around) (outer:List Env) (s:Shared) (H:Hp):Cx :=
  { cxOf CX0 P w K mg base N qual scope f cd A outer s H E0 with calm:=false,xe:=fun _ _=>False }
theorem fnN_of {P:Program} {w:World} {K:PySem.W.Frag} {mg:Str→Option Value} {base:Heap} {k:Nat} {f:Addr} {name qual:Str} {params:Arguments} {body:List Stmt} {scope:Scope} {dV kV doc pm cdv ct oc:Value} {an od:Option Addr}
    {osl:Array (Option Value)} {N ps:List Str} {sp:Sp} (lk:K.lookup f=some ⟨oc,od,.func (PySem.W.fnOf name qual params body scope dV kV doc pm an cdv ct),osl⟩) (hcd:PySem.W.codeIn K cdv qual=true) (S:FnScope N ps scope)
    (len:∀ vs H Q E,sp vs H Q E→vs.length=ps.length)
    (hbody:∀ (A:Around) (outer:List Env) (s:Shared) (H:Hp) (vs:List V) (Q:VK) (E:XK),RoomN k (A.deeper (envOfC qual scope s.heap.objs.size f cdv))→sp vs H Q E →
      ∃ t,PSs (cxN P w K mg base N qual scope f cdv A outer s H) body t∧t { nx:=fun _ H'=>Q .non H',rt:=Q } (start N vs) H) :
    FnOkN P w K mg base (k+1) f (PySem.W.fnOf name qual params body scope dV kV doc pm an cdv ct) ps sp:=by
  refine ⟨len,fun A outer s H args us vs Q E hr e0 hb r hsp=>?_⟩
  have hl:=len _ _ _ _ hsp
  have KX:K.In s.heap:=e0.mod.kin.keeps fun b o e=>(e0.bs b o e).1
  have lim:s.heap.NoLimit:=e0.mod.nolimit.keeps fun b o e=>(e0.bs b o e).1
  have hkind:∀ y ∈ ps.zip us,scope.names.lookup y.1=some .local∨(scope.names.lookup y.1=some .cell∧((cellsFrom (s.heap.objs.size+1) scope.names []).lookup y.1).isSome=true):=fun ⟨n,v⟩ hy=>by
    rcases S.par n (List.of_mem_zip hy).1 with q | q
    · exact .inl q
    · exact .inr ⟨q,PySem.W.cellsFrom_some _ _ _ (.inl q)⟩
  refine codeAny_call_function hr.depth (KX _ _ lk) rfl S.co S.gen rfl (PySem.W.codeRec_of KX hcd) (hb _ _ _ _ ?_)
  refine wpAny_newFunctionEnv_cells S.kind hkind fun env he s1 x=>?_
  subst he
  refine ⟨lim.keeps x.toInCall.keep,codeAny_func ?_⟩
  obtain ⟨t,ht,hq⟩:=hbody A outer s H vs Q E (hr.deeper _) hsp
  have I:Inv (cxN P w K mg base N qual scope f cdv A outer s H) [] (start N vs) H s1:=by
    have J:Inv (cxOf CX0 P w K mg base N qual scope f cdv { A with handled:=none } outer s H E0) [] (start N vs) H s1:=inv_start S rfl ⟨e0.frames,e0.mod,e0.bs,e0.bsz,e0.funs,e0.frf,e0.hok,e0.bare⟩ hl r x
    exact ⟨⟨J.ok.mod,J.ok.kind,J.ok.glob,J.ok.blt,J.ok.above,J.ok.inj,J.ok.has,J.ok.cab,(fun z=>nomatch z),Around.frames_deeper e0.frames,J.ok.stk,J.ok.exf,J.ok.bs,J.ok.bsz,J.ok.noex,J.ok.exfs,J.ok.funs,J.ok.frf⟩,J.os,J.bare,J.base,J.loc,J.cell,J.free,J.freeC,J.pin,J.hok,J.len⟩
  refine wpAny_mono (ht [] s1 (start N vs) H _ I hq) (fun fl s' hs=>?_) fun e s' hs=>False.elim hs
  have fin:∀ {σ':St} {H':Hp} {v:V} {u:Value},Inv (cxN P w K mg base N qual scope f cdv A outer s H) [] σ' H' s'→RelV v u→Q v H'→CE outer P w H s Q u s' :=
    fun {σ' H' v u} J rv q=>⟨v,H',J.os,J.bare,J.base,J.hok,rv,q⟩
  cases fl with
  | ret u =>
    obtain ⟨v,σ',H',J,rv,q⟩:=hs
    exact fin J rv q
  | next =>
    obtain ⟨σ',H',J,q⟩:=hs
    exact fin (v:=V.non) (u:=Value.none) J rfl q
  | brk =>
    obtain ⟨_,_,_,q⟩:=hs
    exact False.elim q
  | cont =>
    obtain ⟨_,_,_,q⟩:=hs
    exact False.elim q
theorem Fun.okN {P:Program} {w:World} {K:PySem.W.Frag} {mg:Str→Option Value} {base:Heap} {x qual:Str} {st:Stmt} {f:Addr} {fd:FuncData} {N ps:List Str} {k:Nat} {sp:Sp} (F:Fun K x qual st f fd) (S:FnScope N ps (defScope st)) (len:∀ vs H Q E,sp vs H Q E→vs.length=ps.length)
    (hbody:∀ (cdv:Value) (A:Around) (outer:List Env) (s:Shared) (H:Hp) (vs:List V) (Q:VK) (E:XK),RoomN k (A.deeper (envOfC qual (defScope st) s.heap.objs.size f cdv))→sp vs H Q E →
      ∃ t,PSs (cxN P w K mg base N qual (defScope st) f cdv A outer s H) (defBody st) t∧t { nx:=fun _ H'=>Q .non H',rt:=Q } (start N vs) H):FnOkN P w K mg base (k+1) f fd ps sp:=by
  obtain ⟨oc,od,kV,doc,pm,an,cdv,ct,osl,rfl,lk,hcd⟩:=F.ex
  exact fnN_of lk hcd S len fun A outer s H vs Q E hr hsp=>hbody cdv A outer s H vs Q E hr hsp
section
variable {X:Cx} {k:Nat} {f:Addr} {fd:FuncData} {ps:List Str} {sp:Sp} {x:Str} {p pos:Pos} {e:Expr} {es:List Expr} {t:TA}
theorem pe_callN (F:FnOkN X.prog X.w X.K X.mg X.base k f fd ps sp) (hr:RoomN k X.A) (hg:Gl X x) (hm:X.mg x=some (.ref f)) (hk:PySem.W.keepIn X.K (.ref f)=true) (hb:Binds X.K fd ps [])
    (ha:PA X (e :: es) t) (hdb:(x == ("__debug__":Str))=false:=by decide) (he:starEach (e :: es) X.env=(false,eval e X.env) :: starEach es X.env:=by rfl) (hpl:(backTo pos (starEach es X.env)).any (·.1)=false:=by rfl) :
    PE X (.Call (.Name x p) (e :: es) [] pos) (tCall sp [] E0 t):=by
  intro pins s σ H Q I h
  refine wpAny_Call_Name_kw (ld_glob I hg hm ?_ hdb)
  refine PySem.W.callWith_K (h₀:=X.base) I.ok.mod.kin hk (thn (ha pos pins s σ H _ I h) fun us s1 ⟨vs,H1,I1,r,q⟩=>⟨I1.kIn,?_⟩) he hpl
  have r2:Vals (vs ++ []) (us ++ []):=r.append .nil
  have hl:(us ++ []).length=ps.length:=by rw [← r2.length]; exact F.len _ _ _ _ q
  refine wpAny_call (codeAny_mono (F.run X.A X.stack s1 H1 ⟨us,[]⟩ (us ++ []) (vs ++ []) Q E0 hr I1.env0 (hb s1 us I1.kIn hl) r2 q) fun r s' hq=>?_)
  cases r with
  | error e=>exact False.elim hq
  | ok fl =>
    cases fl with
    | ret u=>exact I1.after hq
    | next=>exact False.elim hq
    | brk=>exact False.elim hq
    | cont=>exact False.elim hq
end
theorem x_isiX {K:PySem.W.Frag} {a D C:Addr} {b:Bool} {H:Hp} {Q:VK} (ha:H a=some (ExO a (.ref D))) (hD:ExcI K D) (e:PySem.W.kitOne K (.ref D) (.ref C)=some b) (k:Q (.bl b) H):rIsiX K [.ref a,.ref C] H Q:=⟨a,D,C,b,rfl,ha,hD,e,k⟩
theorem x_try {K:PySem.W.Frag} {sp:Sp} {t:TA} {cT:Value} {i:Nat} {th:TS} {D:Ends} {σ:St} {H:Hp} (h:t σ H fun vs H1=>∃ E:XK,sp (vs ++ []) H1 (fun _ H2=>D.nx σ H2) E ∧
  ∀ cls H2,E cls none H2→∃ Dc:Addr,cls = .ref Dc∧PySem.W.exmOne K cls cT=some true∧∀ a,H2 a=none→th { nx:=fun _ _=>False,rt:=D.rt } (σ.set i (some (.ref a))) (upd H2 a (ExO a cls))):tTry K sp t cT i th D σ H:=h
end L2
namespace L2
open PySem PySem.Spec PyProof.Rows
section
variable {K:PySem.W.Frag} {σ:St} {H:Hp} {Q:VK}
theorem comp_relA {σ0 : St} {g : TG} {te : TE} {J : It} {n : Nat} {acc : Addr} {R : Hp → Prop} (E : Nat → V → Hp → Prop) (X : Nat → V → Prop) (S : St → Prop) (ha : H acc = none) (s0 : S σ0) (hn : n ≤ 100000)
    (hgo:∀ i H',Same H H'→i < n→J.go i H') (hstop:∀ H',Same H H'→J.stop n H') (hy:∀ i H' x H2,Same H H'→i < n→J.yld i H' x H2→H2=H'∧X i x)
    (st:∀ i y H1 H2 zs,H1 acc=some (.lst zs)→SameBut1 acc H1 H2→E i y H1→E i y H2)
    (turn:∀ (i:Nat) (x:V) (σ':St) (H':Hp) (G:V→St→Hp→Prop),i < n→X i x→Same H H'→(∃ zs,H' acc=some (.lst zs))→S σ'→(∀ y σ2 H5,S σ2→Same H' H5→E i y H5→G y σ2 H5)→g x σ' H' fun σ2 H3=>te σ2 H3 fun y H5=>G y σ2 H5)
    (fin:∀ ys H',ys.length=n→H' acc=some (.lst ys)→Same H H'→(∀ i y,ys[i]? = some y→E i y H')→R H') :
    ∃ W:Nat→Nat→List V→St→Hp→Prop,(∃ m,W 0 m [] σ0 (upd H acc (.lst [])))∧∀ i m ys σ' H',W i m ys σ' H'→H' acc=some (.lst ys) ∧
    ((J.stop i H'∧R H')∨(J.go i H'∧∀ x H2,J.yld i H' x H2→g x σ' H2 fun σ2 H3=>tYes σ2 H3 fun b H4 =>
      if b=true then te σ2 H4 fun y H5=>H5 acc=some (.lst ys)∧ys.length < sizeLine∧∃ m',m' < m∧W (i+1) m' (ys ++ [y]) σ2 (upd H5 acc (.lst (ys ++ [y]))) else ∃ m',m' < m∧W (i+1) m' ys σ2 H4)):=by
  refine comp_by (n:=n) (tt:=tYes) (fun i ys H'=>ys.length=i∧H' acc=some (.lst ys)∧Same H H'∧∀ j y,ys[j]? = some y→E j y H') S ⟨rfl,upd_same,Same.upd_new ha,fun j y e=>by simp at e⟩ s0 ?_ ?_ ?_ ?_
  · rintro i ys H' ⟨_,h,_⟩; exact h
  · rintro ys H' ⟨e,h,S',hE⟩
    exact ⟨hstop H' S',fin ys H' e h S' hE⟩
  · rintro i ys H' hi ⟨e,h,S',hE⟩
    exact hgo i H' S' hi
  · rintro i ys σ' H' x H2 hi ⟨e,h,S',hE⟩ hσ hyl
    obtain ⟨rfl,hX⟩:=hy i H' x H2 S' hi hyl
    have z:=turn i x σ' H2 (fun y σ2 H5=>H5 acc=some (.lst ys)∧ys.length < sizeLine∧∃ m',m' < n - i∧CNext n (i+1) S (fun ys H'=>ys.length=i+1∧H' acc=some (.lst ys)∧Same H H'∧∀ j y,ys[j]? = some y→E j y H') m' (ys ++ [y]) σ2 (upd H5 acc (.lst (ys ++ [y])))) hi hX S' ⟨_,h⟩ hσ ?_
    · exact z
    · intro y σ2 H5 h2 S5 hE5
      refine ⟨S5 _ _ h,small_lt (m:=100000) (by omega),CNext.mk' hi h2 ⟨by rw [List.length_append,e]; rfl,upd_same,fun b o q=>by rw [upd_ne (ne_of_none q ha)]; exact S5 _ _ (S' _ _ q),fun j v hv=>?_⟩⟩
      have hb:SameBut1 acc H5 (upd H5 acc (.lst (ys ++ [y]))):=SameBut1.upd
      by_cases hj:j < ys.length
      · rw [List.getElem?_append_left hj] at hv
        exact st j v _ _ _ (S5 _ _ h) hb (st j v _ _ _ h (SameBut1.same S5) (hE j v hv))
      · rw [List.getElem?_append_right (by omega)] at hv
        have ej:j=i:=by
          by_cases z:j - ys.length=0
          · omega
          · rw [List.getElem?_eq_none (by simp; omega)] at hv; cases hv
        subst ej
        rw [e,Nat.sub_self] at hv
        have ev:y=v:=by simpa using hv
        subst ev
        exact st j y _ _ _ (S5 _ _ h) hb hE5
theorem comp_rngA {σ0:St} {g:TG} {te:TE} {lo:Int} {n:Nat} {acc:Addr} {R:Hp→Prop} (E:Nat→V→Hp→Prop) (S:St→Prop) (ha:H acc=none) (s0:S σ0) (hn:n≤100000)
    (st:∀ i y H1 H2 zs,H1 acc=some (.lst zs)→SameBut1 acc H1 H2→E i y H1→E i y H2)
    (turn:∀ (i:Nat) (σ':St) (H':Hp) (G:V→St→Hp→Prop),i < n→Same H H'→(∃ zs,H' acc=some (.lst zs))→S σ'→(∀ y σ2 H5,S σ2→Same H' H5→E i y H5→G y σ2 H5)→g (.int (lo+i)) σ' H' fun σ2 H3=>te σ2 H3 fun y H5=>G y σ2 H5)
    (fin:∀ ys H',ys.length=n→H' acc=some (.lst ys)→Same H H'→(∀ i y,ys[i]? = some y→E i y H')→R H') :
    ∃ W:Nat→Nat→List V→St→Hp→Prop,(∃ m,W 0 m [] σ0 (upd H acc (.lst [])))∧∀ i m ys σ' H',W i m ys σ' H'→H' acc=some (.lst ys) ∧
    (((Itr lo n).stop i H'∧R H')∨((Itr lo n).go i H'∧∀ x H2,(Itr lo n).yld i H' x H2→g x σ' H2 fun σ2 H3=>tYes σ2 H3 fun b H4 =>
      if b=true then te σ2 H4 fun y H5=>H5 acc=some (.lst ys)∧ys.length < sizeLine∧∃ m',m' < m∧W (i+1) m' (ys ++ [y]) σ2 (upd H5 acc (.lst (ys ++ [y]))) else ∃ m',m' < m∧W (i+1) m' ys σ2 H4)) :=
  comp_relA E (fun i x=>x = .int (lo+i)) S ha s0 hn (fun i H' _ h=>h) (fun H' _=>Nat.le_refl n) (fun i H' x H2 _ _ h=>h) st (fun i x σ' H' G hi hX S' hz hσ k=>by subst hX; exact turn i σ' H' G hi S' hz hσ k) fin
end
end L2
namespace L2
open PySem PySem.Spec PyProof.Rows
structure Cal (P:Program) (w:World) (K:PySem.W.Frag) (mg:Str→Option Value) (base:Heap) (CX:CXT) (k:Nat) (x:Str) (ps:List Str) (sp:Sp) where
  f:Addr
  d:FuncData
  G:FnOk P w K mg base CX k f d ps sp
  m:mg x=some (.ref f)
  kp:PySem.W.keepIn K (.ref f)=true
  b:Binds K d ps []
structure CalN (P:Program) (w:World) (K:PySem.W.Frag) (mg:Str→Option Value) (base:Heap) (k:Nat) (x:Str) (ps:List Str) (sp:Sp) where
  f:Addr
  d:FuncData
  G:FnOkN P w K mg base k f d ps sp
  m:mg x=some (.ref f)
  kp:PySem.W.keepIn K (.ref f)=true
  b:Binds K d ps []
structure CalM (P:Program) (w:World) (K:PySem.W.Frag) (mg:Str→Option Value) (base:Heap) (CX:CXT) (k:Nat) (C:Addr) (x:Str) (ps:List Str) (sp:Sp) where
  f:Addr
  d:FuncData
  G:FnOk P w K mg base CX k f d ps sp
  m:Meth K C x f
  b:Binds K d ps []
structure CalI (P:Program) (w:World) (K:PySem.W.Frag) (mg:Str→Option Value) (base:Heap) (CX:CXT) (k:Nat) (C:Addr) (ps:List Str) (sp:Sp) where
  f:Addr
  d:FuncData
  G:FnOk P w K mg base CX k f d ps sp
  m:Mk K C f
  b:Binds K d ps []
structure Dfn (K:PySem.W.Frag) (mg:Str→Option Value) (x:Str) (st:Stmt) (ps:List Str) where
  f:Addr
  d:FuncData
  F:Fun K x x st f d
  m:mg x=some (.ref f)
  bt:∀ (s:Shared) (us:List Value),us.length=ps.length→BindsTo s d ⟨us,[]⟩ (ps.zip us)
  b:Binds K d ps []
structure DfnM (K:PySem.W.Frag) (C:Addr) (x q:Str) (st:Stmt) (ps:List Str) where
  f:Addr
  d:FuncData
  F:Fun K x q st f d
  a:PySem.W.findIn K (.ref C) x=some (some (.ref f))
  i:PySem.W.isFn K (.ref f)=true
  b:Binds K d ps []
def mkD {K : PySem.W.Frag} {h : Heap} {mg : Str → Option Value} {x : Str} {st : Stmt} {ps : List Str} (X : K.In h) (G : h.Ns mainGlobals mg) {f : Addr} {od an : Option Addr} {sl : Array (Option Value)} {oc kV dc pm cd ct : Value} (a : PySem.W.nsIn K mainGlobals x = some (some (.ref f)))
    (l:K.lookup f=some ⟨oc,od,.func (PySem.W.fnOf x x (defArgs st) (defBody st) (defScope st) .none kV dc pm an cd ct),sl⟩) (c:PySem.W.codeIn K cd x=true) (k:PySem.W.keepIn K (.ref f)=true)
    (hb:∀ (kV doc pm:Value) (an:Option Addr) (cdv ct:Value) (us:List Value),us.length=ps.length→bindArgs (PySem.W.fnOf x x (defArgs st) (defBody st) (defScope st) .none kV doc pm an cdv ct) ⟨us,[]⟩=pure (ps.zip us)):Dfn K mg x st ps :=
  ⟨f,_,fun_mk l c k,PySem.W.mg_of X G a,fun s us hl=>.of_eq (hb kV dc pm an cd ct us hl),(fun_mk l c k).binds hb⟩
def mkM {K : PySem.W.Frag} {C : Addr} {x q : Str} {st : Stmt} {ps : List Str} {f : Addr} {od an : Option Addr} {sl : Array (Option Value)} {oc kV dc pm cd ct : Value} (a : PySem.W.findIn K (.ref C) x = some (some (.ref f))) (i : PySem.W.isFn K (.ref f) = true)
    (l:K.lookup f=some ⟨oc,od,.func (PySem.W.fnOf x q (defArgs st) (defBody st) (defScope st) .none kV dc pm an cd ct),sl⟩) (c:PySem.W.codeIn K cd q=true) (k:PySem.W.keepIn K (.ref f)=true)
    (hb:∀ (kV doc pm:Value) (an:Option Addr) (cdv ct:Value) (us:List Value),us.length=ps.length→bindArgs (PySem.W.fnOf x q (defArgs st) (defBody st) (defScope st) .none kV doc pm an cdv ct) ⟨us,[]⟩=pure (ps.zip us)):DfnM K C x q st ps :=
  ⟨f,_,fun_mk l c k,a,i,(fun_mk l c k).binds hb⟩
theorem Dfn.law {K:PySem.W.Frag} {mg:Str→Option Value} {x y:Str} {st:Stmt} {fa:Addr} (D:Dfn K mg x st [y]) (h:mg x=some (.ref fa)):D.f=fa:=by
  have:=D.m.symm.trans h
  cases this; rfl
section
variable {X:Cx} {CX:CXT} {E:XK} {k:Nat} {C:Addr} {ps:List Str} {sp:Sp} {x:Str} {p pos apos:Pos} {e o:Expr} {es:List Expr} {t:TA} {ta:TE}
theorem pcl (c:Cal X.prog X.w X.K X.mg X.base CX k x ps sp) (hr:Room k X.A) (hg:Gl X x) (hx:Passes CX X E) (ha:PA X (e :: es) t) (hdb:(x == ("__debug__":Str))=false:=by decide) (he:starEach (e :: es) X.env=(false,eval e X.env) :: starEach es X.env:=by rfl) (hpl:(backTo pos (starEach es X.env)).any (·.1)=false:=by rfl) :
    PE X (.Call (.Name x p) (e :: es) [] pos) (tCall sp [] E t):=pe_call c.G hr hg c.m c.kp c.b .nil hx ha hdb he hpl
theorem pcm {pl:Sem Bool} (c:CalM X.prog X.w X.K X.mg X.base CX k C x ps sp) (cl:Cls X.K C) (hr:Room k X.A) (he:PE X o ta) (hx:Passes CX X E) (ha:PA X (e :: es) t)
    (hst:starEach (e :: es) X.env=(false,eval e X.env) :: starEach es X.env:=by rfl) (hpl:(backTo pos (starEach es X.env)).any (·.1)=false:=by rfl)
    (ht:eval (.Call (.Attribute o x apos) (e :: es) [] pos) X.env=(do
      let ov ← eval o X.env
      standAt apos.atName
      let (f,first) ← holding [ov] (getMethod ov x pl)
      callWith pos f first (backTo pos (starEach (e :: es) X.env)) (backToKw pos (keywordEach [] X.env))):=by rfl) :
    PE X (.Call (.Attribute o x apos) (e :: es) [] pos) (tMeth C x sp [] E ta t):=pe_meth he cl c.m c.G hr c.b .nil hx ha hst hpl ht
theorem pcm0 {pl:Sem Bool} (c:CalM X.prog X.w X.K X.mg X.base CX k C x ps sp) (cl:Cls X.K C) (hr:Room k X.A) (he:PE X o ta) (hx:Passes CX X E)
    (ht:eval (.Call (.Attribute o x apos) [] [] pos) X.env=(do
      let ov ← eval o X.env
      standAt apos.atName
      let (f,first) ← holding [ov] (getMethod ov x pl)
      callWith pos f first (backTo pos (starEach [] X.env)) (backToKw pos (keywordEach [] X.env))):=by rfl) :
    PE X (.Call (.Attribute o x apos) [] [] pos) (tMeth C x sp [] E ta tNil):=pe_meth0 he cl c.m c.G hr c.b .nil hx ht
end
end L2
namespace Rm
inductive Gr (f:Nat→Int):Nat→List Int→Prop
  | one:Gr f 0 [f 0]
  | put {m:Nat} {r:List Int} {j:Nat}:Gr f m r→j < r.length→Gr f (m+1) (r.take (j+1) ++ ([f (m+1)] ++ r.drop j))
variable {f:Nat→Int} {m:Nat} {r:List Int}
theorem Gr.len (h:Gr f m r):r.length=2 * m+1:=by
  induction h with
  | one=>rfl
  | put h hj ih=>simp [List.length_append,List.length_take,List.length_drop]; omega
theorem Gr.mem (h:Gr f m r):∀ i,i≤m→f i ∈ r:=by
  induction h with
  | one => intro i hi; have : i = 0 := by omega
           subst this; simp
  | @put m r j h hj ih =>
    intro i hi
    by_cases e:i=m+1
    · subst e; simp
    · have:=ih i (by omega)
      rw [← List.take_append_drop j r] at this
      rcases List.mem_append.mp this with z | z
      · exact List.mem_append_left _ (by rw [List.take_add_one]; exact List.mem_append_left _ z)
      · exact List.mem_append_right _ (List.mem_append_right _ z)
theorem Gr.first (h:Gr f m r):r[0]? = some (f 0):=by
  induction h with
  | one=>rfl
  | @put m r j h hj ih =>
    cases r with
    | nil=>simp at hj
    | cons a r=>simpa using ih
theorem Gr.last (h:Gr f m r):r[r.length - 1]? = some (f 0):=by
  induction h with
  | one=>rfl
  | @put m r j h hj ih =>
    have e1:(r.take (j+1)).length=j+1:=by rw [List.length_take]; omega
    have e2:(r.take (j+1) ++ ([f (m+1)] ++ r.drop j)).length - 1=r.length+1:=by simp [List.length_append,List.length_take,List.length_drop]; omega
    rw [e2,List.getElem?_append_right (by omega),List.getElem?_append_right (by rw [e1]; simp; omega),List.getElem?_drop,e1]
    rw [← ih]
    congr 1
    simp; omega
def tn {α:Type} (r:List α) (k:Nat):List α:=r.drop k ++ (r.drop 1).take k
theorem tn_len {k:Nat} (hk:k < r.length):(tn r k).length=r.length:=by
  unfold tn
  rw [List.length_append,List.length_drop,List.length_take,List.length_drop]
  omega
theorem tn_zero:tn r 0=r:=by simp [tn]
theorem idx_lt {a:Int} (h:a ∈ r):r.idxOf a < r.length:=List.idxOf_lt_length_iff.mpr h
theorem idx_get {a:Int} (h:a ∈ r):r[r.idxOf a]? = some a:=by
  rw [List.getElem?_eq_getElem (idx_lt h),List.getElem_idxOf]
end Rm
namespace Rm
def Ad (par:Nat→Nat) (x y:Nat):Prop:=(1≤x∧y=par x)∨(1≤y∧x=par y)
structure Tr (m:Nat) (rn:List Nat) (par:Nat→Nat):Prop where
  le:∀ x ∈ rn,x≤m
  pl:∀ i,1≤i→i≤m→par i < i
  adj:∀ (i x y:Nat),rn[i]? = some x→rn[i+1]? = some y→Ad par x y
theorem Ad.upd {m z x y:Nat} {par:Nat→Nat} (hx:x≤m) (hy:y≤m) (h:Ad par x y):Ad (fun i=>if i=m+1 then z else par i) x y:=by
  rcases h with ⟨h1,h2⟩ | ⟨h1,h2⟩
  · exact .inl ⟨h1,by simp only; rw [if_neg (by omega)]; exact h2⟩
  · exact .inr ⟨h1,by simp only; rw [if_neg (by omega)]; exact h2⟩
theorem Gr.tree {f : Nat → Int} {m : Nat} {r : List Int} (h : Gr f m r) : ∃ rn par, r = rn.map f ∧ Tr m rn par := by
  induction h with
  | one=>exact ⟨[0],fun _=>0,rfl,by simp,fun i h1 h2=>absurd h1 (by omega),fun i x y e1 e2=>by simp at e2⟩
  | @put m r j h hj ih =>
    obtain ⟨rn,par,rfl,T⟩:=ih
    rw [List.length_map] at hj
    have hz:=T.le rn[j] (List.getElem_mem hj)
    refine ⟨rn.take (j+1) ++ ([m+1] ++ rn.drop j),fun i=>if i=m+1 then rn[j] else par i,by simp [List.map_append,List.map_take,List.map_drop],fun x hx=>?_,fun i h1 h2=>?_,fun i x y e1 e2=>?_⟩
    · rcases List.mem_append.mp hx with z | z
      · have:=T.le x (List.mem_of_mem_take z); omega
      · rcases List.mem_append.mp z with z | z
        · have:x=m+1:=by simpa using z
          omega
        · have:=T.le x (List.mem_of_mem_drop z); omega
    · by_cases e:i=m+1
      · simp only [if_pos e]; omega
      · simp only [if_neg e]; exact T.pl i h1 (by omega)
    · have lt:(rn.take (j+1)).length=j+1:=by rw [List.length_take]; omega
      have at1:∀ i,i≤j→(rn.take (j+1) ++ ([m+1] ++ rn.drop j))[i]? = rn[i]?:=fun i hi=>by
        rw [List.getElem?_append_left (by omega),List.getElem?_take,if_pos (by omega)]
      have at2:(rn.take (j+1) ++ ([m+1] ++ rn.drop j))[j+1]? = some (m+1):=by
        rw [List.getElem?_append_right (by omega),lt,Nat.sub_self]; rfl
      have at3:∀ i,j+2≤i→(rn.take (j+1) ++ ([m+1] ++ rn.drop j))[i]? = rn[i - 2]?:=fun i hi=>by
        rw [List.getElem?_append_right (by omega),lt,List.getElem?_append_right (by simp; omega),List.getElem?_drop]
        congr 1; simp; omega
      have mem:∀ {k v:Nat},rn[k]? = some v→v≤m:=fun {k v} e=>T.le v (List.mem_of_getElem? e)
      rcases (show i+1≤j∨i=j∨i=j+1∨j+2≤i by omega) with c | c | c | c
      · rw [at1 i (by omega)] at e1
        rw [at1 (i+1) c] at e2
        exact (T.adj i x y e1 e2).upd (mem e1) (mem e2)
      · subst c
        rw [at1 i (Nat.le_refl _),List.getElem?_eq_getElem hj] at e1
        rw [at2] at e2
        cases e1; cases e2
        exact .inr ⟨by omega,by simp⟩
      · subst c
        rw [at2] at e1
        rw [at3 (j+1+1) (by omega)] at e2
        have e3:j+1+1 - 2=j:=by omega
        rw [e3,List.getElem?_eq_getElem hj] at e2
        cases e1; cases e2
        exact .inl ⟨by omega,by simp⟩
      · rw [at3 i c] at e1
        rw [at3 (i+1) (by omega)] at e2
        have e3:i+1 - 2=i - 2+1:=by omega
        rw [e3] at e2
        exact (T.adj (i - 2) x y e1 e2).upd (mem e1) (mem e2)
section
variable {n:Nat} {v par:Nat→Nat}
theorem nb_down (hA:∀ i,i+1 < n→Ad par (v i) (v (i+1))) (hN:∀ i,i+2 < n→v i≠v (i+2)) (hp:∀ i,i < n→1≤v i→par (v i) < v i) {s:Nat} (h:1≤v (s+1)∧v s=par (v (s+1))) :
    ∀ d,s+d+1 < n→(1≤v (s+d+1)∧v (s+d)=par (v (s+d+1)))∧v s < v (s+d+1)
  | 0,hd=>⟨h,by have:=hp (s+1) hd h.1; rw [Nat.add_zero]; omega⟩
  | d + 1, hd => by
    obtain ⟨h1,h2⟩:=nb_down hA hN hp h d (by omega)
    have e:s+(d+1)=s+d+1:=by omega
    rw [e]
    rcases hA (s+d+1) (by omega) with z | z
    · exact absurd (h1.2.trans z.2.symm) (hN (s+d) (by omega))
    · have:=hp (s+d+1+1) (by omega) z.1
      exact ⟨z,by omega⟩
theorem nb_up (hA:∀ i,i+1 < n→Ad par (v i) (v (i+1))) (hN:∀ i,i+2 < n→v i≠v (i+2)) (hp:∀ i,i < n→1≤v i→par (v i) < v i) {t:Nat} (ht:t+1 < n) (h:1≤v t∧v (t+1)=par (v t)) :
    ∀ d s,s+d=t→(1≤v s∧v (s+1)=par (v s))∧v (t+1) < v s
  | 0, s, e => by
    have:s=t:=by omega
    subst this
    exact ⟨h,by have:=hp s (by omega) h.1; omega⟩
  | d + 1, s, e => by
    obtain ⟨h1,h2⟩:=nb_up hA hN hp ht h d (s+1) (by omega)
    rcases hA s (by omega) with z | z
    · have:=hp s (by omega) z.1
      exact ⟨z,by omega⟩
    · exact absurd (z.2.trans h1.2.symm) (hN s (by omega))
theorem nb_ne (hA : ∀ i, i + 1 < n → Ad par (v i) (v (i + 1))) (hN : ∀ i, i + 2 < n → v i ≠ v (i + 2)) (hp : ∀ i, i < n → 1 ≤ v i → par (v i) < v i) (d : Nat) : ∀ s, 0 < d → s + d < n → v s ≠ v (s + d) := by
  induction d using Nat.strongRecOn with
  | _ d ih =>
    intro s h0 hn e
    by_cases d1:d=1
    · subst d1
      rcases hA s hn with ⟨z1,z2⟩ | ⟨z1,z2⟩
      · have:=hp s (by omega) z1; omega
      · have:=hp (s+1) hn z1; omega
    by_cases d2:d=2
    · subst d2; exact hN s hn e
    rcases hA s (by omega) with z | z
    · have t1:s+d - 1+1=s+d:=by omega
      have w:=hA (s+d - 1) (by omega)
      rw [t1] at w
      rcases w with w | w
      · have:=(nb_up hA hN hp (t:=s+d - 1) (by omega) (by rw [t1]; exact w) (d - 1) s (by omega)).2
        rw [t1] at this; omega
      · have:=ih (d - 2) (by omega) (s+1) (by omega) (by omega)
        refine this ?_
        rw [show s+1+(d - 2)=s+d - 1 by omega,z.2,w.2,e]
    · have:=(nb_down hA hN hp z (d - 1) (by omega)).2
      rw [show s+(d - 1)+1=s+d by omega] at this
      omega
end
structure WI (an:List Nat) (t:Nat) (wn:List Nat):Prop where
  ne:0 < wn.length
  first:wn[0]? = an[0]?
  last:wn[wn.length - 1]? = an[t]?
  ps:∀ (i x y:Nat),wn[i]? = some x→wn[i+1]? = some y→∃ k:Nat,an[k]? = some x∧an[k+1]? = some y
  nb:∀ (i x y:Nat),wn[i]? = some x→wn[i+2]? = some y→x≠y
  len:wn.length≤t+1
  sub:∀ x ∈ wn,x ∈ an
theorem WI.start {an:List Nat} {a:Nat} (h:an[0]? = some a):WI an 0 [a] :=
  ⟨by simp,by simpa using h.symm,by simpa using h.symm,fun i x y e1 e2=>by simp at e2,fun i x y e1 e2=>by simp at e2,by simp,fun x hx=>by rw [List.mem_singleton.mp hx]; exact List.mem_of_getElem? h⟩
theorem WI.pop {an wn:List Nat} {t p:Nat} (h:WI an t wn) (hp:an[t+1]? = some p) (hl:1 < wn.length) (he:wn[wn.length - 2]? = some p):WI an (t+1) wn.dropLast:=by
  have g:∀ i,i < wn.length - 1→wn.dropLast[i]? = wn[i]?:=fun i hi=>by rw [List.getElem?_dropLast,if_pos hi]
  have g2:∀ (i v:Nat),wn.dropLast[i]? = some v→i < wn.length - 1:=fun i v e=>by
    have:=(List.getElem?_eq_some_iff.mp e).1
    rwa [List.length_dropLast] at this
  refine ⟨by rw [List.length_dropLast]; omega,by rw [g 0 (by omega)]; exact h.first,?_,fun i x y e1 e2=>?_,fun i x y e1 e2=>?_,by have:=h.len; rw [List.length_dropLast]; omega,fun x hx=>h.sub x (List.dropLast_subset _ hx)⟩
  · rw [List.length_dropLast,g _ (by omega),hp,← he]; congr 1
  · have:=g2 _ _ e2
    rw [g _ (by omega)] at e1 e2
    exact h.ps i x y e1 e2
  · have:=g2 _ _ e2
    rw [g _ (by omega)] at e1 e2
    exact h.nb i x y e1 e2
theorem WI.push {an wn:List Nat} {t p:Nat} (h:WI an t wn) (hp:an[t+1]? = some p) (he:¬ (1 < wn.length∧wn[wn.length - 2]? = some p)):WI an (t+1) (wn ++ [p]):=by
  have hne:=h.ne
  have g:∀ i,i < wn.length→(wn ++ [p])[i]? = wn[i]?:=fun i hi=>List.getElem?_append_left hi
  have gl:(wn ++ [p])[wn.length]? = some p:=by rw [List.getElem?_append_right (Nat.le_refl _),Nat.sub_self]; rfl
  have g2:∀ (i v:Nat),(wn ++ [p])[i]? = some v→i≤wn.length:=fun i v e=>by
    have:=(List.getElem?_eq_some_iff.mp e).1
    rw [List.length_append,List.length_singleton] at this
    omega
  refine ⟨by simp,by rw [g 0 hne]; exact h.first,?_,fun i x y e1 e2=>?_,fun i x y e1 e2=>?_,by have:=h.len; rw [List.length_append,List.length_singleton]; omega,fun x hx=>?_⟩
  · rw [List.length_append,List.length_singleton,Nat.add_sub_cancel,gl,hp]
  · have:=g2 _ _ e2
    by_cases c:i+1=wn.length
    · rw [c,gl] at e2
      cases e2
      rw [g i (by omega)] at e1
      have hl:=h.last
      rw [show wn.length - 1=i by omega,e1] at hl
      exact ⟨t,hl.symm,hp⟩
    · rw [g _ (by omega)] at e1 e2
      exact h.ps i x y e1 e2
  · have:=g2 _ _ e2
    by_cases c:i+2=wn.length
    · rw [c,gl] at e2
      cases e2
      rw [g i (by omega)] at e1
      intro z
      subst z
      exact he ⟨by omega,by rw [← c]; exact e1⟩
    · rw [g _ (by omega)] at e1 e2
      exact h.nb i x y e1 e2
  · rcases List.mem_append.mp hx with z | z
    · exact h.sub x z
    · rw [List.mem_singleton.mp z]; exact List.mem_of_getElem? hp
theorem tn_map {α β:Type} (g:α→β) (r:List α) (k:Nat):(tn r k).map g=tn (r.map g) k:=by simp [tn,List.map_take,List.map_drop]
theorem tn_mem {α:Type} {r:List α} {k:Nat} {x:α} (h:x ∈ tn r k):x ∈ r:=by
  rcases List.mem_append.mp h with z | z
  · exact List.mem_of_mem_drop z
  · exact List.mem_of_mem_drop (List.mem_of_mem_take z)
theorem tn_mem' {α:Type} {r:List α} {k:Nat} {x a:α} (hk:k < r.length) (h0:r[0]? = some a) (h1:r[r.length - 1]? = some a) (h:x ∈ r):x ∈ tn r k:=by
  obtain ⟨i,hi,e⟩:=List.getElem_of_mem h
  unfold tn
  by_cases c:k≤i
  · exact List.mem_append_left _ (List.mem_of_getElem? (i:=i - k) (by rw [List.getElem?_drop,show k+(i - k)=i by omega,List.getElem?_eq_getElem hi,e]))
  · by_cases c0:i=0
    · subst c0
      have ex:x=a:=by rw [List.getElem?_eq_getElem hi,e] at h0; exact Option.some.inj h0
      subst ex
      exact List.mem_append_left _ (List.mem_of_getElem? (i:=r.length - 1 - k) (by rw [List.getElem?_drop,show k+(r.length - 1 - k)=r.length - 1 by omega]; exact h1))
    · exact List.mem_append_right _ (List.mem_of_getElem? (i:=i - 1) (by rw [List.getElem?_take,if_pos (by omega),List.getElem?_drop,show 1+(i - 1)=i by omega,List.getElem?_eq_getElem hi,e]))
theorem tn_pairs {α : Type} {r : List α} {k : Nat} {a : α} (hk : k < r.length) (h0 : r[0]? = some a) (h1 : r[r.length - 1]? = some a) {i : Nat} {x y : α} (e1 : (tn r k)[i]? = some x) (e2 : (tn r k)[i + 1]? = some y) : ∃ j : Nat, r[j]? = some x ∧ r[j + 1]? = some y := by
  unfold tn at e1 e2
  by_cases c:i+1 < r.length - k
  · rw [List.getElem?_append_left (by rw [List.length_drop]; omega),List.getElem?_drop] at e1 e2
    exact ⟨k+i,e1,e2⟩
  · by_cases c2:i+1=r.length - k
    · rw [List.getElem?_append_left (by rw [List.length_drop]; omega),List.getElem?_drop,show k+i=r.length - 1 by omega,h1] at e1
      rw [List.getElem?_append_right (by rw [List.length_drop]; omega),List.length_drop,c2,Nat.sub_self,List.getElem?_take] at e2
      cases e1
      split at e2
      · rw [List.getElem?_drop] at e2; exact ⟨0,h0,by simpa using e2⟩
      · cases e2
    · rw [List.getElem?_append_right (by rw [List.length_drop]; omega),List.length_drop,List.getElem?_take] at e1 e2
      split at e2
      · rw [if_pos (by omega),List.getElem?_drop] at e1
        rw [List.getElem?_drop] at e2
        exact ⟨1+(i - (r.length - k)),e1,by rw [← e2]; congr 1; omega⟩
      · cases e2
structure Way (r:List Int) (a b:Int) (w:List Int):Prop where
  first:w[0]? = some a
  last:w[w.length - 1]? = some b
  ne:0 < w.length
  nd:∀ (i j:Nat) (x:Int),i < j→w[i]? = some x→w[j]? = some x→False
  ps:∀ (i:Nat) (x y:Int),w[i]? = some x→w[i+1]? = some y→∃ j:Nat,r[j]? = some x∧r[j+1]? = some y
  len:w.length≤300
end Rm
namespace Rm
def al:List Int→List (Int × Int)
  | []=>[]
  | [_]=>[]
  | a :: b :: r=>(a,b) :: al (b :: r)
theorem al_zip:∀ r:List Int,al r=r.zip (r.drop 1)
  | []=>rfl
  | [_]=>rfl
  | a :: b :: r => by
    have:=al_zip (b :: r)
    simp only [List.drop_succ_cons,List.drop_zero] at this ⊢
    rw [List.zip_cons_cons,← this]; rfl
theorem al_split:∀ (xs:List Int) (x:Int) (ys:List Int),al (xs ++ x :: ys)=al (xs ++ [x]) ++ al (x :: ys)
  | [],x,ys=>rfl
  | [a],x,ys=>rfl
  | a :: b :: xs, x, ys => by
    have:=al_split (b :: xs) x ys
    show (a,b) :: al ((b :: xs) ++ x :: ys)=(a,b) :: al ((b :: xs) ++ [x]) ++ al (x :: ys)
    rw [this]; rfl
theorem al_mem:∀ {r:List Int} {x y:Int},(x,y) ∈ al r→x ∈ r∧y ∈ r
  | a :: b :: r, x, y, h => by
    rcases List.mem_cons.mp h with e | h
    · cases e; simp
    · have:=al_mem h
      exact ⟨List.mem_cons_of_mem _ this.1,List.mem_cons_of_mem _ this.2⟩
theorem al_len:∀ r:List Int,(al r).length=r.length - 1
  | []=>rfl
  | [_]=>rfl
  | a :: b :: r => by
    have:=al_len (b :: r)
    simp only [al,List.length_cons] at this ⊢
    omega
structure IsR (r:List Int):Prop where
  ne:r≠[]
  cnt:∃ ds:List Int,ds.Nodup∧(∀ x,x ∈ ds↔x ∈ r)∧r.length+1=2 * ds.length
  ends:r.head? = r.getLast?
  nd:(al r).Nodup
  sym:∀ x y,(x,y) ∈ al r→(y,x) ∈ al r
theorem IsR.one (a:Int):IsR [a]:=⟨by simp,⟨[a],by simp,by simp,rfl⟩,rfl,by simp [al],fun x y h=>by simp [al] at h⟩
theorem IsR.leafAt {A B : List Int} {z : Int} (h : IsR (A ++ z :: B)) (hA : z ∉ A) (hB : z ∉ B) (hn : A ++ B ≠ []) : ∃ A' w B', A = A' ++ [w] ∧ B = w :: B' := by
  have he:=h.ends
  have hAne:A≠[]:=fun e=>by
    subst e
    simp only [List.nil_append,List.head?_cons] at he hn
    rcases List.eq_nil_or_concat B with e | ⟨us,u,e⟩
    · exact hn e
    · rw [List.concat_eq_append] at e
      subst e
      rw [show z :: (us ++ [u])=(z :: us) ++ [u] by simp,List.getLast?_append] at he
      simp at he
      subst he
      exact hB (by simp)
  have hBne:B≠[]:=fun e=>by
    subst e
    rw [List.getLast?_append] at he
    simp at he
    cases A with
    | nil=>exact hAne rfl
    | cons a A =>
      simp at he
      subst he
      exact hA (by simp)
  obtain ⟨A',w,e⟩:∃ A' w,A=A' ++ [w]:=by
    rcases List.eq_nil_or_concat A with e | ⟨us,u,e⟩
    · exact absurd e hAne
    · exact ⟨us,u,by rw [e,List.concat_eq_append]⟩
  subst e
  cases B with
  | nil=>exact absurd rfl hBne
  | cons v B' =>
    refine ⟨A',w,B',rfl,?_⟩
    have e1:al (A' ++ [w] ++ z :: v :: B')=al (A' ++ [w]) ++ ((w,z) :: (z,v) :: al (v :: B')):=by
      rw [List.append_assoc,List.singleton_append,al_split]; rfl
    have m:=h.sym w z (by rw [e1]; simp)
    rw [e1] at m
    rcases List.mem_append.mp m with m | m
    · exact absurd (al_mem m).1 hA
    · rcases List.mem_cons.mp m with m | m
      · cases m; exact absurd (by simp) hA
      · rcases List.mem_cons.mp m with m | m
        · cases m; rfl
        · exact absurd (al_mem m).1 hB
theorem al_put (xs ys:List Int) (w z:Int):(al (xs ++ w :: z :: w :: ys)).Perm ((w,z) :: (z,w) :: al (xs ++ w :: ys)):=by
  rw [al_split,al_split xs w ys]
  show (al (xs ++ [w]) ++ ([(w,z),(z,w)] ++ al (w :: ys))).Perm ([(w,z),(z,w)] ++ (al (xs ++ [w]) ++ al (w :: ys)))
  rw [← List.append_assoc,← List.append_assoc]
  exact List.Perm.append_right _ List.perm_append_comm
theorem ends_put (xs ys:List Int) (w z:Int):(xs ++ w :: z :: w :: ys).head? = (xs ++ w :: ys).head?∧(xs ++ w :: z :: w :: ys).getLast? = (xs ++ w :: ys).getLast?:=by
  constructor
  · cases xs <;> simp
  · cases ys with
    | nil=>simp [List.getLast?_append]
    | cons y ys=>simp [List.getLast?_append,List.getLast?_cons]
theorem IsR.peel {xs ys : List Int} {w z : Int} (h : IsR (xs ++ w :: z :: w :: ys)) (hz : z ∉ xs ++ w :: ys) : IsR (xs ++ w :: ys) := by
  have hp:=al_put xs ys w z
  have nd:=hp.nodup_iff.mp h.nd
  have nd2:=(List.nodup_cons.mp nd).2
  refine ⟨by simp,?_,?_,(List.nodup_cons.mp nd2).2,fun x y hxy=>?_⟩
  · obtain ⟨ds,h1,h2,h3⟩:=h.cnt
    have hzd:z ∈ ds:=(h2 z).mpr (by simp)
    refine ⟨ds.erase z,h1.erase z,fun x=>?_,?_⟩
    · rw [h1.mem_erase_iff,h2]
      constructor
      · rintro ⟨h4,h5⟩
        simp at h5 ⊢
        rcases h5 with h5 | h5 | h5 | h5 | h5
        · exact .inl h5
        · exact .inr (.inl h5)
        · exact absurd h5 h4
        · exact .inr (.inl h5)
        · exact .inr (.inr h5)
      · intro h5
        refine ⟨fun e=>hz (e ▸ h5),?_⟩
        simp at h5 ⊢
        rcases h5 with h5 | h5 | h5
        · exact .inl h5
        · exact .inr (.inl h5)
        · exact .inr (.inr (.inr (.inr h5)))
    · rw [List.length_erase_of_mem hzd]
      have:0 < ds.length:=List.length_pos_of_mem hzd
      simp at h3 ⊢
      omega
  · have:=ends_put xs ys w z
    rw [← this.1,← this.2]; exact h.ends
  · have hm:=hp.mem_iff.mp (h.sym x y (hp.mem_iff.mpr (List.mem_cons_of_mem _ (List.mem_cons_of_mem _ hxy))))
    rcases List.mem_cons.mp hm with e | hm
    · cases e; exact absurd (al_mem hxy).1 hz
    · rcases List.mem_cons.mp hm with e | hm
      · cases e; exact absurd (al_mem hxy).2 hz
      · exact hm
theorem IsR.put {xs ys : List Int} {w z : Int} (h : IsR (xs ++ w :: ys)) (hz : z ∉ xs ++ w :: ys) : IsR (xs ++ w :: z :: w :: ys) := by
  have hp:=al_put xs ys w z
  have hwz:w≠z:=fun e=>hz (by simp [e])
  refine ⟨by simp,?_,?_,hp.nodup_iff.mpr ?_,fun x y hxy=>?_⟩
  · obtain ⟨ds,h1,h2,h3⟩:=h.cnt
    refine ⟨z :: ds,List.nodup_cons.mpr ⟨fun hm=>hz ((h2 z).mp hm),h1⟩,fun x=>?_,?_⟩
    · rw [List.mem_cons,h2]
      simp
      constructor
      · rintro (h | h | h | h)
        · exact .inr (.inr (.inl h))
        · exact .inl h
        · exact .inr (.inl h)
        · exact .inr (.inr (.inr (.inr h)))
      · rintro (h | h | h | h | h)
        · exact .inr (.inl h)
        · exact .inr (.inr (.inl h))
        · exact .inl h
        · exact .inr (.inr (.inl h))
        · exact .inr (.inr (.inr h))
    · simp at h3 ⊢
      omega
  · have:=ends_put xs ys w z
    rw [this.1,this.2]; exact h.ends
  · refine List.nodup_cons.mpr ⟨fun hm=>?_,List.nodup_cons.mpr ⟨fun hm=>hz (al_mem hm).1,h.nd⟩⟩
    rcases List.mem_cons.mp hm with e | hm
    · exact hwz (by cases e; rfl)
    · exact hz (al_mem hm).2
  · refine hp.mem_iff.mpr ?_
    rcases List.mem_cons.mp (hp.mem_iff.mp hxy) with e | hm
    · cases e; simp
    · rcases List.mem_cons.mp hm with e | hm
      · cases e; simp
      · exact List.mem_cons_of_mem _ (List.mem_cons_of_mem _ (h.sym x y hm))
theorem sum_counts : ∀ {ds r : List Int}, ds.Nodup → (∀ x ∈ r, x ∈ ds) → (ds.map fun d => r.count d).sum = r.length
  | ds, [], h1, h2 => by
    have:(ds.map fun d=>([]:List Int).count d)=ds.map fun _=>0:=by simp
    rw [this]
    clear this h1 h2
    induction ds with
    | nil=>rfl
    | cons d ds ih=>simpa using ih
  | ds, x :: r, h1, h2 => by
    have ih:=sum_counts (ds:=ds) (r:=r) h1 fun y hy=>h2 y (List.mem_cons_of_mem _ hy)
    have hx:=h2 x List.mem_cons_self
    have key:∀ (ds:List Int),ds.Nodup→(ds.map fun d=>(x :: r).count d).sum=(ds.map fun d=>r.count d).sum+if x ∈ ds then 1 else 0:=by
      intro ds
      induction ds with
      | nil=>intro _; simp
      | cons d ds ih2 =>
        intro hnd
        have:=ih2 (List.nodup_cons.mp hnd).2
        have hd:=(List.nodup_cons.mp hnd).1
        simp only [List.map_cons,List.sum_cons,List.count_cons] at this ⊢
        rw [this]
        by_cases e:x=d
        · subst e
          simp [hd]
          omega
        · have e':¬ d=x:=fun z=>e z.symm
          simp [e]
          omega
    rw [key ds h1,ih,if_pos hx,List.length_cons]
theorem IsR.leaf {r : List Int} (h : IsR r) (h1 : 1 < r.length) : ∃ xs w z ys, r = xs ++ w :: z :: w :: ys ∧ z ∉ xs ++ w :: ys := by
  obtain ⟨ds,d1,d2,d3⟩:=h.cnt
  have hs:=sum_counts d1 fun x hx=>(d2 x).mpr hx
  obtain ⟨z,hz,hc⟩:∃ z ∈ ds,r.count z < 2:=by
    refine Classical.byContradiction fun q=>?_
    have hall:∀ z ∈ ds,2≤r.count z:=fun z hz=>by
      by_cases c:r.count z < 2
      · exact absurd ⟨z,hz,c⟩ q
      · omega
    have:∀ (ds:List Int),(∀ z ∈ ds,2≤r.count z)→2 * ds.length≤(ds.map fun d=>r.count d).sum:=by
      intro ds
      induction ds with
      | nil=>intro _; simp
      | cons d ds ih =>
        intro h
        have a:=ih fun z hz=>h z (List.mem_cons_of_mem _ hz)
        have b:=h d List.mem_cons_self
        simp only [List.map_cons,List.sum_cons,List.length_cons]
        omega
    have:=this ds hall
    omega
  have hzr:=(d2 z).mp hz
  obtain ⟨A,B,e⟩:=List.append_of_mem hzr
  subst e
  have hc2:A.count z=0∧B.count z=0:=by
    rw [List.count_append,List.count_cons_self] at hc
    omega
  have hA:z ∉ A:=List.count_eq_zero.mp hc2.1
  have hB:z ∉ B:=List.count_eq_zero.mp hc2.2
  obtain ⟨A',w,B',e1,e2⟩:=h.leafAt hA hB (fun q=>by
    rw [List.append_eq_nil_iff] at q
    rw [q.1,q.2] at h1
    simp at h1)
  subst e1 e2
  exact ⟨A',w,z,B',by simp,fun hm=>by
    simp at hm hA hB
    rcases hm with hm | hm | hm
    · exact hA.1 hm
    · exact hA.2 hm
    · exact hB.2 hm⟩
def both (L:List (Int × Int)):List (Int × Int):=L.flatMap fun t=>[(t.1,t.2),(t.2,t.1)]
theorem both_cons (t:Int × Int) (L:List (Int × Int)):both (t :: L)=(t.1,t.2) :: (t.2,t.1) :: both L:=rfl
def leP (z w:Int × Int):Prop:=z.1 < w.1∨(z.1=w.1∧z.2≤w.2)
def ltP (z w:Int × Int):Prop:=z.1 < w.1∨(z.1=w.1∧z.2 < w.2)
theorem sorted_ext : ∀ {L M : List (Int × Int)}, L.Pairwise ltP → M.Pairwise ltP → (∀ t, t ∈ L ↔ t ∈ M) → L = M
  | [],[],_,_,_=>rfl
  | [],m :: M,_,_,h=>absurd ((h m).mpr List.mem_cons_self) (by simp)
  | l :: L,[],_,_,h=>absurd ((h l).mp List.mem_cons_self) (by simp)
  | l :: L, m :: M, h1, h2, h => by
    obtain ⟨a1,a2⟩:=List.pairwise_cons.mp h1
    obtain ⟨b1,b2⟩:=List.pairwise_cons.mp h2
    have e:l=m:=by
      rcases List.mem_cons.mp ((h l).mp List.mem_cons_self) with e | hl
      · exact e
      · rcases List.mem_cons.mp ((h m).mpr List.mem_cons_self) with e | hm
        · exact e.symm
        · have x1:=b1 l hl
          have x2:=a1 m hm
          unfold ltP at x1 x2
          omega
    subst e
    have irr:∀ t:Int × Int,¬ ltP t t:=fun t z=>by unfold ltP at z; omega
    rw [sorted_ext a2 b2 fun t=>?_]
    constructor
    · intro ht
      rcases List.mem_cons.mp ((h t).mp (List.mem_cons_of_mem _ ht)) with e | z
      · subst e; exact absurd (a1 _ ht) (irr _)
      · exact z
    · intro ht
      rcases List.mem_cons.mp ((h t).mpr (List.mem_cons_of_mem _ ht)) with e | z
      · subst e; exact absurd (b1 _ ht) (irr _)
      · exact z
end Rm
namespace Rm
theorem IsR.of_perm {r r':List Int} (h:IsR r) (hn:r'≠[]) (hm:∀ x,x ∈ r'↔x ∈ r) (hl:r'.length=r.length) (he:r'.head? = r'.getLast?) (hp:(al r').Perm (al r)):IsR r' :=
  ⟨hn,let ⟨ds,a,b,c⟩:=h.cnt; ⟨ds,a,fun x=>by rw [b,hm],by rw [hl]; exact c⟩,he,hp.nodup_iff.mpr h.nd,fun x y z=>hp.mem_iff.mpr (h.sym x y (hp.mem_iff.mp z))⟩
theorem idx_split {r:List Int} {a:Int} (h:a ∈ r):∃ xs ys,r=xs ++ a :: ys∧xs.length=r.idxOf a∧a ∉ xs:=by
  induction r with
  | nil=>cases h
  | cons b r ih =>
    by_cases e:b=a
    · subst e; exact ⟨[],r,rfl,by simp,by simp⟩
    · have ha:a ∈ r:=(List.mem_cons.mp h).resolve_left fun q=>e q.symm
      obtain ⟨xs,ys,e1,e2,e3⟩:=ih ha
      have eb:(b == a)=false:=by simpa using e
      refine ⟨b :: xs,ys,by rw [e1]; rfl,by rw [List.idxOf_cons,eb]; simp [e2],fun hm=>?_⟩
      rcases List.mem_cons.mp hm with q | q
      · exact e q.symm
      · exact e3 q
theorem IsR.turn {r : List Int} {a : Int} (h : IsR r) (ha : a ∈ r) : IsR (tn r (r.idxOf a)) ∧ (al (tn r (r.idxOf a))).Perm (al r) ∧ (tn r (r.idxOf a)).head? = some a ∧ (∀ x, x ∈ tn r (r.idxOf a) ↔ x ∈ r) ∧ (tn r (r.idxOf a)).length = r.length := by
  have hlen:(tn r (r.idxOf a)).length=r.length:=tn_len (idx_lt ha)
  obtain ⟨xs,ys,e,el,hx⟩:=idx_split ha
  cases xs with
  | nil =>
    have e0:r.idxOf a=0:=by rw [← el]; rfl
    rw [e0,tn_zero]
    exact ⟨h,List.Perm.refl _,by rw [e]; rfl,fun x=>Iff.rfl,rfl⟩
  | cons b xs =>
    have hba:b≠a:=fun q=>hx (by simp [q])
    have he:=h.ends
    obtain ⟨ys',ey⟩:∃ ys',ys=ys' ++ [b]:=by
      rw [e] at he
      simp only [List.cons_append,List.head?_cons] at he
      rw [show b :: (xs ++ a :: ys)=(b :: xs ++ [a]) ++ ys by simp,List.getLast?_append] at he
      rcases List.eq_nil_or_concat ys with q | ⟨us,u,q⟩
      · subst q
        rw [show b :: xs ++ [a]=(b :: xs) ++ [a] by rfl,List.getLast?_append] at he
        simp at he
        exact absurd he hba
      · rw [List.concat_eq_append] at q
        subst q
        rw [List.getLast?_append] at he
        simp at he
        subst he
        exact ⟨us,rfl⟩
    subst ey
    have et:tn r (r.idxOf a)=(a :: ys') ++ b :: (xs ++ [a]):=by
      unfold tn
      rw [← el,e]
      simp only [List.length_cons]
      have d1:((b :: xs) ++ a :: (ys' ++ [b])).drop (xs.length+1)=a :: (ys' ++ [b]):=by simp
      have d2:(((b :: xs) ++ a :: (ys' ++ [b])).drop 1).take (xs.length+1)=xs ++ [a]:=by
        show (xs ++ a :: (ys' ++ [b])).take (xs.length+1)=xs ++ [a]
        rw [List.take_append,List.take_of_length_le (by omega)]
        simp
      rw [d1,d2]; simp
    have hp:(al (tn r (r.idxOf a))).Perm (al r):=by
      rw [et,e,al_split (a :: ys') b (xs ++ [a]),al_split (b :: xs) a (ys' ++ [b])]
      exact List.perm_append_comm
    have hm:∀ x,x ∈ tn r (r.idxOf a)↔x ∈ r:=fun x=>by
      rw [et,e]
      simp
      constructor
      · rintro (q | q | q | q | q)
        · exact .inr (.inr (.inl q))
        · exact .inr (.inr (.inr (.inl q)))
        · exact .inl q
        · exact .inr (.inl q)
        · exact .inr (.inr (.inl q))
      · rintro (q | q | q | q | q)
        · exact .inr (.inr (.inl q))
        · exact .inr (.inr (.inr (.inl q)))
        · exact .inl q
        · exact .inr (.inl q)
        · exact .inr (.inr (.inl q))
    refine ⟨h.of_perm (by rw [et]; simp) hm hlen (by rw [et]; simp [List.getLast?_append,List.getLast?_cons]) hp,hp,by rw [et]; rfl,hm,hlen⟩
theorem al_spl {xs ys T:List Int} {a b:Int} (h1:T.head? = some b) (h2:T.getLast? = some b):(al (xs ++ a :: (T ++ a :: ys))).Perm ((a,b) :: (b,a) :: (al (xs ++ a :: ys) ++ al T)):=by
  obtain ⟨T1,e1⟩:∃ T1,T=b :: T1:=by
    cases T with
    | nil=>simp at h1
    | cons c T=>simp at h1; exact ⟨T,by rw [h1]⟩
  obtain ⟨T2,e2⟩:∃ T2,T=T2 ++ [b]:=by
    rcases List.eq_nil_or_concat T with q | ⟨us,u,q⟩
    · subst q; simp at h2
    · rw [List.concat_eq_append] at q
      subst q
      simp at h2
      exact ⟨us,by rw [h2]⟩
  have e3:al (a :: (T ++ a :: ys))=(a,b) :: (al T ++ (b,a) :: al (a :: ys)):=by
    have e4:al (T ++ a :: ys)=al T ++ (b,a) :: al (a :: ys):=by
      conv=>lhs; rw [e2,List.append_assoc,List.singleton_append,al_split]
      rw [← e2]; rfl
    have e5:al (a :: (T ++ a :: ys))=(a,b) :: al (T ++ a :: ys):=by rw [e1]; rfl
    rw [e5,e4]
  rw [al_split xs a (T ++ a :: ys),al_split xs a ys,e3]
  generalize al (xs ++ [a])=P
  generalize al (a :: ys)=R
  generalize al T=U
  -- P ++ (ab :: (U ++ ba :: R)) ~ ab :: ba :: ((P ++ R) ++ U)
  refine List.perm_middle.trans (List.Perm.cons _ ?_)
  rw [← List.append_assoc]
  refine List.perm_middle.trans (List.Perm.cons _ ?_)
  rw [List.append_assoc,List.append_assoc]
  exact List.Perm.append_left _ List.perm_append_comm
theorem ends_spl (xs ys T:List Int) (a:Int):(xs ++ a :: (T ++ a :: ys)).head? = (xs ++ a :: ys).head?∧(xs ++ a :: (T ++ a :: ys)).getLast? = (xs ++ a :: ys).getLast?:=by
  constructor
  · cases xs <;> simp
  · cases ys with
    | nil=>simp [List.getLast?_append,List.getLast?_cons]
    | cons y ys=>simp [List.getLast?_append,List.getLast?_cons]
theorem IsR.splice {xs ys T : List Int} {a b : Int} (h : IsR (xs ++ a :: ys)) (hT : IsR T) (h1 : T.head? = some b) (hd : ∀ x ∈ T, x ∉ xs ++ a :: ys) : IsR (xs ++ a :: (T ++ a :: ys)) := by
  have h2:T.getLast? = some b:=by rw [← hT.ends]; exact h1
  have hp:=al_spl (xs:=xs) (ys:=ys) (a:=a) h1 h2
  have hb:b ∈ T:=List.mem_of_mem_head? (by rw [h1]; rfl)
  have ha:a ∈ xs ++ a :: ys:=by simp
  have hab:a≠b:=fun e=>hd b hb (e ▸ ha)
  have hb':=hd b hb
  have ha':a ∉ T:=fun q=>hd a q ha
  refine ⟨by simp,?_,?_,hp.nodup_iff.mpr ?_,fun x y hxy=>?_⟩
  · obtain ⟨ds,d1,d2,d3⟩:=h.cnt
    obtain ⟨es,e1,e2,e3⟩:=hT.cnt
    refine ⟨ds ++ es,List.nodup_append.mpr ⟨d1,e1,fun x hx y hy q=>hd y ((e2 y).mp hy) (q ▸ (d2 x).mp hx)⟩,fun x=>?_,?_⟩
    · rw [List.mem_append,d2,e2]
      simp
      constructor
      · rintro ((q | q | q) | q)
        · exact .inl q
        · exact .inr (.inl q)
        · exact .inr (.inr (.inr (.inr q)))
        · exact .inr (.inr (.inl q))
      · rintro (q | q | q | q | q)
        · exact .inl (.inl q)
        · exact .inl (.inr (.inl q))
        · exact .inr q
        · exact .inl (.inr (.inl q))
        · exact .inl (.inr (.inr q))
    · simp at d3 ⊢
      omega
  · have:=ends_spl xs ys T a
    rw [this.1,this.2]; exact h.ends
  · refine List.nodup_cons.mpr ⟨fun hm=>?_,List.nodup_cons.mpr ⟨fun hm=>?_,List.nodup_append.mpr ⟨h.nd,hT.nd,?_⟩⟩⟩
    · rcases List.mem_cons.mp hm with q | hm
      · exact hab (by cases q; rfl)
      · rcases List.mem_append.mp hm with q | q
        · exact hb' (al_mem q).2
        · exact ha' (al_mem q).1
    · rcases List.mem_append.mp hm with q | q
      · exact hb' (al_mem q).1
      · exact ha' (al_mem q).2
    · rintro ⟨x,y⟩ hx t ht q
      subst q
      exact hd x (al_mem ht).1 (al_mem hx).1
  · refine hp.mem_iff.mpr ?_
    rcases List.mem_cons.mp (hp.mem_iff.mp hxy) with q | hm
    · cases q; simp
    · rcases List.mem_cons.mp hm with q | hm
      · cases q; simp
      · refine List.mem_cons_of_mem _ (List.mem_cons_of_mem _ ?_)
        rcases List.mem_append.mp hm with q | q
        · exact List.mem_append_left _ (h.sym x y q)
        · exact List.mem_append_right _ (hT.sym x y q)
theorem IsR.part : ∀ (n : Nat) {p q inn : List Int} {x y : Int}, (p ++ x :: (inn ++ x :: q)).length ≤ n → IsR (p ++ x :: (inn ++ x :: q)) → inn.head? = some y → inn.getLast? = some y →
    IsR inn∧IsR (p ++ x :: q)∧∀ c ∈ inn,c ∉ p ++ x :: q
  | 0,p,q,inn,x,y,hn,h,h1,h2=>by simp at hn
  | n + 1, p, q, inn, x, y, hn, h, h1, h2 => by
    have hl:1 < (p ++ x :: (inn ++ x :: q)).length:=by simp; omega
    obtain ⟨X,w,z,Y,e,hz⟩:=h.leaf hl
    have hc:(p ++ x :: (inn ++ x :: q)).count z=1:=by
      rw [e]
      simp at hz
      have a1:X.count z=0:=List.count_eq_zero.mpr hz.1
      have a2:Y.count z=0:=List.count_eq_zero.mpr hz.2.2
      have a3:¬ w=z:=fun q=>hz.2.1 q.symm
      simp [List.count_append,List.count_cons,a1,a2,a3]
    have hzx:x≠z:=fun q=>by
      subst q
      simp [List.count_append,List.count_cons] at hc
      omega
    have hc2:p.count z+inn.count z+q.count z=1:=by
      simp [List.count_append,List.count_cons,hzx] at hc
      omega
    -- a place that stands once,with what is around it
    have at_:∀ A B,p ++ x :: (inn ++ x :: q)=A ++ z :: B→∃ A' w B',A=A' ++ [w]∧B=w :: B':=fun A B eA=>by
      rw [eA] at h hc hl
      have c0:A.count z=0∧B.count z=0:=by rw [List.count_append,List.count_cons_self] at hc; omega
      refine h.leafAt (List.count_eq_zero.mp c0.1) (List.count_eq_zero.mp c0.2) fun q=>?_
      rw [List.append_eq_nil_iff] at q
      rw [q.1,q.2] at hl
      simp at hl
    have nin:∀ {l:List Int},l.count z=0→z ∉ l:=fun q=>List.count_eq_zero.mp q
    by_cases z1:z ∈ inn
    · have k1:0 < inn.count z:=List.count_pos_iff.mpr z1
      have hp0:z ∉ p:=nin (by omega)
      have hq0:z ∉ q:=nin (by omega)
      obtain ⟨i1,i2,ei⟩:=List.append_of_mem z1
      have c12:i1.count z=0∧i2.count z=0:=by
        rw [ei,List.count_append,List.count_cons_self] at hc2; omega
      have n1:=nin c12.1
      have n2:=nin c12.2
      by_cases hs:i1 ++ i2=[]
      · rw [List.append_eq_nil_iff] at hs
        rw [hs.1,hs.2] at ei
        subst ei
        have zo:z ∉ p ++ x :: q:=fun hm=>by
          rcases List.mem_append.mp hm with m | m
          · exact hp0 m
          · rcases List.mem_cons.mp m with m | m
            · exact hzx m.symm
            · exact hq0 m
        refine ⟨IsR.one z,IsR.peel (w:=x) (z:=z) (by simpa using h) zo,fun c hc=>?_⟩
        have:c=z:=by simpa using hc
        subst this; exact zo
      · obtain ⟨A',w',B',eA,eB⟩:=at_ (p ++ x :: i1) (i2 ++ x :: q) (by rw [ei]; simp)
        have i1n:i1≠[]:=fun q0=>by
          subst q0
          rw [ei] at h1 h2
          simp at h1
          subst h1
          rcases List.eq_nil_or_concat i2 with q1 | ⟨us,u,q1⟩
          · exact hs (by simp [q1])
          · rw [List.concat_eq_append] at q1
            subst q1
            simp [List.getLast?_append,List.getLast?_cons] at h2
            exact n2 (by simp [h2])
        have i2n:i2≠[]:=fun q0=>by
          subst q0
          rw [ei] at h1 h2
          rw [List.getLast?_append] at h2
          simp at h2
          subst h2
          cases i1 with
          | nil=>exact i1n rfl
          | cons a i1=>simp at h1; exact n1 (by simp [h1])
        obtain ⟨i1',u,ei1⟩:∃ i1' u,i1=i1' ++ [u]:=by
          rcases List.eq_nil_or_concat i1 with q0 | ⟨us,u,q0⟩
          · exact absurd q0 i1n
          · exact ⟨us,u,by rw [q0,List.concat_eq_append]⟩
        cases i2 with
        | nil=>exact absurd rfl i2n
        | cons v i2' =>
          have ev:v=w':=by simp at eB; exact eB.1
          have eu:u=w':=by
            rw [ei1,← List.cons_append,← List.append_assoc] at eA
            have:=List.append_inj_right' eA rfl
            simpa using this
          subst ei1 ev eu
          have ei':inn=i1' ++ u :: z :: u :: i2':=by rw [ei]; simp
          subst ei'
          have zi:z ∉ i1' ++ u :: i2':=fun hm=>by
            simp at hm n1 n2
            rcases hm with m | m | m
            · exact n1.1 m
            · exact n1.2 m
            · exact n2.2 m
          have eR:p ++ x :: (i1' ++ u :: z :: u :: i2' ++ x :: q)=(p ++ x :: i1') ++ u :: z :: u :: (i2' ++ x :: q):=by simp
          have eR':p ++ x :: (i1' ++ u :: i2' ++ x :: q)=(p ++ x :: i1') ++ u :: (i2' ++ x :: q):=by simp
          have zR:z ∉ (p ++ x :: i1') ++ u :: (i2' ++ x :: q):=fun hm=>by
            simp at hm zi
            rcases hm with m | m | m | m | m | m | m
            · exact hp0 m
            · exact hzx m.symm
            · exact zi.1 m
            · exact zi.2.1 m
            · exact zi.2.2 m
            · exact hzx m.symm
            · exact hq0 m
          rw [eR] at h
          have hR':=h.peel zR
          rw [← eR'] at hR'
          have en:=ends_put i1' i2' u z
          obtain ⟨r1,r2,r3⟩:=IsR.part n (by simp at hn ⊢; omega) hR' (by rw [← en.1]; exact h1) (by rw [← en.2]; exact h2)
          refine ⟨r1.put zi,r2,fun c hc=>?_⟩
          simp at hc
          have hcz:c=z→c ∉ p ++ x :: q:=fun q0 hm=>by
            subst q0
            simp at hm
            rcases hm with m | m | m
            · exact hp0 m
            · exact hzx m.symm
            · exact hq0 m
          rcases hc with m | m | m | m | m
          · exact r3 c (by simp [m])
          · exact r3 c (by simp [m])
          · exact hcz m
          · exact r3 c (by simp [m])
          · exact r3 c (by simp [m])
    · by_cases z2:z ∈ p
      · have k1:0 < p.count z:=List.count_pos_iff.mpr z2
        have hq0:z ∉ q:=nin (by omega)
        obtain ⟨p1,p2,ep⟩:=List.append_of_mem z2
        obtain ⟨A',w',B',eA,eB⟩:=at_ p1 (p2 ++ x :: (inn ++ x :: q)) (by rw [ep]; simp)
        have c12:p1.count z=0∧p2.count z=0:=by
          rw [ep,List.count_append,List.count_cons_self] at hc2; omega
        have n1:=nin c12.1
        have n2:=nin c12.2
        subst eA
        cases p2 with
        | nil =>
          have ew:w'=x:=by simp at eB; exact eB.1.symm
          subst ew
          have ep':p=A' ++ [w',z]:=by rw [ep]; simp
          subst ep'
          have zR:z ∉ A' ++ w' :: (inn ++ w' :: q):=fun hm=>by
            simp at hm n1
            rcases hm with m | m | m | m | m
            · exact n1.1 m
            · exact n1.2 m
            · exact z1 m
            · exact n1.2 m
            · exact hq0 m
          have hR':=IsR.peel (xs:=A') (w:=w') (z:=z) (ys:=inn ++ w' :: q) (by simpa using h) zR
          obtain ⟨r1,r2,r3⟩:=IsR.part n (by simp at hn ⊢; omega) hR' h1 h2
          have zo:z ∉ A' ++ w' :: q:=fun hm=>by
            simp at hm n1
            rcases hm with m | m | m
            · exact n1.1 m
            · exact n1.2 m
            · exact hq0 m
          refine ⟨r1,by simpa using r2.put zo,fun c hc hm=>?_⟩
          simp at hm
          rcases hm with m | m | m | m
          · exact r3 c hc (by simp [m])
          · exact r3 c hc (by simp [m])
          · exact z1 (m ▸ hc)
          · exact r3 c hc (by
              rcases m with m | m
              · simp [m]
              · simp [m])
        | cons v p2 =>
          have ew:v=w':=by simp at eB; exact eB.1
          subst ew
          have ep':p=A' ++ v :: z :: v :: p2:=by rw [ep]; simp
          subst ep'
          have zR:z ∉ A' ++ v :: (p2 ++ x :: (inn ++ x :: q)):=fun hm=>by
            simp at hm n1 n2
            rcases hm with m | m | m | m | m | m | m
            · exact n1.1 m
            · exact n1.2 m
            · exact n2.2 m
            · exact hzx m.symm
            · exact z1 m
            · exact hzx m.symm
            · exact hq0 m
          have hR':=IsR.peel (xs:=A') (w:=v) (z:=z) (ys:=p2 ++ x :: (inn ++ x :: q)) (by simpa using h) zR
          obtain ⟨r1,r2,r3⟩:=IsR.part n (p:=A' ++ v :: p2) (q:=q) (inn:=inn) (x:=x) (by simp at hn ⊢; omega) (by simpa using hR') h1 h2
          have zo:z ∉ A' ++ v :: (p2 ++ x :: q):=fun hm=>by
            simp at hm n1 n2
            rcases hm with m | m | m | m | m
            · exact n1.1 m
            · exact n1.2 m
            · exact n2.2 m
            · exact hzx m.symm
            · exact hq0 m
          refine ⟨r1,by simpa using IsR.put (xs:=A') (w:=v) (z:=z) (ys:=p2 ++ x :: q) (by simpa using r2) zo,fun c hc hm=>?_⟩
          simp at hm
          rcases hm with m | m | m | m | m | m | m
          · exact r3 c hc (by simp [m])
          · exact r3 c hc (by simp [m])
          · exact z1 (m ▸ hc)
          · exact r3 c hc (by simp [m])
          · exact r3 c hc (by simp [m])
          · exact r3 c hc (by simp [m])
          · exact r3 c hc (by simp [m])
      · have hq1:z ∈ q:=by
          have k1:0 < q.count z:=by
            have a1:=List.count_eq_zero.mpr z1
            have a2:=List.count_eq_zero.mpr z2
            omega
          exact List.count_pos_iff.mp k1
        obtain ⟨q1,q2,eq⟩:=List.append_of_mem hq1
        obtain ⟨A',w',B',eA,eB⟩:=at_ (p ++ x :: (inn ++ x :: q1)) q2 (by rw [eq]; simp)
        have c12:q1.count z=0∧q2.count z=0:=by
          rw [eq,List.count_append,List.count_cons_self] at hc2; omega
        have n1:=nin c12.1
        have n2:=nin c12.2
        subst eB
        rcases List.eq_nil_or_concat q1 with e1 | ⟨q1',u,e1⟩
        · subst e1
          have ew:x=w':=by
            rw [show p ++ x :: (inn ++ [x])=(p ++ x :: inn) ++ [x] by simp] at eA
            have:=List.append_inj_right' eA rfl
            simpa using this
          subst ew
          have eq':q=z :: x :: B':=by rw [eq]; rfl
          subst eq'
          have zR:z ∉ (p ++ x :: inn) ++ x :: B':=fun hm=>by
            simp at hm n2
            rcases hm with m | m | m | m | m
            · exact z2 m
            · exact hzx m.symm
            · exact z1 m
            · exact hzx m.symm
            · exact n2.2 m
          have hR':=IsR.peel (xs:=p ++ x :: inn) (w:=x) (z:=z) (ys:=B') (by simpa using h) zR
          obtain ⟨r1,r2,r3⟩:=IsR.part n (p:=p) (q:=B') (inn:=inn) (x:=x) (by simp at hn ⊢; omega) (by simpa using hR') h1 h2
          have zo:z ∉ p ++ x :: B':=fun hm=>by
            simp at hm n2
            rcases hm with m | m | m
            · exact z2 m
            · exact hzx m.symm
            · exact n2.2 m
          refine ⟨r1,r2.put zo,fun c hc hm=>?_⟩
          simp at hm
          rcases hm with m | m | m | m | m
          · exact r3 c hc (by simp [m])
          · exact r3 c hc (by simp [m])
          · exact z1 (m ▸ hc)
          · exact r3 c hc (by simp [m])
          · exact r3 c hc (by simp [m])
        · rw [List.concat_eq_append] at e1
          subst e1
          have ew:u=w':=by
            rw [show p ++ x :: (inn ++ x :: (q1' ++ [u]))=(p ++ x :: (inn ++ x :: q1')) ++ [u] by simp] at eA
            have:=List.append_inj_right' eA rfl
            simpa using this
          subst ew
          have eq':q=q1' ++ u :: z :: u :: B':=by rw [eq]; simp
          subst eq'
          have zR:z ∉ (p ++ x :: (inn ++ x :: q1')) ++ u :: B':=fun hm=>by
            simp at hm n1 n2
            rcases hm with m | m | m | m | m | m | m
            · exact z2 m
            · exact hzx m.symm
            · exact z1 m
            · exact hzx m.symm
            · exact n1.1 m
            · exact n1.2 m
            · exact n2.2 m
          have hR':=IsR.peel (xs:=p ++ x :: (inn ++ x :: q1')) (w:=u) (z:=z) (ys:=B') (by simpa using h) zR
          obtain ⟨r1,r2,r3⟩:=IsR.part n (p:=p) (q:=q1' ++ u :: B') (inn:=inn) (x:=x) (by simp at hn ⊢; omega) (by simpa using hR') h1 h2
          have zo:z ∉ (p ++ x :: q1') ++ u :: B':=fun hm=>by
            simp at hm n1 n2
            rcases hm with m | m | m | m | m
            · exact z2 m
            · exact hzx m.symm
            · exact n1.1 m
            · exact n1.2 m
            · exact n2.2 m
          refine ⟨r1,by simpa using IsR.put (xs:=p ++ x :: q1') (w:=u) (z:=z) (ys:=B') (by simpa using r2) zo,fun c hc hm=>?_⟩
          simp at hm
          rcases hm with m | m | m | m | m | m | m
          · exact r3 c hc (by simp [m])
          · exact r3 c hc (by simp [m])
          · exact r3 c hc (by simp [m])
          · exact r3 c hc (by simp [m])
          · exact z1 (m ▸ hc)
          · exact r3 c hc (by simp [m])
          · exact r3 c hc (by simp [m])
end Rm
namespace Rm
theorem al_at {r:List Int} {i:Nat} {x y:Int}:(al r)[i]? = some (x,y)↔r[i]? = some x∧r[i+1]? = some y:=by
  rw [al_zip,List.getElem?_zip_eq_some,List.getElem?_drop,Nat.add_comm 1 i]
def innR (r:List Int) (i j:Nat):List Int:=(r.drop (i+1)).take (j - i)
def outR (r:List Int) (i j:Nat):List Int:=r.take (i+1) ++ r.drop (j+2)
def prt (r:List Int) (a b:Int):List Int × List Int :=
  if (al r).idxOf (a,b) < (al r).idxOf (b,a) then (outR r ((al r).idxOf (a,b)) ((al r).idxOf (b,a)),innR r ((al r).idxOf (a,b)) ((al r).idxOf (b,a)))
  else (innR r ((al r).idxOf (b,a)) ((al r).idxOf (a,b)),outR r ((al r).idxOf (b,a)) ((al r).idxOf (a,b)))
theorem cut_at {r:List Int} {i j:Nat} {x y:Int} (hij:i < j) (h1:r[i]? = some x) (h2:r[i+1]? = some y) (h3:r[j]? = some y) (h4:r[j+1]? = some x) :
    r=r.take i ++ x :: (innR r i j ++ x :: r.drop (j+2))∧outR r i j=r.take i ++ x :: r.drop (j+2)∧(innR r i j).head? = some y∧(innR r i j).getLast? = some y∧(innR r i j).length+(outR r i j).length+1=r.length:=by
  have l4:=(List.getElem?_eq_some_iff.mp h4).1
  have g1:r.drop i=x :: r.drop (i+1):=by
    have hl:=List.getElem?_eq_some_iff.mp h1
    rw [List.drop_eq_getElem_cons hl.1,hl.2]
  have g2:r.drop (j+1)=x :: r.drop (j+2):=by
    have hl:=List.getElem?_eq_some_iff.mp h4
    rw [List.drop_eq_getElem_cons hl.1,hl.2]
  have g3:r.drop (i+1)=innR r i j ++ r.drop (j+1):=by
    unfold innR
    have:=List.take_append_drop (j - i) (r.drop (i+1))
    rw [List.drop_drop,show i+1+(j - i)=j+1 by omega] at this
    exact this.symm
  have li:(innR r i j).length=j - i:=by unfold innR; rw [List.length_take,List.length_drop]; omega
  refine ⟨?_,?_,?_,?_,?_⟩
  · rw [← g2,← g3,← g1,List.take_append_drop]
  · unfold outR
    rw [List.take_add_one,h1]; simp
  · rw [List.head?_eq_getElem?]
    unfold innR
    rw [List.getElem?_take,if_pos (by omega),List.getElem?_drop]; exact h2
  · rw [List.getLast?_eq_getElem?,li]
    unfold innR
    rw [List.getElem?_take,if_pos (by omega),List.getElem?_drop,show i+1+(j - i - 1)=j by omega]; exact h3
  · rw [li]
    unfold outR
    rw [List.length_append,List.length_take,List.length_drop]; omega
theorem ix_at {r:List Int} {a b:Int} (h:(a,b) ∈ al r):r[(al r).idxOf (a,b)]? = some a∧r[(al r).idxOf (a,b)+1]? = some b:=by
  have hl:(al r).idxOf (a,b) < (al r).length:=List.idxOf_lt_length_iff.mpr h
  refine al_at.mp ?_
  rw [List.getElem?_eq_getElem hl,List.getElem_idxOf]
structure Parted (r X Y:List Int) (a b:Int):Prop where
  x:IsR X
  y:IsR Y
  ha:a ∈ X
  hb:b ∈ Y
  dis:∀ c ∈ Y,c ∉ X
  pm:(al r).Perm ((a,b) :: (b,a) :: (al X ++ al Y))
  len:X.length+Y.length+1=r.length
theorem IsR.parted {r : List Int} {a b : Int} (h : IsR r) (hm : (a, b) ∈ al r) (hab : a ≠ b) : Parted r (prt r a b).1 (prt r a b).2 a b := by
  obtain ⟨p1,p2⟩:=ix_at hm
  obtain ⟨q1,q2⟩:=ix_at (h.sym a b hm)
  unfold prt
  generalize (al r).idxOf (a,b)=i at p1 p2
  generalize (al r).idxOf (b,a)=j at q1 q2
  by_cases hij:i < j
  · rw [if_pos hij]
    obtain ⟨e1,e2,e3,e4,e5⟩:=cut_at hij p1 p2 q1 q2
    have hR:=h
    rw [e1] at hR
    obtain ⟨r1,r2,r3⟩:=IsR.part _ (Nat.le_refl _) hR e3 e4
    refine ⟨by rw [e2]; exact r2,r1,by rw [e2]; simp,List.mem_of_mem_head? (by rw [e3]; rfl),fun c hc=>by rw [e2]; exact r3 c hc,?_,by simp only; omega⟩
    simp only
    rw [e2]
    have hp:=al_spl (xs:=r.take i) (ys:=r.drop (j+2)) (a:=a) e3 e4
    rwa [← e1] at hp
  · rw [if_neg hij]
    have hji:j < i:=by
      rcases Nat.lt_or_ge j i with q | q
      · exact q
      · have:i=j:=by omega
        subst this
        rw [p1] at q1
        exact absurd (Option.some.inj q1) hab
    obtain ⟨e1,e2,e3,e4,e5⟩:=cut_at hji q1 q2 p1 p2
    have hR:=h
    rw [e1] at hR
    obtain ⟨r1,r2,r3⟩:=IsR.part _ (Nat.le_refl _) hR e3 e4
    refine ⟨r1,by rw [e2]; exact r2,List.mem_of_mem_head? (by rw [e3]; rfl),by rw [e2]; simp,fun c hc hx=>by rw [e2] at hc; exact r3 c hx hc,?_,by simp only; omega⟩
    simp only
    rw [e2]
    have hp:=al_spl (xs:=r.take j) (ys:=r.drop (i+2)) (a:=b) e3 e4
    rw [← e1] at hp
    refine hp.trans ((List.Perm.swap _ _ _).trans (List.Perm.cons _ (List.Perm.cons _ List.perm_append_comm)))
end Rm
namespace Rm
theorem WI.wayF {f:Nat→Int} {m:Nat} {rn wn:List Nat} {par:Nat→Nat} {k t:Nat} {a b:Int} (T:Tr m rn par) (inj:∀ i j,i≤m→j≤m→f i=f j→i=j) (h0:∃ x,rn[0]? = some x∧rn[rn.length - 1]? = some x) (hk:k < rn.length) (hl:rn.length≤200) (W:WI (tn rn k) t wn) (ht:t < rn.length)
    (ea:(tn rn k)[0]?.map f=some a) (eb:(tn rn k)[t]?.map f=some b):Way (rn.map f) a b (wn.map f):=by
  obtain ⟨x0,z0,z1⟩:=h0
  have hle:∀ x ∈ wn,x≤m:=fun x hx=>T.le x (tn_mem (W.sub x hx))
  have get:∀ {i:Nat} {y:Int},(wn.map f)[i]? = some y→∃ x,wn[i]? = some x∧y=f x∧x≤m:=fun {i y} e=>by
    rw [List.getElem?_map] at e
    obtain ⟨x,e1,e2⟩:=Option.map_eq_some_iff.mp e
    exact ⟨x,e1,e2.symm,hle x (List.mem_of_getElem? e1)⟩
  have ps:∀ (i x y:Nat),wn[i]? = some x→wn[i+1]? = some y→∃ j:Nat,rn[j]? = some x∧rn[j+1]? = some y:=fun i x y e1 e2=>by
    obtain ⟨j,q1,q2⟩:=W.ps i x y e1 e2
    exact tn_pairs hk z0 z1 q1 q2
  have nd:∀ (i d:Nat) (x:Nat),0 < d→wn[i]? = some x→wn[i+d]? = some x→False:=fun i d x hd e1 e2=>by
    have hi:i+d < wn.length:=(List.getElem?_eq_some_iff.mp e2).1
    have gv:∀ i,i < wn.length→wn[i]? = some (wn.getD i 0):=fun i hi=>by rw [List.getD_eq_getElem?_getD,List.getElem?_eq_getElem hi]; rfl
    refine nb_ne (n:=wn.length) (v:=fun i=>wn.getD i 0) (par:=par) (fun i hi=>?_) (fun i hi=>?_) (fun i hi h1=>?_) d i hd hi ?_
    · obtain ⟨j,q1,q2⟩:=ps i _ _ (gv i (by omega)) (gv (i+1) hi)
      exact T.adj j _ _ q1 q2
    · exact W.nb i _ _ (gv i (by omega)) (gv (i+2) hi)
    · exact T.pl _ h1 (hle _ (List.mem_of_getElem? (gv i hi)))
    · rw [List.getD_eq_getElem?_getD,List.getD_eq_getElem?_getD,e1,e2]
  refine ⟨by rw [List.getElem?_map,W.first]; exact ea,by rw [List.length_map,List.getElem?_map,W.last]; exact eb,by rw [List.length_map]; exact W.ne,fun i j x hij e1 e2=>?_,fun i x y e1 e2=>?_,?_⟩
  · obtain ⟨u,q1,q2,q3⟩:=get e1
    obtain ⟨v,p1,p2,p3⟩:=get e2
    have:u=v:=inj u v q3 p3 (by rw [← q2,← p2])
    subst this
    exact nd i (j - i) u (by omega) q1 (by rw [show i+(j - i)=j by omega]; exact p1)
  · obtain ⟨u,q1,q2,q3⟩:=get e1
    obtain ⟨v,p1,p2,p3⟩:=get e2
    obtain ⟨j,r1,r2⟩:=ps i u v q1 p1
    exact ⟨j,by rw [List.getElem?_map,r1,q2]; rfl,by rw [List.getElem?_map,r2,p2]; rfl⟩
  · have:=W.len
    rw [List.length_map]; omega
theorem IsR.gr : ∀ (n : Nat) {r : List Int}, r.length ≤ n → IsR r → ∃ f m, Gr f m r ∧ ∀ i j, i ≤ m → j ≤ m → f i = f j → i = j
  | 0,r,hl,h=>absurd (List.eq_nil_of_length_eq_zero (by omega)) h.ne
  | n + 1, r, hl, h => by
    by_cases h1:1 < r.length
    · obtain ⟨xs,w,z,ys,rfl,hz⟩:=h.leaf h1
      obtain ⟨f,m,g,inj⟩:=IsR.gr n (r:=xs ++ w :: ys) (by simp at hl ⊢; omega) (h.peel hz)
      have fz:∀ i,i≤m→f i≠z:=fun i hi e=>hz (e ▸ g.mem i hi)
      have g2:∀ {m:Nat} {r:List Int} {f':Nat→Int},Gr f m r→(∀ i,i≤m→f' i=f i)→Gr f' m r:=by
        intro m r f' g
        induction g with
        | one=>intro e; rw [← e 0 (Nat.le_refl _)]; exact .one
        | @put m r j g hj ih=>intro e; rw [← e (m+1) (Nat.le_refl _)]; exact .put (ih fun i hi=>e i (by omega)) hj
      refine ⟨fun i=>if i=m+1 then z else f i,m+1,?_,fun i j hi hj e=>?_⟩
      · have:=Gr.put (j:=xs.length) (g2 (f':=fun i=>if i=m+1 then z else f i) g fun i hi=>if_neg (by omega)) (by simp)
        simp only [if_true] at this
        have e1:(xs ++ w :: ys).take (xs.length+1)=xs ++ [w]:=by rw [List.take_append,List.take_of_length_le (by omega)]; simp
        have e2:(xs ++ w :: ys).drop xs.length=w :: ys:=by simp
        rw [e1,e2] at this
        simpa using this
      · simp only at e
        by_cases c1:i=m+1
        · by_cases c2:j=m+1
          · omega
          · rw [if_pos c1,if_neg c2] at e
            exact absurd e.symm (fz j (by omega))
        · by_cases c2:j=m+1
          · rw [if_neg c1,if_pos c2] at e
            exact absurd e (fz i (by omega))
          · rw [if_neg c1,if_neg c2] at e
            exact inj i j (by omega) (by omega) e
    · have:r.length=1:=by have:=List.length_pos_iff.mpr h.ne; omega
      obtain ⟨a,rfl⟩:=List.length_eq_one_iff.mp this
      exact ⟨fun _=>a,0,.one,fun i j hi hj _=>by omega⟩
structure Pth (r:List Int) (a b:Int) (w:List Int):Prop where
  hd:w.head? = some a
  la:w.getLast? = some b
  nd:w.Nodup
  ps:∀ x y,(x,y) ∈ al w→(x,y) ∈ al r
theorem al_cons2 (x y:Int) (l:List Int):al (x :: y :: l)=(x,y) :: al (y :: l):=rfl
theorem al_rev {l:List Int} {x y:Int} (h:(x,y) ∈ al l.reverse):(y,x) ∈ al l:=by
  obtain ⟨i,hi⟩:=List.mem_iff_getElem?.mp h
  obtain ⟨h1,h2⟩:=al_at.mp hi
  have l2:=(List.getElem?_eq_some_iff.mp h2).1
  rw [List.length_reverse] at l2
  rw [List.getElem?_reverse (by omega)] at h1 h2
  refine List.mem_iff_getElem?.mpr ⟨l.length - 1 - (i+1),al_at.mpr ⟨h2,?_⟩⟩
  rw [← h1]; congr 1; omega
theorem Pth.rev {r w:List Int} {a b:Int} (hs:∀ x y,(x,y) ∈ al r→(y,x) ∈ al r) (p:Pth r a b w):Pth r b a w.reverse :=
  ⟨by rw [List.head?_reverse]; exact p.la,by rw [List.getLast?_reverse]; exact p.hd,(List.reverse_perm w).nodup_iff.mpr p.nd,fun x y h=>hs _ _ (p.ps _ _ (al_rev h))⟩
theorem one_of {w:List Int} {a:Int} (h1:w.head? = some a) (h2:w.getLast? = some a) (hn:w.Nodup):w=[a]:=by
  cases w with
  | nil=>cases h1
  | cons x l =>
    simp only [List.head?_cons,Option.some.injEq] at h1
    subst h1
    cases l with
    | nil=>rfl
    | cons y l =>
      rw [List.getLast?_cons_cons] at h2
      exact absurd (List.mem_of_getLast? h2) (List.nodup_cons.mp hn).1
theorem Pth.uniq : ∀ (n : Nat) {r : List Int}, r.length ≤ n → IsR r → ∀ {a b : Int} {w w' : List Int}, Pth r a b w → Pth r a b w' → w = w'
  | 0,r,hl,h,_,_,_,_,_,_=>absurd (List.eq_nil_of_length_eq_zero (by omega)) h.ne
  | n + 1, r, hl, h, a, b, w, w', p, p' => by
    by_cases h1:1 < r.length
    · obtain ⟨xs,v,z,ys,rfl,hz⟩:=h.leaf h1
      have hR:=h.peel hz
      have hl':(xs ++ v :: ys).length≤n:=by simp at hl ⊢; omega
      have pm:=al_put xs ys v z
      have hvz:v≠z:=fun e=>hz (by simp [e])
      have nb:∀ y,(z,y) ∈ al (xs ++ v :: z :: v :: ys)→y=v:=fun y hy=>by
        rcases List.mem_cons.mp (pm.mem_iff.mp hy) with e | hy
        · cases e; exact absurd rfl hvz
        · rcases List.mem_cons.mp hy with e | hy
          · cases e; rfl
          · exact absurd (al_mem hy).1 hz
      have sub:∀ {x y:Int},x≠z→y≠z→(x,y) ∈ al (xs ++ v :: z :: v :: ys)→(x,y) ∈ al (xs ++ v :: ys):=fun {x y} hx hy hm=>by
        rcases List.mem_cons.mp (pm.mem_iff.mp hm) with e | hm
        · cases e; exact absurd rfl hy
        · rcases List.mem_cons.mp hm with e | hm
          · cases e; exact absurd rfl hx
          · exact hm
      -- a way that goes from the leaf
      have from_z:∀ {b:Int} {w:List Int},b≠z→Pth (xs ++ v :: z :: v :: ys) z b w→∃ t,w=z :: t∧Pth (xs ++ v :: ys) v b t:=fun {b w} hb p=>by
        obtain ⟨hd,la,nd,ps⟩:=p
        cases w with
        | nil=>cases hd
        | cons x t =>
          simp only [List.head?_cons,Option.some.injEq] at hd
          subst hd
          cases t with
          | nil=>simp at la; exact absurd la.symm hb
          | cons y t =>
            have ey:=nb y (ps x y (by rw [al_cons2]; exact List.mem_cons_self))
            subst ey
            have hn:=List.nodup_cons.mp nd
            refine ⟨_,rfl,rfl,by rw [List.getLast?_cons_cons] at la; exact la,hn.2,fun u t' hu=>sub (fun e=>hn.1 (e ▸ (al_mem hu).1)) (fun e=>hn.1 (e ▸ (al_mem hu).2)) (ps _ _ (by rw [al_cons2]; exact List.mem_cons_of_mem _ hu))⟩
      have case_z:∀ {b:Int} {w w':List Int},Pth (xs ++ v :: z :: v :: ys) z b w→Pth (xs ++ v :: z :: v :: ys) z b w'→w=w':=fun {b w w'} p p'=>by
        by_cases hb:b=z
        · subst hb
          rw [one_of p.hd p.la p.nd,one_of p'.hd p'.la p'.nd]
        · obtain ⟨t,rfl,q⟩:=from_z hb p
          obtain ⟨t',rfl,q'⟩:=from_z hb p'
          rw [Pth.uniq n hl' hR q q']
      by_cases ha:a=z
      · subst ha; exact case_z p p'
      · by_cases hb:b=z
        · subst hb
          have:=case_z (p.rev h.sym) (p'.rev h.sym)
          exact List.reverse_inj.mp this
        · have no:∀ {w:List Int},Pth (xs ++ v :: z :: v :: ys) a b w→z ∉ w:=fun {w} p hm=>by
            obtain ⟨l1,l2,rfl⟩:=List.append_of_mem hm
            have n1:l1≠[]:=fun e=>by subst e; have:=p.hd; simp at this; exact ha this.symm
            have n2:l2≠[]:=fun e=>by subst e; have:=p.la; simp at this; exact hb this.symm
            obtain ⟨m1,u,rfl⟩:∃ m1 u,l1=m1 ++ [u]:=⟨l1.dropLast,l1.getLast n1,(List.dropLast_concat_getLast n1).symm⟩
            obtain ⟨y,m2,rfl⟩:=List.exists_cons_of_ne_nil n2
            have e1:(z,y) ∈ al (m1 ++ [u] ++ z :: y :: m2):=by
              rw [al_split]; exact List.mem_append_right _ List.mem_cons_self
            have e2:(u,z) ∈ al (m1 ++ [u] ++ z :: y :: m2):=by
              rw [List.append_assoc,List.singleton_append,al_split]
              exact List.mem_append_right _ List.mem_cons_self
            have ey:=nb y (p.ps _ _ e1)
            have eu:=nb u (h.sym _ _ (p.ps _ _ e2))
            subst ey
            have nd:=p.nd
            rw [List.append_assoc,eu] at nd
            have:=(List.nodup_append.mp nd).2.1
            simp at this
          have down:∀ {w:List Int},Pth (xs ++ v :: z :: v :: ys) a b w→Pth (xs ++ v :: ys) a b w:=fun {w} p =>
            ⟨p.hd,p.la,p.nd,fun x y hm=>sub (fun e=>no p (e ▸ (al_mem hm).1)) (fun e=>no p (e ▸ (al_mem hm).2)) (p.ps _ _ hm)⟩
          exact Pth.uniq n hl' hR (down p) (down p')
    · have:r.length=1:=by have:=List.length_pos_iff.mpr h.ne; omega
      obtain ⟨c,rfl⟩:=List.length_eq_one_iff.mp this
      have one:∀ {w:List Int},Pth [c] a b w→w=[a]:=fun {w} p=>by
        obtain ⟨hd,la,nd,ps⟩:=p
        cases w with
        | nil=>cases hd
        | cons x t =>
          simp only [List.head?_cons,Option.some.injEq] at hd
          subst hd
          cases t with
          | nil=>rfl
          | cons y t=>exact absurd (ps x y (by rw [al_cons2]; exact List.mem_cons_self)) (by simp [al])
      rw [one p,one p']
theorem Way.pth {r w:List Int} {a b:Int} (h:Way r a b w):Pth r a b w:=by
  refine ⟨by rw [List.head?_eq_getElem?]; exact h.first,by rw [List.getLast?_eq_getElem?]; exact h.last,?_,fun x y hm=>?_⟩
  · rw [List.nodup_iff_pairwise_ne,List.pairwise_iff_getElem]
    intro i j hi hj hij e
    exact h.nd i j _ hij (List.getElem?_eq_getElem hi) (by rw [List.getElem?_eq_getElem hj,e])
  · obtain ⟨i,hi⟩:=List.mem_iff_getElem?.mp hm
    obtain ⟨h1,h2⟩:=al_at.mp hi
    obtain ⟨j,e1,e2⟩:=h.ps i x y h1 h2
    exact List.mem_iff_getElem?.mpr ⟨j,al_at.mpr ⟨e1,e2⟩⟩
end Rm
namespace Rm
def spl (r1 r2:List Int) (a b:Int):List Int:=r1.take (r1.idxOf a+1) ++ (tn r2 (r2.idxOf b) ++ r1.drop (r1.idxOf a))
structure Two (r1 r2:List Int) (a b:Int):Prop where
  h1:IsR r1
  h2:IsR r2
  ha:a ∈ r1
  hb:b ∈ r2
  dis:∀ x ∈ r2,x ∉ r1
theorem Two.facts {r1 r2:List Int} {a b:Int} (T:Two r1 r2 a b):IsR (spl r1 r2 a b)∧(al (spl r1 r2 a b)).Perm ((a,b) :: (b,a) :: (al r1 ++ al r2))∧(spl r1 r2 a b).length=r1.length+r2.length+1:=by
  obtain ⟨t1,t2,t3,t4,t5⟩:=T.h2.turn T.hb
  obtain ⟨xs,ys,e,el,hx⟩:=idx_split T.ha
  have es:spl r1 r2 a b=xs ++ a :: (tn r2 (r2.idxOf b) ++ a :: ys):=by
    unfold spl
    rw [← el]
    conv=>lhs; rw [e]
    have d1:(xs ++ a :: ys).take (xs.length+1)=xs ++ [a]:=by
      rw [List.take_append,List.take_of_length_le (by omega)]
      simp
    have d2:(xs ++ a :: ys).drop xs.length=a :: ys:=by simp
    rw [d1,d2]; simp
  have hR:IsR (xs ++ a :: ys):=by rw [← e]; exact T.h1
  have hd:∀ x ∈ tn r2 (r2.idxOf b),x ∉ xs ++ a :: ys:=fun x hx=>by rw [← e]; exact T.dis x ((t4 x).mp hx)
  refine ⟨by rw [es]; exact hR.splice t1 t3 hd,?_,?_⟩
  · rw [es,e]
    have t3':(tn r2 (r2.idxOf b)).getLast? = some b:=by rw [← t1.ends]; exact t3
    exact (al_spl t3 t3').trans (List.Perm.cons _ (List.Perm.cons _ (List.Perm.append_left _ t2)))
  · have hlt:(tn r2 (r2.idxOf b)).length=r2.length:=t5
    unfold spl
    have:=idx_lt T.ha
    rw [List.length_append,List.length_append,List.length_take,List.length_drop,hlt]
    omega
theorem Two.mem {r1 r2:List Int} {a b:Int} (T:Two r1 r2 a b) (x:Int):x ∈ spl r1 r2 a b↔x ∈ r1∨x ∈ r2:=by
  obtain ⟨t1,t2,t3,t4,t5⟩:=T.h2.turn T.hb
  unfold spl
  rw [List.mem_append,List.mem_append,t4]
  constructor
  · rintro (h | h | h)
    · exact .inl (List.mem_of_mem_take h)
    · exact .inr h
    · exact .inl (List.mem_of_mem_drop h)
  · rintro (h | h)
    · rw [← List.take_append_drop (r1.idxOf a) r1] at h
      rcases List.mem_append.mp h with h | h
      · exact .inl (List.take_subset_take_left _ (Nat.le_succ _) h)
      · exact .inr (.inr h)
    · exact .inr (.inl h)
theorem Parted.mem {r X Y : List Int} {a b : Int} (P : Parted r X Y a b) (hr : IsR r) (x : Int) : x ∈ r ↔ x ∈ X ∨ x ∈ Y := by
  have key:∀ {l:List Int},IsR l→∀ {x:Int},x ∈ l→(l=[x]∨∃ y,(x,y) ∈ al l):=fun {l} hl {x} hx=>by
    obtain ⟨i,hi⟩:=List.mem_iff_getElem?.mp hx
    have hlt:=(List.getElem?_eq_some_iff.mp hi).1
    by_cases h:i+1 < l.length
    · exact .inr ⟨_,List.mem_iff_getElem?.mpr ⟨i,al_at.mpr ⟨hi,List.getElem?_eq_getElem h⟩⟩⟩
    · by_cases h1:l.length=1
      · obtain ⟨c,rfl⟩:=List.length_eq_one_iff.mp h1
        have:i=0:=by simp at hlt; omega
        subst this
        simp at hi
        exact .inl (by rw [hi])
      · have e1:l[i - 1]? = some l[i - 1]:=List.getElem?_eq_getElem (by omega)
        exact .inr ⟨_,hl.sym _ _ (List.mem_iff_getElem?.mpr ⟨i - 1,al_at.mpr ⟨e1,by rw [show i - 1+1=i by omega]; exact hi⟩⟩)⟩
  constructor
  · intro hx
    rcases key hr hx with e | ⟨y,hy⟩
    · have:=P.len; rw [e] at this
      have h1:=List.length_pos_iff.mpr P.x.ne
      have h2:=List.length_pos_iff.mpr P.y.ne
      rw [List.length_singleton] at this; omega
    · rcases List.mem_cons.mp (P.pm.mem_iff.mp hy) with e | hy
      · cases e; exact .inl P.ha
      · rcases List.mem_cons.mp hy with e | hy
        · cases e; exact .inr P.hb
        · rcases List.mem_append.mp hy with hy | hy
          · exact .inl (al_mem hy).1
          · exact .inr (al_mem hy).1
  · intro hx
    have in_:∀ {u v:Int},(u,v) ∈ (a,b) :: (b,a) :: (al X ++ al Y)→u ∈ r:=fun h=>(al_mem (P.pm.mem_iff.mpr h)).1
    rcases hx with hx | hx
    · rcases key P.x hx with e | ⟨y,hy⟩
      · have:=P.ha; rw [e] at this
        rw [← List.mem_singleton.mp this]
        exact in_ (v:=b) List.mem_cons_self
      · exact in_ (v:=y) (List.mem_cons_of_mem _ (List.mem_cons_of_mem _ (List.mem_append_left _ hy)))
    · rcases key P.y hx with e | ⟨y,hy⟩
      · have:=P.hb; rw [e] at this
        rw [← List.mem_singleton.mp this]
        exact in_ (v:=a) (List.mem_cons_of_mem _ List.mem_cons_self)
      · exact in_ (v:=y) (List.mem_cons_of_mem _ (List.mem_cons_of_mem _ (List.mem_append_right _ hy)))
structure Wd (n:Nat) (R:Nat→List Int):Prop where
  r:∀ i,i < n→IsR (R i)
  me:∀ i:Nat,i < n→(i:Int) ∈ R i
  in_:∀ i,i < n→∀ x ∈ R i,∃ j:Nat,j < n∧x=(j:Int)∧R j=R i
def Ed (n:Nat) (R:Nat→List Int) (x y:Int):Prop:=∃ i,i < n∧(x,y) ∈ al (R i)
theorem Wd.start (n:Nat):Wd n fun i=>[(i:Int)] :=
  ⟨fun i _=>IsR.one _,fun i _=>by simp,fun i hi x hx=>⟨i,hi,by simpa using hx,rfl⟩⟩
theorem Wd.same {n:Nat} {R:Nat→List Int} (W:Wd n R) {i j:Nat} (hi:i < n) (hj:j < n) {x:Int} (h1:x ∈ R i) (h2:x ∈ R j):R i=R j:=by
  obtain ⟨k,hk,e1,e2⟩:=W.in_ i hi x h1
  obtain ⟨k',hk',e3,e4⟩:=W.in_ j hj x h2
  have:k=k':=by omega
  subst this
  rw [← e2,e4]
theorem Wd.head {n:Nat} {R:Nat→List Int} (W:Wd n R) {i j:Nat} (hi:i < n) (hj:j < n):((R i).head? = (R j).head?↔(j:Int) ∈ R i):=by
  constructor
  · intro e
    obtain ⟨x,hx⟩:∃ x,(R i).head? = some x:=by
      cases h:R i with
      | nil=>exact absurd h (W.r i hi).ne
      | cons a l=>exact ⟨a,rfl⟩
    rw [W.same hi hj (List.mem_of_mem_head? hx) (List.mem_of_mem_head? (e ▸ hx))]
    exact W.me j hj
  · intro h
    rw [W.same hi hj h (W.me j hj)]
theorem Ed.at {n:Nat} {R:Nat→List Int} (W:Wd n R) {x y:Int} (h:Ed n R x y) {i:Nat} (hi:i < n) (hx:x ∈ R i):(x,y) ∈ al (R i):=by
  obtain ⟨j,hj,hm⟩:=h
  rw [W.same hi hj hx (al_mem hm).1]; exact hm
theorem Ed.symm {n:Nat} {R:Nat→List Int} (W:Wd n R) {x y:Int} (h:Ed n R x y):Ed n R y x:=let ⟨i,hi,hm⟩:=h; ⟨i,hi,(W.r i hi).sym _ _ hm⟩
theorem Wd.link {n : Nat} {R : Nat → List Int} (W : Wd n R) {a b : Nat} (ha : a < n) (hb : b < n) (hn : (b : Int) ∉ R a) :
    Two (R a) (R b) a b∧Wd n (fun i=>if (i:Int) ∈ spl (R a) (R b) a b then spl (R a) (R b) a b else R i) ∧
      ∀ x y,Ed n (fun i=>if (i:Int) ∈ spl (R a) (R b) a b then spl (R a) (R b) a b else R i) x y↔(Ed n R x y∨(x,y)=((a:Int),(b:Int))∨(x,y)=((b:Int),(a:Int))):=by
  have T:Two (R a) (R b) a b:=⟨W.r a ha,W.r b hb,W.me a ha,W.me b hb,fun x h2 h1=>hn (by rw [W.same ha hb h1 h2]; exact W.me b hb)⟩
  obtain ⟨f1,f2,f3⟩:=T.facts
  have fm:=T.mem
  generalize spl (R a) (R b) a b=s at f1 f2 f3 fm
  have hs:∀ x ∈ s,∃ j:Nat,j < n∧x=(j:Int)∧(j:Int) ∈ s:=fun x hx=>by
    rcases (fm x).mp hx with h | h
    · obtain ⟨j,hj,e,_⟩:=W.in_ a ha x h; exact ⟨j,hj,e,e ▸ hx⟩
    · obtain ⟨j,hj,e,_⟩:=W.in_ b hb x h; exact ⟨j,hj,e,e ▸ hx⟩
  have nos:∀ i,i < n→(i:Int) ∉ s→∀ x ∈ R i,x ∉ s:=fun i hi h x hx hxs=>by
    rcases (fm x).mp hxs with q | q
    · exact h ((fm i).mpr (.inl (W.same ha hi q hx ▸ W.me i hi)))
    · exact h ((fm i).mpr (.inr (W.same hb hi q hx ▸ W.me i hi)))
  refine ⟨T,⟨fun i hi=>?_,fun i hi=>?_,fun i hi x hx=>?_⟩,fun x y=>⟨?_,?_⟩⟩
  · by_cases c:(i:Int) ∈ s
    · rw [if_pos c]; exact f1
    · rw [if_neg c]; exact W.r i hi
  · by_cases c:(i:Int) ∈ s
    · rw [if_pos c]; exact c
    · rw [if_neg c]; exact W.me i hi
  · by_cases c:(i:Int) ∈ s
    · simp only [if_pos c] at hx ⊢
      obtain ⟨j,hj,e,hjs⟩:=hs x hx
      exact ⟨j,hj,e,if_pos hjs⟩
    · simp only [if_neg c] at hx ⊢
      obtain ⟨j,hj,e,er⟩:=W.in_ i hi x hx
      exact ⟨j,hj,e,by rw [if_neg (fun h=>nos i hi c x hx (e ▸ h))]; exact er⟩
  · rintro ⟨i,hi,hm⟩
    by_cases c:(i:Int) ∈ s
    · simp only [if_pos c] at hm
      rcases List.mem_cons.mp (f2.mem_iff.mp hm) with e | hm
      · exact .inr (.inl e)
      · rcases List.mem_cons.mp hm with e | hm
        · exact .inr (.inr e)
        · rcases List.mem_append.mp hm with h | h
          · exact .inl ⟨a,ha,h⟩
          · exact .inl ⟨b,hb,h⟩
    · simp only [if_neg c] at hm
      exact .inl ⟨i,hi,hm⟩
  · have inS:∀ {u v:Int},(u,v) ∈ al s→Ed n (fun i=>if (i:Int) ∈ s then s else R i) u v:=fun h=>⟨a,ha,by simp only [if_pos ((fm a).mpr (.inl (W.me a ha)))]; exact h⟩
    rintro (⟨i,hi,hm⟩ | e | e)
    · by_cases c:(i:Int) ∈ s
      · refine inS (f2.mem_iff.mpr (List.mem_cons_of_mem _ (List.mem_cons_of_mem _ ?_)))
        rcases (fm i).mp c with h | h
        · rw [← W.same ha hi h (W.me i hi)] at hm; exact List.mem_append_left _ hm
        · rw [← W.same hb hi h (W.me i hi)] at hm; exact List.mem_append_right _ hm
      · exact ⟨i,hi,by simp only [if_neg c]; exact hm⟩
    · obtain ⟨rfl,rfl⟩:=Prod.mk.inj e; exact inS (f2.mem_iff.mpr List.mem_cons_self)
    · obtain ⟨rfl,rfl⟩:=Prod.mk.inj e; exact inS (f2.mem_iff.mpr (List.mem_cons_of_mem _ List.mem_cons_self))
theorem Wd.cut {n : Nat} {R : Nat → List Int} (W : Wd n R) {a b : Nat} (ha : a < n) (hb : b < n) (hab : a ≠ b) (hm : ((a : Int), (b : Int)) ∈ al (R a)) :
    Wd n (fun i=>if (i:Int) ∈ (prt (R a) a b).2 then (prt (R a) a b).2 else if (i:Int) ∈ (prt (R a) a b).1 then (prt (R a) a b).1 else R i) ∧
      ∀ x y,Ed n (fun i=>if (i:Int) ∈ (prt (R a) a b).2 then (prt (R a) a b).2 else if (i:Int) ∈ (prt (R a) a b).1 then (prt (R a) a b).1 else R i) x y↔(Ed n R x y∧¬ (x,y)=((a:Int),(b:Int))∧¬ (x,y)=((b:Int),(a:Int))):=by
  have hR:=W.r a ha
  have P:=hR.parted hm (by omega:(a:Int)≠b)
  have PM:=P.mem hR
  generalize (prt (R a) a b).1=X at P PM
  generalize (prt (R a) a b).2=Y at P PM
  have nd:=P.pm.nodup_iff.mp hR.nd
  have nab:=(List.nodup_cons.mp nd).1
  have nba:=(List.nodup_cons.mp (List.nodup_cons.mp nd).2).1
  have inr:∀ x ∈ R a,∃ j:Nat,j < n∧x=(j:Int)∧R j=R a:=W.in_ a ha
  have nos:∀ i,i < n→(i:Int) ∉ R a→∀ x ∈ R i,x ∉ R a:=fun i hi h x hx hxs=>h (W.same ha hi hxs hx ▸ W.me i hi)
  have sw:∀ i:Nat,(i:Int) ∈ Y→(i:Int) ∉ X:=fun i h=>P.dis _ h
  refine ⟨⟨fun i hi=>?_,fun i hi=>?_,fun i hi x hx=>?_⟩,fun x y=>⟨?_,?_⟩⟩
  · by_cases c2:(i:Int) ∈ Y
    · rw [if_pos c2]; exact P.y
    · by_cases c1:(i:Int) ∈ X
      · rw [if_neg c2,if_pos c1]; exact P.x
      · rw [if_neg c2,if_neg c1]; exact W.r i hi
  · by_cases c2:(i:Int) ∈ Y
    · rw [if_pos c2]; exact c2
    · by_cases c1:(i:Int) ∈ X
      · rw [if_neg c2,if_pos c1]; exact c1
      · rw [if_neg c2,if_neg c1]; exact W.me i hi
  · by_cases c2:(i:Int) ∈ Y
    · simp only [if_pos c2] at hx ⊢
      obtain ⟨j,hj,e,_⟩:=inr x ((PM x).mpr (.inr hx))
      exact ⟨j,hj,e,if_pos (e ▸ hx)⟩
    · by_cases c1:(i:Int) ∈ X
      · simp only [if_neg c2,if_pos c1] at hx ⊢
        obtain ⟨j,hj,e,_⟩:=inr x ((PM x).mpr (.inl hx))
        have hjX:(j:Int) ∈ X:=e ▸ hx
        exact ⟨j,hj,e,by rw [if_neg (fun h=>sw j h hjX),if_pos hjX]⟩
      · simp only [if_neg c2,if_neg c1] at hx ⊢
        obtain ⟨j,hj,e,er⟩:=W.in_ i hi x hx
        have hni:(i:Int) ∉ R a:=fun h=>((PM i).mp h).elim c1 c2
        have hnj:(j:Int) ∉ R a:=fun h=>nos i hi hni x hx (e ▸ h)
        exact ⟨j,hj,e,by rw [if_neg (fun h=>hnj ((PM j).mpr (.inr h))),if_neg (fun h=>hnj ((PM j).mpr (.inl h)))]; exact er⟩
  · have old:∀ {u v:Int},(u,v) ∈ al X ++ al Y→Ed n R u v∧¬ (u,v)=((a:Int),(b:Int))∧¬ (u,v)=((b:Int),(a:Int)):=fun {u v} h =>
      ⟨⟨a,ha,P.pm.mem_iff.mpr (List.mem_cons_of_mem _ (List.mem_cons_of_mem _ h))⟩,fun e=>nab (List.mem_cons_of_mem _ (e ▸ h)),fun e=>nba (e ▸ h)⟩
    rintro ⟨i,hi,h⟩
    by_cases c2:(i:Int) ∈ Y
    · simp only [if_pos c2] at h; exact old (List.mem_append_right _ h)
    · by_cases c1:(i:Int) ∈ X
      · simp only [if_neg c2,if_pos c1] at h; exact old (List.mem_append_left _ h)
      · simp only [if_neg c2,if_neg c1] at h
        have hni:(i:Int) ∉ R a:=fun h=>((PM i).mp h).elim c1 c2
        have hxa:x ∉ R a:=nos i hi hni x (al_mem h).1
        refine ⟨⟨i,hi,h⟩,fun e=>hxa ?_,fun e=>hxa ?_⟩
        · rw [(Prod.mk.inj e).1]; exact W.me a ha
        · rw [(Prod.mk.inj e).1]; exact (PM _).mpr (.inr P.hb)
  · rintro ⟨h,e1,e2⟩
    by_cases hx:x ∈ R a
    · have hm:=Ed.at W h ha hx
      rcases List.mem_cons.mp (P.pm.mem_iff.mp hm) with e | hm
      · exact absurd e e1
      · rcases List.mem_cons.mp hm with e | hm
        · exact absurd e e2
        · rcases List.mem_append.mp hm with q | q
          · refine ⟨a,ha,?_⟩
            simp only [if_neg (fun h=>sw a h P.ha),if_pos P.ha]; exact q
          · refine ⟨b,hb,?_⟩
            simp only [if_pos P.hb]; exact q
    · obtain ⟨i,hi,hm⟩:=h
      have hni:(i:Int) ∉ R a:=fun h=>hx (W.same ha hi h (W.me i hi) ▸ (al_mem hm).1)
      refine ⟨i,hi,?_⟩
      simp only [if_neg (fun h=>hni ((PM i).mpr (.inr h))),if_neg (fun h=>hni ((PM i).mpr (.inl h)))]
      exact hm
theorem conn {M:Int→Prop}:∀ {l:List Int},(∀ x y,(x,y) ∈ al l→(M x↔M y))→(∃ a ∈ l,M a)→∀ x ∈ l,M x
  | [],_,_,x,hx=>nomatch hx
  | [c], _, ⟨a, ha, hM⟩, x, hx => by
    rw [List.mem_singleton.mp hx,← List.mem_singleton.mp ha]; exact hM
  | c :: d :: t, h, ⟨a, ha, hM⟩, x, hx => by
    have hcd:=h c d (by rw [al_cons2]; exact List.mem_cons_self)
    have ih:=conn (l:=d :: t) fun x y hm=>h x y (by rw [al_cons2]; exact List.mem_cons_of_mem _ hm)
    have hd:M d:=by
      rcases List.mem_cons.mp ha with e | ha
      · exact hcd.mp (e ▸ hM)
      · exact ih ⟨a,ha,hM⟩ d List.mem_cons_self
    rcases List.mem_cons.mp hx with e | hx
    · rw [e]; exact hcd.mpr hd
    · exact ih ⟨d,List.mem_cons_self,hd⟩ x hx
theorem few {l:List Int} {n:Nat} (hn:l.Nodup) (h:∀ x ∈ l,∃ j:Nat,j < n∧x=(j:Int)):l.length≤n:=by
  have e:=sum_counts (ds:=(List.range n).map fun i:Nat=>(i:Int)) (r:=l) (by
    rw [List.nodup_iff_pairwise_ne,List.pairwise_map]
    exact List.Pairwise.imp (fun h e=>h (by omega)) (List.nodup_iff_pairwise_ne.mp List.nodup_range)) fun x hx=>by
      obtain ⟨j,hj,e⟩:=h x hx
      exact List.mem_map.mpr ⟨j,List.mem_range.mpr hj,e.symm⟩
  have le:∀ (ds:List Int),(ds.map fun d=>l.count d).sum≤ds.length:=fun ds=>by
    induction ds with
    | nil=>simp
    | cons d ds ih =>
      have:l.count d≤1:=List.nodup_iff_count.mp hn d
      simp only [List.map_cons,List.sum_cons,List.length_cons]
      omega
  have:=le ((List.range n).map fun i:Nat=>(i:Int))
  rw [e] at this
  simpa using this
theorem Wd.len {n:Nat} {R:Nat→List Int} (W:Wd n R) {i:Nat} (hi:i < n):(R i).length+1≤2 * n:=by
  obtain ⟨ds,h1,h2,h3⟩:=(W.r i hi).cnt
  have:=few h1 fun x hx=>let ⟨j,hj,e,_⟩:=W.in_ i hi x ((h2 x).mp hx); ⟨j,hj,e⟩
  omega
theorem IsR.irr : ∀ (n : Nat) {r : List Int}, r.length ≤ n → IsR r → ∀ x, (x, x) ∉ al r
  | 0,r,hl,h,_=>absurd (List.eq_nil_of_length_eq_zero (by omega)) h.ne
  | n + 1, r, hl, h, x => by
    by_cases h1:1 < r.length
    · obtain ⟨xs,v,z,ys,rfl,hz⟩:=h.leaf h1
      have hvz:v≠z:=fun e=>hz (by simp [e])
      intro hm
      rcases List.mem_cons.mp ((al_put xs ys v z).mem_iff.mp hm) with e | hm
      · obtain ⟨e1,e2⟩:=Prod.mk.inj e; exact hvz (e1.symm.trans e2)
      · rcases List.mem_cons.mp hm with e | hm
        · obtain ⟨e1,e2⟩:=Prod.mk.inj e; exact hvz (e2.symm.trans e1)
        · exact IsR.irr n (r:=xs ++ v :: ys) (by simp at hl ⊢; omega) (h.peel hz) x hm
    · have:r.length=1:=by have:=List.length_pos_iff.mpr h.ne; omega
      obtain ⟨c,rfl⟩:=List.length_eq_one_iff.mp this
      simp [al]
theorem Wd.irr {n:Nat} {R:Nat→List Int} (W:Wd n R) (x:Int):¬ Ed n R x x:=fun ⟨i,hi,hm⟩=>IsR.irr _ (Nat.le_refl _) (W.r i hi) x hm
end Rm
namespace Rm
theorem IsR.half : ∀ (n : Nat) {r : List Int}, r.length ≤ n → IsR r → ∃ L : List (Int × Int), (al r).Perm (both L) ∧ (∀ t ∈ L, t.1 < t.2) ∧ 2 * L.length + 1 = r.length
  | 0,r,hl,h=>absurd (List.eq_nil_of_length_eq_zero (by omega)) h.ne
  | n + 1, r, hl, h => by
    by_cases h1:1 < r.length
    · obtain ⟨xs,v,z,ys,rfl,hz⟩:=h.leaf h1
      have hvz:v≠z:=fun e=>hz (by simp [e])
      obtain ⟨L,p,lt,ln⟩:=IsR.half n (r:=xs ++ v :: ys) (by simp at hl ⊢; omega) (h.peel hz)
      have pm:=al_put xs ys v z
      rcases Int.lt_or_gt_of_ne hvz with c | c
      · refine ⟨(v,z) :: L,pm.trans ?_,fun t ht=>?_,by simp at ln ⊢; omega⟩
        · rw [both_cons]; exact (p.cons _).cons _
        · rcases List.mem_cons.mp ht with rfl | ht
          · exact c
          · exact lt t ht
      · refine ⟨(z,v) :: L,pm.trans ?_,fun t ht=>?_,by simp at ln ⊢; omega⟩
        · rw [both_cons]; exact (List.Perm.swap _ _ _).trans ((p.cons _).cons _)
        · rcases List.mem_cons.mp ht with rfl | ht
          · exact c
          · exact lt t ht
    · have:r.length=1:=by have:=List.length_pos_iff.mpr h.ne; omega
      obtain ⟨c,rfl⟩:=List.length_eq_one_iff.mp this
      exact ⟨[],by simp [al,both],(fun t ht=>nomatch ht),rfl⟩
def ups (r:List Int):List (Int × Int):=(al r).filter fun t=>decide (t.1 < t.2)
theorem mem_ups {r:List Int} {t:Int × Int}:t ∈ ups r↔t.1 < t.2∧t ∈ al r:=by unfold ups; rw [List.mem_filter,decide_eq_true_iff]; exact And.comm
theorem IsR.ups_nd {r:List Int} (h:IsR r):(ups r).Nodup:=(List.filter_sublist).nodup h.nd
theorem IsR.ups_len {r:List Int} (h:IsR r):2 * (ups r).length+1=r.length:=by
  obtain ⟨L,p,lt,ln⟩:=IsR.half _ (Nat.le_refl _) h
  have hp:=p.filter fun t:Int × Int=>decide (t.1 < t.2)
  have e:∀ L:List (Int × Int),(∀ t ∈ L,t.1 < t.2)→((both L).filter fun t=>decide (t.1 < t.2)).length=L.length:=by
    intro L
    induction L with
    | nil=>intro _; rfl
    | cons t L ih =>
      intro h
      have ht:=h t List.mem_cons_self
      rw [both_cons,List.filter_cons,if_pos (by simpa using ht),List.filter_cons,if_neg (by simp; omega),List.length_cons,List.length_cons,ih fun u hu=>h u (List.mem_cons_of_mem _ hu)]
  have:=hp.length_eq
  rw [e L lt] at this
  unfold ups
  rw [this]; exact ln
end Rm
namespace Rm
theorem perm_of {α:Type} [DecidableEq α] {l m:List α} (h1:l.Nodup) (h2:m.Nodup) (h:∀ x,x ∈ l↔x ∈ m):l.Perm m:=by
  rw [List.perm_iff_count]
  intro x
  by_cases hx:x ∈ l
  · have a1:=List.nodup_iff_count.mp h1 x
    have a2:=List.nodup_iff_count.mp h2 x
    have b1:=List.count_pos_iff.mpr hx
    have b2:=List.count_pos_iff.mpr ((h x).mp hx)
    omega
  · rw [List.count_eq_zero_of_not_mem hx,List.count_eq_zero_of_not_mem (fun q=>hx ((h x).mpr q))]
theorem rise_ext : ∀ {L M : List Int}, L.Pairwise (· < ·) → M.Pairwise (· < ·) → (∀ t, t ∈ L ↔ t ∈ M) → L = M
  | [],[],_,_,_=>rfl
  | [],m :: M,_,_,h=>absurd ((h m).mpr List.mem_cons_self) (by simp)
  | l :: L,[],_,_,h=>absurd ((h l).mp List.mem_cons_self) (by simp)
  | l :: L, m :: M, h1, h2, h => by
    obtain ⟨a1,a2⟩:=List.pairwise_cons.mp h1
    obtain ⟨b1,b2⟩:=List.pairwise_cons.mp h2
    have e:l=m:=by
      rcases List.mem_cons.mp ((h l).mp List.mem_cons_self) with e | hl
      · exact e
      · rcases List.mem_cons.mp ((h m).mpr List.mem_cons_self) with e | hm
        · exact e.symm
        · have x1:=b1 l hl
          have x2:=a1 m hm
          omega
    subst e
    rw [rise_ext a2 b2 fun t=>?_]
    constructor
    · intro ht
      rcases List.mem_cons.mp ((h t).mp (List.mem_cons_of_mem _ ht)) with e | z
      · subst e; exact absurd (a1 _ ht) (by omega)
      · exact z
    · intro ht
      rcases List.mem_cons.mp ((h t).mpr (List.mem_cons_of_mem _ ht)) with e | z
      · subst e; exact absurd (b1 _ ht) (by omega)
      · exact z
theorem strict_of {L:List (Int × Int)} (h:L.Pairwise leP) (hn:L.Nodup):L.Pairwise ltP:=by
  refine (List.Pairwise.and h hn).imp ?_
  rintro z w ⟨h1,h2⟩
  unfold leP at h1
  unfold ltP
  have:¬ (z.1=w.1∧z.2=w.2):=fun e=>h2 (Prod.ext e.1 e.2)
  omega
structure Cnt (n:Nat) (R:Nat→List Int) (L:List (Int × Int)):Prop where
  nd:L.Nodup
  mem:∀ t:Int × Int,t ∈ L↔t.1 < t.2∧Ed n R t.1 t.2
theorem Cnt.len {n:Nat} {R:Nat→List Int} {L M:List (Int × Int)} (h:Cnt n R L) (k:Cnt n R M):L.length=M.length:=(perm_of h.nd k.nd fun t=>by rw [h.mem,k.mem]).length_eq
end Rm
namespace Rm
theorem walk_pth {r : List Int} {b : Int} : ∀ (l : List Int) (a : Int), l.head? = some a → l.getLast? = some b → (∀ x y, (x, y) ∈ al l → (x, y) ∈ al r) → ∃ w, Pth r a b w
  | [],a,h,_,_=>by cases h
  | [x], a, h1, h2, _ => by
    simp at h1 h2
    subst h1; subst h2
    exact ⟨[x],rfl,rfl,by simp,fun u v h=>by simp [al] at h⟩
  | x :: y :: l, a, h1, h2, h3 => by
    have ea:x=a:=by simpa using h1
    subst ea
    obtain ⟨w,p⟩:=walk_pth (y :: l) y rfl (by rw [List.getLast?_cons_cons] at h2; exact h2) fun u v h=>h3 u v (by rw [al_cons2]; exact List.mem_cons_of_mem _ h)
    by_cases hx:x ∈ w
    · obtain ⟨s,t,e⟩:=List.append_of_mem hx
      subst e
      refine ⟨x :: t,rfl,?_,?_,fun u v h=>p.ps u v ?_⟩
      · have:=p.la
        rw [List.getLast?_append] at this
        cases hl:(x :: t).getLast? with
        | none=>simp at hl
        | some z=>rw [hl] at this; simpa using this
      · exact (List.sublist_append_right s (x :: t)).nodup p.nd
      · obtain ⟨i,hi⟩:=List.mem_iff_getElem?.mp h
        obtain ⟨q1,q2⟩:=al_at.mp hi
        exact List.mem_iff_getElem?.mpr ⟨s.length+i,al_at.mpr ⟨by rw [List.getElem?_append_right (by omega)]; simpa using q1,by rw [List.getElem?_append_right (by omega)]; rw [show s.length+i+1 - s.length=i+1 by omega]; exact q2⟩⟩
    · have hw:=p.hd
      match w,p,hx,hw with
      | z :: w', p, hx, hw =>
        have ez:z=y:=by simpa using hw
        subst ez
        refine ⟨x :: z :: w',rfl,by rw [List.getLast?_cons_cons]; exact p.la,List.nodup_cons.mpr ⟨hx,p.nd⟩,fun u v h=>?_⟩
        rw [al_cons2] at h
        rcases List.mem_cons.mp h with e | h
        · exact h3 u v (by rw [e,al_cons2]; exact List.mem_cons_self)
        · exact p.ps u v h
theorem IsR.path {r:List Int} (h:IsR r) {a b:Int} (ha:a ∈ r) (hb:b ∈ r):∃ w,Pth r a b w:=by
  have step:∀ {x y:Int},(x,y) ∈ al r→(∃ w,Pth r y b w)→∃ w,Pth r x b w:=fun {x y} hxy ⟨w,p⟩=>by
    have hw:=p.hd
    match w,p,hw with
    | z :: w', p, hw =>
      have ez:z=y:=by simpa using hw
      subst ez
      refine walk_pth (x :: z :: w') x rfl (by rw [List.getLast?_cons_cons]; exact p.la) fun u v h=>?_
      rw [al_cons2] at h
      rcases List.mem_cons.mp h with e | h
      · rw [e]; exact hxy
      · exact p.ps u v h
  exact conn (M:=fun x=>∃ w,Pth r x b w) (l:=r) (fun x y hxy=>⟨step (h.sym _ _ hxy),step hxy⟩) ⟨b,hb,[b],rfl,rfl,by simp,fun u v q=>by simp [al] at q⟩ a ha
theorem Wd.apart {n:Nat} {R R':Nat→List Int} (W:Wd n R) (W':Wd n R') {a:Nat} {b y:Int} {w:List Int} (ha:a < n) (hw:Pth (R a) a b ((a:Int) :: y :: w)) (E:∀ x z,Ed n R' x z→Ed n R x z∧¬ (x,z)=((a:Int),y)):b ∉ R' a:=fun hb=>by
  obtain ⟨v,p⟩:=(W'.r a ha).path (W'.me a ha) hb
  have hsub:∀ x ∈ R' a,x ∈ R a:=by
    refine conn (M:=fun x=>x ∈ R a) (l:=R' a) (fun x z h=>?_) ⟨a,W'.me a ha,W.me a ha⟩
    have hE:=(E x z ⟨a,ha,h⟩).1
    exact ⟨fun q=>(al_mem (Ed.at W hE ha q)).2,fun q=>(al_mem (Ed.at W (Ed.symm W hE) ha q)).2⟩
  have p2:Pth (R a) a b v:=⟨p.hd,p.la,p.nd,fun x z h=>by
    have h':=p.ps x z h
    exact Ed.at W (E x z ⟨a,ha,h'⟩).1 ha (hsub x (al_mem h').1)⟩
  have e:=Pth.uniq _ (Nat.le_refl _) (W.r a ha) p2 hw
  subst e
  exact (E _ _ ⟨a,ha,p.ps _ _ (by rw [al_cons2]; exact List.mem_cons_self)⟩).2 rfl
end Rm
namespace K23
open PySem PySem.Spec PyProof.Rows L2
def top (i:Nat):Stmt:=PySem.Challenge.pw_tiewood_k23_refusals_of_a_wood.main.body.getD i (.Pass ⟨0,0,0,0⟩)
abbrev sis_whole:Stmt:=top 11
abbrev sis_place:Stmt:=top 12
abbrev ssteps_along:Stmt:=top 14
abbrev sturned:Stmt:=top 15
abbrev sspliced:Stmt:=top 16
abbrev sparted:Stmt:=top 17
abbrev sway_in:Stmt:=top 18
abbrev srefuse_no_place:Stmt:=top 20
abbrev srefuse_no_places:Stmt:=top 21
abbrev srefuse_no_pair:Stmt:=top 22
abbrev s_law_cell_at:Stmt:=top 25
abbrev s_law_thing:Stmt:=top 26
abbrev s_law_place:Stmt:=top 27
abbrev s_law_members:Stmt:=top 28
abbrev s_law_words:Stmt:=top 29
abbrev s_law_ask:Stmt:=top 30
abbrev s_law_refused:Stmt:=top 31
abbrev s_law_questions:Stmt:=top 32
abbrev s_law_seen:Stmt:=top 33
abbrev s_law_linked:Stmt:=top 34
abbrev slaw:Stmt:=top 35
abbrev sWood___init__:Stmt:=inClass (top 23) 0
abbrev sWood_keep:Stmt:=inClass (top 23) 1
abbrev sWood_link:Stmt:=inClass (top 23) 2
abbrev sWood_cut:Stmt:=inClass (top 23) 3
abbrev sWood_joined:Stmt:=inClass (top 23) 4
abbrev sWood_group:Stmt:=inClass (top 23) 5
abbrev sWood_size:Stmt:=inClass (top 23) 6
abbrev sWood_way:Stmt:=inClass (top 23) 7
abbrev sWood_ties:Stmt:=inClass (top 23) 8
theorem scis_whole:FnScope ["thing"] ["thing"] (defScope sis_whole):=⟨rfl,rfl,rfl,by decide +kernel,rfl,by decide +kernel,by decide +kernel⟩
theorem scis_place:FnScope ["n","thing"] ["n","thing"] (defScope sis_place):=⟨rfl,rfl,rfl,by decide +kernel,rfl,by decide +kernel,by decide +kernel⟩
theorem scsteps_along:FnScope ["row"] ["row"] (defScope ssteps_along):=⟨rfl,rfl,rfl,by decide +kernel,rfl,by decide +kernel,by decide +kernel⟩
theorem scturned:FnScope ["row","a","k"] ["row","a"] (defScope sturned):=⟨rfl,rfl,rfl,by decide +kernel,rfl,by decide +kernel,by decide +kernel⟩
theorem scspliced:FnScope ["row","other","a","b","k"] ["row","other","a","b"] (defScope sspliced):=⟨rfl,rfl,rfl,by decide +kernel,rfl,by decide +kernel,by decide +kernel⟩
theorem scparted:FnScope ["row","a","b","along","there","back","k","m","inner","outer"] ["row","a","b"] (defScope sparted):=⟨rfl,rfl,rfl,by decide +kernel,rfl,by decide +kernel,by decide +kernel⟩
theorem scway_in:FnScope ["row","a","b","ahead","way","place"] ["row","a","b"] (defScope sway_in):=⟨rfl,rfl,rfl,by decide +kernel,rfl,by decide +kernel,by decide +kernel⟩
theorem screfuse_no_place:FnScope ["n","thing"] ["n","thing"] (defScope srefuse_no_place):=⟨rfl,rfl,rfl,by decide +kernel,rfl,by decide +kernel,by decide +kernel⟩
theorem screfuse_no_places:FnScope ["n","a","b"] ["n","a","b"] (defScope srefuse_no_places):=⟨rfl,rfl,rfl,by decide +kernel,rfl,by decide +kernel,by decide +kernel⟩
theorem screfuse_no_pair:FnScope ["n","a","b"] ["n","a","b"] (defScope srefuse_no_pair):=⟨rfl,rfl,rfl,by decide +kernel,rfl,by decide +kernel,by decide +kernel⟩
theorem sc_law_cell_at:FnScope ["_law_script","_law_k"] ["_law_script","_law_k"] (defScope s_law_cell_at):=⟨rfl,rfl,rfl,by decide +kernel,rfl,by decide +kernel,by decide +kernel⟩
theorem sc_law_thing:FnScope ["_law_n","_law_cell","_law_rest"] ["_law_n","_law_cell"] (defScope s_law_thing):=⟨rfl,rfl,rfl,by decide +kernel,rfl,by decide +kernel,by decide +kernel⟩
theorem sc_law_place:FnScope ["_law_n","_law_thing_here"] ["_law_n","_law_thing_here"] (defScope s_law_place):=⟨rfl,rfl,rfl,by decide +kernel,rfl,by decide +kernel,by decide +kernel⟩
theorem sc_law_members:FnScope ["_law_known","_law_a","_law_row","_law_k","_law_one","_law_other"] ["_law_known","_law_a"] (defScope s_law_members):=⟨rfl,rfl,rfl,by decide +kernel,rfl,by decide +kernel,by decide +kernel⟩
theorem sc_law_words:FnScope ["_law_e","_law_row"] ["_law_e"] (defScope s_law_words):=⟨rfl,rfl,rfl,by decide +kernel,rfl,by decide +kernel,by decide +kernel⟩
theorem sc_law_ask:FnScope ["_law_wood","_law_word","_law_one","_law_other"] ["_law_wood","_law_word","_law_one","_law_other"] (defScope s_law_ask):=⟨rfl,rfl,rfl,by decide +kernel,rfl,by decide +kernel,by decide +kernel⟩
theorem sc_law_refused:FnScope ["_law_wood","_law_word","_law_one","_law_other","_law_due","_law_e"] ["_law_wood","_law_word","_law_one","_law_other","_law_due"] (defScope s_law_refused):=⟨rfl,rfl,rfl,by decide +kernel,rfl,by decide +kernel,by decide +kernel⟩
theorem sc_law_questions:FnScope ["_law_wood","_law_n","_law_one","_law_other","_law_word","_law_thing_here"] ["_law_wood","_law_n","_law_one","_law_other"] (defScope s_law_questions):=⟨rfl,rfl,rfl,by decide +kernel,rfl,by decide +kernel,by decide +kernel⟩
theorem sc_law_seen:FnScope ["_law_wood","_law_n"] ["_law_wood","_law_n"] (defScope s_law_seen):=⟨rfl,rfl,rfl,by decide +kernel,rfl,by decide +kernel,by decide +kernel⟩
theorem sc_law_linked:FnScope ["_law_wood","_law_known","_law_n","_law_a","_law_b","_law_before","_law_way","_law_tie"] ["_law_wood","_law_known","_law_n","_law_a","_law_b"] (defScope s_law_linked):=⟨rfl,rfl,rfl,by decide +kernel,rfl,by decide +kernel,by decide +kernel⟩
theorem sclaw:FnScope ["_law_script","_law_n","_law_wood","_law_known","_law_k","_law_one","_law_other","_law_before","_law_a","_law_b"] ["_law_script"] (defScope slaw):=⟨rfl,rfl,rfl,by decide +kernel,rfl,by decide +kernel,by decide +kernel⟩
theorem scWood___init__:FnScope ["self","n"] ["self","n"] (defScope sWood___init__):=⟨rfl,rfl,rfl,by decide +kernel,rfl,by decide +kernel,by decide +kernel⟩
theorem scWood_keep:FnScope ["self","row","place"] ["self","row"] (defScope sWood_keep):=⟨rfl,rfl,rfl,by decide +kernel,rfl,by decide +kernel,by decide +kernel⟩
theorem scWood_link:FnScope ["self","a","b"] ["self","a","b"] (defScope sWood_link):=⟨rfl,rfl,rfl,by decide +kernel,rfl,by decide +kernel,by decide +kernel⟩
theorem scWood_cut:FnScope ["self","a","b","row"] ["self","a","b"] (defScope sWood_cut):=⟨rfl,rfl,rfl,by decide +kernel,rfl,by decide +kernel,by decide +kernel⟩
theorem scWood_joined:FnScope ["self","a","b"] ["self","a","b"] (defScope sWood_joined):=⟨rfl,rfl,rfl,by decide +kernel,rfl,by decide +kernel,by decide +kernel⟩
theorem scWood_group:FnScope ["self","a"] ["self","a"] (defScope sWood_group):=⟨rfl,rfl,rfl,by decide +kernel,rfl,by decide +kernel,by decide +kernel⟩
theorem scWood_size:FnScope ["self","a"] ["self","a"] (defScope sWood_size):=⟨rfl,rfl,rfl,by decide +kernel,rfl,by decide +kernel,by decide +kernel⟩
theorem scWood_way:FnScope ["self","a","b"] ["self","a","b"] (defScope sWood_way):=⟨rfl,rfl,rfl,by decide +kernel,rfl,by decide +kernel,by decide +kernel⟩
theorem scWood_ties:FnScope ["self","told","place","row"] ["self"] (defScope sWood_ties):=⟨rfl,rfl,rfl,by decide +kernel,rfl,by decide +kernel,by decide +kernel⟩
structure EC where
    (Alike Fixed Joined NoCount NoPlace NoRow NoTie TieError Tied:Addr)
structure Txt (K:PySem.W.Frag) (mg:Str→Option Value) (C:Addr) (X:EC):Prop where
  cl:Cls K C
  mgC:mg "Wood" = some (.ref C)
  n_n:NoAttr K C "n"
  n_rows:NoAttr K C "rows"
  x_Alike:mg "Alike" = some (.ref X.Alike)
  x_Fixed:mg "Fixed" = some (.ref X.Fixed)
  x_Joined:mg "Joined" = some (.ref X.Joined)
  x_NoCount:mg "NoCount" = some (.ref X.NoCount)
  x_NoPlace:mg "NoPlace" = some (.ref X.NoPlace)
  x_NoRow:mg "NoRow" = some (.ref X.NoRow)
  x_NoTie:mg "NoTie" = some (.ref X.NoTie)
  x_TieError:mg "TieError" = some (.ref X.TieError)
  x_Tied:mg "Tied" = some (.ref X.Tied)
  ex_Alike:ExcK K X.Alike
  ex_Joined:ExcK K X.Joined
  ex_NoPlace:ExcK K X.NoPlace
  ex_NoTie:ExcK K X.NoTie
  em_Alike:PySem.W.exmOne K (.ref X.Alike) (.ref X.TieError)=some true
  em_Joined:PySem.W.exmOne K (.ref X.Joined) (.ref X.TieError)=some true
  em_NoPlace:PySem.W.exmOne K (.ref X.NoPlace) (.ref X.TieError)=some true
  em_NoTie:PySem.W.exmOne K (.ref X.NoTie) (.ref X.TieError)=some true
  i_Alike:ExcI K X.Alike
  i_Joined:ExcI K X.Joined
  i_NoPlace:ExcI K X.NoPlace
  i_NoTie:ExcI K X.NoTie
  kk_Alike_NoCount:PySem.W.kitOne K (.ref X.Alike) (.ref X.NoCount)=some false
  kk_Alike_NoPlace:PySem.W.kitOne K (.ref X.Alike) (.ref X.NoPlace)=some false
  kk_Alike_Alike:PySem.W.kitOne K (.ref X.Alike) (.ref X.Alike)=some true
  kk_Alike_Joined:PySem.W.kitOne K (.ref X.Alike) (.ref X.Joined)=some false
  kk_Alike_Tied:PySem.W.kitOne K (.ref X.Alike) (.ref X.Tied)=some false
  kk_Alike_NoTie:PySem.W.kitOne K (.ref X.Alike) (.ref X.NoTie)=some false
  kk_Alike_NoRow:PySem.W.kitOne K (.ref X.Alike) (.ref X.NoRow)=some false
  kk_Alike_Fixed:PySem.W.kitOne K (.ref X.Alike) (.ref X.Fixed)=some false
  kk_Joined_NoCount:PySem.W.kitOne K (.ref X.Joined) (.ref X.NoCount)=some false
  kk_Joined_NoPlace:PySem.W.kitOne K (.ref X.Joined) (.ref X.NoPlace)=some false
  kk_Joined_Alike:PySem.W.kitOne K (.ref X.Joined) (.ref X.Alike)=some false
  kk_Joined_Joined:PySem.W.kitOne K (.ref X.Joined) (.ref X.Joined)=some true
  kk_Joined_Tied:PySem.W.kitOne K (.ref X.Joined) (.ref X.Tied)=some false
  kk_Joined_NoTie:PySem.W.kitOne K (.ref X.Joined) (.ref X.NoTie)=some false
  kk_Joined_NoRow:PySem.W.kitOne K (.ref X.Joined) (.ref X.NoRow)=some false
  kk_Joined_Fixed:PySem.W.kitOne K (.ref X.Joined) (.ref X.Fixed)=some false
  kk_NoPlace_NoCount:PySem.W.kitOne K (.ref X.NoPlace) (.ref X.NoCount)=some false
  kk_NoPlace_NoPlace:PySem.W.kitOne K (.ref X.NoPlace) (.ref X.NoPlace)=some true
  kk_NoPlace_Alike:PySem.W.kitOne K (.ref X.NoPlace) (.ref X.Alike)=some false
  kk_NoPlace_Joined:PySem.W.kitOne K (.ref X.NoPlace) (.ref X.Joined)=some false
  kk_NoPlace_Tied:PySem.W.kitOne K (.ref X.NoPlace) (.ref X.Tied)=some false
  kk_NoPlace_NoTie:PySem.W.kitOne K (.ref X.NoPlace) (.ref X.NoTie)=some false
  kk_NoPlace_NoRow:PySem.W.kitOne K (.ref X.NoPlace) (.ref X.NoRow)=some false
  kk_NoPlace_Fixed:PySem.W.kitOne K (.ref X.NoPlace) (.ref X.Fixed)=some false
  kk_NoTie_NoCount:PySem.W.kitOne K (.ref X.NoTie) (.ref X.NoCount)=some false
  kk_NoTie_NoPlace:PySem.W.kitOne K (.ref X.NoTie) (.ref X.NoPlace)=some false
  kk_NoTie_Alike:PySem.W.kitOne K (.ref X.NoTie) (.ref X.Alike)=some false
  kk_NoTie_Joined:PySem.W.kitOne K (.ref X.NoTie) (.ref X.Joined)=some false
  kk_NoTie_Tied:PySem.W.kitOne K (.ref X.NoTie) (.ref X.Tied)=some false
  kk_NoTie_NoTie:PySem.W.kitOne K (.ref X.NoTie) (.ref X.NoTie)=some true
  kk_NoTie_NoRow:PySem.W.kitOne K (.ref X.NoTie) (.ref X.NoRow)=some false
  kk_NoTie_Fixed:PySem.W.kitOne K (.ref X.NoTie) (.ref X.Fixed)=some false
  b_bool:mg "bool" = none
  b_enumerate:mg "enumerate" = none
  b_int:mg "int" = none
  b_isinstance:mg "isinstance" = none
  b_len:mg "len" = none
  b_list:mg "list" = none
  b_max:mg "max" = none
  b_min:mg "min" = none
  b_range:mg "range" = none
  b_set:mg "set" = none
  b_sorted:mg "sorted" = none
  b_zip:mg "zip" = none
def rd_is_whole (K:PySem.W.Frag) (C:Addr):TS :=
  tRet (tAndV (tCB (rIsi K) (tCons (tVar 0) (tCons (tC (.ty "int")) (tNil)))) (tNotV (tCB (rIsi K) (tCons (tVar 0) (tCons (tC (.ty "bool")) (tNil))))))
theorem ok_is_whole {P:Program} {w:World} {K:PySem.W.Frag} {mg:Str→Option Value} {base:Heap} {f:Addr} {fd:FuncData} {sp:Sp} {C:Addr} {X:EC} (Fu:Fun K "is_whole" "is_whole" sis_whole f fd) (T:Txt K mg C X)
      (len:∀ vs H Q E,sp vs H Q E→vs.length=1) (run:∀ vs H Q E,sp vs H Q E→rd_is_whole K C { nx:=fun _ H'=>Q .non H',rt:=Q } (start ["thing"] vs) H):FnOk P w K mg base CX0 1 f fd ["thing"] sp :=
    Fu.ok scis_whole len fun cdv A outer s H vs Q E hr h=>⟨_,(show PSs (cxOf CX0 P w K mg base ["thing"] "is_whole" (defScope sis_whole) f cdv A outer s H E).nox (defBody sis_whole) (rd_is_whole K C) from
  pss_one (ps_ret (pe_and (pe_callB (call_isi) rfl T.b_isinstance BootT.isinstance (pa_cons (pv 0) (pa_cons (pe_bltn rfl T.b_int BootT.int rfl) (pa_nil)))) (pe_one (pe_not (pe_callB (call_isi) rfl T.b_isinstance BootT.isinstance (pa_cons (pv 0) (pa_cons (pe_bltn rfl T.b_bool BootT.bool rfl) (pa_nil))))))))),run vs H Q E h⟩
def rd_is_place (K:PySem.W.Frag) (C:Addr) (sp_is_whole:Sp):TS :=
  tRet (tAndV (tCall sp_is_whole [] E0 (tCons (tVar 1) (tNil))) (tChain (rI0 fun i j=>.bl (decide (i≤j))) (rI0 fun i j=>.bl (decide (i < j))) (tC (.int 0)) (tVar 1) (tVar 0)))
theorem ok_is_place {P:Program} {w:World} {K:PySem.W.Frag} {mg:Str→Option Value} {base:Heap} {f:Addr} {fd:FuncData} {sp:Sp} {C:Addr} {X:EC} (Fu:Fun K "is_place" "is_place" sis_place f fd) (T:Txt K mg C X) {sp_is_whole:Sp} (c_is_whole:Cal P w K mg base CX0 1 "is_whole" ["thing"] sp_is_whole)
      (len:∀ vs H Q E,sp vs H Q E→vs.length=2) (run:∀ vs H Q E,sp vs H Q E→rd_is_place K C sp_is_whole { nx:=fun _ H'=>Q .non H',rt:=Q } (start ["n","thing"] vs) H):FnOk P w K mg base CX0 2 f fd ["n","thing"] sp :=
    Fu.ok scis_place len fun cdv A outer s H vs Q E hr h=>⟨_,(show PSs (cxOf CX0 P w K mg base ["n","thing"] "is_place" (defScope sis_place) f cdv A outer s H E).nox (defBody sis_place) (rd_is_place K C sp_is_whole) from
  pss_one (ps_ret (pe_and (pcl c_is_whole (hr.mono (by decide)) rfl pass0 (pa_cons (pv 1) (pa_nil))) (pe_one (pe_chain (op_le) (op_lt) (pe_int) (pv 1) (pv 0)))))),run vs H Q E h⟩
def rd_steps_along (K:PySem.W.Frag) (C:Addr):TS :=
  tRet (tZipL K (tCons (tVar 0) (tCons (tSl (rSlL K) (tVar 0) (tPart (tC (.int 1))) (tNoPart)) (tNil))))
theorem ok_steps_along {P:Program} {w:World} {K:PySem.W.Frag} {mg:Str→Option Value} {base:Heap} {f:Addr} {fd:FuncData} {sp:Sp} {C:Addr} {X:EC} (Fu:Fun K "steps_along" "steps_along" ssteps_along f fd) (T:Txt K mg C X)
      (len:∀ vs H Q E,sp vs H Q E→vs.length=1) (run:∀ vs H Q E,sp vs H Q E→rd_steps_along K C { nx:=fun _ H'=>Q .non H',rt:=Q } (start ["row"] vs) H):FnOk P w K mg base CX0 1 f fd ["row"] sp :=
    Fu.ok scsteps_along len fun cdv A outer s H vs Q E hr h=>⟨_,(show PSs (cxOf CX0 P w K mg base ["row"] "steps_along" (defScope ssteps_along) f cdv A outer s H E).nox (defBody ssteps_along) (rd_steps_along K C) from
  pss_one (ps_ret (pe_zipL rfl rfl T.b_list rfl T.b_zip (pa_cons (pv 0) (pa_cons (pe_slice sl_list (pv 0) (po_some (pe_int)) (po_none)) (pa_nil)))))),run vs H Q E h⟩
def rd_turned (K:PySem.W.Frag) (C:Addr):TS :=
  tSeq (tAsg (tBM K "list" (rIndexG K) (tVar 0) (tCons (tVar 1) (tNil))) (gName 2))
  (tRet (tOp (rAddG) (tSl (rSlL K) (tVar 0) (tPart (tVar 2)) (tNoPart)) (tSl (rSlL K) (tVar 0) (tPart (tC (.int 1))) (tPart (tOp (rAddG) (tVar 2) (tC (.int 1)))))))
theorem ok_turned {P:Program} {w:World} {K:PySem.W.Frag} {mg:Str→Option Value} {base:Heap} {f:Addr} {fd:FuncData} {sp:Sp} {C:Addr} {X:EC} (Fu:Fun K "turned" "turned" sturned f fd) (T:Txt K mg C X)
      (len:∀ vs H Q E,sp vs H Q E→vs.length=2) (run:∀ vs H Q E,sp vs H Q E→rd_turned K C { nx:=fun _ H'=>Q .non H',rt:=Q } (start ["row","a","k"] vs) H):FnOk P w K mg base CX0 1 f fd ["row","a"] sp :=
    Fu.ok scturned len fun cdv A outer s H vs Q E hr h=>⟨_,(show PSs (cxOf CX0 P w K mg base ["row","a","k"] "turned" (defScope sturned) f cdv A outer s H E).nox (defBody sturned) (rd_turned K C) from
  pss_cons (ps_set (i:=2) scturned.nd rfl (Or.inl rfl) (pe_bm PySem.F.plainAttrs_list PySem.F.slot_list_index PySem.F.type_list_index (mt_indexG hr.units) (pv 0) (pa_cons (pv 1) (pa_nil))))
  (pss_one (ps_ret (pe_op (op_addG) (pe_slice sl_list (pv 0) (po_some (pv 2)) (po_none)) (pe_slice sl_list (pv 0) (po_some (pe_int)) (po_some (pe_op (op_addG) (pv 2) (pe_int)))))))),run vs H Q E h⟩
def rd_spliced (K:PySem.W.Frag) (C:Addr) (sp_turned:Sp):TS :=
  tSeq (tAsg (tBM K "list" (rIndexG K) (tVar 0) (tCons (tVar 2) (tNil))) (gName 4))
  (tRet (tOp (rAddG) (tOp (rAddG) (tSl (rSlL K) (tVar 0) (tNoPart) (tPart (tOp (rAddG) (tVar 4) (tC (.int 1))))) (tCall sp_turned [] E0 (tCons (tVar 1) (tCons (tVar 3) (tNil))))) (tSl (rSlL K) (tVar 0) (tPart (tVar 4)) (tNoPart))))
theorem ok_spliced {P:Program} {w:World} {K:PySem.W.Frag} {mg:Str→Option Value} {base:Heap} {f:Addr} {fd:FuncData} {sp:Sp} {C:Addr} {X:EC} (Fu:Fun K "spliced" "spliced" sspliced f fd) (T:Txt K mg C X) {sp_turned:Sp} (c_turned:Cal P w K mg base CX0 1 "turned" ["row","a"] sp_turned)
      (len:∀ vs H Q E,sp vs H Q E→vs.length=4) (run:∀ vs H Q E,sp vs H Q E→rd_spliced K C sp_turned { nx:=fun _ H'=>Q .non H',rt:=Q } (start ["row","other","a","b","k"] vs) H):FnOk P w K mg base CX0 2 f fd ["row","other","a","b"] sp :=
    Fu.ok scspliced len fun cdv A outer s H vs Q E hr h=>⟨_,(show PSs (cxOf CX0 P w K mg base ["row","other","a","b","k"] "spliced" (defScope sspliced) f cdv A outer s H E).nox (defBody sspliced) (rd_spliced K C sp_turned) from
  pss_cons (ps_set (i:=4) scspliced.nd rfl (Or.inl rfl) (pe_bm PySem.F.plainAttrs_list PySem.F.slot_list_index PySem.F.type_list_index (mt_indexG hr.units) (pv 0) (pa_cons (pv 2) (pa_nil))))
  (pss_one (ps_ret (pe_op (op_addG) (pe_op (op_addG) (pe_slice sl_list (pv 0) (po_none) (po_some (pe_op (op_addG) (pv 4) (pe_int)))) (pcl c_turned (hr.mono (by decide)) rfl pass0 (pa_cons (pv 1) (pa_cons (pv 3) (pa_nil))))) (pe_slice sl_list (pv 0) (po_some (pv 4)) (po_none)))))),run vs H Q E h⟩
def rd_parted (K:PySem.W.Frag) (C:Addr) (sp_steps_along:Sp):TS :=
  tSeq (tAsg (tCall sp_steps_along [] E0 (tCons (tVar 0) (tNil))) (gName 3))
  (tSeq (tAsg (tBM K "list" (rIndexG K) (tVar 3) (tCons (tTup (tCons (tVar 1) (tCons (tVar 2) (tNil)))) (tNil))) (gName 4))
  (tSeq (tAsg (tBM K "list" (rIndexG K) (tVar 3) (tCons (tTup (tCons (tVar 2) (tCons (tVar 1) (tNil)))) (tNil))) (gName 5))
  (tSeq (tAsg (tCB (rMin2) (tCons (tVar 4) (tCons (tVar 5) (tNil)))) (gName 6))
  (tSeq (tAsg (tCB (rMax2) (tCons (tVar 4) (tCons (tVar 5) (tNil)))) (gName 7))
  (tSeq (tAsg (tSl (rSlL K) (tVar 0) (tPart (tOp (rAddG) (tVar 6) (tC (.int 1)))) (tPart (tOp (rAddG) (tVar 7) (tC (.int 1))))) (gName 8))
  (tSeq (tAsg (tOp (rAddG) (tSl (rSlL K) (tVar 0) (tNoPart) (tPart (tOp (rAddG) (tVar 6) (tC (.int 1))))) (tSl (rSlL K) (tVar 0) (tPart (tOp (rAddG) (tVar 7) (tC (.int 2)))) (tNoPart))) (gName 9))
  (tRet (tIf (tTest (tOp (rI0 fun i j=>.bl (decide (i < j))) (tVar 4) (tVar 5))) (tTup (tCons (tVar 9) (tCons (tVar 8) (tNil)))) (tTup (tCons (tVar 8) (tCons (tVar 9) (tNil))))))))))))
theorem ok_parted {P:Program} {w:World} {K:PySem.W.Frag} {mg:Str→Option Value} {base:Heap} {f:Addr} {fd:FuncData} {sp:Sp} {C:Addr} {X:EC} (Fu:Fun K "parted" "parted" sparted f fd) (T:Txt K mg C X) {sp_steps_along:Sp} (c_steps_along:Cal P w K mg base CX0 1 "steps_along" ["row"] sp_steps_along)
      (len:∀ vs H Q E,sp vs H Q E→vs.length=3) (run:∀ vs H Q E,sp vs H Q E→rd_parted K C sp_steps_along { nx:=fun _ H'=>Q .non H',rt:=Q } (start ["row","a","b","along","there","back","k","m","inner","outer"] vs) H):FnOk P w K mg base CX0 2 f fd ["row","a","b"] sp :=
    Fu.ok scparted len fun cdv A outer s H vs Q E hr h=>⟨_,(show PSs (cxOf CX0 P w K mg base ["row","a","b","along","there","back","k","m","inner","outer"] "parted" (defScope sparted) f cdv A outer s H E).nox (defBody sparted) (rd_parted K C sp_steps_along) from
  pss_cons (ps_set (i:=3) scparted.nd rfl (Or.inl rfl) (pcl c_steps_along (hr.mono (by decide)) rfl pass0 (pa_cons (pv 0) (pa_nil))))
  (pss_cons (ps_set (i:=4) scparted.nd rfl (Or.inl rfl) (pe_bm PySem.F.plainAttrs_list PySem.F.slot_list_index PySem.F.type_list_index (mt_indexG hr.units) (pv 3) (pa_cons (pe_tup (pa_cons (pv 1) (pa_cons (pv 2) (pa_nil)))) (pa_nil))))
  (pss_cons (ps_set (i:=5) scparted.nd rfl (Or.inl rfl) (pe_bm PySem.F.plainAttrs_list PySem.F.slot_list_index PySem.F.type_list_index (mt_indexG hr.units) (pv 3) (pa_cons (pe_tup (pa_cons (pv 2) (pa_cons (pv 1) (pa_nil)))) (pa_nil))))
  (pss_cons (ps_set (i:=6) scparted.nd rfl (Or.inl rfl) (pe_callB (call_min2 rfl) rfl T.b_min BootT.min (pa_cons (pv 4) (pa_cons (pv 5) (pa_nil)))))
  (pss_cons (ps_set (i:=7) scparted.nd rfl (Or.inl rfl) (pe_callB (call_max2 rfl) rfl T.b_max BootT.max (pa_cons (pv 4) (pa_cons (pv 5) (pa_nil)))))
  (pss_cons (ps_set (i:=8) scparted.nd rfl (Or.inl rfl) (pe_slice sl_list (pv 0) (po_some (pe_op (op_addG) (pv 6) (pe_int))) (po_some (pe_op (op_addG) (pv 7) (pe_int)))))
  (pss_cons (ps_set (i:=9) scparted.nd rfl (Or.inl rfl) (pe_op (op_addG) (pe_slice sl_list (pv 0) (po_none) (po_some (pe_op (op_addG) (pv 6) (pe_int)))) (pe_slice sl_list (pv 0) (po_some (pe_op (op_addG) (pv 7) (pe_int))) (po_none))))
  (pss_one (ps_ret (pe_ifExp (pt_cmpR (op_lt) (pv 4) (pv 5) (nomark _)) (pe_tup (pa_cons (pv 9) (pa_cons (pv 8) (pa_nil)))) (pe_tup (pa_cons (pv 8) (pa_cons (pv 9) (pa_nil)))))))))))))),run vs H Q E h⟩
def lp_way_in_1 (K:PySem.W.Frag) (C:Addr) (sp_turned:Sp):TS :=
  tFor (iSeq K (tSl (rSlL K) (tVar 3) (tNoPart) (tPart (tOp (rAddG) (tBM K "list" (rIndexG K) (tVar 3) (tCons (tVar 2) (tNil))) (tC (.int 1)))))) (gName 5)
   (tIfS (tAnd (tTest (tOp (rI0 fun i j=>.bl (decide (j < i))) (tCB (rLen K) (tCons (tVar 4) (tNil))) (tC (.int 1)))) (tTest (tOp (rEqG K) (tOp (rIxG K) (tVar 4) (tUn (rU fun i=>.int (-i)) (tC (.int 2)))) (tVar 5))))
   (tDrop (tBM0 K "list" rPop (tVar 4)))
   (tDrop (tBM K "list" rAppend (tVar 4) (tCons (tVar 5) (tNil)))))
def rd_way_in (K:PySem.W.Frag) (C:Addr) (sp_turned:Sp):TS :=
  tSeq (tAsg (tCall sp_turned [] E0 (tCons (tVar 0) (tCons (tVar 1) (tNil)))) (gName 3))
  (tSeq (tAsg (tLst (tNil)) (gName 4))
  (tSeq (lp_way_in_1 K C sp_turned)
  (tRet (tVar 4))))
theorem ok_way_in {P:Program} {w:World} {K:PySem.W.Frag} {mg:Str→Option Value} {base:Heap} {f:Addr} {fd:FuncData} {sp:Sp} {C:Addr} {X:EC} (Fu:Fun K "way_in" "way_in" sway_in f fd) (T:Txt K mg C X) {sp_turned:Sp} (c_turned:Cal P w K mg base CX0 1 "turned" ["row","a"] sp_turned)
      (len:∀ vs H Q E,sp vs H Q E→vs.length=3) (run:∀ vs H Q E,sp vs H Q E→rd_way_in K C sp_turned { nx:=fun _ H'=>Q .non H',rt:=Q } (start ["row","a","b","ahead","way","place"] vs) H):FnOk P w K mg base CX0 2 f fd ["row","a","b"] sp :=
    Fu.ok scway_in len fun cdv A outer s H vs Q E hr h=>⟨_,(show PSs (cxOf CX0 P w K mg base ["row","a","b","ahead","way","place"] "way_in" (defScope sway_in) f cdv A outer s H E).nox (defBody sway_in) (rd_way_in K C sp_turned) from
  pss_cons (ps_set (i:=3) scway_in.nd rfl (Or.inl rfl) (pcl c_turned (hr.mono (by decide)) rfl pass0 (pa_cons (pv 0) (pa_cons (pv 1) (pa_nil)))))
  (pss_cons (ps_set (i:=4) scway_in.nd rfl (Or.inl rfl) (pe_lst (pa_nil)))
  (pss_cons (ps_for PassesOwn.never rfl (pi_seq (pe_slice sl_list (pv 3) (po_none) (po_some (pe_op (op_addG) (pe_bm PySem.F.plainAttrs_list PySem.F.slot_list_index PySem.F.type_list_index (mt_indexG hr.units) (pv 3) (pa_cons (pv 2) (pa_nil))) (pe_int))))) (pg_name (i:=5) scway_in.nd rfl (Or.inl rfl))
   (pss_one (ps_if (PW.pt (pw_and (pt_cmpR (op_gt) (pe_callB (call_lenG) rfl T.b_len BootT.len (pa_cons (pv 4) (pa_nil))) (pe_int) (nomark _)) (pw_and1 (pt_cmpR (op_eqG hr.units) (pe_ix (ix_G hr.units) (pv 4) (pe_un un_neg (pe_int)) (fun _ _=>rfl)) (pv 5) (nomark _)))))
   (pss_one (ps_expr (pe_bm0 PySem.F.plainAttrs_list PySem.F.slot_list_pop PySem.F.type_list_pop mt_pop (pv 4))))
   (pss_one (ps_expr (pe_bm PySem.F.plainAttrs_list PySem.F.slot_list_append PySem.F.type_list_append mt_append (pv 4) (pa_cons (pv 5) (pa_nil))))))))
  (pss_one (ps_ret (pv 4)))))),run vs H Q E h⟩
def rd_refuse_no_place (K:PySem.W.Frag) (C:Addr) (X:EC) (E:XK) (sp_is_place:Sp):TS :=
  tIfS (tNot (tTru K (tCall sp_is_place [] E0 (tCons (tVar 0) (tCons (tVar 1) (tNil))))))
   (tRaise (.ref X.NoPlace) E)
   (tNext)
theorem ok_refuse_no_place {P:Program} {w:World} {K:PySem.W.Frag} {mg:Str→Option Value} {base:Heap} {f:Addr} {fd:FuncData} {sp:Sp} {C:Addr} {X:EC} (Fu:Fun K "refuse_no_place" "refuse_no_place" srefuse_no_place f fd) (T:Txt K mg C X) {sp_is_place:Sp} (c_is_place:Cal P w K mg base CX0 2 "is_place" ["n","thing"] sp_is_place)
      (len:∀ vs H Q E,sp vs H Q E→vs.length=2) (run:∀ vs H Q E,sp vs H Q E→rd_refuse_no_place K C X E sp_is_place { nx:=fun _ H'=>Q .non H',rt:=Q } (start ["n","thing"] vs) H):FnOk P w K mg base (CXr P w) 3 f fd ["n","thing"] sp :=
    Fu.okR screfuse_no_place len fun cdv A outer s H vs Q E hr h=>⟨_,(show PSs (cxOf (CXr P w) P w K mg base ["n","thing"] "refuse_no_place" (defScope srefuse_no_place) f cdv A outer s H E) (defBody srefuse_no_place) (rd_refuse_no_place K C X E sp_is_place) from
  pss_one (ps_if (pt_not (pt_tru (pcl c_is_place (hr.mono (by decide)) rfl pass0 (pa_cons (pv 0) (pa_cons (pv 1) (pa_nil)))) (fun _=>rfl)))
   (pss_one (ps_raise rfl rfl ⟨T.x_NoPlace,T.ex_NoPlace⟩ raisesTo_cx))
   (pss_nil))),run vs H Q E h⟩
def rd_refuse_no_places (K:PySem.W.Frag) (C:Addr) (E:XK) (sp_refuse_no_place:Sp):TS :=
  tSeq (tDrop (tCall sp_refuse_no_place [] E (tCons (tVar 0) (tCons (tVar 1) (tNil)))))
  (tDrop (tCall sp_refuse_no_place [] E (tCons (tVar 0) (tCons (tVar 2) (tNil)))))
theorem ok_refuse_no_places {P:Program} {w:World} {K:PySem.W.Frag} {mg:Str→Option Value} {base:Heap} {f:Addr} {fd:FuncData} {sp:Sp} {C:Addr} {X:EC} (Fu:Fun K "refuse_no_places" "refuse_no_places" srefuse_no_places f fd) (T:Txt K mg C X) {sp_refuse_no_place:Sp} (c_refuse_no_place:Cal P w K mg base (CXr P w) 3 "refuse_no_place" ["n","thing"] sp_refuse_no_place)
      (len:∀ vs H Q E,sp vs H Q E→vs.length=3) (run:∀ vs H Q E,sp vs H Q E→rd_refuse_no_places K C E sp_refuse_no_place { nx:=fun _ H'=>Q .non H',rt:=Q } (start ["n","a","b"] vs) H):FnOk P w K mg base (CXr P w) 4 f fd ["n","a","b"] sp :=
    Fu.okR screfuse_no_places len fun cdv A outer s H vs Q E hr h=>⟨_,(show PSs (cxOf (CXr P w) P w K mg base ["n","a","b"] "refuse_no_places" (defScope srefuse_no_places) f cdv A outer s H E) (defBody srefuse_no_places) (rd_refuse_no_places K C E sp_refuse_no_place) from
  pss_cons (ps_expr (pcl c_refuse_no_place (hr.mono (by decide)) rfl passR (pa_cons (pv 0) (pa_cons (pv 1) (pa_nil)))))
  (pss_one (ps_expr (pcl c_refuse_no_place (hr.mono (by decide)) rfl passR (pa_cons (pv 0) (pa_cons (pv 2) (pa_nil))))))),run vs H Q E h⟩
def rd_refuse_no_pair (K:PySem.W.Frag) (C:Addr) (X:EC) (E:XK) (sp_refuse_no_places:Sp):TS :=
  tSeq (tDrop (tCall sp_refuse_no_places [] E (tCons (tVar 0) (tCons (tVar 1) (tCons (tVar 2) (tNil))))))
  (tIfS (tTest (tOp (rEqG K) (tVar 1) (tVar 2)))
   (tRaise (.ref X.Alike) E)
   (tNext))
theorem ok_refuse_no_pair {P:Program} {w:World} {K:PySem.W.Frag} {mg:Str→Option Value} {base:Heap} {f:Addr} {fd:FuncData} {sp:Sp} {C:Addr} {X:EC} (Fu:Fun K "refuse_no_pair" "refuse_no_pair" srefuse_no_pair f fd) (T:Txt K mg C X) {sp_refuse_no_places:Sp} (c_refuse_no_places:Cal P w K mg base (CXr P w) 4 "refuse_no_places" ["n","a","b"] sp_refuse_no_places)
      (len:∀ vs H Q E,sp vs H Q E→vs.length=3) (run:∀ vs H Q E,sp vs H Q E→rd_refuse_no_pair K C X E sp_refuse_no_places { nx:=fun _ H'=>Q .non H',rt:=Q } (start ["n","a","b"] vs) H):FnOk P w K mg base (CXr P w) 5 f fd ["n","a","b"] sp :=
    Fu.okR screfuse_no_pair len fun cdv A outer s H vs Q E hr h=>⟨_,(show PSs (cxOf (CXr P w) P w K mg base ["n","a","b"] "refuse_no_pair" (defScope srefuse_no_pair) f cdv A outer s H E) (defBody srefuse_no_pair) (rd_refuse_no_pair K C X E sp_refuse_no_places) from
  pss_cons (ps_expr (pcl c_refuse_no_places (hr.mono (by decide)) rfl passR (pa_cons (pv 0) (pa_cons (pv 1) (pa_cons (pv 2) (pa_nil))))))
  (pss_one (ps_if (pt_cmpR (op_eqG hr.units) (pv 1) (pv 2) (nomark _))
   (pss_one (ps_raise rfl rfl ⟨T.x_Alike,T.ex_Alike⟩ raisesTo_cx))
   (pss_nil)))),run vs H Q E h⟩
def rd__law_cell_at (K:PySem.W.Frag) (C:Addr):TS :=
  tSeq (tIfS (tTest (tOp (rI0 fun i j=>.bl (decide (i < j))) (tVar 1) (tCB (rLen K) (tCons (tVar 0) (tNil)))))
   (tRet (tOp (rIxG K) (tVar 0) (tVar 1)))
   (tNext))
  (tRet (tC (.int 0)))
theorem ok__law_cell_at {P:Program} {w:World} {K:PySem.W.Frag} {mg:Str→Option Value} {base:Heap} {f:Addr} {fd:FuncData} {sp:Sp} {C:Addr} {X:EC} (Fu:Fun K "_law_cell_at" "_law_cell_at" s_law_cell_at f fd) (T:Txt K mg C X)
      (len:∀ vs H Q E,sp vs H Q E→vs.length=2) (run:∀ vs H Q E,sp vs H Q E→rd__law_cell_at K C { nx:=fun _ H'=>Q .non H',rt:=Q } (start ["_law_script","_law_k"] vs) H):FnOk P w K mg base CX0 1 f fd ["_law_script","_law_k"] sp :=
    Fu.ok sc_law_cell_at len fun cdv A outer s H vs Q E hr h=>⟨_,(show PSs (cxOf CX0 P w K mg base ["_law_script","_law_k"] "_law_cell_at" (defScope s_law_cell_at) f cdv A outer s H E).nox (defBody s_law_cell_at) (rd__law_cell_at K C) from
  pss_cons (ps_if (pt_cmpR (op_lt) (pv 1) (pe_callB (call_lenG) rfl T.b_len BootT.len (pa_cons (pv 0) (pa_nil))) (nomark _))
   (pss_one (ps_ret (pe_ix (ix_G hr.units) (pv 0) (pv 1) (fun _ _=>rfl))))
   (pss_nil))
  (pss_one (ps_ret (pe_int)))),run vs H Q E h⟩
def rd__law_thing (K:PySem.W.Frag) (C:Addr):TS :=
  tSeq (tAsg (tOp (rI CDiv fun i j=>.int (i / j)) (tVar 1) (tC (.int 12))) (gName 2))
  (tSeq (tIfS (tTest (tOp (rI0 fun i j=>.bl (decide (i < j))) (tOp (rI (fun _ j=>0 < j) fun i j=>.int (i % j)) (tVar 1) (tC (.int 12))) (tC (.int 7))))
   (tRet (tOp (rI (fun _ j=>0 < j) fun i j=>.int (i % j)) (tVar 2) (tVar 0)))
   (tNext))
  (tSeq (tIfS (tTest (tOp (rEqG K) (tOp (rI (fun _ j=>0 < j) fun i j=>.int (i % j)) (tVar 1) (tC (.int 12))) (tC (.int 7))))
   (tRet (tOp (rAddG) (tVar 0) (tOp (rIxG K) (tLst (tCons (tC (.int 0)) (tCons (tOp (rI (fun _ j=>0 < j) fun i j=>.int (i % j)) (tVar 2) (tOp (rI CPow fun i j=>.int (i ^ j.toNat)) (tC (.int 10)) (tC (.int 30)))) (tNil)))) (tOp (rI (fun _ j=>0 < j) fun i j=>.int (i % j)) (tVar 2) (tC (.int 2))))))
   (tNext))
  (tSeq (tIfS (tTest (tOp (rEqG K) (tOp (rI (fun _ j=>0 < j) fun i j=>.int (i % j)) (tVar 1) (tC (.int 12))) (tC (.int 8))))
   (tRet (tOp (rI0 fun i j=>.int (i - j)) (tUn (rU fun i=>.int (-i)) (tC (.int 1))) (tOp (rIxG K) (tLst (tCons (tC (.int 0)) (tCons (tOp (rI (fun _ j=>0 < j) fun i j=>.int (i % j)) (tVar 2) (tOp (rI CPow fun i j=>.int (i ^ j.toNat)) (tC (.int 10)) (tC (.int 30)))) (tNil)))) (tOp (rI (fun _ j=>0 < j) fun i j=>.int (i % j)) (tVar 2) (tC (.int 2))))))
   (tNext))
  (tRet (tOp (rIxG K) (tLst (tCons (tOp (rEqG K) (tOp (rI (fun _ j=>0 < j) fun i j=>.int (i % j)) (tVar 2) (tC (.int 2))) (tC (.int 0))) (tCons (tC .non) (tCons (tC (.str "0")) (tNil))))) (tOp (rI (fun _ j=>0 < j) fun i j=>.int (i % j)) (tVar 1) (tC (.int 3))))))))
theorem ok__law_thing {P:Program} {w:World} {K:PySem.W.Frag} {mg:Str→Option Value} {base:Heap} {f:Addr} {fd:FuncData} {sp:Sp} {C:Addr} {X:EC} (Fu:Fun K "_law_thing" "_law_thing" s_law_thing f fd) (T:Txt K mg C X)
      (len:∀ vs H Q E,sp vs H Q E→vs.length=2) (run:∀ vs H Q E,sp vs H Q E→rd__law_thing K C { nx:=fun _ H'=>Q .non H',rt:=Q } (start ["_law_n","_law_cell","_law_rest"] vs) H):FnOk P w K mg base CX0 1 f fd ["_law_n","_law_cell"] sp :=
    Fu.ok sc_law_thing len fun cdv A outer s H vs Q E hr h=>⟨_,(show PSs (cxOf CX0 P w K mg base ["_law_n","_law_cell","_law_rest"] "_law_thing" (defScope s_law_thing) f cdv A outer s H E).nox (defBody s_law_thing) (rd__law_thing K C) from
  pss_cons (ps_set (i:=2) sc_law_thing.nd rfl (Or.inl rfl) (pe_op (op_fdiv) (pv 1) (pe_int)))
  (pss_cons (ps_if (pt_cmpR (op_lt) (pe_op (op_mod) (pv 1) (pe_int)) (pe_int) (nomark _))
   (pss_one (ps_ret (pe_op (op_mod) (pv 2) (pv 0))))
   (pss_nil))
  (pss_cons (ps_if (pt_cmpR (op_eqG hr.units) (pe_op (op_mod) (pv 1) (pe_int)) (pe_int) (nomark _))
   (pss_one (ps_ret (pe_op (op_addG) (pv 0) (pe_ix (ix_G hr.units) (pe_lst (pa_cons (pe_int) (pa_cons (pe_op (op_mod) (pv 2) (pe_op (op_pow) (pe_int) (pe_int))) (pa_nil)))) (pe_op (op_mod) (pv 2) (pe_int)) (fun _ _=>rfl)))))
   (pss_nil))
  (pss_cons (ps_if (pt_cmpR (op_eqG hr.units) (pe_op (op_mod) (pv 1) (pe_int)) (pe_int) (nomark _))
   (pss_one (ps_ret (pe_op (op_sub) (pe_un un_neg (pe_int)) (pe_ix (ix_G hr.units) (pe_lst (pa_cons (pe_int) (pa_cons (pe_op (op_mod) (pv 2) (pe_op (op_pow) (pe_int) (pe_int))) (pa_nil)))) (pe_op (op_mod) (pv 2) (pe_int)) (fun _ _=>rfl)))))
   (pss_nil))
  (pss_one (ps_ret (pe_ix (ix_G hr.units) (pe_lst (pa_cons (pe_cmpR (op_eqG hr.units) (pe_op (op_mod) (pv 2) (pe_int)) (pe_int) (nomark _)) (pa_cons (pe_non) (pa_cons (pe_str) (pa_nil))))) (pe_op (op_mod) (pv 1) (pe_int)) (fun _ _=>rfl)))))))),run vs H Q E h⟩
def rd__law_place (K:PySem.W.Frag) (C:Addr):TS :=
  tRet (tAndV (tCB (rIsi K) (tCons (tVar 1) (tCons (tC (.ty "int")) (tNil)))) (tAndV (tNotV (tCB (rIsi K) (tCons (tVar 1) (tCons (tC (.ty "bool")) (tNil))))) (tAndV (tOp (rI0 fun i j=>.bl (decide (j≤i))) (tVar 1) (tC (.int 0))) (tOp (rI0 fun i j=>.bl (decide (i < j))) (tVar 1) (tVar 0)))))
theorem ok__law_place {P:Program} {w:World} {K:PySem.W.Frag} {mg:Str→Option Value} {base:Heap} {f:Addr} {fd:FuncData} {sp:Sp} {C:Addr} {X:EC} (Fu:Fun K "_law_place" "_law_place" s_law_place f fd) (T:Txt K mg C X)
      (len:∀ vs H Q E,sp vs H Q E→vs.length=2) (run:∀ vs H Q E,sp vs H Q E→rd__law_place K C { nx:=fun _ H'=>Q .non H',rt:=Q } (start ["_law_n","_law_thing_here"] vs) H):FnOk P w K mg base CX0 1 f fd ["_law_n","_law_thing_here"] sp :=
    Fu.ok sc_law_place len fun cdv A outer s H vs Q E hr h=>⟨_,(show PSs (cxOf CX0 P w K mg base ["_law_n","_law_thing_here"] "_law_place" (defScope s_law_place) f cdv A outer s H E).nox (defBody s_law_place) (rd__law_place K C) from
  pss_one (ps_ret (pe_and (pe_callB (call_isi) rfl T.b_isinstance BootT.isinstance (pa_cons (pv 1) (pa_cons (pe_bltn rfl T.b_int BootT.int rfl) (pa_nil)))) (pe_and (pe_not (pe_callB (call_isi) rfl T.b_isinstance BootT.isinstance (pa_cons (pv 1) (pa_cons (pe_bltn rfl T.b_bool BootT.bool rfl) (pa_nil))))) (pe_and (pe_cmpR (op_ge) (pv 1) (pe_int) (nomark _)) (pe_one (pe_cmpR (op_lt) (pv 1) (pv 0) (nomark _)))))))),run vs H Q E h⟩
def lp__law_members_1 (K:PySem.W.Frag) (C:Addr):TS :=
  tFor (iDT (tVar 0)) (gTup K 2 (gCons (gName 4) (gCons (gName 5) (gNil))))
   (tSeq (tIfS (tAnd (tTest (tOp (rEqG K) (tVar 4) (tOp (rIxG K) (tVar 2) (tVar 3)))) (tTest (tOp (rInG K true) (tVar 5) (tVar 2))))
   (tDrop (tBM K "list" rAppend (tVar 2) (tCons (tVar 5) (tNil))))
   (tNext))
  (tIfS (tAnd (tTest (tOp (rEqG K) (tVar 5) (tOp (rIxG K) (tVar 2) (tVar 3)))) (tTest (tOp (rInG K true) (tVar 4) (tVar 2))))
   (tDrop (tBM K "list" rAppend (tVar 2) (tCons (tVar 4) (tNil))))
   (tNext)))
def lp__law_members_2 (K:PySem.W.Frag) (C:Addr):TS :=
  tWhile (tTest (tOp (rI0 fun i j=>.bl (decide (i < j))) (tVar 3) (tCB (rLen K) (tCons (tVar 2) (tNil)))))
   (tSeq (lp__law_members_1 K C)
  (tAsg (tOp (rAddG) (tVar 3) (tC (.int 1))) (gName 3)))
def rd__law_members (K:PySem.W.Frag) (C:Addr):TS :=
  tSeq (tAsg (tLst (tCons (tVar 1) (tNil))) (gName 2))
  (tSeq (tAsg (tC (.int 0)) (gName 3))
  (tSeq (lp__law_members_2 K C)
  (tRet (tVar 2))))
theorem ok__law_members {P:Program} {w:World} {K:PySem.W.Frag} {mg:Str→Option Value} {base:Heap} {f:Addr} {fd:FuncData} {sp:Sp} {C:Addr} {X:EC} (Fu:Fun K "_law_members" "_law_members" s_law_members f fd) (T:Txt K mg C X)
      (len:∀ vs H Q E,sp vs H Q E→vs.length=2) (run:∀ vs H Q E,sp vs H Q E→rd__law_members K C { nx:=fun _ H'=>Q .non H',rt:=Q } (start ["_law_known","_law_a","_law_row","_law_k","_law_one","_law_other"] vs) H):FnOk P w K mg base CX0 1 f fd ["_law_known","_law_a"] sp :=
    Fu.ok sc_law_members len fun cdv A outer s H vs Q E hr h=>⟨_,(show PSs (cxOf CX0 P w K mg base ["_law_known","_law_a","_law_row","_law_k","_law_one","_law_other"] "_law_members" (defScope s_law_members) f cdv A outer s H E).nox (defBody s_law_members) (rd__law_members K C) from
  pss_cons (ps_set (i:=2) sc_law_members.nd rfl (Or.inl rfl) (pe_lst (pa_cons (pv 1) (pa_nil))))
  (pss_cons (ps_set (i:=3) sc_law_members.nd rfl (Or.inl rfl) (pe_int))
  (pss_cons (ps_while PassesOwn.never (pt_cmpR (op_lt) (pv 3) (pe_callB (call_lenG) rfl T.b_len BootT.len (pa_cons (pv 2) (pa_nil))) (nomark _))
   (pss_cons (ps_for PassesOwn.never rfl (pi_dT (pv 0)) (pg_tup rfl (pgs_cons (pg_name (i:=4) sc_law_members.nd rfl (Or.inl rfl)) (pgs_cons (pg_name (i:=5) sc_law_members.nd rfl (Or.inl rfl)) (pgs_nil))))
   (pss_cons (ps_if (PW.pt (pw_and (pt_cmpR (op_eqG hr.units) (pv 4) (pe_ix (ix_G hr.units) (pv 2) (pv 3) (fun _ _=>rfl)) (nomark _)) (pw_and1 (pt_cmpR (op_notInG hr.units) (pv 5) (pv 2) (by with_unfolding_all rfl)))))
   (pss_one (ps_expr (pe_bm PySem.F.plainAttrs_list PySem.F.slot_list_append PySem.F.type_list_append mt_append (pv 2) (pa_cons (pv 5) (pa_nil)))))
   (pss_nil))
  (pss_one (ps_if (PW.pt (pw_and (pt_cmpR (op_eqG hr.units) (pv 5) (pe_ix (ix_G hr.units) (pv 2) (pv 3) (fun _ _=>rfl)) (nomark _)) (pw_and1 (pt_cmpR (op_notInG hr.units) (pv 4) (pv 2) (by with_unfolding_all rfl)))))
   (pss_one (ps_expr (pe_bm PySem.F.plainAttrs_list PySem.F.slot_list_append PySem.F.type_list_append mt_append (pv 2) (pa_cons (pv 4) (pa_nil)))))
   (pss_nil)))))
  (pss_one (ps_set (i:=3) sc_law_members.nd rfl (Or.inl rfl) (pe_op (op_addG) (pv 3) (pe_int))))))
  (pss_one (ps_ret (pv 2)))))),run vs H Q E h⟩
def rd__law_words (K:PySem.W.Frag) (C:Addr) (X:EC):TS :=
  tSeq (tAsg (tLst (tNil)) (gName 1))
  (tSeq (tIfS (tTru K (tCB (rIsiX K) (tCons (tVar 0) (tCons (tC (.ref X.NoPlace)) (tNil)))))
   (tDrop (tBM K "list" rAppend (tVar 1) (tCons (tC (.str "place")) (tNil))))
   (tNext))
  (tSeq (tIfS (tTru K (tCB (rIsiX K) (tCons (tVar 0) (tCons (tC (.ref X.Alike)) (tNil)))))
   (tDrop (tBM K "list" rAppend (tVar 1) (tCons (tC (.str "alike")) (tNil))))
   (tNext))
  (tSeq (tIfS (tTru K (tCB (rIsiX K) (tCons (tVar 0) (tCons (tC (.ref X.Joined)) (tNil)))))
   (tDrop (tBM K "list" rAppend (tVar 1) (tCons (tC (.str "joined")) (tNil))))
   (tNext))
  (tSeq (tIfS (tTru K (tCB (rIsiX K) (tCons (tVar 0) (tCons (tC (.ref X.NoTie)) (tNil)))))
   (tDrop (tBM K "list" rAppend (tVar 1) (tCons (tC (.str "tie")) (tNil))))
   (tNext))
  (tSeq (tIfS (tOr (tTru K (tCB (rIsiX K) (tCons (tVar 0) (tCons (tC (.ref X.NoCount)) (tNil))))) (tOr (tTru K (tCB (rIsiX K) (tCons (tVar 0) (tCons (tC (.ref X.Tied)) (tNil))))) (tOr (tTru K (tCB (rIsiX K) (tCons (tVar 0) (tCons (tC (.ref X.NoRow)) (tNil))))) (tTru K (tCB (rIsiX K) (tCons (tVar 0) (tCons (tC (.ref X.Fixed)) (tNil))))))))
   (tDrop (tBM K "list" rAppend (tVar 1) (tCons (tC (.str "other")) (tNil))))
   (tNext))
  (tRet (tVar 1)))))))
theorem ok__law_words {P:Program} {w:World} {K:PySem.W.Frag} {mg:Str→Option Value} {base:Heap} {f:Addr} {fd:FuncData} {sp:Sp} {C:Addr} {X:EC} (Fu:Fun K "_law_words" "_law_words" s_law_words f fd) (T:Txt K mg C X)
      (len:∀ vs H Q E,sp vs H Q E→vs.length=1) (run:∀ vs H Q E,sp vs H Q E→rd__law_words K C X { nx:=fun _ H'=>Q .non H',rt:=Q } (start ["_law_e","_law_row"] vs) H):FnOkN P w K mg base 1 f fd ["_law_e"] sp :=
    Fu.okN sc_law_words len fun cdv A outer s H vs Q E hr h=>⟨_,(show PSs (cxN P w K mg base ["_law_e","_law_row"] "_law_words" (defScope s_law_words) f cdv A outer s H) (defBody s_law_words) (rd__law_words K C X) from
  pss_cons (ps_set (i:=1) sc_law_words.nd rfl (Or.inl rfl) (pe_lst (pa_nil)))
  (pss_cons (ps_if (pt_tru (pe_callB call_isiX rfl T.b_isinstance BootT.isinstance (pa_cons (pv 0) (pa_cons (pe_glob rfl T.x_NoPlace rfl) (pa_nil)))) (fun _=>rfl))
   (pss_one (ps_expr (pe_bm PySem.F.plainAttrs_list PySem.F.slot_list_append PySem.F.type_list_append mt_append (pv 1) (pa_cons (pe_str) (pa_nil)))))
   (pss_nil))
  (pss_cons (ps_if (pt_tru (pe_callB call_isiX rfl T.b_isinstance BootT.isinstance (pa_cons (pv 0) (pa_cons (pe_glob rfl T.x_Alike rfl) (pa_nil)))) (fun _=>rfl))
   (pss_one (ps_expr (pe_bm PySem.F.plainAttrs_list PySem.F.slot_list_append PySem.F.type_list_append mt_append (pv 1) (pa_cons (pe_str) (pa_nil)))))
   (pss_nil))
  (pss_cons (ps_if (pt_tru (pe_callB call_isiX rfl T.b_isinstance BootT.isinstance (pa_cons (pv 0) (pa_cons (pe_glob rfl T.x_Joined rfl) (pa_nil)))) (fun _=>rfl))
   (pss_one (ps_expr (pe_bm PySem.F.plainAttrs_list PySem.F.slot_list_append PySem.F.type_list_append mt_append (pv 1) (pa_cons (pe_str) (pa_nil)))))
   (pss_nil))
  (pss_cons (ps_if (pt_tru (pe_callB call_isiX rfl T.b_isinstance BootT.isinstance (pa_cons (pv 0) (pa_cons (pe_glob rfl T.x_NoTie rfl) (pa_nil)))) (fun _=>rfl))
   (pss_one (ps_expr (pe_bm PySem.F.plainAttrs_list PySem.F.slot_list_append PySem.F.type_list_append mt_append (pv 1) (pa_cons (pe_str) (pa_nil)))))
   (pss_nil))
  (pss_cons (ps_if (PW.pt (pw_or (pt_tru (pe_callB call_isiX rfl T.b_isinstance BootT.isinstance (pa_cons (pv 0) (pa_cons (pe_glob rfl T.x_NoCount rfl) (pa_nil)))) (fun _=>rfl)) (pw_or (pt_tru (pe_callB call_isiX rfl T.b_isinstance BootT.isinstance (pa_cons (pv 0) (pa_cons (pe_glob rfl T.x_Tied rfl) (pa_nil)))) (fun _=>rfl)) (pw_or (pt_tru (pe_callB call_isiX rfl T.b_isinstance BootT.isinstance (pa_cons (pv 0) (pa_cons (pe_glob rfl T.x_NoRow rfl) (pa_nil)))) (fun _=>rfl)) (pw_or1 (pt_tru (pe_callB call_isiX rfl T.b_isinstance BootT.isinstance (pa_cons (pv 0) (pa_cons (pe_glob rfl T.x_Fixed rfl) (pa_nil)))) (fun _=>rfl)))))))
   (pss_one (ps_expr (pe_bm PySem.F.plainAttrs_list PySem.F.slot_list_append PySem.F.type_list_append mt_append (pv 1) (pa_cons (pe_str) (pa_nil)))))
   (pss_nil))
  (pss_one (ps_ret (pv 1))))))))),run vs H Q E h⟩
def rd__law_ask (K:PySem.W.Frag) (C:Addr) (E:XK) (sp_Wood_size sp_Wood_link sp_Wood_cut sp_Wood_joined sp_Wood_way sp_Wood_group:Sp):TS :=
  tSeq (tIfS (tTest (tOp (rEqG K) (tVar 1) (tC (.str "link"))))
   (tRet (tMeth C "link" sp_Wood_link [] E (tVar 0) (tCons (tVar 2) (tCons (tVar 3) (tNil)))))
   (tNext))
  (tSeq (tIfS (tTest (tOp (rEqG K) (tVar 1) (tC (.str "cut"))))
   (tRet (tMeth C "cut" sp_Wood_cut [] E (tVar 0) (tCons (tVar 2) (tCons (tVar 3) (tNil)))))
   (tNext))
  (tSeq (tIfS (tTest (tOp (rEqG K) (tVar 1) (tC (.str "joined"))))
   (tRet (tMeth C "joined" sp_Wood_joined [] E (tVar 0) (tCons (tVar 2) (tCons (tVar 3) (tNil)))))
   (tNext))
  (tSeq (tIfS (tTest (tOp (rEqG K) (tVar 1) (tC (.str "way"))))
   (tRet (tMeth C "way" sp_Wood_way [] E (tVar 0) (tCons (tVar 2) (tCons (tVar 3) (tNil)))))
   (tNext))
  (tSeq (tIfS (tTest (tOp (rEqG K) (tVar 1) (tC (.str "group"))))
   (tRet (tMeth C "group" sp_Wood_group [] E (tVar 0) (tCons (tVar 2) (tNil))))
   (tNext))
  (tRet (tMeth C "size" sp_Wood_size [] E (tVar 0) (tCons (tVar 2) (tNil))))))))
theorem ok__law_ask {P:Program} {w:World} {K:PySem.W.Frag} {mg:Str→Option Value} {base:Heap} {f:Addr} {fd:FuncData} {sp:Sp} {C:Addr} {X:EC} (Fu:Fun K "_law_ask" "_law_ask" s_law_ask f fd) (T:Txt K mg C X) {sp_Wood_size:Sp} (c_Wood_size:CalM P w K mg base (CXr P w) 4 C "size" ["self","a"] sp_Wood_size) {sp_Wood_link:Sp} (c_Wood_link:CalM P w K mg base (CXr P w) 6 C "link" ["self","a","b"] sp_Wood_link) {sp_Wood_cut:Sp} (c_Wood_cut:CalM P w K mg base (CXr P w) 6 C "cut" ["self","a","b"] sp_Wood_cut) {sp_Wood_joined:Sp} (c_Wood_joined:CalM P w K mg base (CXr P w) 5 C "joined" ["self","a","b"] sp_Wood_joined) {sp_Wood_way:Sp} (c_Wood_way:CalM P w K mg base (CXr P w) 6 C "way" ["self","a","b"] sp_Wood_way) {sp_Wood_group:Sp} (c_Wood_group:CalM P w K mg base (CXr P w) 4 C "group" ["self","a"] sp_Wood_group)
      (len:∀ vs H Q E,sp vs H Q E→vs.length=4) (run:∀ vs H Q E,sp vs H Q E→rd__law_ask K C E sp_Wood_size sp_Wood_link sp_Wood_cut sp_Wood_joined sp_Wood_way sp_Wood_group { nx:=fun _ H'=>Q .non H',rt:=Q } (start ["_law_wood","_law_word","_law_one","_law_other"] vs) H):FnOk P w K mg base (CXr P w) 7 f fd ["_law_wood","_law_word","_law_one","_law_other"] sp :=
    Fu.okR sc_law_ask len fun cdv A outer s H vs Q E hr h=>⟨_,(show PSs (cxOf (CXr P w) P w K mg base ["_law_wood","_law_word","_law_one","_law_other"] "_law_ask" (defScope s_law_ask) f cdv A outer s H E) (defBody s_law_ask) (rd__law_ask K C E sp_Wood_size sp_Wood_link sp_Wood_cut sp_Wood_joined sp_Wood_way sp_Wood_group) from
  pss_cons (ps_if (pt_cmpR (op_eqG hr.units) (pv 1) (pe_str) (nomark _))
   (pss_one (ps_ret (pcm c_Wood_link T.cl (hr.mono (by decide)) (pv 0) passR (pa_cons (pv 2) (pa_cons (pv 3) (pa_nil))))))
   (pss_nil))
  (pss_cons (ps_if (pt_cmpR (op_eqG hr.units) (pv 1) (pe_str) (nomark _))
   (pss_one (ps_ret (pcm c_Wood_cut T.cl (hr.mono (by decide)) (pv 0) passR (pa_cons (pv 2) (pa_cons (pv 3) (pa_nil))))))
   (pss_nil))
  (pss_cons (ps_if (pt_cmpR (op_eqG hr.units) (pv 1) (pe_str) (nomark _))
   (pss_one (ps_ret (pcm c_Wood_joined T.cl (hr.mono (by decide)) (pv 0) passR (pa_cons (pv 2) (pa_cons (pv 3) (pa_nil))))))
   (pss_nil))
  (pss_cons (ps_if (pt_cmpR (op_eqG hr.units) (pv 1) (pe_str) (nomark _))
   (pss_one (ps_ret (pcm c_Wood_way T.cl (hr.mono (by decide)) (pv 0) passR (pa_cons (pv 2) (pa_cons (pv 3) (pa_nil))))))
   (pss_nil))
  (pss_cons (ps_if (pt_cmpR (op_eqG hr.units) (pv 1) (pe_str) (nomark _))
   (pss_one (ps_ret (pcm c_Wood_group T.cl (hr.mono (by decide)) (pv 0) passR (pa_cons (pv 2) (pa_nil)))))
   (pss_nil))
  (pss_one (ps_ret (pcm c_Wood_size T.cl (hr.mono (by decide)) (pv 0) passR (pa_cons (pv 2) (pa_nil)))))))))),run vs H Q E h⟩
def rd__law_refused (K:PySem.W.Frag) (C:Addr) (X:EC) (sp__law_ask sp__law_words:Sp):TS :=
  tSeq (tTry K sp__law_ask (tCons (tVar 0) (tCons (tVar 1) (tCons (tVar 2) (tCons (tVar 3) (tNil))))) (.ref X.TieError) 5
   (tRet (tOp (rEqG K) (tCall sp__law_words [] E0 (tCons (tVar 5) (tNil))) (tLst (tCons (tVar 4) (tNil))))))
  (tRet (tC (.bl false)))
theorem ok__law_refused {P:Program} {w:World} {K:PySem.W.Frag} {mg:Str→Option Value} {base:Heap} {f:Addr} {fd:FuncData} {sp:Sp} {C:Addr} {X:EC} (Fu:Fun K "_law_refused" "_law_refused" s_law_refused f fd) (T:Txt K mg C X) {sp__law_ask:Sp} (c__law_ask:Cal P w K mg base (CXr P w) 7 "_law_ask" ["_law_wood","_law_word","_law_one","_law_other"] sp__law_ask) {sp__law_words:Sp} (c__law_words:CalN P w K mg base 1 "_law_words" ["_law_e"] sp__law_words)
      (len:∀ vs H Q E,sp vs H Q E→vs.length=5) (run:∀ vs H Q E,sp vs H Q E→rd__law_refused K C X sp__law_ask sp__law_words { nx:=fun _ H'=>Q .non H',rt:=Q } (start ["_law_wood","_law_word","_law_one","_law_other","_law_due","_law_e"] vs) H):FnOk P w K mg base CX0 8 f fd ["_law_wood","_law_word","_law_one","_law_other","_law_due"] sp :=
    Fu.ok sc_law_refused len fun cdv A outer s H vs Q E hr h=>⟨_,(show PSs (cxOf CX0 P w K mg base ["_law_wood","_law_word","_law_one","_law_other","_law_due","_law_e"] "_law_refused" (defScope s_law_refused) f cdv A outer s H E).nox (defBody s_law_refused) (rd__law_refused K C X sp__law_ask sp__law_words) from
  pss_cons (ps_try (i:=5) c__law_ask.G (hr.mono (by decide)) rfl c__law_ask.m c__law_ask.kp c__law_ask.b (pa_cons (pv 0) (pa_cons (pv 1) (pa_cons (pv 2) (pa_cons (pv 3) (pa_nil))))) rfl ⟨rfl,rfl⟩ rfl T.x_TieError sc_law_refused.nd rfl rfl (fun _=>pss_one (ps_ret (pe_cmpR (op_eqG hr.units) (pe_callN c__law_words.G ((hr.n.mark _).mono (by decide)) rfl c__law_words.m c__law_words.kp c__law_words.b (pa_cons (pv 5) (pa_nil))) (pe_lst (pa_cons (pv 4) (pa_nil))) (nomark _)))))
  (pss_one (ps_ret (pe_bl)))),run vs H Q E h⟩
def lp__law_questions_1 (K:PySem.W.Frag) (C:Addr) (sp__law_refused sp__law_place:Sp):TS :=
  tFor (iSeq K (tLst (tCons (tC (.str "joined")) (tCons (tC (.str "way")) (tNil))))) (gName 4)
   (tIfS (tNot (tTru K (tCall sp__law_refused [] E0 (tCons (tVar 0) (tCons (tVar 4) (tCons (tVar 2) (tCons (tVar 3) (tCons (tC (.str "place")) (tNil)))))))))
   (tRet (tC (.bl false)))
   (tNext))
def lp__law_questions_2 (K:PySem.W.Frag) (C:Addr) (sp__law_refused sp__law_place:Sp):TS :=
  tFor (iSeq K (tLst (tCons (tVar 2) (tCons (tVar 3) (tNil))))) (gName 5)
   (tIfS (tNot (tTru K (tCall sp__law_place [] E0 (tCons (tVar 1) (tCons (tVar 5) (tNil))))))
   (tSeq (tIfS (tNot (tTru K (tCall sp__law_refused [] E0 (tCons (tVar 0) (tCons (tC (.str "group")) (tCons (tVar 5) (tCons (tVar 5) (tCons (tC (.str "place")) (tNil)))))))))
   (tRet (tC (.bl false)))
   (tNext))
  (tIfS (tNot (tTru K (tCall sp__law_refused [] E0 (tCons (tVar 0) (tCons (tC (.str "size")) (tCons (tVar 5) (tCons (tVar 5) (tCons (tC (.str "place")) (tNil)))))))))
   (tRet (tC (.bl false)))
   (tNext)))
   (tNext))
def rd__law_questions (K:PySem.W.Frag) (C:Addr) (sp__law_refused sp__law_place:Sp):TS :=
  tSeq (lp__law_questions_1 K C sp__law_refused sp__law_place)
  (tSeq (lp__law_questions_2 K C sp__law_refused sp__law_place)
  (tRet (tAndV (tCall sp__law_refused [] E0 (tCons (tVar 0) (tCons (tC (.str "link")) (tCons (tVar 2) (tCons (tVar 3) (tCons (tC (.str "place")) (tNil))))))) (tCall sp__law_refused [] E0 (tCons (tVar 0) (tCons (tC (.str "cut")) (tCons (tVar 2) (tCons (tVar 3) (tCons (tC (.str "place")) (tNil))))))))))
theorem ok__law_questions {P:Program} {w:World} {K:PySem.W.Frag} {mg:Str→Option Value} {base:Heap} {f:Addr} {fd:FuncData} {sp:Sp} {C:Addr} {X:EC} (Fu:Fun K "_law_questions" "_law_questions" s_law_questions f fd) (T:Txt K mg C X) {sp__law_refused:Sp} (c__law_refused:Cal P w K mg base CX0 8 "_law_refused" ["_law_wood","_law_word","_law_one","_law_other","_law_due"] sp__law_refused) {sp__law_place:Sp} (c__law_place:Cal P w K mg base CX0 1 "_law_place" ["_law_n","_law_thing_here"] sp__law_place)
      (len:∀ vs H Q E,sp vs H Q E→vs.length=4) (run:∀ vs H Q E,sp vs H Q E→rd__law_questions K C sp__law_refused sp__law_place { nx:=fun _ H'=>Q .non H',rt:=Q } (start ["_law_wood","_law_n","_law_one","_law_other","_law_word","_law_thing_here"] vs) H):FnOk P w K mg base CX0 9 f fd ["_law_wood","_law_n","_law_one","_law_other"] sp :=
    Fu.ok sc_law_questions len fun cdv A outer s H vs Q E hr h=>⟨_,(show PSs (cxOf CX0 P w K mg base ["_law_wood","_law_n","_law_one","_law_other","_law_word","_law_thing_here"] "_law_questions" (defScope s_law_questions) f cdv A outer s H E).nox (defBody s_law_questions) (rd__law_questions K C sp__law_refused sp__law_place) from
  pss_cons (ps_for PassesOwn.never rfl (pi_seq (pe_lst (pa_cons (pe_str) (pa_cons (pe_str) (pa_nil))))) (pg_name (i:=4) sc_law_questions.nd rfl (Or.inl rfl))
   (pss_one (ps_if (pt_not (pt_tru (pcl c__law_refused (hr.mono (by decide)) rfl pass0 (pa_cons (pv 0) (pa_cons (pv 4) (pa_cons (pv 2) (pa_cons (pv 3) (pa_cons (pe_str) (pa_nil))))))) (fun _=>rfl)))
   (pss_one (ps_ret (pe_bl)))
   (pss_nil))))
  (pss_cons (ps_for PassesOwn.never rfl (pi_seq (pe_lst (pa_cons (pv 2) (pa_cons (pv 3) (pa_nil))))) (pg_name (i:=5) sc_law_questions.nd rfl (Or.inl rfl))
   (pss_one (ps_if (pt_not (pt_tru (pcl c__law_place (hr.mono (by decide)) rfl pass0 (pa_cons (pv 1) (pa_cons (pv 5) (pa_nil)))) (fun _=>rfl)))
   (pss_cons (ps_if (pt_not (pt_tru (pcl c__law_refused (hr.mono (by decide)) rfl pass0 (pa_cons (pv 0) (pa_cons (pe_str) (pa_cons (pv 5) (pa_cons (pv 5) (pa_cons (pe_str) (pa_nil))))))) (fun _=>rfl)))
   (pss_one (ps_ret (pe_bl)))
   (pss_nil))
  (pss_one (ps_if (pt_not (pt_tru (pcl c__law_refused (hr.mono (by decide)) rfl pass0 (pa_cons (pv 0) (pa_cons (pe_str) (pa_cons (pv 5) (pa_cons (pv 5) (pa_cons (pe_str) (pa_nil))))))) (fun _=>rfl)))
   (pss_one (ps_ret (pe_bl)))
   (pss_nil))))
   (pss_nil))))
  (pss_one (ps_ret (pe_and (pcl c__law_refused (hr.mono (by decide)) rfl pass0 (pa_cons (pv 0) (pa_cons (pe_str) (pa_cons (pv 2) (pa_cons (pv 3) (pa_cons (pe_str) (pa_nil))))))) (pe_one (pcl c__law_refused (hr.mono (by decide)) rfl pass0 (pa_cons (pv 0) (pa_cons (pe_str) (pa_cons (pv 2) (pa_cons (pv 3) (pa_cons (pe_str) (pa_nil))))))))))))),run vs H Q E h⟩
def rd__law_seen (K:PySem.W.Frag) (C:Addr) (sp_Wood_group sp_Wood_way:Sp):TS :=
  tRet (tComp 1 [0] (iRng1 (tCons (tVar 1) (tNil))) (gName 0) (tYes) (tTup (tCons (tMeth C "group" sp_Wood_group [] E0 (tVar 1) (tCons (tVar 0) (tNil))) (tCons (tMeth C "way" sp_Wood_way [] E0 (tVar 1) (tCons (tC (.int 0)) (tCons (tVar 0) (tNil)))) (tNil)))))
theorem ok__law_seen {P:Program} {w:World} {K:PySem.W.Frag} {mg:Str→Option Value} {base:Heap} {f:Addr} {fd:FuncData} {sp:Sp} {C:Addr} {X:EC} (Fu:Fun K "_law_seen" "_law_seen" s_law_seen f fd) (T:Txt K mg C X) {sp_Wood_group:Sp} (c_Wood_group:CalM P w K mg base (CXr P w) 4 C "group" ["self","a"] sp_Wood_group) {sp_Wood_way:Sp} (c_Wood_way:CalM P w K mg base (CXr P w) 6 C "way" ["self","a","b"] sp_Wood_way)
      (len:∀ vs H Q E,sp vs H Q E→vs.length=2) (run:∀ vs H Q E,sp vs H Q E→rd__law_seen K C sp_Wood_group sp_Wood_way { nx:=fun _ H'=>Q .non H',rt:=Q } (start ["_law_wood","_law_n"] vs) H):FnOk P w K mg base CX0 7 f fd ["_law_wood","_law_n"] sp :=
    Fu.ok sc_law_seen len fun cdv A outer s H vs Q E hr h=>⟨_,(show PSs (cxOf CX0 P w K mg base ["_law_wood","_law_n"] "_law_seen" (defScope s_law_seen) f cdv A outer s H E).nox (defBody s_law_seen) (rd__law_seen K C sp_Wood_group sp_Wood_way) from
  pss_one (ps_ret (pe_comp ["_law_a"] (ys:=["_law_wood"]) [0] rfl (pi_range1 rfl T.b_range (pa_cons (pv 1) (pa_nil))) ⟨rfl,.inl rfl,rfl,trivial⟩ (fun _ _ _=>pg_name (i:=0) (show (["_law_a","_law_wood"]:List Str).Nodup by decide +kernel) rfl (Or.inl rfl)) (fun _ _ _=>pifs_nil) (fun _ _ _=>pe_tup (pa_cons (pcm c_Wood_group T.cl (hr.mono (by decide)) (pv 1) passR0 (pa_cons (pv 0) (pa_nil))) (pa_cons (pcm c_Wood_way T.cl (hr.mono (by decide)) (pv 1) passR0 (pa_cons (pe_int) (pa_cons (pv 0) (pa_nil)))) (pa_nil))))))),run vs H Q E h⟩
def rd__law_linked (K:PySem.W.Frag) (C:Addr) (sp__law_seen sp__law_refused sp__law_members sp_Wood_way sp_Wood_cut sp_Wood_link:Sp):TS :=
  tSeq (tAsg (tCall sp__law_seen [] E0 (tCons (tVar 0) (tCons (tVar 2) (tNil)))) (gName 5))
  (tSeq (tIfS (tTest (tOp (rInG K false) (tVar 4) (tCall sp__law_members [] E0 (tCons (tVar 1) (tCons (tVar 3) (tNil))))))
   (tSeq (tIfS (tOr (tNot (tTru K (tCall sp__law_refused [] E0 (tCons (tVar 0) (tCons (tC (.str "link")) (tCons (tVar 3) (tCons (tVar 4) (tCons (tC (.str "joined")) (tNil))))))))) (tTest (tOp (rNeG K) (tCall sp__law_seen [] E0 (tCons (tVar 0) (tCons (tVar 2) (tNil)))) (tVar 5))))
   (tRet (tC (.bl false)))
   (tNext))
  (tSeq (tAsg (tMeth C "way" sp_Wood_way [] E0 (tVar 0) (tCons (tVar 3) (tCons (tVar 4) (tNil)))) (gName 6))
  (tSeq (tAsg (tTup (tCons (tCB (rMin2) (tCons (tOp (rIxG K) (tVar 6) (tC (.int 0))) (tCons (tOp (rIxG K) (tVar 6) (tC (.int 1))) (tNil)))) (tCons (tCB (rMax2) (tCons (tOp (rIxG K) (tVar 6) (tC (.int 0))) (tCons (tOp (rIxG K) (tVar 6) (tC (.int 1))) (tNil)))) (tNil)))) (gName 7))
  (tSeq (tDrop (tMeth C "cut" sp_Wood_cut [] E0 (tVar 0) (tCons (tOp (rIxG K) (tVar 6) (tC (.int 0))) (tCons (tOp (rIxG K) (tVar 6) (tC (.int 1))) (tNil)))))
  (tDrop (tBM K "dict" rPopD (tVar 1) (tCons (tVar 7) (tNil))))))))
   (tIfS (tOr (tNot (tTru K (tCall sp__law_refused [] E0 (tCons (tVar 0) (tCons (tC (.str "cut")) (tCons (tVar 3) (tCons (tVar 4) (tCons (tC (.str "tie")) (tNil))))))))) (tTest (tOp (rNeG K) (tCall sp__law_seen [] E0 (tCons (tVar 0) (tCons (tVar 2) (tNil)))) (tVar 5))))
   (tRet (tC (.bl false)))
   (tNext)))
  (tSeq (tIfS (tOr (tNot (tTru K (tCall sp__law_refused [] E0 (tCons (tVar 0) (tCons (tC (.str "cut")) (tCons (tVar 3) (tCons (tVar 4) (tCons (tC (.str "tie")) (tNil))))))))) (tB (tNotN (tMeth C "link" sp_Wood_link [] E0 (tVar 0) (tCons (tVar 3) (tCons (tVar 4) (tNil)))))))
   (tRet (tC (.bl false)))
   (tNext))
  (tSeq (tAsg (tC (.bl true)) (gSub (tVar 1) (tTup (tCons (tCB (rMin2) (tCons (tVar 3) (tCons (tVar 4) (tNil)))) (tCons (tCB (rMax2) (tCons (tVar 3) (tCons (tVar 4) (tNil)))) (tNil)))) rSetG))
  (tRet (tCall sp__law_refused [] E0 (tCons (tVar 0) (tCons (tC (.str "link")) (tCons (tVar 4) (tCons (tVar 3) (tCons (tC (.str "joined")) (tNil)))))))))))
theorem ok__law_linked {P:Program} {w:World} {K:PySem.W.Frag} {mg:Str→Option Value} {base:Heap} {f:Addr} {fd:FuncData} {sp:Sp} {C:Addr} {X:EC} (Fu:Fun K "_law_linked" "_law_linked" s_law_linked f fd) (T:Txt K mg C X) {sp__law_seen:Sp} (c__law_seen:Cal P w K mg base CX0 7 "_law_seen" ["_law_wood","_law_n"] sp__law_seen) {sp__law_refused:Sp} (c__law_refused:Cal P w K mg base CX0 8 "_law_refused" ["_law_wood","_law_word","_law_one","_law_other","_law_due"] sp__law_refused) {sp__law_members:Sp} (c__law_members:Cal P w K mg base CX0 1 "_law_members" ["_law_known","_law_a"] sp__law_members) {sp_Wood_way:Sp} (c_Wood_way:CalM P w K mg base (CXr P w) 6 C "way" ["self","a","b"] sp_Wood_way) {sp_Wood_cut:Sp} (c_Wood_cut:CalM P w K mg base (CXr P w) 6 C "cut" ["self","a","b"] sp_Wood_cut) {sp_Wood_link:Sp} (c_Wood_link:CalM P w K mg base (CXr P w) 6 C "link" ["self","a","b"] sp_Wood_link)
      (len:∀ vs H Q E,sp vs H Q E→vs.length=5) (run:∀ vs H Q E,sp vs H Q E→rd__law_linked K C sp__law_seen sp__law_refused sp__law_members sp_Wood_way sp_Wood_cut sp_Wood_link { nx:=fun _ H'=>Q .non H',rt:=Q } (start ["_law_wood","_law_known","_law_n","_law_a","_law_b","_law_before","_law_way","_law_tie"] vs) H):FnOk P w K mg base CX0 9 f fd ["_law_wood","_law_known","_law_n","_law_a","_law_b"] sp :=
    Fu.ok sc_law_linked len fun cdv A outer s H vs Q E hr h=>⟨_,(show PSs (cxOf CX0 P w K mg base ["_law_wood","_law_known","_law_n","_law_a","_law_b","_law_before","_law_way","_law_tie"] "_law_linked" (defScope s_law_linked) f cdv A outer s H E).nox (defBody s_law_linked) (rd__law_linked K C sp__law_seen sp__law_refused sp__law_members sp_Wood_way sp_Wood_cut sp_Wood_link) from
  pss_cons (ps_set (i:=5) sc_law_linked.nd rfl (Or.inl rfl) (pcl c__law_seen (hr.mono (by decide)) rfl pass0 (pa_cons (pv 0) (pa_cons (pv 2) (pa_nil)))))
  (pss_cons (ps_if (pt_cmpR (op_inG hr.units) (pv 4) (pcl c__law_members (hr.mono (by decide)) rfl pass0 (pa_cons (pv 1) (pa_cons (pv 3) (pa_nil)))) (by with_unfolding_all rfl))
   (pss_cons (ps_if (PW.pt (pw_or (pt_not (pt_tru (pcl c__law_refused (hr.mono (by decide)) rfl pass0 (pa_cons (pv 0) (pa_cons (pe_str) (pa_cons (pv 3) (pa_cons (pv 4) (pa_cons (pe_str) (pa_nil))))))) (fun _=>rfl))) (pw_or1 (pt_cmpR (op_neG hr.units) (pcl c__law_seen (hr.mono (by decide)) rfl pass0 (pa_cons (pv 0) (pa_cons (pv 2) (pa_nil)))) (pv 5) (nomark _)))))
   (pss_one (ps_ret (pe_bl)))
   (pss_nil))
  (pss_cons (ps_set (i:=6) sc_law_linked.nd rfl (Or.inl rfl) (pcm c_Wood_way T.cl (hr.mono (by decide)) (pv 0) passR0 (pa_cons (pv 3) (pa_cons (pv 4) (pa_nil)))))
  (pss_cons (ps_set (i:=7) sc_law_linked.nd rfl (Or.inl rfl) (pe_tup (pa_cons (pe_callB (call_min2 rfl) rfl T.b_min BootT.min (pa_cons (pe_ix (ix_G hr.units) (pv 6) (pe_int) (fun _ _=>rfl)) (pa_cons (pe_ix (ix_G hr.units) (pv 6) (pe_int) (fun _ _=>rfl)) (pa_nil)))) (pa_cons (pe_callB (call_max2 rfl) rfl T.b_max BootT.max (pa_cons (pe_ix (ix_G hr.units) (pv 6) (pe_int) (fun _ _=>rfl)) (pa_cons (pe_ix (ix_G hr.units) (pv 6) (pe_int) (fun _ _=>rfl)) (pa_nil)))) (pa_nil)))))
  (pss_cons (ps_expr (pcm c_Wood_cut T.cl (hr.mono (by decide)) (pv 0) passR0 (pa_cons (pe_ix (ix_G hr.units) (pv 6) (pe_int) (fun _ _=>rfl)) (pa_cons (pe_ix (ix_G hr.units) (pv 6) (pe_int) (fun _ _=>rfl)) (pa_nil)))))
  (pss_one (ps_expr (pe_bm PySem.F.plainAttrs_dict PySem.F.slot_dict_pop PySem.F.type_dict_pop (mt_popD hr.units) (pv 1) (pa_cons (pv 7) (pa_nil)))))))))
   (pss_one (ps_if (PW.pt (pw_or (pt_not (pt_tru (pcl c__law_refused (hr.mono (by decide)) rfl pass0 (pa_cons (pv 0) (pa_cons (pe_str) (pa_cons (pv 3) (pa_cons (pv 4) (pa_cons (pe_str) (pa_nil))))))) (fun _=>rfl))) (pw_or1 (pt_cmpR (op_neG hr.units) (pcl c__law_seen (hr.mono (by decide)) rfl pass0 (pa_cons (pv 0) (pa_cons (pv 2) (pa_nil)))) (pv 5) (nomark _)))))
   (pss_one (ps_ret (pe_bl)))
   (pss_nil))))
  (pss_cons (ps_if (PW.pt (pw_or (pt_not (pt_tru (pcl c__law_refused (hr.mono (by decide)) rfl pass0 (pa_cons (pv 0) (pa_cons (pe_str) (pa_cons (pv 3) (pa_cons (pv 4) (pa_cons (pe_str) (pa_nil))))))) (fun _=>rfl))) (pw_or1 (pt_cmp (pc_notN (pcm c_Wood_link T.cl (hr.mono (by decide)) (pv 0) passR0 (pa_cons (pv 3) (pa_cons (pv 4) (pa_nil)))))))))
   (pss_one (ps_ret (pe_bl)))
   (pss_nil))
  (pss_cons (ps_asg (pe_bl) (pg_sub (pv 1) (pe_tup (pa_cons (pe_callB (call_min2 rfl) rfl T.b_min BootT.min (pa_cons (pv 3) (pa_cons (pv 4) (pa_nil)))) (pa_cons (pe_callB (call_max2 rfl) rfl T.b_max BootT.max (pa_cons (pv 3) (pa_cons (pv 4) (pa_nil)))) (pa_nil)))) (set_G hr.units)))
  (pss_one (ps_ret (pcl c__law_refused (hr.mono (by decide)) rfl pass0 (pa_cons (pv 0) (pa_cons (pe_str) (pa_cons (pv 4) (pa_cons (pv 3) (pa_cons (pe_str) (pa_nil))))))))))))),run vs H Q E h⟩
def lp_law_1 (K:PySem.W.Frag) (C:Addr) (sp_Wood___init__ sp__law_thing sp_Wood_ties sp__law_cell_at sp__law_seen sp__law_place sp__law_questions sp__law_linked sp_Wood_cut sp__law_refused:Sp):TS :=
  tFor (iRng3 (tCons (tC (.int 1)) (tCons (tCB (rMin2) (tCons (tOp (rI0 fun i j=>.int (i - j)) (tCB (rLen K) (tCons (tVar 0) (tNil))) (tC (.int 1))) (tCons (tC (.int 25)) (tNil)))) (tCons (tC (.int 2)) (tNil))))) (gName 4)
   (tSeq (tAsg (tCall sp__law_thing [] E0 (tCons (tVar 1) (tCons (tOp (rIxG K) (tVar 0) (tVar 4)) (tNil)))) (gName 5))
  (tSeq (tAsg (tCall sp__law_thing [] E0 (tCons (tVar 1) (tCons (tOp (rIxG K) (tVar 0) (tOp (rAddG) (tVar 4) (tC (.int 1)))) (tNil)))) (gName 6))
  (tSeq (tIfS (tOr (tNot (tTru K (tCall sp__law_place [] E0 (tCons (tVar 1) (tCons (tVar 5) (tNil)))))) (tNot (tTru K (tCall sp__law_place [] E0 (tCons (tVar 1) (tCons (tVar 6) (tNil)))))))
   (tSeq (tAsg (tCall sp__law_seen [] E0 (tCons (tVar 2) (tCons (tVar 1) (tNil)))) (gName 7))
  (tIfS (tOr (tNot (tTru K (tCall sp__law_questions [] E0 (tCons (tVar 2) (tCons (tVar 1) (tCons (tVar 5) (tCons (tVar 6) (tNil)))))))) (tTest (tOp (rNeG K) (tCall sp__law_seen [] E0 (tCons (tVar 2) (tCons (tVar 1) (tNil)))) (tVar 7))))
   (tRet (tC (.bl false)))
   (tNext)))
   (tIfS (tTest (tOp (rEqG K) (tVar 5) (tVar 6)))
   (tIfS (tOr (tNot (tTru K (tCall sp__law_refused [] E0 (tCons (tVar 2) (tCons (tC (.str "link")) (tCons (tVar 5) (tCons (tVar 5) (tCons (tC (.str "alike")) (tNil))))))))) (tNot (tTru K (tCall sp__law_refused [] E0 (tCons (tVar 2) (tCons (tC (.str "cut")) (tCons (tVar 5) (tCons (tVar 5) (tCons (tC (.str "alike")) (tNil))))))))))
   (tRet (tC (.bl false)))
   (tNext))
   (tIfS (tNot (tTru K (tCall sp__law_linked [] E0 (tCons (tVar 2) (tCons (tVar 3) (tCons (tVar 1) (tCons (tVar 5) (tCons (tVar 6) (tNil)))))))))
   (tRet (tC (.bl false)))
   (tNext))))
  (tSeq (tIfS (tTest (tOp (rNeG K) (tMeth C "ties" sp_Wood_ties [] E0 (tVar 2) tNil) (tCB (rSortedH K) (tCons (tVar 3) (tNil)))))
   (tRet (tC (.bl false)))
   (tNext))
  (tIfS (tAnd (tTest (tOp (rEqG K) (tOp (rI (fun _ j=>0 < j) fun i j=>.int (i % j)) (tVar 4) (tC (.int 4))) (tC (.int 1)))) (tTest (tOp (rI0 fun i j=>.bl (decide (j < i))) (tCB rLenT (tCons (tVar 3) (tNil))) (tC (.int 0)))))
   (tSeq (tAsg (tOp (rIxG K) (tCB (rSortedH K) (tCons (tVar 3) (tNil))) (tOp (rI (fun _ j=>0 < j) fun i j=>.int (i % j)) (tOp (rI CDiv fun i j=>.int (i / j)) (tOp (rIxG K) (tVar 0) (tVar 4)) (tC (.int 5))) (tCB rLenT (tCons (tVar 3) (tNil))))) (gTup K 2 (gCons (gName 8) (gCons (gName 9) (gNil)))))
  (tSeq (tDrop (tBM K "dict" rPopD (tVar 3) (tCons (tTup (tCons (tVar 8) (tCons (tVar 9) (tNil)))) (tNil))))
  (tIfS (tOr (tB (tNotN (tMeth C "cut" sp_Wood_cut [] E0 (tVar 2) (tCons (tVar 8) (tCons (tVar 9) (tNil)))))) (tNot (tTru K (tCall sp__law_refused [] E0 (tCons (tVar 2) (tCons (tC (.str "cut")) (tCons (tVar 9) (tCons (tVar 8) (tCons (tC (.str "tie")) (tNil))))))))))
   (tRet (tC (.bl false)))
   (tNext))))
   (tNext))))))
def rd_law (K:PySem.W.Frag) (C:Addr) (sp_Wood___init__ sp__law_thing sp_Wood_ties sp__law_cell_at sp__law_seen sp__law_place sp__law_questions sp__law_linked sp_Wood_cut sp__law_refused:Sp):TS :=
  tSeq (tAsg (tOp (rAddG) (tC (.int 1)) (tOp (rI (fun _ j=>0 < j) fun i j=>.int (i % j)) (tCall sp__law_cell_at [] E0 (tCons (tVar 0) (tCons (tC (.int 0)) (tNil)))) (tC (.int 20)))) (gName 1))
  (tSeq (tAsg (tMake C sp_Wood___init__ [] E0 (tCons (tVar 1) (tNil))) (gName 2))
  (tSeq (tAsg (tDNewT) (gName 3))
  (tSeq (lp_law_1 K C sp_Wood___init__ sp__law_thing sp_Wood_ties sp__law_cell_at sp__law_seen sp__law_place sp__law_questions sp__law_linked sp_Wood_cut sp__law_refused)
  (tRet (tOp (rEqG K) (tMeth C "ties" sp_Wood_ties [] E0 (tVar 2) tNil) (tCB (rSortedH K) (tCons (tVar 3) (tNil))))))))
theorem ok_law {P:Program} {w:World} {K:PySem.W.Frag} {mg:Str→Option Value} {base:Heap} {f:Addr} {fd:FuncData} {sp:Sp} {C:Addr} {X:EC} (Fu:Fun K "law" "law" slaw f fd) (T:Txt K mg C X) {sp_Wood___init__:Sp} (c_Wood___init__:CalI P w K mg base CX0 1 C ["self","n"] sp_Wood___init__) {sp__law_thing:Sp} (c__law_thing:Cal P w K mg base CX0 1 "_law_thing" ["_law_n","_law_cell"] sp__law_thing) {sp_Wood_ties:Sp} (c_Wood_ties:CalM P w K mg base CX0 2 C "ties" ["self"] sp_Wood_ties) {sp__law_cell_at:Sp} (c__law_cell_at:Cal P w K mg base CX0 1 "_law_cell_at" ["_law_script","_law_k"] sp__law_cell_at) {sp__law_seen:Sp} (c__law_seen:Cal P w K mg base CX0 7 "_law_seen" ["_law_wood","_law_n"] sp__law_seen) {sp__law_place:Sp} (c__law_place:Cal P w K mg base CX0 1 "_law_place" ["_law_n","_law_thing_here"] sp__law_place) {sp__law_questions:Sp} (c__law_questions:Cal P w K mg base CX0 9 "_law_questions" ["_law_wood","_law_n","_law_one","_law_other"] sp__law_questions) {sp__law_linked:Sp} (c__law_linked:Cal P w K mg base CX0 9 "_law_linked" ["_law_wood","_law_known","_law_n","_law_a","_law_b"] sp__law_linked) {sp_Wood_cut:Sp} (c_Wood_cut:CalM P w K mg base (CXr P w) 6 C "cut" ["self","a","b"] sp_Wood_cut) {sp__law_refused:Sp} (c__law_refused:Cal P w K mg base CX0 8 "_law_refused" ["_law_wood","_law_word","_law_one","_law_other","_law_due"] sp__law_refused)
      (len:∀ vs H Q E,sp vs H Q E→vs.length=1) (run:∀ vs H Q E,sp vs H Q E→rd_law K C sp_Wood___init__ sp__law_thing sp_Wood_ties sp__law_cell_at sp__law_seen sp__law_place sp__law_questions sp__law_linked sp_Wood_cut sp__law_refused { nx:=fun _ H'=>Q .non H',rt:=Q } (start ["_law_script","_law_n","_law_wood","_law_known","_law_k","_law_one","_law_other","_law_before","_law_a","_law_b"] vs) H):FnOk P w K mg base CX0 10 f fd ["_law_script"] sp :=
    Fu.ok sclaw len fun cdv A outer s H vs Q E hr h=>⟨_,(show PSs (cxOf CX0 P w K mg base ["_law_script","_law_n","_law_wood","_law_known","_law_k","_law_one","_law_other","_law_before","_law_a","_law_b"] "law" (defScope slaw) f cdv A outer s H E).nox (defBody slaw) (rd_law K C sp_Wood___init__ sp__law_thing sp_Wood_ties sp__law_cell_at sp__law_seen sp__law_place sp__law_questions sp__law_linked sp_Wood_cut sp__law_refused) from
  pss_cons (ps_set (i:=1) sclaw.nd rfl (Or.inl rfl) (pe_op (op_addG) (pe_int) (pe_op (op_mod) (pcl c__law_cell_at (hr.mono (by decide)) rfl pass0 (pa_cons (pv 0) (pa_cons (pe_int) (pa_nil)))) (pe_int))))
  (pss_cons (ps_set (i:=2) sclaw.nd rfl (Or.inl rfl) (pe_make c_Wood___init__.m c_Wood___init__.G (hr.mono (by decide)) rfl T.mgC c_Wood___init__.b .nil pass0 (pa_cons (pv 1) (pa_nil))))
  (pss_cons (ps_set (i:=3) sclaw.nd rfl (Or.inl rfl) (pe_dnewT))
  (pss_cons (ps_for PassesOwn.never rfl (pi_range3 rfl T.b_range (pa_cons (pe_int) (pa_cons (pe_callB (call_min2 rfl) rfl T.b_min BootT.min (pa_cons (pe_op (op_sub) (pe_callB (call_lenG) rfl T.b_len BootT.len (pa_cons (pv 0) (pa_nil))) (pe_int)) (pa_cons (pe_int) (pa_nil)))) (pa_cons (pe_int) (pa_nil))))) (pg_name (i:=4) sclaw.nd rfl (Or.inl rfl))
   (pss_cons (ps_set (i:=5) sclaw.nd rfl (Or.inl rfl) (pcl c__law_thing (hr.mono (by decide)) rfl pass0 (pa_cons (pv 1) (pa_cons (pe_ix (ix_G hr.units) (pv 0) (pv 4) (fun _ _=>rfl)) (pa_nil)))))
  (pss_cons (ps_set (i:=6) sclaw.nd rfl (Or.inl rfl) (pcl c__law_thing (hr.mono (by decide)) rfl pass0 (pa_cons (pv 1) (pa_cons (pe_ix (ix_G hr.units) (pv 0) (pe_op (op_addG) (pv 4) (pe_int)) (fun _ _=>rfl)) (pa_nil)))))
  (pss_cons (ps_if (PW.pt (pw_or (pt_not (pt_tru (pcl c__law_place (hr.mono (by decide)) rfl pass0 (pa_cons (pv 1) (pa_cons (pv 5) (pa_nil)))) (fun _=>rfl))) (pw_or1 (pt_not (pt_tru (pcl c__law_place (hr.mono (by decide)) rfl pass0 (pa_cons (pv 1) (pa_cons (pv 6) (pa_nil)))) (fun _=>rfl))))))
   (pss_cons (ps_set (i:=7) sclaw.nd rfl (Or.inl rfl) (pcl c__law_seen (hr.mono (by decide)) rfl pass0 (pa_cons (pv 2) (pa_cons (pv 1) (pa_nil)))))
  (pss_one (ps_if (PW.pt (pw_or (pt_not (pt_tru (pcl c__law_questions (hr.mono (by decide)) rfl pass0 (pa_cons (pv 2) (pa_cons (pv 1) (pa_cons (pv 5) (pa_cons (pv 6) (pa_nil)))))) (fun _=>rfl))) (pw_or1 (pt_cmpR (op_neG hr.units) (pcl c__law_seen (hr.mono (by decide)) rfl pass0 (pa_cons (pv 2) (pa_cons (pv 1) (pa_nil)))) (pv 7) (nomark _)))))
   (pss_one (ps_ret (pe_bl)))
   (pss_nil))))
   (pss_one (ps_if (pt_cmpR (op_eqG hr.units) (pv 5) (pv 6) (nomark _))
   (pss_one (ps_if (PW.pt (pw_or (pt_not (pt_tru (pcl c__law_refused (hr.mono (by decide)) rfl pass0 (pa_cons (pv 2) (pa_cons (pe_str) (pa_cons (pv 5) (pa_cons (pv 5) (pa_cons (pe_str) (pa_nil))))))) (fun _=>rfl))) (pw_or1 (pt_not (pt_tru (pcl c__law_refused (hr.mono (by decide)) rfl pass0 (pa_cons (pv 2) (pa_cons (pe_str) (pa_cons (pv 5) (pa_cons (pv 5) (pa_cons (pe_str) (pa_nil))))))) (fun _=>rfl))))))
   (pss_one (ps_ret (pe_bl)))
   (pss_nil)))
   (pss_one (ps_if (pt_not (pt_tru (pcl c__law_linked (hr.mono (by decide)) rfl pass0 (pa_cons (pv 2) (pa_cons (pv 3) (pa_cons (pv 1) (pa_cons (pv 5) (pa_cons (pv 6) (pa_nil))))))) (fun _=>rfl)))
   (pss_one (ps_ret (pe_bl)))
   (pss_nil))))))
  (pss_cons (ps_if (pt_cmpR (op_neG hr.units) (pcm0 c_Wood_ties T.cl (hr.mono (by decide)) (pv 2) pass0) (pe_callB (call_sortedH rfl) rfl T.b_sorted BootT.sorted (pa_cons (pv 3) (pa_nil))) (nomark _))
   (pss_one (ps_ret (pe_bl)))
   (pss_nil))
  (pss_one (ps_if (PW.pt (pw_and (pt_cmpR (op_eqG hr.units) (pe_op (op_mod) (pv 4) (pe_int)) (pe_int) (nomark _)) (pw_and1 (pt_cmpR (op_gt) (pe_callB call_lenT rfl T.b_len BootT.len (pa_cons (pv 3) (pa_nil))) (pe_int) (nomark _)))))
   (pss_cons (ps_asg (pe_ix (ix_G hr.units) (pe_callB (call_sortedH rfl) rfl T.b_sorted BootT.sorted (pa_cons (pv 3) (pa_nil))) (pe_op (op_mod) (pe_op (op_fdiv) (pe_ix (ix_G hr.units) (pv 0) (pv 4) (fun _ _=>rfl)) (pe_int)) (pe_callB call_lenT rfl T.b_len BootT.len (pa_cons (pv 3) (pa_nil)))) (fun _ _=>rfl)) (pg_tup rfl (pgs_cons (pg_name (i:=8) sclaw.nd rfl (Or.inl rfl)) (pgs_cons (pg_name (i:=9) sclaw.nd rfl (Or.inl rfl)) (pgs_nil)))))
  (pss_cons (ps_expr (pe_bm PySem.F.plainAttrs_dict PySem.F.slot_dict_pop PySem.F.type_dict_pop (mt_popD hr.units) (pv 3) (pa_cons (pe_tup (pa_cons (pv 8) (pa_cons (pv 9) (pa_nil)))) (pa_nil))))
  (pss_one (ps_if (PW.pt (pw_or (pt_cmp (pc_notN (pcm c_Wood_cut T.cl (hr.mono (by decide)) (pv 2) passR0 (pa_cons (pv 8) (pa_cons (pv 9) (pa_nil)))))) (pw_or1 (pt_not (pt_tru (pcl c__law_refused (hr.mono (by decide)) rfl pass0 (pa_cons (pv 2) (pa_cons (pe_str) (pa_cons (pv 9) (pa_cons (pv 8) (pa_cons (pe_str) (pa_nil))))))) (fun _=>rfl))))))
   (pss_one (ps_ret (pe_bl)))
   (pss_nil)))))
   (pss_nil))))))))
  (pss_one (ps_ret (pe_cmpR (op_eqG hr.units) (pcm0 c_Wood_ties T.cl (hr.mono (by decide)) (pv 2) pass0) (pe_callB (call_sortedH rfl) rfl T.b_sorted BootT.sorted (pa_cons (pv 3) (pa_nil))) (nomark _)))))))),run vs H Q E h⟩
def rd_Wood___init__ (K:PySem.W.Frag) (C:Addr):TS :=
  tSeq (sFld K (tVar 0) (tVar 1) "n")
  (sFld K (tVar 0) (tComp 1 [] (iRng1 (tCons (tVar 1) (tNil))) (gName 0) (tYes) (tLst (tCons (tVar 0) (tNil)))) "rows")
theorem ok_Wood___init__ {P:Program} {w:World} {K:PySem.W.Frag} {mg:Str→Option Value} {base:Heap} {f:Addr} {fd:FuncData} {sp:Sp} {C:Addr} {X:EC} (Fu:Fun K "__init__" "Wood.__init__" sWood___init__ f fd) (T:Txt K mg C X)
      (len:∀ vs H Q E,sp vs H Q E→vs.length=2) (run:∀ vs H Q E,sp vs H Q E→rd_Wood___init__ K C { nx:=fun _ H'=>Q .non H',rt:=Q } (start ["self","n"] vs) H):FnOk P w K mg base CX0 1 f fd ["self","n"] sp :=
    Fu.ok scWood___init__ len fun cdv A outer s H vs Q E hr h=>⟨_,(show PSs (cxOf CX0 P w K mg base ["self","n"] "Wood.__init__" (defScope sWood___init__) f cdv A outer s H E).nox (defBody sWood___init__) (rd_Wood___init__ K C) from
  pss_cons (ps_fld (pv 0) (pv 1) rfl)
  (pss_one (ps_fld (pv 0) (pe_comp ["place"] (ys:=[]) [] rfl (pi_range1 rfl T.b_range (pa_cons (pv 1) (pa_nil))) trivial (fun _ _ _=>pg_name (i:=0) (show (["place"]:List Str).Nodup by decide +kernel) rfl (Or.inl rfl)) (fun _ _ _=>pifs_nil) (fun _ _ _=>pe_lst (pa_cons (pv 0) (pa_nil)))) rfl))),run vs H Q E h⟩
def lp_Wood_keep_1 (K:PySem.W.Frag) (C:Addr):TS :=
  tFor (iSeq K (tVar 1)) (gName 2)
   (tAsg (tVar 1) (gSub (tFld K (tVar 0) "rows") (tVar 2) rSetG))
def rd_Wood_keep (K:PySem.W.Frag) (C:Addr):TS :=
  lp_Wood_keep_1 K C
theorem ok_Wood_keep {P:Program} {w:World} {K:PySem.W.Frag} {mg:Str→Option Value} {base:Heap} {f:Addr} {fd:FuncData} {sp:Sp} {C:Addr} {X:EC} (Fu:Fun K "keep" "Wood.keep" sWood_keep f fd) (T:Txt K mg C X)
      (len:∀ vs H Q E,sp vs H Q E→vs.length=2) (run:∀ vs H Q E,sp vs H Q E→rd_Wood_keep K C { nx:=fun _ H'=>Q .non H',rt:=Q } (start ["self","row","place"] vs) H):FnOk P w K mg base CX0 1 f fd ["self","row"] sp :=
    Fu.ok scWood_keep len fun cdv A outer s H vs Q E hr h=>⟨_,(show PSs (cxOf CX0 P w K mg base ["self","row","place"] "Wood.keep" (defScope sWood_keep) f cdv A outer s H E).nox (defBody sWood_keep) (rd_Wood_keep K C) from
  pss_one (ps_for PassesOwn.never rfl (pi_seq (pv 1)) (pg_name (i:=2) scWood_keep.nd rfl (Or.inl rfl))
   (pss_one (ps_asg (pv 1) (pg_sub (pe_fld (pv 0) rfl) (pv 2) (set_G hr.units)))))),run vs H Q E h⟩
def rd_Wood_link (K:PySem.W.Frag) (C:Addr) (X:EC) (E:XK) (sp_refuse_no_pair sp_Wood_joined sp_Wood_keep sp_spliced:Sp):TS :=
  tSeq (tDrop (tCall sp_refuse_no_pair [] E (tCons (tFld K (tVar 0) "n") (tCons (tVar 1) (tCons (tVar 2) (tNil))))))
  (tSeq (tIfS (tTru K (tMeth C "joined" sp_Wood_joined [] E (tVar 0) (tCons (tVar 1) (tCons (tVar 2) (tNil)))))
   (tRaise (.ref X.Joined) E)
   (tNext))
  (tDrop (tMeth C "keep" sp_Wood_keep [] E0 (tVar 0) (tCons (tCall sp_spliced [] E0 (tCons (tOp (rIxG K) (tFld K (tVar 0) "rows") (tVar 1)) (tCons (tOp (rIxG K) (tFld K (tVar 0) "rows") (tVar 2)) (tCons (tVar 1) (tCons (tVar 2) (tNil)))))) (tNil)))))
theorem ok_Wood_link {P:Program} {w:World} {K:PySem.W.Frag} {mg:Str→Option Value} {base:Heap} {f:Addr} {fd:FuncData} {sp:Sp} {C:Addr} {X:EC} (Fu:Fun K "link" "Wood.link" sWood_link f fd) (T:Txt K mg C X) {sp_refuse_no_pair:Sp} (c_refuse_no_pair:Cal P w K mg base (CXr P w) 5 "refuse_no_pair" ["n","a","b"] sp_refuse_no_pair) {sp_Wood_joined:Sp} (c_Wood_joined:CalM P w K mg base (CXr P w) 5 C "joined" ["self","a","b"] sp_Wood_joined) {sp_Wood_keep:Sp} (c_Wood_keep:CalM P w K mg base CX0 1 C "keep" ["self","row"] sp_Wood_keep) {sp_spliced:Sp} (c_spliced:Cal P w K mg base CX0 2 "spliced" ["row","other","a","b"] sp_spliced)
      (len:∀ vs H Q E,sp vs H Q E→vs.length=3) (run:∀ vs H Q E,sp vs H Q E→rd_Wood_link K C X E sp_refuse_no_pair sp_Wood_joined sp_Wood_keep sp_spliced { nx:=fun _ H'=>Q .non H',rt:=Q } (start ["self","a","b"] vs) H):FnOk P w K mg base (CXr P w) 6 f fd ["self","a","b"] sp :=
    Fu.okR scWood_link len fun cdv A outer s H vs Q E hr h=>⟨_,(show PSs (cxOf (CXr P w) P w K mg base ["self","a","b"] "Wood.link" (defScope sWood_link) f cdv A outer s H E) (defBody sWood_link) (rd_Wood_link K C X E sp_refuse_no_pair sp_Wood_joined sp_Wood_keep sp_spliced) from
  pss_cons (ps_expr (pcl c_refuse_no_pair (hr.mono (by decide)) rfl passR (pa_cons (pe_fld (pv 0) rfl) (pa_cons (pv 1) (pa_cons (pv 2) (pa_nil))))))
  (pss_cons (ps_if (pt_tru (pcm c_Wood_joined T.cl (hr.mono (by decide)) (pv 0) passR (pa_cons (pv 1) (pa_cons (pv 2) (pa_nil)))) (fun _=>rfl))
   (pss_one (ps_raise rfl rfl ⟨T.x_Joined,T.ex_Joined⟩ raisesTo_cx))
   (pss_nil))
  (pss_one (ps_expr (pcm c_Wood_keep T.cl (hr.mono (by decide)) (pv 0) pass0 (pa_cons (pcl c_spliced (hr.mono (by decide)) rfl pass0 (pa_cons (pe_ix (ix_G hr.units) (pe_fld (pv 0) rfl) (pv 1) (fun _ _=>rfl)) (pa_cons (pe_ix (ix_G hr.units) (pe_fld (pv 0) rfl) (pv 2) (fun _ _=>rfl)) (pa_cons (pv 1) (pa_cons (pv 2) (pa_nil)))))) (pa_nil))))))),run vs H Q E h⟩
def lp_Wood_cut_1 (K:PySem.W.Frag) (C:Addr) (sp_refuse_no_pair sp_parted sp_steps_along sp_Wood_keep:Sp):TS :=
  tFor (iSeq K (tCall sp_parted [] E0 (tCons (tOp (rIxG K) (tFld K (tVar 0) "rows") (tVar 1)) (tCons (tVar 1) (tCons (tVar 2) (tNil)))))) (gName 3)
   (tDrop (tMeth C "keep" sp_Wood_keep [] E0 (tVar 0) (tCons (tVar 3) (tNil))))
def rd_Wood_cut (K:PySem.W.Frag) (C:Addr) (X:EC) (E:XK) (sp_refuse_no_pair sp_parted sp_steps_along sp_Wood_keep:Sp):TS :=
  tSeq (tDrop (tCall sp_refuse_no_pair [] E (tCons (tFld K (tVar 0) "n") (tCons (tVar 1) (tCons (tVar 2) (tNil))))))
  (tSeq (tIfS (tTest (tOp (rInG K true) (tTup (tCons (tVar 1) (tCons (tVar 2) (tNil)))) (tCall sp_steps_along [] E0 (tCons (tOp (rIxG K) (tFld K (tVar 0) "rows") (tVar 1)) (tNil)))))
   (tRaise (.ref X.NoTie) E)
   (tNext))
  (lp_Wood_cut_1 K C sp_refuse_no_pair sp_parted sp_steps_along sp_Wood_keep))
theorem ok_Wood_cut {P:Program} {w:World} {K:PySem.W.Frag} {mg:Str→Option Value} {base:Heap} {f:Addr} {fd:FuncData} {sp:Sp} {C:Addr} {X:EC} (Fu:Fun K "cut" "Wood.cut" sWood_cut f fd) (T:Txt K mg C X) {sp_refuse_no_pair:Sp} (c_refuse_no_pair:Cal P w K mg base (CXr P w) 5 "refuse_no_pair" ["n","a","b"] sp_refuse_no_pair) {sp_parted:Sp} (c_parted:Cal P w K mg base CX0 2 "parted" ["row","a","b"] sp_parted) {sp_steps_along:Sp} (c_steps_along:Cal P w K mg base CX0 1 "steps_along" ["row"] sp_steps_along) {sp_Wood_keep:Sp} (c_Wood_keep:CalM P w K mg base CX0 1 C "keep" ["self","row"] sp_Wood_keep)
      (len:∀ vs H Q E,sp vs H Q E→vs.length=3) (run:∀ vs H Q E,sp vs H Q E→rd_Wood_cut K C X E sp_refuse_no_pair sp_parted sp_steps_along sp_Wood_keep { nx:=fun _ H'=>Q .non H',rt:=Q } (start ["self","a","b","row"] vs) H):FnOk P w K mg base (CXr P w) 6 f fd ["self","a","b"] sp :=
    Fu.okR scWood_cut len fun cdv A outer s H vs Q E hr h=>⟨_,(show PSs (cxOf (CXr P w) P w K mg base ["self","a","b","row"] "Wood.cut" (defScope sWood_cut) f cdv A outer s H E) (defBody sWood_cut) (rd_Wood_cut K C X E sp_refuse_no_pair sp_parted sp_steps_along sp_Wood_keep) from
  pss_cons (ps_expr (pcl c_refuse_no_pair (hr.mono (by decide)) rfl passR (pa_cons (pe_fld (pv 0) rfl) (pa_cons (pv 1) (pa_cons (pv 2) (pa_nil))))))
  (pss_cons (ps_if (pt_cmpR (op_notInG hr.units) (pe_tup (pa_cons (pv 1) (pa_cons (pv 2) (pa_nil)))) (pcl c_steps_along (hr.mono (by decide)) rfl pass0 (pa_cons (pe_ix (ix_G hr.units) (pe_fld (pv 0) rfl) (pv 1) (fun _ _=>rfl)) (pa_nil))) (by with_unfolding_all rfl))
   (pss_one (ps_raise rfl rfl ⟨T.x_NoTie,T.ex_NoTie⟩ raisesTo_cx))
   (pss_nil))
  (pss_one (PS.nox (ps_for PassesOwn.never rfl (pi_seq (pcl c_parted (hr.mono (by decide)) rfl pass0 (pa_cons (pe_ix (ix_G hr.units) (pe_fld (pv 0) rfl) (pv 1) (fun _ _=>rfl)) (pa_cons (pv 1) (pa_cons (pv 2) (pa_nil)))))) (pg_name (i:=3) scWood_cut.nd rfl (Or.inl rfl))
   (pss_one (ps_expr (pcm c_Wood_keep T.cl (hr.mono (by decide)) (pv 0) pass0 (pa_cons (pv 3) (pa_nil)))))))))),run vs H Q E h⟩
def rd_Wood_joined (K:PySem.W.Frag) (C:Addr) (E:XK) (sp_refuse_no_places:Sp):TS :=
  tSeq (tDrop (tCall sp_refuse_no_places [] E (tCons (tFld K (tVar 0) "n") (tCons (tVar 1) (tCons (tVar 2) (tNil))))))
  (tRet (tOp (rEqG K) (tOp (rIxG K) (tOp (rIxG K) (tFld K (tVar 0) "rows") (tVar 1)) (tC (.int 0))) (tOp (rIxG K) (tOp (rIxG K) (tFld K (tVar 0) "rows") (tVar 2)) (tC (.int 0)))))
theorem ok_Wood_joined {P:Program} {w:World} {K:PySem.W.Frag} {mg:Str→Option Value} {base:Heap} {f:Addr} {fd:FuncData} {sp:Sp} {C:Addr} {X:EC} (Fu:Fun K "joined" "Wood.joined" sWood_joined f fd) (T:Txt K mg C X) {sp_refuse_no_places:Sp} (c_refuse_no_places:Cal P w K mg base (CXr P w) 4 "refuse_no_places" ["n","a","b"] sp_refuse_no_places)
      (len:∀ vs H Q E,sp vs H Q E→vs.length=3) (run:∀ vs H Q E,sp vs H Q E→rd_Wood_joined K C E sp_refuse_no_places { nx:=fun _ H'=>Q .non H',rt:=Q } (start ["self","a","b"] vs) H):FnOk P w K mg base (CXr P w) 5 f fd ["self","a","b"] sp :=
    Fu.okR scWood_joined len fun cdv A outer s H vs Q E hr h=>⟨_,(show PSs (cxOf (CXr P w) P w K mg base ["self","a","b"] "Wood.joined" (defScope sWood_joined) f cdv A outer s H E) (defBody sWood_joined) (rd_Wood_joined K C E sp_refuse_no_places) from
  pss_cons (ps_expr (pcl c_refuse_no_places (hr.mono (by decide)) rfl passR (pa_cons (pe_fld (pv 0) rfl) (pa_cons (pv 1) (pa_cons (pv 2) (pa_nil))))))
  (pss_one (ps_ret (pe_cmpR (op_eqG hr.units) (pe_ix (ix_G hr.units) (pe_ix (ix_G hr.units) (pe_fld (pv 0) rfl) (pv 1) (fun _ _=>rfl)) (pe_int) (fun _ _=>rfl)) (pe_ix (ix_G hr.units) (pe_ix (ix_G hr.units) (pe_fld (pv 0) rfl) (pv 2) (fun _ _=>rfl)) (pe_int) (fun _ _=>rfl)) (nomark _))))),run vs H Q E h⟩
def rd_Wood_group (K:PySem.W.Frag) (C:Addr) (E:XK) (sp_refuse_no_place:Sp):TS :=
  tSeq (tDrop (tCall sp_refuse_no_place [] E (tCons (tFld K (tVar 0) "n") (tCons (tVar 1) (tNil)))))
  (tRet (tSortSet K (tCons (tOp (rIxG K) (tFld K (tVar 0) "rows") (tVar 1)) (tNil))))
theorem ok_Wood_group {P:Program} {w:World} {K:PySem.W.Frag} {mg:Str→Option Value} {base:Heap} {f:Addr} {fd:FuncData} {sp:Sp} {C:Addr} {X:EC} (Fu:Fun K "group" "Wood.group" sWood_group f fd) (T:Txt K mg C X) {sp_refuse_no_place:Sp} (c_refuse_no_place:Cal P w K mg base (CXr P w) 3 "refuse_no_place" ["n","thing"] sp_refuse_no_place)
      (len:∀ vs H Q E,sp vs H Q E→vs.length=2) (run:∀ vs H Q E,sp vs H Q E→rd_Wood_group K C E sp_refuse_no_place { nx:=fun _ H'=>Q .non H',rt:=Q } (start ["self","a"] vs) H):FnOk P w K mg base (CXr P w) 4 f fd ["self","a"] sp :=
    Fu.okR scWood_group len fun cdv A outer s H vs Q E hr h=>⟨_,(show PSs (cxOf (CXr P w) P w K mg base ["self","a"] "Wood.group" (defScope sWood_group) f cdv A outer s H E) (defBody sWood_group) (rd_Wood_group K C E sp_refuse_no_place) from
  pss_cons (ps_expr (pcl c_refuse_no_place (hr.mono (by decide)) rfl passR (pa_cons (pe_fld (pv 0) rfl) (pa_cons (pv 1) (pa_nil)))))
  (pss_one (ps_ret (pe_sortSet rfl rfl T.b_sorted rfl T.b_set (pa_cons (pe_ix (ix_G hr.units) (pe_fld (pv 0) rfl) (pv 1) (fun _ _=>rfl)) (pa_nil)))))),run vs H Q E h⟩
def rd_Wood_size (K:PySem.W.Frag) (C:Addr) (E:XK) (sp_refuse_no_place:Sp):TS :=
  tSeq (tDrop (tCall sp_refuse_no_place [] E (tCons (tFld K (tVar 0) "n") (tCons (tVar 1) (tNil)))))
  (tRet (tOp (rI CDiv fun i j=>.int (i / j)) (tOp (rAddG) (tCB (rLen K) (tCons (tOp (rIxG K) (tFld K (tVar 0) "rows") (tVar 1)) (tNil))) (tC (.int 1))) (tC (.int 2))))
theorem ok_Wood_size {P:Program} {w:World} {K:PySem.W.Frag} {mg:Str→Option Value} {base:Heap} {f:Addr} {fd:FuncData} {sp:Sp} {C:Addr} {X:EC} (Fu:Fun K "size" "Wood.size" sWood_size f fd) (T:Txt K mg C X) {sp_refuse_no_place:Sp} (c_refuse_no_place:Cal P w K mg base (CXr P w) 3 "refuse_no_place" ["n","thing"] sp_refuse_no_place)
      (len:∀ vs H Q E,sp vs H Q E→vs.length=2) (run:∀ vs H Q E,sp vs H Q E→rd_Wood_size K C E sp_refuse_no_place { nx:=fun _ H'=>Q .non H',rt:=Q } (start ["self","a"] vs) H):FnOk P w K mg base (CXr P w) 4 f fd ["self","a"] sp :=
    Fu.okR scWood_size len fun cdv A outer s H vs Q E hr h=>⟨_,(show PSs (cxOf (CXr P w) P w K mg base ["self","a"] "Wood.size" (defScope sWood_size) f cdv A outer s H E) (defBody sWood_size) (rd_Wood_size K C E sp_refuse_no_place) from
  pss_cons (ps_expr (pcl c_refuse_no_place (hr.mono (by decide)) rfl passR (pa_cons (pe_fld (pv 0) rfl) (pa_cons (pv 1) (pa_nil)))))
  (pss_one (ps_ret (pe_op (op_fdiv) (pe_op (op_addG) (pe_callB (call_lenG) rfl T.b_len BootT.len (pa_cons (pe_ix (ix_G hr.units) (pe_fld (pv 0) rfl) (pv 1) (fun _ _=>rfl)) (pa_nil))) (pe_int)) (pe_int))))),run vs H Q E h⟩
def rd_Wood_way (K:PySem.W.Frag) (C:Addr) (E:XK) (sp_Wood_joined sp_way_in:Sp):TS :=
  tRet (tIf (tTru K (tMeth C "joined" sp_Wood_joined [] E (tVar 0) (tCons (tVar 1) (tCons (tVar 2) (tNil))))) (tCall sp_way_in [] E0 (tCons (tOp (rIxG K) (tFld K (tVar 0) "rows") (tVar 1)) (tCons (tVar 1) (tCons (tVar 2) (tNil))))) (tC .non))
theorem ok_Wood_way {P:Program} {w:World} {K:PySem.W.Frag} {mg:Str→Option Value} {base:Heap} {f:Addr} {fd:FuncData} {sp:Sp} {C:Addr} {X:EC} (Fu:Fun K "way" "Wood.way" sWood_way f fd) (T:Txt K mg C X) {sp_Wood_joined:Sp} (c_Wood_joined:CalM P w K mg base (CXr P w) 5 C "joined" ["self","a","b"] sp_Wood_joined) {sp_way_in:Sp} (c_way_in:Cal P w K mg base CX0 2 "way_in" ["row","a","b"] sp_way_in)
      (len:∀ vs H Q E,sp vs H Q E→vs.length=3) (run:∀ vs H Q E,sp vs H Q E→rd_Wood_way K C E sp_Wood_joined sp_way_in { nx:=fun _ H'=>Q .non H',rt:=Q } (start ["self","a","b"] vs) H):FnOk P w K mg base (CXr P w) 6 f fd ["self","a","b"] sp :=
    Fu.okR scWood_way len fun cdv A outer s H vs Q E hr h=>⟨_,(show PSs (cxOf (CXr P w) P w K mg base ["self","a","b"] "Wood.way" (defScope sWood_way) f cdv A outer s H E) (defBody sWood_way) (rd_Wood_way K C E sp_Wood_joined sp_way_in) from
  pss_one (ps_ret (pe_ifExp (pt_tru (pcm c_Wood_joined T.cl (hr.mono (by decide)) (pv 0) passR (pa_cons (pv 1) (pa_cons (pv 2) (pa_nil)))) (fun _=>rfl)) (pcl c_way_in (hr.mono (by decide)) rfl pass0 (pa_cons (pe_ix (ix_G hr.units) (pe_fld (pv 0) rfl) (pv 1) (fun _ _=>rfl)) (pa_cons (pv 1) (pa_cons (pv 2) (pa_nil))))) (pe_non)))),run vs H Q E h⟩
def lp_Wood_ties_1 (K:PySem.W.Frag) (C:Addr) (sp_steps_along:Sp):TS :=
  tFor (iEnum K (tCons (tFld K (tVar 0) "rows") (tNil))) (gTup K 2 (gCons (gName 2) (gCons (gName 3) (gNil))))
   (tIfS (tTest (tOp (rEqG K) (tOp (rIxG K) (tVar 3) (tC (.int 0))) (tVar 2)))
   (tDrop (tBM K "list" rExtend (tVar 1) (tCons (tComp 2 [] (iSeq K (tCall sp_steps_along [] E0 (tCons (tVar 3) (tNil)))) (gTup K 2 (gCons (gName 0) (gCons (gName 1) (gNil)))) (tTest (tOp (rI0 fun i j=>.bl (decide (i < j))) (tVar 0) (tVar 1))) (tTup (tCons (tVar 0) (tCons (tVar 1) (tNil))))) (tNil))))
   (tNext))
def rd_Wood_ties (K:PySem.W.Frag) (C:Addr) (sp_steps_along:Sp):TS :=
  tSeq (tAsg (tLst (tNil)) (gName 1))
  (tSeq (lp_Wood_ties_1 K C sp_steps_along)
  (tRet (tCB (rSortedH K) (tCons (tVar 1) (tNil)))))
theorem ok_Wood_ties {P:Program} {w:World} {K:PySem.W.Frag} {mg:Str→Option Value} {base:Heap} {f:Addr} {fd:FuncData} {sp:Sp} {C:Addr} {X:EC} (Fu:Fun K "ties" "Wood.ties" sWood_ties f fd) (T:Txt K mg C X) {sp_steps_along:Sp} (c_steps_along:Cal P w K mg base CX0 1 "steps_along" ["row"] sp_steps_along)
      (len:∀ vs H Q E,sp vs H Q E→vs.length=1) (run:∀ vs H Q E,sp vs H Q E→rd_Wood_ties K C sp_steps_along { nx:=fun _ H'=>Q .non H',rt:=Q } (start ["self","told","place","row"] vs) H):FnOk P w K mg base CX0 2 f fd ["self"] sp :=
    Fu.ok scWood_ties len fun cdv A outer s H vs Q E hr h=>⟨_,(show PSs (cxOf CX0 P w K mg base ["self","told","place","row"] "Wood.ties" (defScope sWood_ties) f cdv A outer s H E).nox (defBody sWood_ties) (rd_Wood_ties K C sp_steps_along) from
  pss_cons (ps_set (i:=1) scWood_ties.nd rfl (Or.inl rfl) (pe_lst (pa_nil)))
  (pss_cons (ps_for PassesOwn.never rfl (pi_enum rfl T.b_enumerate (pa_cons (pe_fld (pv 0) rfl) (pa_nil))) (pg_tup rfl (pgs_cons (pg_name (i:=2) scWood_ties.nd rfl (Or.inl rfl)) (pgs_cons (pg_name (i:=3) scWood_ties.nd rfl (Or.inl rfl)) (pgs_nil))))
   (pss_one (ps_if (pt_cmpR (op_eqG hr.units) (pe_ix (ix_G hr.units) (pv 3) (pe_int) (fun _ _=>rfl)) (pv 2) (nomark _))
   (pss_one (ps_expr (pe_bm PySem.F.plainAttrs_list PySem.F.slot_list_extend PySem.F.type_list_extend mt_extend (pv 1) (pa_cons (pe_comp ["a","b"] (ys:=[]) [] rfl (pi_seq (pcl c_steps_along (hr.mono (by decide)) rfl pass0 (pa_cons (pv 3) (pa_nil)))) trivial (fun _ _ _=>pg_tup rfl (pgs_cons (pg_name (i:=0) (show (["a","b"]:List Str).Nodup by decide +kernel) rfl (Or.inl rfl)) (pgs_cons (pg_name (i:=1) (show (["a","b"]:List Str).Nodup by decide +kernel) rfl (Or.inl rfl)) (pgs_nil)))) (fun _ _ _=>pifs_one (pt_cmpR (op_lt) (pv 0) (pv 1) (nomark _))) (fun _ _ _=>pe_tup (pa_cons (pv 0) (pa_cons (pv 1) (pa_nil))))) (pa_nil)))))
   (pss_nil))))
  (pss_one (ps_ret (pe_callB (call_sortedH rfl) rfl T.b_sorted BootT.sorted (pa_cons (pv 1) (pa_nil))))))),run vs H Q E h⟩
end K23
section
open PySem PySem.Spec PyProof.Rows L2
local macro_rules | `(tactic| walk_at "c")=>`(tactic| first | (show (0:Int) < _; omega) | exact ⟨by omega,by omega⟩ | exact Or.inl ⟨by omega,by omega⟩ | exact Or.inr ⟨by omega,by omega⟩ | exact ⟨by omega,by omega,by omega⟩)
local macro_rules | `(tactic| walk_at "x1")=>`(tactic| first | with_reducible refine x_seq ?_ | with_reducible refine x_asg ?_ | with_reducible refine x_gname ?_ | with_reducible refine x_gsub ?_ | ((with_reducible refine' x_var ?hv ?_); (case hv=>exact rfl)) | with_reducible refine x_c ?_ | with_reducible refine x_op ?_ | with_reducible refine x_ret ?_ | with_reducible refine x_drop ?_ | with_reducible refine x_next ?_ | with_reducible refine x_ifS ?_ | with_reducible refine x_if ?_ | with_reducible refine x_test ?_ | with_reducible refine x_tB ?_ | with_reducible refine x_isN ?_ | with_reducible refine x_notN ?_ | with_reducible refine x_and ?_ | with_reducible refine x_or ?_ | with_reducible refine x_not ?_ | with_reducible refine x_andV ?_ | with_reducible refine x_orV ?_ | with_reducible refine x_notV ?_ | with_reducible refine x_tru ?_ | with_reducible refine x_yes ?_ | with_reducible refine x_nil ?_ | with_reducible refine x_cons ?_ | with_reducible refine x_tup ?_ | with_reducible refine x_lst ?_ | with_reducible refine x_call ?_ | with_reducible refine x_cb ?_ | with_reducible refine x_bm ?_ | with_reducible refine x_sl ?_ | with_reducible refine x_nopart ?_ | with_reducible refine x_part ?_ | with_reducible refine x_rI0 ?_ | ((with_reducible refine x_rI ?hc ?_); (case hc=>walk_at "c")) | with_reducible refine x_addI ?_ | with_reducible refine x_addHI ?_ | with_reducible refine x_eqI ?_ | with_reducible refine x_neI ?_ | with_reducible refine x_rng1 ?_ | with_reducible refine x_for ?_ | with_reducible refine x_comp ?_ | with_reducible refine x_iSeq ?_ | with_reducible refine x_min ?_ | with_reducible refine x_max ?_ | with_reducible refine x_un ?_ | with_reducible refine x_rU ?_ | with_reducible refine x_chain ?_ | with_reducible refine x_eqB ?_ | with_reducible refine x_rev ?_ | with_reducible refine x_dnew ?_ | with_reducible refine x_gcons ?_ | with_reducible refine x_gnil ?_ | ((with_reducible refine' x_aug ?hv ?_); (case hv=>exact rfl)) | with_reducible refine ⟨_,rfl,?_⟩)
local macro_rules | `(tactic| walk_at "x")=>`(tactic| (walk_at "x1"; repeat walk_at "x1"))
namespace K23
open Rm
def pdZ (t:Int × Int):PyData:=.tuple [.int t.1,.int t.2]
theorem rep_pairs {K:PySem.W.Frag} {H:Hp}:∀ {zs:List Zt},(∀ z ∈ zs,PairAt H z)→RepAll K H ((zs.map zP).map pdZ) (zs.map refZ)
  | [],_=>.nil
  | z :: zs,h=>.cons (.tup (.of (h z List.mem_cons_self)) (.cons (.int _) (.cons (.int _) .nil))) (rep_pairs fun y hy=>h y (List.mem_cons_of_mem _ hy))
theorem rep_zs {K:PySem.W.Frag} {H:Hp} {l:Addr} {zs:List Zt} (hl:H l=some (.lst (zs.map refZ))) (h:∀ z ∈ zs,PairAt H z):Rep K H (.list ((zs.map zP).map pdZ)) (.ref l):=.lst (SqL.of hl) (rep_pairs h)
theorem plain_zs:∀ L:List (Int × Int),plainAll (L.map pdZ)=true
  | []=>rfl
  | t :: ts=>by simp only [List.map_cons,plainAll,Bool.and_eq_true]; exact ⟨by simp [pdZ,plainD,plainAll],plain_zs ts⟩
theorem depth_zs:∀ L:List (Int × Int),PyData.depthAll (L.map pdZ)≤2
  | []=>by simp [PyData.depthAll]
  | t :: ts => by
    have:=depth_zs ts
    simp only [List.map_cons,PyData.depthAll]
    have e:(pdZ t).depth≤2:=by simp [pdZ,PyData.depth,PyData.depthAll]
    omega
theorem fine_zs (L:List (Int × Int)):Fine (.list (L.map pdZ)):=⟨plain_lay _ (by simp only [plainD]; exact plain_zs L),by have:=depth_zs L; simp only [PyData.depth]; omega⟩
theorem eqv_zs {L M:List (Int × Int)} (e:L=M):PyData.eqv (.list (L.map pdZ)) (.list (M.map pdZ))=true:=by rw [e]; exact SeqAt.eqv_refl _ (fine_zs M).lay
theorem pairs_same {H H':Hp} {zs:List Zt} (h:∀ z ∈ zs,PairAt H z) (S:Same H H'):∀ z ∈ zs,PairAt H' z:=fun z hz=>S _ _ (h z hz)
end K23
namespace K23
open Rm
theorem eqv_pd (t u:Int × Int):PyData.eqv (pdZ t) (pdZ u)=decide (t=u):=by
  obtain ⟨a,b⟩:=t
  obtain ⟨c,d⟩:=u
  rw [Bool.eq_iff_iff]
  simp [pdZ,PyData.eqv,PyData.eqvAll,Prod.mk.injEq]
theorem fine_pd (t:Int × Int):Fine (pdZ t):=⟨plain_lay _ (by simp [pdZ,plainD,plainAll]),by simp [pdZ,PyData.depth,PyData.depthAll]⟩
theorem rep_pd {K:PySem.W.Frag} {H:Hp} {p:Addr} {a b:Int} (h:H p=some (.tup [.int a,.int b])):Rep K H (pdZ (a,b)) (.ref p):=.tup (.of h) (.cons (.int _) (.cons (.int _) .nil))
theorem lt_idx {L:List (Int × Int)} {t u:Int × Int}:∀ {m:Nat},m < L.idxOf t→L[m]? = some u→u≠t:=by
  induction L with
  | nil=>intro m h e; simp at e
  | cons v L ih =>
    intro m h e
    by_cases q:v=t
    · subst q; simp at h
    · have hv:(v == t)=false:=by simpa using q
      rw [List.idxOf_cons,hv] at h
      cases m with
      | zero=>simp at e; subst e; exact q
      | succ m=>exact ih (m:=m) (by simpa using h) (by simpa using e)
theorem x_indexP {K:PySem.W.Frag} {H:Hp} {Q:VK} {l p:Addr} {zs:List Zt} {a b:Int} (hl:H l=some (.lst (zs.map refZ))) (hz:∀ z ∈ zs,PairAt H z) (hlen:zs.length≤100000) (hp:H p=some (.tup [.int a,.int b])) (hm:(a,b) ∈ zs.map zP)
    (k:Q (.int ((zs.map zP).idxOf (a,b):Nat)) H):rIndexG K (.ref l) [.ref p] H Q:=by
  have hi:(zs.map zP).idxOf (a,b) < (zs.map zP).length:=List.idxOf_lt_length_iff.mpr hm
  refine .inr ⟨l,.ref p,(zs.map zP).map pdZ,pdZ (a,b),(zs.map zP).idxOf (a,b),pdZ (a,b),rfl,rfl,rep_zs hl hz,rep_pd hp,fine_pd _,plainAll_lay _ (plain_zs _),by rw [List.length_map,List.length_map]; exact small_le hlen,?_,by rw [eqv_pd]; simp,fun m e hm' em=>?_,k⟩
  · rw [List.getElem?_map,List.getElem?_eq_getElem hi,List.getElem_idxOf]; rfl
  · rw [List.getElem?_map] at em
    obtain ⟨u,e1,e2⟩:=Option.map_eq_some_iff.mp em
    subst e2
    rw [eqv_pd,decide_eq_false (lt_idx hm' e1)]
def sp_steps_along (K:PySem.W.Frag) (C:Addr):Sp:=fun vs H Q _=>∃ (p:Addr) (r:List Int),vs=[.ref p]∧SqL K H p (r.map V.int)∧r.length≤1000∧∀ l H' (zs:List Zt),Same H H'→H l=none→H' l=some (.lst (zs.map refZ))→(∀ z ∈ zs,PairAt H' z)→zs.map zP=al r→Q (.ref l) H'
theorem len_steps_along {K:PySem.W.Frag} {C:Addr}:∀ vs H Q E,sp_steps_along K C vs H Q E→vs.length=1:=by
  rintro vs H Q E ⟨p,r,rfl,_⟩; rfl
theorem run_steps_along {K:PySem.W.Frag} {C:Addr}:∀ vs H Q E,sp_steps_along K C vs H Q E→rd_steps_along K C { nx:=fun _ H'=>Q .non H',rt:=Q } (start ["row"] vs) H:=by
  rintro vs H Q E ⟨p,r,rfl,hp,hl,k⟩
  unfold rd_steps_along
  walk_at "x"
  refine x_zipL ?_
  walk_at "x"
  refine x_slFrom (j:=1) hp rfl fun q hq=>?_
  have S1:=Same.upd_new (o:=.lst ((r.drop 1).map V.int)) hq
  have g1:(upd H q (.lst ((r.drop 1).map V.int))) q=some (.lst ((r.drop 1).map V.int)):=upd_same
  generalize upd H q (.lst ((r.drop 1).map V.int))=H1 at S1 g1
  walk_at "x"
  exact ⟨p,q,r,r.drop 1,rfl,S1.seq hp,SqL.of g1,by omega,fun l zs H2 S2 hl2 gl hz e=>k l H2 zs (S1.trans S2) (S1.free hl2) gl hz (by rw [e,al_zip])⟩
def sp_parted (K:PySem.W.Frag) (C:Addr):Sp:=fun vs H Q _=>∃ (p:Addr) (r:List Int) (a b:Int),vs=[.ref p,.int a,.int b]∧SqL K H p (r.map V.int)∧r.length≤1000∧(a,b) ∈ al r∧(b,a) ∈ al r ∧
  ∀ (t x y:Addr) (H':Hp),Same H H'→H t=none→H x=none→H y=none→x≠y→H' t=some (.tup [.ref x,.ref y])→H' x=some (.lst ((prt r a b).1.map V.int))→H' y=some (.lst ((prt r a b).2.map V.int))→Q (.ref t) H'
theorem len_parted {K:PySem.W.Frag} {C:Addr}:∀ vs H Q E,sp_parted K C vs H Q E→vs.length=3:=by
  rintro vs H Q E ⟨p,r,a,b,rfl,_⟩; rfl
theorem run_parted {K : PySem.W.Frag} {C : Addr} : ∀ vs H Q E, sp_parted K C vs H Q E → rd_parted K C (sp_steps_along K C) { nx := fun _ H' => Q .non H', rt := Q } (start ["row", "a", "b", "along", "there", "back", "k", "m", "inner", "outer"] vs) H := by
  rintro vs H Q E ⟨p,r,a,b,rfl,hp,hl,hab,hba,k⟩
  have hi:(al r).idxOf (a,b) < (al r).length:=List.idxOf_lt_length_iff.mpr hab
  have hj:(al r).idxOf (b,a) < (al r).length:=List.idxOf_lt_length_iff.mpr hba
  rw [al_len] at hi hj
  unfold rd_parted
  walk_at "x"
  refine ⟨p,r,rfl,hp,hl,fun w H1 zs S1 hw gw hz ez=>?_⟩
  have hzl:zs.length≤1000:=by
    have:=congrArg List.length ez
    rw [List.length_map,al_len] at this
    omega
  walk_at "x"
  refine ⟨.inl ⟨rfl,_,SqL.of gw⟩,?_⟩
  walk_at "x"
  refine ⟨small_le (m:=2) (Nat.le_refl 2),fun t1 ht1=>?_⟩
  have S2:=Same.upd_new (o:=.tup [.int a,.int b]) ht1
  have g2:(upd H1 t1 (.tup [.int a,.int b])) t1=some (.tup [.int a,.int b]):=upd_same
  generalize upd H1 t1 (.tup [.int a,.int b])=H2 at S2 g2
  walk_at "x"
  refine x_indexP (S2 _ _ gw) (pairs_same hz S2) (by omega) g2 (by rw [ez]; exact hab) ?_
  rw [ez]
  walk_at "x"
  refine ⟨.inl ⟨rfl,_,SqL.of (S2 _ _ gw)⟩,?_⟩
  walk_at "x"
  refine ⟨small_le (m:=2) (Nat.le_refl 2),fun t2 ht2=>?_⟩
  have S3:=Same.upd_new (o:=.tup [.int b,.int a]) ht2
  have g3:(upd H2 t2 (.tup [.int b,.int a])) t2=some (.tup [.int b,.int a]):=upd_same
  generalize upd H2 t2 (.tup [.int b,.int a])=H3 at S3 g3
  have S13:=S2.trans S3
  walk_at "x"
  refine x_indexP (S13 _ _ gw) (pairs_same hz S13) (by omega) g3 (by rw [ez]; exact hba) ?_
  rw [ez]
  have hpr:prt r a b=if (al r).idxOf (a,b) < (al r).idxOf (b,a) then (outR r ((al r).idxOf (a,b)) ((al r).idxOf (b,a)),innR r ((al r).idxOf (a,b)) ((al r).idxOf (b,a))) else (innR r ((al r).idxOf (b,a)) ((al r).idxOf (a,b)),outR r ((al r).idxOf (b,a)) ((al r).idxOf (a,b))):=rfl
  generalize (al r).idxOf (a,b)=i at hi hpr
  generalize (al r).idxOf (b,a)=j at hj hpr
  walk_at "x"
  obtain ⟨u,v,eu,ev,huv⟩:∃ u v:Nat,(if (j:Int) < (i:Int) then (j:Int) else (i:Int))=(u:Int)∧(if (j:Int) > (i:Int) then (j:Int) else (i:Int))=(v:Int)∧((i < j∧u=i∧v=j)∨(¬ i < j∧u=j∧v=i)):=by
    by_cases c:i < j
    · exact ⟨i,j,by rw [if_neg (by omega)],by rw [if_pos (by omega)],.inl ⟨c,rfl,rfl⟩⟩
    · by_cases c2:j < i
      · exact ⟨j,i,by rw [if_pos (by omega)],by rw [if_neg (by omega)],.inr ⟨c,rfl,rfl⟩⟩
      · have:i=j:=by omega
        subst this
        exact ⟨i,i,by rw [if_neg (by omega)],by rw [if_neg (by omega)],.inr ⟨c,rfl,rfl⟩⟩
  rw [eu,ev]
  have hS:=S1.trans S13
  refine x_slMid (j:=u+1) (j':=v+1) (hS.seq hp) (by omega) (by omega) fun y hy=>?_
  have hin:(r.drop (u+1)).take (v+1 - (u+1))=innR r u v:=by unfold innR; rw [show v+1 - (u+1)=v - u by omega]
  rw [hin]
  have S4:=Same.upd_new (o:=.lst ((innR r u v).map V.int)) hy
  have g4:(upd H3 y (.lst ((innR r u v).map V.int))) y=some (.lst ((innR r u v).map V.int)):=upd_same
  generalize upd H3 y (.lst ((innR r u v).map V.int))=H4 at S4 g4
  walk_at "x"
  refine x_slTo (j:=u+1) ((hS.trans S4).seq hp) (by omega) fun q1 hq1=>?_
  have S5:=Same.upd_new (o:=.lst ((r.take (u+1)).map V.int)) hq1
  have g5:(upd H4 q1 (.lst ((r.take (u+1)).map V.int))) q1=some (.lst ((r.take (u+1)).map V.int)):=upd_same
  generalize upd H4 q1 (.lst ((r.take (u+1)).map V.int))=H5 at S5 g5
  walk_at "x"
  refine x_slFrom (j:=v+2) ((hS.trans (S4.trans S5)).seq hp) (by omega) fun q2 hq2=>?_
  have S6:=Same.upd_new (o:=.lst ((r.drop (v+2)).map V.int)) hq2
  have g6:(upd H5 q2 (.lst ((r.drop (v+2)).map V.int))) q2=some (.lst ((r.drop (v+2)).map V.int)):=upd_same
  generalize upd H5 q2 (.lst ((r.drop (v+2)).map V.int))=H6 at S6 g6
  refine x_catI (S6 _ _ g5) g6 (by rw [List.length_take,List.length_drop]; omega) fun x hx=>?_
  have S7:=Same.upd_new (o:=.lst ((outR r u v).map V.int)) hx
  have g7:(upd H6 x (.lst ((outR r u v).map V.int))) x=some (.lst ((outR r u v).map V.int)):=upd_same
  show gName 9 (.ref x) _ (upd H6 x (.lst ((outR r u v).map V.int))) _
  generalize upd H6 x (.lst ((outR r u v).map V.int))=H7 at S7 g7
  have S37:=S4.trans (S5.trans (S6.trans S7))
  have S47:=S5.trans (S6.trans S7)
  have nxy:x≠y:=Ne.symm (ne_of_none (S6 _ _ (S5 _ _ g4)) hx)
  have hHx:H x=none:=(hS.trans (S4.trans (S5.trans S6))).free hx
  have hHy:H y=none:=hS.free hy
  walk_at "x"
  rcases huv with ⟨c,rfl,rfl⟩ | ⟨c,rfl,rfl⟩
  · rw [if_pos c] at hpr
    refine ifd (fun _=>?_) fun z=>absurd (by omega) z
    walk_at "x"
    refine ⟨small_le (m:=2) (Nat.le_refl 2),fun t ht=>?_⟩
    have S8:=Same.upd_new (o:=.tup [.ref x,.ref y]) ht
    exact k t x y _ ((hS.trans S37).trans S8) ((hS.trans S37).free ht) hHx hHy nxy upd_same (by rw [hpr]; exact S8 _ _ g7) (by rw [hpr]; exact S8 _ _ (S47 _ _ g4))
  · rw [if_neg c] at hpr
    refine ifd (fun z=>absurd (by omega) c) fun _=>?_
    walk_at "x"
    refine ⟨small_le (m:=2) (Nat.le_refl 2),fun t ht=>?_⟩
    have S8:=Same.upd_new (o:=.tup [.ref y,.ref x]) ht
    exact k t y x _ ((hS.trans S37).trans S8) ((hS.trans S37).free ht) hHy hHx (Ne.symm nxy) upd_same (by rw [hpr]; exact S8 _ _ (S47 _ _ g4)) (by rw [hpr]; exact S8 _ _ g7)
end K23
namespace K23
open Rm
def sp_turned (K:PySem.W.Frag) (C:Addr):Sp:=fun vs H Q _=>∃ (p:Addr) (r:List Int) (a:Int),vs=[.ref p,.int a]∧SqL K H p (r.map V.int)∧a ∈ r∧r.length≤1000 ∧
  ∀ l H',Same H H'→H l=none→H' l=some (.lst ((tn r (r.idxOf a)).map V.int))→Q (.ref l) H'
theorem len_turned {K:PySem.W.Frag} {C:Addr}:∀ vs H Q E,sp_turned K C vs H Q E→vs.length=2:=by
  rintro vs H Q E ⟨p,r,a,rfl,_⟩; rfl
theorem run_turned {K:PySem.W.Frag} {C:Addr}:∀ vs H Q E,sp_turned K C vs H Q E→rd_turned K C { nx:=fun _ H'=>Q .non H',rt:=Q } (start ["row","a","k"] vs) H:=by
  rintro vs H Q E ⟨p,r,a,rfl,hp,ha,hl,q⟩
  unfold rd_turned
  walk_at "x"
  refine ⟨.inl ⟨rfl,_,hp⟩,?_⟩
  walk_at "x"
  refine x_index hp ha ?_
  walk_at "x"
  refine x_slFrom hp rfl fun p1 h1=>?_
  have S1:=Same.upd_new (o:=.lst ((r.drop (r.idxOf a)).map V.int)) h1
  walk_at "x"
  refine x_slMid (j:=1) (j':=r.idxOf a+1) (S1.seq hp) rfl (by omega) fun p2 h2=>?_
  have S2:=Same.upd_new (o:=.lst (((r.drop 1).take (r.idxOf a+1 - 1)).map V.int)) h2
  refine x_catI (S2 _ _ upd_same) upd_same ?_ fun p3 h3=>?_
  · rw [List.length_drop,List.length_take,List.length_drop]; omega
  · have S3:=Same.upd_new (o:=.lst (((r.drop (r.idxOf a)) ++ ((r.drop 1).take (r.idxOf a+1 - 1))).map V.int)) h3
    have S:=(S1.trans S2).trans S3
    exact q p3 _ S ((S1.trans S2).free h3) upd_same
end K23
namespace K23
open Rm
def sp_spliced (K:PySem.W.Frag) (C:Addr):Sp:=fun vs H Q _=>∃ (p q:Addr) (r1 r2:List Int) (a b:Int),vs=[.ref p,.ref q,.int a,.int b]∧SqL K H p (r1.map V.int)∧SqL K H q (r2.map V.int)∧a ∈ r1∧b ∈ r2∧r1.length≤1000∧r2.length≤1000 ∧
  ∀ l H',Same H H'→H l=none→H' l=some (.lst ((spl r1 r2 a b).map V.int))→Q (.ref l) H'
theorem len_spliced {K:PySem.W.Frag} {C:Addr}:∀ vs H Q E,sp_spliced K C vs H Q E→vs.length=4:=by
  rintro vs H Q E ⟨p,q,r1,r2,a,b,rfl,_⟩; rfl
theorem run_spliced {K:PySem.W.Frag} {C:Addr}:∀ vs H Q E,sp_spliced K C vs H Q E→rd_spliced K C (sp_turned K C) { nx:=fun _ H'=>Q .non H',rt:=Q } (start ["row","other","a","b","k"] vs) H:=by
  rintro vs H Q E ⟨p,q,r1,r2,a,b,rfl,hp,hq,ha,hb,hl1,hl2,k⟩
  unfold rd_spliced
  walk_at "x"
  refine ⟨.inl ⟨rfl,_,hp⟩,?_⟩
  walk_at "x"
  refine x_index hp ha ?_
  walk_at "x"
  refine x_slTo (j:=r1.idxOf a+1) hp (by omega) fun p1 h1=>?_
  have S1:=Same.upd_new (o:=.lst ((r1.take (r1.idxOf a+1)).map V.int)) h1
  have g1:(upd H p1 (.lst ((r1.take (r1.idxOf a+1)).map V.int))) p1=some (.lst ((r1.take (r1.idxOf a+1)).map V.int)):=upd_same
  generalize upd H p1 (.lst ((r1.take (r1.idxOf a+1)).map V.int))=H1 at S1 g1
  walk_at "x"
  refine ⟨q,r2,b,rfl,S1.seq hq,hb,hl2,fun t H2 S2 ht gt=>?_⟩
  have hlt:(tn r2 (r2.idxOf b)).length=r2.length:=tn_len (idx_lt hb)
  refine x_catI (S2 _ _ g1) gt (by rw [List.length_take]; omega) fun p3 h3=>?_
  have S3:=Same.upd_new (o:=.lst ((r1.take (r1.idxOf a+1) ++ tn r2 (r2.idxOf b)).map V.int)) h3
  have g3:(upd H2 p3 (.lst ((r1.take (r1.idxOf a+1) ++ tn r2 (r2.idxOf b)).map V.int))) p3=some (.lst ((r1.take (r1.idxOf a+1) ++ tn r2 (r2.idxOf b)).map V.int)):=upd_same
  generalize upd H2 p3 (.lst ((r1.take (r1.idxOf a+1) ++ tn r2 (r2.idxOf b)).map V.int))=H3 at S3 g3
  walk_at "x"
  have S13:=S1.trans (S2.trans S3)
  refine x_slFrom (j:=r1.idxOf a) (S13.seq hp) rfl fun p4 h4=>?_
  have S4:=Same.upd_new (o:=.lst ((r1.drop (r1.idxOf a)).map V.int)) h4
  have g4:(upd H3 p4 (.lst ((r1.drop (r1.idxOf a)).map V.int))) p4=some (.lst ((r1.drop (r1.idxOf a)).map V.int)):=upd_same
  generalize upd H3 p4 (.lst ((r1.drop (r1.idxOf a)).map V.int))=H4 at S4 g4
  refine x_catI (S4 _ _ g3) g4 (by rw [List.length_append,List.length_take,List.length_drop]; omega) fun p5 h5=>?_
  have S5:=Same.upd_new (o:=.lst ((r1.take (r1.idxOf a+1) ++ tn r2 (r2.idxOf b) ++ r1.drop (r1.idxOf a)).map V.int)) h5
  refine k p5 _ ((S13.trans S4).trans S5) ((S13.trans S4).free h5) ?_
  unfold spl
  rw [← List.append_assoc]
  exact upd_same
end K23
namespace K23
open Rm
def sp_way_in (K:PySem.W.Frag) (C:Addr):Sp:=fun vs H Q _=>∃ (p:Addr) (r:List Int) (a b:Int),vs=[.ref p,.int a,.int b]∧H p=some (.lst (r.map V.int))∧IsR r∧r.length≤127∧a ∈ r∧b ∈ r ∧
  ∀ l H' w,Same H H'→H l=none→H' l=some (.lst (w.map V.int))→Way r a b w→Q (.ref l) H'
theorem len_way_in {K:PySem.W.Frag} {C:Addr}:∀ vs H Q E,sp_way_in K C vs H Q E→vs.length=3:=by
  rintro vs H Q E ⟨p,r,a,b,rfl,_⟩; rfl
theorem run_way_in {K : PySem.W.Frag} {C : Addr} : ∀ vs H Q E, sp_way_in K C vs H Q E → rd_way_in K C (sp_turned K C) { nx := fun _ H' => Q .non H', rt := Q } (start ["row", "a", "b", "ahead", "way", "place"] vs) H := by
  rintro vs H Q E ⟨p,r,a,b,rfl,hp,hR,hrl,ha,hb,q⟩
  obtain ⟨f,m,hG,inj⟩:=IsR.gr _ (Nat.le_refl _) hR
  have hm:m≤63:=by have:=hG.len; omega
  obtain ⟨rn,par,rfl,T⟩:=hG.tree
  have hlen:=hG.len
  have f0:=hG.first
  have f1:=hG.last
  rw [List.length_map] at hlen f1
  have hx:=idx_lt ha
  rw [List.length_map] at hx
  generalize hk:(rn.map f).idxOf a=k at hx
  have hlr:(tn rn k).length=rn.length:=by unfold tn; rw [List.length_append,List.length_drop,List.length_take,List.length_drop]; omega
  obtain ⟨x0,z0,z1⟩:∃ x,rn[0]? = some x∧rn[rn.length - 1]? = some x:=by
    rw [List.getElem?_map] at f0 f1
    obtain ⟨x,e1,e2⟩:=Option.map_eq_some_iff.mp f0
    obtain ⟨y,e3,e4⟩:=Option.map_eq_some_iff.mp f1
    have hx:=T.le x (List.mem_of_getElem? e1)
    have hy:=T.le y (List.mem_of_getElem? e3)
    have:x=y:=inj _ _ (by omega) (by omega) (by rw [e2,e4])
    subst this
    exact ⟨x,e1,e3⟩
  unfold rd_way_in
  walk_at "x"
  refine ⟨p,_,a,rfl,SqL.of hp,ha,by rw [List.length_map]; omega,fun t H1 S1 ht gt=>?_⟩
  rw [hk,← tn_map] at gt
  walk_at "x"
  refine ⟨small_le (m:=0) (Nat.le_refl 0),fun l hl=>?_⟩
  have S2:=Same.upd_new (o:=.lst []) hl
  have gl:(upd H1 l (.lst [])) l=some (.lst []):=upd_same
  generalize upd H1 l (.lst [])=H2 at S2 gl
  have gt2:=S2 _ _ gt
  walk_at "x"
  unfold lp_way_in_1
  walk_at "x"
  refine ⟨.inl ⟨rfl,_,SqL.of gt2⟩,?_⟩
  walk_at "x"
  have hbt:b ∈ (tn rn k).map f:=by
    obtain ⟨y,hy,e⟩:=List.mem_map.mp hb
    exact List.mem_map.mpr ⟨y,tn_mem' hx z0 z1 hy,e⟩
  refine x_index (SqL.of gt2) hbt ?_
  have hib:=idx_lt hbt
  have gb:=idx_get hbt
  rw [List.length_map,hlr] at hib
  generalize ((tn rn k).map f).idxOf b=ib at hib gb
  walk_at "x"
  refine x_slTo (j:=ib+1) (SqL.of gt2) (by omega) fun s hs=>?_
  rw [← List.map_take]
  have S3:=Same.upd_new (o:=.lst ((((tn rn k).take (ib+1)).map f).map V.int)) hs
  have gs:(upd H2 s (.lst ((((tn rn k).take (ib+1)).map f).map V.int))) s=some (.lst ((((tn rn k).take (ib+1)).map f).map V.int)):=upd_same
  generalize upd H2 s (.lst ((((tn rn k).take (ib+1)).map f).map V.int))=H3 at S3 gs
  have gl3:=S3 _ _ gl
  have nsl:s≠l:=Ne.symm (ne_of_none gl hs)
  have el:((tn rn k).take (ib+1)).length=ib+1:=by rw [List.length_take]; omega
  have hle:∀ x ∈ tn rn k,x≤m:=fun x hx=>T.le x (tn_mem hx)
  refine ⟨s,rfl,?_⟩
  refine .inl ⟨⟨_,SqL.of gs⟩,for_list (K:=K) (a:=s) (xs:=(((tn rn k).take (ib+1)).map f).map V.int)
    (fun i σ H4=>SameBut1 l H3 H4∧∃ wn o5,σ = [some (.ref p),some (.int a),some (.int b),some (.ref t),some (.ref l),o5]∧H4 l=some (.lst ((wn.map f).map V.int))∧((i=0∧wn=[])∨∃ i',i=i'+1∧WI (tn rn k) i' wn))
    ⟨SameBut1.refl _ _,[],_,rfl,gl3,.inl ⟨rfl,rfl⟩⟩ ?_ ?_ ?_⟩
  · rintro i σ H4 _ ⟨B,_⟩; exact SqL.of (B _ _ gs nsl)
  · rintro i z σ H4 hi ⟨B,wn,o5,rfl,gw,hW⟩
    rw [List.map_map,List.getElem?_map,List.getElem?_take] at hi
    obtain ⟨pn,hpn,ez⟩:=Option.map_eq_some_iff.mp hi
    have hib1:i < ib+1:=by
      by_cases c:i < ib+1
      · exact c
      · rw [if_neg c] at hpn; cases hpn
    rw [if_pos hib1] at hpn
    have ez:z=V.int (f pn):=ez.symm
    subst ez
    have hpm:=hle pn (List.mem_of_getElem? hpn)
    have hwl:wn.length≤i:=by
      rcases hW with ⟨h1,h2⟩ | ⟨i',h1,h2⟩
      · subst h2; simp
      · have:=h2.len; omega
    have lw:(((wn.map f).map V.int)).length=wn.length:=by simp
    have push:¬ (1 < wn.length∧wn[wn.length - 2]? = some pn)→rAppend (V.ref l) [V.int (f pn)] H4 fun x H1=>SameBut1 l H3 H1∧∃ wn o5',[some (V.ref p),some (V.int a),some (V.int b),some (V.ref t),some (V.ref l),some (V.int (f pn))]=[some (V.ref p),some (V.int a),some (V.int b),some (V.ref t),some (V.ref l),o5']∧H1 l=some (.lst ((wn.map f).map V.int))∧((i+1=0∧wn=[])∨∃ i',i+1=i'+1∧WI (tn rn k) i' wn):=by
      intro hno
      refine x_append gw (small_lt (m:=1000) (by rw [lw]; omega)) ?_
      refine ⟨B.trans SameBut1.upd,wn ++ [pn],_,rfl,by rw [List.map_append,List.map_append]; exact upd_same,.inr ⟨i,rfl,?_⟩⟩
      rcases hW with ⟨h1,h2⟩ | ⟨i',h1,h2⟩
      · subst h1 h2; exact WI.start hpn
      · subst h1; exact h2.push hpn hno
    walk_at "x"
    refine x_lenL (SqL.of gw) ?_
    rw [lw]
    walk_at "x"
    refine ifd (fun h1=>?_) fun h1=>?_
    · have h1:1 < wn.length:=by omega
      obtain ⟨un,hun⟩:∃ un,wn[wn.length - 2]? = some un:=⟨_,List.getElem?_eq_getElem (by omega)⟩
      have hum:un≤m:=by
        rcases hW with ⟨q1,q2⟩ | ⟨i',q1,q2⟩
        · subst q2; simp at h1
        · exact hle un (q2.sub un (List.mem_of_getElem? hun))
      walk_at "x"
      refine x_ixL (SqL.of gw) (atI_neg (j:=1) (v:=.int (f un)) (by rw [lw]; exact h1) (get_int (by rw [lw,List.getElem?_map,show wn.length - (1+1)=wn.length - 2 by omega,hun]; rfl))) ?_
      walk_at "x"
      refine ifV (p:=un=pn) (by rw [decide_eq_true_iff,eq_int_iff]; exact ⟨fun e=>inj _ _ (by omega) (by omega) e,fun e=>by rw [e]⟩) (fun e=>?_) fun e=>?_
      · subst e
        walk_at "x"
        refine x_bm0 ?_
        walk_at "x"
        refine ⟨.inl ⟨rfl,_,SqL.of gw⟩,?_⟩
        obtain ⟨wl,ew⟩:∃ wl,wn=wn.dropLast ++ [wl]:=by
          rcases List.eq_nil_or_concat wn with z | ⟨us,u,z⟩
          · subst z; simp at h1
          · rw [List.concat_eq_append] at z; exact ⟨u,by rw [z]; simp⟩
        have gw':H4 l=some (.lst ((wn.dropLast.map f).map V.int ++ [V.int (f wl)])):=by rw [gw,show (wn.map f).map V.int=((wn.dropLast ++ [wl]).map f).map V.int by rw [← ew],List.map_append,List.map_append]; rfl
        refine x_pop gw' ?_
        refine ⟨B.trans SameBut1.upd,wn.dropLast,_,rfl,upd_same,.inr ⟨i,rfl,?_⟩⟩
        rcases hW with ⟨q1,q2⟩ | ⟨i',q1,q2⟩
        · subst q2; simp at h1
        · subst q1; exact q2.pop hpn h1 hun
      · walk_at "x"
        refine ⟨.inl ⟨rfl,_,SqL.of gw⟩,?_⟩
        walk_at "x"
        exact push fun z=>e (by rw [hun] at z; exact Option.some.inj z.2)
    · refine iteF ?_
      walk_at "x"
      refine ⟨.inl ⟨rfl,_,SqL.of gw⟩,?_⟩
      walk_at "x"
      exact push fun z=>h1 (by omega)
  · rintro σ H4 ⟨B,wn,o5,rfl,gw,hW⟩
    have e0:((((tn rn k).take (ib+1)).map f).map V.int).length=ib+1:=by rw [List.length_map,List.length_map,el]
    rw [e0] at hW
    rcases hW with ⟨q1,q2⟩ | ⟨i',q1,q2⟩
    · omega
    · have ei:i'=ib:=by omega
      subst ei
      walk_at "x"
      have S:Same H H4:=fun b o e=>B b o ((S1.trans (S2.trans S3)) b o e) (ne_of_none (S1 _ _ e) hl)
      refine q l H4 _ S (S1.free hl) gw (q2.wayF (f:=f) T inj ⟨x0,z0,z1⟩ hx (by omega) hib ?_ ?_)
      · have e1:(tn rn k)[0]? = rn[k]?:=by
          unfold tn
          rw [List.getElem?_append_left (by rw [List.length_drop]; omega),List.getElem?_drop]; rfl
        have:=idx_get ha
        rw [hk,List.getElem?_map] at this
        rw [e1]; exact this
      · rw [List.getElem?_map] at gb; exact gb
end K23
namespace K23
open Rm
inductive Th:V→Prop
  | int (i:Int):Th (.int i)
  | bl (b:Bool):Th (.bl b)
  | non:Th .non
  | str (x:Str):Th (.str x)
def isW:V→Bool
  | .int _=>true
  | _=>false
def isPl (n:Nat):V→Bool
  | .int i=>decide (0≤i) && decide (i < n)
  | _=>false
theorem isPl_nat {n i:Nat} (h:i < n):isPl n (.int i)=true:=by
  unfold isPl
  rw [Bool.and_eq_true,decide_eq_true_iff,decide_eq_true_iff]; omega
theorem isPl_of {n:Nat} {v:V} (h:isPl n v=true):∃ i:Nat,i < n∧v = .int i:=by
  cases v with
  | int i =>
    unfold isPl at h
    rw [Bool.and_eq_true,decide_eq_true_iff,decide_eq_true_iff] at h
    exact ⟨i.toNat,by omega,by rw [Int.toNat_of_nonneg h.1]⟩
  | _=>cases h
def sp_is_whole (K:PySem.W.Frag) (C:Addr):Sp:=fun vs H Q _=>∃ v:V,vs=[v]∧Th v∧Q (.bl (isW v)) H
theorem len_is_whole {K:PySem.W.Frag} {C:Addr}:∀ vs H Q E,sp_is_whole K C vs H Q E→vs.length=1:=by
  rintro vs H Q E ⟨i,rfl,_⟩; rfl
theorem run_is_whole {K:PySem.W.Frag} {C:Addr}:∀ vs H Q E,sp_is_whole K C vs H Q E→rd_is_whole K C { nx:=fun _ H'=>Q .non H',rt:=Q } (start ["thing"] vs) H:=by
  rintro vs H Q E ⟨v,rfl,hv,k⟩
  unfold rd_is_whole
  walk_at "x"
  cases hv with
  | int i =>
    refine x_isi (.int i) kit_ii ?_
    walk_at "x"
    refine iteT ?_
    walk_at "x"
    refine x_isi (.int i) kit_ib ?_
    walk_at "x"
    exact k
  | bl b =>
    refine x_isi (.bl b) kit_bi ?_
    walk_at "x"
    refine iteT ?_
    walk_at "x"
    refine x_isi (.bl b) kit_bb ?_
    walk_at "x"
    exact k
  | non =>
    refine x_isi .non kit_ni ?_
    walk_at "x"
    refine iteF ?_
    exact k
  | str x =>
    refine x_isi (.str x) kit_si ?_
    walk_at "x"
    refine iteF ?_
    exact k
def sp_is_place (K:PySem.W.Frag) (C:Addr):Sp:=fun vs H Q _=>∃ (n:Nat) (v:V),vs=[.int n,v]∧Th v∧Q (.bl (isPl n v)) H
theorem len_is_place {K:PySem.W.Frag} {C:Addr}:∀ vs H Q E,sp_is_place K C vs H Q E→vs.length=2:=by
  rintro vs H Q E ⟨n,i,rfl,_⟩; rfl
theorem run_is_place {K:PySem.W.Frag} {C:Addr}:∀ vs H Q E,sp_is_place K C vs H Q E→rd_is_place K C (sp_is_whole K C) { nx:=fun _ H'=>Q .non H',rt:=Q } (start ["n","thing"] vs) H:=by
  rintro vs H Q E ⟨n,v,rfl,hv,k⟩
  unfold rd_is_place
  walk_at "x"
  refine ⟨v,rfl,hv,?_⟩
  refine ⟨isW v,rfl,?_⟩
  cases hv with
  | int i =>
    refine iteT ?_
    walk_at "x"
    refine ifd (fun h=>?_) fun h=>?_
    · walk_at "x"
      have:isPl n (.int i)=decide (i < n):=by show (decide (0≤i) && decide (i < n))=_; rw [decide_eq_true h,Bool.true_and]
      rw [← this]; exact k
    · have:isPl n (.int i)=false:=by show (decide (0≤i) && decide (i < n))=_; rw [decide_eq_false h,Bool.false_and]
      rw [← this]; exact k
  | bl b=>refine iteF ?_; exact k
  | non=>refine iteF ?_; exact k
  | str x=>refine iteF ?_; exact k
def sp_refuse_no_place (K:PySem.W.Frag) (C:Addr) (X:EC):Sp:=fun vs H Q E=>(∃ (n i:Nat),vs=[.int n,.int i]∧i < n∧Q .non H)∨∃ (n:Nat) (v:V),vs=[.int n,v]∧Th v∧isPl n v=false∧E (.ref X.NoPlace) none H
theorem len_refuse_no_place {K:PySem.W.Frag} {C:Addr} {X:EC}:∀ vs H Q E,sp_refuse_no_place K C X vs H Q E→vs.length=2:=by
  rintro vs H Q E (⟨n,i,rfl,_⟩ | ⟨n,i,rfl,_⟩) <;> rfl
theorem run_refuse_no_place {K:PySem.W.Frag} {C:Addr} {X:EC}:∀ vs H Q E,sp_refuse_no_place K C X vs H Q E→rd_refuse_no_place K C X E (sp_is_place K C) { nx:=fun _ H'=>Q .non H',rt:=Q } (start ["n","thing"] vs) H:=by
  rintro vs H Q E (⟨n,i,rfl,hi,k⟩ | ⟨n,v,rfl,hv,hp,k⟩)
  · unfold rd_refuse_no_place
    walk_at "x"
    refine ⟨n,.int i,rfl,.int _,?_⟩
    rw [isPl_nat hi]
    refine ⟨true,rfl,?_⟩
    refine iteF ?_
    walk_at "x"
    exact k
  · unfold rd_refuse_no_place
    walk_at "x"
    refine ⟨n,v,rfl,hv,?_⟩
    rw [hp]
    refine ⟨false,rfl,?_⟩
    refine iteT ?_
    exact k
def sp_refuse_no_places (K:PySem.W.Frag) (C:Addr) (X:EC):Sp:=fun vs H Q E=>(∃ (n i j:Nat),vs=[.int n,.int i,.int j]∧i < n∧j < n∧Q .non H)∨∃ (n:Nat) (v u:V),vs=[.int n,v,u]∧Th v∧Th u∧(isPl n v && isPl n u)=false∧E (.ref X.NoPlace) none H
theorem len_refuse_no_places {K:PySem.W.Frag} {C:Addr} {X:EC}:∀ vs H Q E,sp_refuse_no_places K C X vs H Q E→vs.length=3:=by
  rintro vs H Q E (⟨n,i,j,rfl,_⟩ | ⟨n,i,j,rfl,_⟩) <;> rfl
theorem run_refuse_no_places {K:PySem.W.Frag} {C:Addr} {X:EC}:∀ vs H Q E,sp_refuse_no_places K C X vs H Q E→rd_refuse_no_places K C E (sp_refuse_no_place K C X) { nx:=fun _ H'=>Q .non H',rt:=Q } (start ["n","a","b"] vs) H:=by
  rintro vs H Q E (⟨n,i,j,rfl,hi,hj,k⟩ | ⟨n,v,u,rfl,hv,hu,hp,k⟩)
  · unfold rd_refuse_no_places
    walk_at "x"
    refine .inl ⟨n,i,rfl,hi,?_⟩
    walk_at "x"
    refine .inl ⟨n,j,rfl,hj,?_⟩
    exact k
  · unfold rd_refuse_no_places
    walk_at "x"
    cases h1:isPl n v with
    | false=>exact .inr ⟨n,v,rfl,hv,h1,k⟩
    | true =>
      obtain ⟨i,hi,rfl⟩:=isPl_of h1
      refine .inl ⟨n,i,rfl,hi,?_⟩
      walk_at "x"
      rw [h1,Bool.true_and] at hp
      exact .inr ⟨n,u,rfl,hu,hp,k⟩
def sp_refuse_no_pair (K:PySem.W.Frag) (C:Addr) (X:EC):Sp:=fun vs H Q E=>(∃ (n i j:Nat),vs=[.int n,.int i,.int j]∧i < n∧j < n∧i≠j∧Q .non H)∨(∃ (n:Nat) (v u:V),vs=[.int n,v,u]∧Th v∧Th u∧(isPl n v && isPl n u)=false∧E (.ref X.NoPlace) none H) ∨
  ∃ (n i:Nat),vs=[.int n,.int i,.int i]∧i < n∧E (.ref X.Alike) none H
theorem len_refuse_no_pair {K:PySem.W.Frag} {C:Addr} {X:EC}:∀ vs H Q E,sp_refuse_no_pair K C X vs H Q E→vs.length=3:=by
  rintro vs H Q E (⟨n,i,j,rfl,_⟩ | ⟨n,i,j,rfl,_⟩ | ⟨n,i,rfl,_⟩) <;> rfl
theorem run_refuse_no_pair {K:PySem.W.Frag} {C:Addr} {X:EC}:∀ vs H Q E,sp_refuse_no_pair K C X vs H Q E→rd_refuse_no_pair K C X E (sp_refuse_no_places K C X) { nx:=fun _ H'=>Q .non H',rt:=Q } (start ["n","a","b"] vs) H:=by
  rintro vs H Q E (⟨n,i,j,rfl,hi,hj,hij,k⟩ | ⟨n,v,u,rfl,hv,hu,hp,k⟩ | ⟨n,i,rfl,hi,k⟩)
  · unfold rd_refuse_no_pair
    walk_at "x"
    refine .inl ⟨n,i,j,rfl,hi,hj,?_⟩
    walk_at "x"
    refine ifd (fun z=>absurd (eq_int_iff.mp z) (by omega)) fun _=>?_
    walk_at "x"
    exact k
  · unfold rd_refuse_no_pair
    walk_at "x"
    exact .inr ⟨n,v,u,rfl,hv,hu,hp,k⟩
  · unfold rd_refuse_no_pair
    walk_at "x"
    refine .inl ⟨n,i,i,rfl,hi,hi,?_⟩
    walk_at "x"
    refine ifd (fun _=>?_) fun z=>absurd rfl z
    exact k
end K23
namespace K23
open Rm
theorem x_fld {K:PySem.W.Frag} {ta:TE} {f:Str} {σ:L2.St} {H:Hp} {Q:VK} (h:ta σ H fun x H1=>∃ a C dx fs v,x = .ref a∧H1 a=some (.ins C dx fs)∧Cls K C∧NoAttr K C f∧fs.lookup f=some v∧Q v H1):tFld K ta f σ H Q:=h
theorem x_sfld {K:PySem.W.Frag} {ta tv:TE} {f:Str} {D:Ends} {σ:L2.St} {H:Hp} (h:tv σ H fun y H1=>ta σ H1 fun x H2=>∃ a C dx fs,x = .ref a∧H2 a=some (.ins C dx fs)∧Cls K C∧NoAttr K C f∧fs.length < 1000∧D.nx σ (upd H2 a (.ins C dx (putF f y fs)))):sFld K ta tv f D σ H:=h
theorem x_meth {C:Addr} {m:Str} {sp:Sp} {dvs:List V} {E:XK} {ta:TE} {t:TA} {σ:L2.St} {H:Hp} {Q:VK} (h:ta σ H fun x H1=>∃ a dx fs,x = .ref a∧H1 a=some (.ins C dx fs)∧fs.lookup m=none∧t σ H1 fun vs H2=>sp (x :: (vs ++ dvs)) H2 Q E):tMeth C m sp dvs E ta t σ H Q:=h
theorem kn:¬ (("n":Str) = "rows"):=by decide +kernel
def flds (n:Nat) (l:Addr):List (Str × V):=putF "rows" (.ref l) (putF "n" (.int n) [])
theorem flds_rows (n:Nat) (l:Addr):(flds n l).lookup ("rows":Str)=some (.ref l):=by unfold flds; rw [lookup_putF,if_pos rfl]
theorem flds_n (n:Nat) (l:Addr):(flds n l).lookup ("n":Str)=some (.int n):=by unfold flds; rw [lookup_putF,if_neg kn,lookup_putF,if_pos rfl]
theorem flds_no (n:Nat) (l:Addr) {m:Str} (h1:¬ m = "rows") (h2:¬ m = "n"):(flds n l).lookup m=none:=by
  unfold flds; rw [lookup_putF,if_neg h1,lookup_putF,if_neg h2]; rfl
structure CT (K:PySem.W.Frag) (C:Addr):Prop where
  cl:Cls K C
  n:NoAttr K C "n"
  rows:NoAttr K C "rows"
structure WA (C:Addr) (H:Hp) (p dx l:Addr) (n:Nat) (as:List Addr) (R:Nat→List Int):Prop where
  ob:H p=some (.ins C dx (flds n l))
  rl:H l=some (.lst (as.map V.ref))
  len:as.length=n
  at_:∀ i a,as[i]? = some a→H a=some (.lst ((R i).map V.int))
  ne:∀ a ∈ as,a≠l
theorem WA.get {C:Addr} {H:Hp} {p dx l:Addr} {n:Nat} {as:List Addr} {R:Nat→List Int} (W:WA C H p dx l n as R) {i:Nat} (hi:i < n):∃ a,as[i]? = some a∧H a=some (.lst ((R i).map V.int))∧a≠l:=by
  have h:i < as.length:=by rw [W.len]; exact hi
  exact ⟨as[i],List.getElem?_eq_getElem h,W.at_ i _ (List.getElem?_eq_getElem h),W.ne _ (List.getElem_mem h)⟩
theorem WA.same {C:Addr} {H H':Hp} {p dx l:Addr} {n:Nat} {as:List Addr} {R:Nat→List Int} (W:WA C H p dx l n as R) (S:Same H H'):WA C H' p dx l n as R :=
  ⟨S _ _ W.ob,S _ _ W.rl,W.len,fun i a h=>S _ _ (W.at_ i a h),W.ne⟩
def sp_Wood___init__ (K:PySem.W.Frag) (C:Addr):Sp:=fun vs H Q _=>∃ (p dx:Addr) (n:Nat),vs=[.ref p,.int n]∧H p=some (.ins C dx [])∧CT K C∧n≤1000∧∀ (l:Addr) (as:List Addr) (H':Hp),WA C H' p dx l n as (fun i=>[(i:Int)])→H l=none→SameBut1 p H H'→Q .non H'
theorem len_Wood___init__ {K:PySem.W.Frag} {C:Addr}:∀ vs H Q E,sp_Wood___init__ K C vs H Q E→vs.length=2:=by
  rintro vs H Q E ⟨p,dx,n,rfl,_⟩; rfl
theorem run_Wood___init__ {K : PySem.W.Frag} {C : Addr} : ∀ vs H Q E, sp_Wood___init__ K C vs H Q E → rd_Wood___init__ K C { nx := fun _ H' => Q .non H', rt := Q } (start ["self", "n"] vs) H := by
  rintro vs H Q E ⟨p,dx,n,rfl,hp,ct,hn,k⟩
  unfold rd_Wood___init__
  walk_at "x1"
  refine x_sfld ?_
  walk_at "x"
  refine ⟨p,C,dx,[],rfl,hp,ct.cl,ct.n,by decide,?_⟩
  dsimp only
  refine x_sfld ?_
  walk_at "x"
  refine ⟨by omega,by omega,fun acc hacc=>?_⟩
  have e0:((n:Int)).toNat=n:=by omega
  rw [e0]
  have hap:acc≠p:=fun e=>by rw [e,upd_same] at hacc; cases hacc
  have hacc0:H acc=none:=by rw [upd_ne hap] at hacc; exact hacc
  have g0:(upd H p (.ins C dx (putF "n" (.int n) []))) p=some (.ins C dx (putF "n" (.int n) [])):=upd_same
  have B0:SameBut1 p H (upd H p (.ins C dx (putF "n" (.int n) []))):=SameBut1.upd
  generalize upd H p (.ins C dx (putF "n" (.int n) []))=H0 at hacc g0 B0
  refine comp_by (n:=n) (fun t ys H1=>∃ as:List Addr,ys=as.map V.ref∧as.length=t∧H1 acc=some (.lst ys)∧Same H0 H1∧∀ (i:Nat) a,as[i]? = some a→a≠acc∧H1 a=some (.lst ([(i:Int)].map V.int))) (fun σ=>∃ o,σ = [o]) ⟨[],rfl,rfl,upd_same,Same.upd_new hacc,fun i a h=>by simp at h⟩ ⟨_,rfl⟩ ?_ ?_ ?_ ?_
  · rintro t ys H1 ⟨_,_,_,h,_⟩; exact h
  · rintro ys H1 ⟨as,rfl,hl,g1,S1,hA⟩
    refine ⟨Nat.le_refl n,?_⟩
    walk_at "x"
    refine ⟨p,C,dx,_,rfl,S1 _ _ g0,ct.cl,ct.rows,by show 1 < 1000; decide,?_⟩
    have hb:SameBut1 p H1 (upd H1 p (.ins C dx (flds n acc))):=SameBut1.upd
    have nl:∀ {b:Addr} {xs:List V},H1 b=some (.lst xs)→b≠p:=fun e z=>by rw [z,S1 _ _ g0] at e; cases e
    refine k acc as _ ⟨upd_same,hb _ _ g1 hap,hl,fun i a ha=>hb _ _ (hA i a ha).2 (nl (hA i a ha).2),fun a ha=>?_⟩ hacc0 fun b o e hne=>hb _ _ (S1 _ _ (B0 _ _ e hne)) hne
    obtain ⟨i,hi⟩:=List.mem_iff_getElem?.mp ha
    exact (hA i a hi).1
  · rintro t ys H1 ht _; exact ht
  · rintro t ys σ' H1 x H2 ht ⟨as,rfl,hl,g1,S1,hA⟩ ⟨o,rfl⟩ ⟨eH,ex⟩
    subst eH ex
    walk_at "x"
    refine iteT ?_
    walk_at "x"
    refine ⟨small_le (m:=1) (Nat.le_refl 1),fun q hq=>?_⟩
    have T:=Same.upd_new (o:=.lst [.int (0+(t:Int))]) hq
    have u:(upd H2 q (.lst [.int (0+(t:Int))])) q=some (.lst ([(t:Int)].map V.int)):=by rw [upd_same]; simp
    generalize upd H2 q (.lst [.int (0+(t:Int))])=H3 at T u
    have hqa:q≠acc:=Ne.symm (ne_of_none g1 hq)
    refine ⟨T _ _ g1,small_lt (m:=10000) (by rw [List.length_map]; omega),CNext.mk' ht ⟨_,rfl⟩ ⟨as ++ [q],by simp,by simp [hl],upd_same,fun b o e=>by rw [upd_ne (ne_of_none e hacc)]; exact T _ _ (S1 _ _ e),fun i a ha=>?_⟩⟩
    by_cases hi:i < as.length
    · rw [List.getElem?_append_left hi] at ha
      obtain ⟨h1,h2⟩:=hA i a ha
      exact ⟨h1,by rw [upd_ne h1]; exact T _ _ h2⟩
    · rw [List.getElem?_append_right (by omega)] at ha
      have:i=as.length:=by
        have:=(List.getElem?_eq_some_iff.mp ha).1
        simp at this; omega
      subst this
      simp at ha
      subst ha
      rw [hl]
      exact ⟨hqa,by rw [upd_ne hqa]; exact u⟩
end K23
namespace K23
open Rm
def sp_Wood_keep (K:PySem.W.Frag) (C:Addr):Sp:=fun vs H Q _=>∃ (p dx l q:Addr) (n:Nat) (as:List Addr) (s:List Int),vs=[.ref p,.ref q]∧CT K C∧H p=some (.ins C dx (flds n l))∧H l=some (.lst (as.map V.ref))∧as.length=n∧H q=some (.lst (s.map V.int))∧q≠l∧(∀ x ∈ s,∃ j:Nat,j < n∧x=(j:Int)) ∧
  ∀ (as':List Addr) H',as'.length=n→(∀ (i:Nat) (a:Addr),as[i]? = some a→as'[i]? = some (if (i:Int) ∈ s then q else a))→H' l=some (.lst (as'.map V.ref))→SameBut1 l H H'→Q .non H'
theorem len_Wood_keep {K:PySem.W.Frag} {C:Addr}:∀ vs H Q E,sp_Wood_keep K C vs H Q E→vs.length=2:=by
  rintro vs H Q E ⟨p,dx,l,q,n,as,s,rfl,_⟩; rfl
theorem run_Wood_keep {K : PySem.W.Frag} {C : Addr} : ∀ vs H Q E, sp_Wood_keep K C vs H Q E → rd_Wood_keep K C { nx := fun _ H' => Q .non H', rt := Q } (start ["self", "row", "place"] vs) H := by
  rintro vs H Q E ⟨p,dx,l,q,n,as,s,rfl,ct,hp,hl,hn,hq,hql,hs,k⟩
  have hpl:p≠l:=ne_of hp hl (by intro z; cases z)
  unfold rd_Wood_keep lp_Wood_keep_1
  walk_at "x"
  refine .inl ⟨⟨_,SqL.of hq⟩,for_list (K:=K) (a:=q) (xs:=s.map V.int) (fun i σ H1=>∃ (as':List Addr) (o:Option V),σ = [some (.ref p),some (.ref q),o]∧as'.length=n∧(∀ (j:Nat) (a:Addr),as[j]? = some a→as'[j]? = some (if (j:Int) ∈ s.take i then q else a))∧H1 l=some (.lst (as'.map V.ref))∧SameBut1 l H H1)
    ⟨as,_,rfl,hn,fun j a h=>by simpa using h,hl,SameBut1.refl _ _⟩ ?_ ?_ ?_⟩
  · rintro i σ H1 _ ⟨as',o,_,_,_,_,B⟩; exact SqL.of (B _ _ hq hql)
  · rintro i x σ H1 hi ⟨as',o,rfl,hn',hA,g1,B⟩
    rw [List.getElem?_map] at hi
    obtain ⟨c,hc,ex⟩:=Option.map_eq_some_iff.mp hi
    have ex:x=V.int c:=ex.symm
    subst ex
    obtain ⟨j,hj,rfl⟩:=hs c (List.mem_of_getElem? hc)
    walk_at "x"
    refine x_fld ?_
    walk_at "x"
    refine ⟨p,C,dx,_,_,rfl,B _ _ hp hpl,ct.cl,ct.rows,flds_rows _ _,?_⟩
    walk_at "x"
    refine x_setL g1 (ixN_of (j:=j) rfl (by rw [List.length_map]; omega)) ?_
    refine ⟨as'.set j q,_,rfl,by simpa using hn',fun k' a ha=>?_,?_,fun b o' e hb=>by rw [upd_ne hb]; exact B _ _ e hb⟩
    · have e1:s.take (i+1)=s.take i ++ [(j:Int)]:=by rw [List.take_succ,hc]; rfl
      rw [e1]
      by_cases hk:k'=j
      · subst hk
        rw [List.getElem?_set_self (by rw [hn',← hn]; exact (List.getElem?_eq_some_iff.mp ha).1),if_pos (by simp)]
      · rw [List.getElem?_set_ne (Ne.symm hk),hA k' a ha]
        have:((k':Int) ∈ s.take i ++ [(j:Int)])↔(k':Int) ∈ s.take i:=by
          simp only [List.mem_append,List.mem_singleton]
          exact ⟨fun h=>h.elim id fun e=>absurd (by omega) hk,.inl⟩
        by_cases c1:(k':Int) ∈ s.take i
        · rw [if_pos c1,if_pos (this.mpr c1)]
        · rw [if_neg c1,if_neg (fun h=>c1 (this.mp h))]
    · rw [upd_same,List.map_set]
  · rintro σ H1 ⟨as',o,rfl,hn',hA,g1,B⟩
    rw [List.length_map,List.take_length] at hA
    exact k as' H1 hn' hA g1 B
def NP2 (K:PySem.W.Frag) (C:Addr) (X:EC) (vs:List V) (H:Hp) (E:XK):Prop:=∃ (p dx l:Addr) (n:Nat) (v u:V) (as:List Addr) (R:Nat→List Int),vs=[.ref p,v,u]∧CT K C∧WA C H p dx l n as R∧Th v∧Th u∧(isPl n v && isPl n u)=false∧E (.ref X.NoPlace) none H
def NP1 (K:PySem.W.Frag) (C:Addr) (X:EC) (vs:List V) (H:Hp) (E:XK):Prop:=∃ (p dx l:Addr) (n:Nat) (v:V) (as:List Addr) (R:Nat→List Int),vs=[.ref p,v]∧CT K C∧WA C H p dx l n as R∧Th v∧isPl n v=false∧E (.ref X.NoPlace) none H
def AL2 (K:PySem.W.Frag) (C:Addr) (X:EC) (vs:List V) (H:Hp) (E:XK):Prop:=∃ (p dx l:Addr) (n i:Nat) (as:List Addr) (R:Nat→List Int),vs=[.ref p,.int i,.int i]∧CT K C∧WA C H p dx l n as R∧i < n∧E (.ref X.Alike) none H
def sp0_Wood_joined (K:PySem.W.Frag) (C:Addr):Sp:=fun vs H Q _=>∃ (p dx l:Addr) (n a b:Nat) (as:List Addr) (R:Nat→List Int),vs=[.ref p,.int a,.int b]∧CT K C∧WA C H p dx l n as R∧Wd n R∧a < n∧b < n∧Q (.bl (decide ((b:Int) ∈ R a))) H
theorem run0_Wood_joined {K:PySem.W.Frag} {C:Addr} {X:EC}:∀ vs H Q E,sp0_Wood_joined K C vs H Q E→rd_Wood_joined K C E (sp_refuse_no_places K C X) { nx:=fun _ H'=>Q .non H',rt:=Q } (start ["self","a","b"] vs) H:=by
  rintro vs H Q E ⟨p,dx,l,n,a,b,as,R,rfl,ct,W,D,ha,hb,k⟩
  obtain ⟨ra,e1,e2,_⟩:=W.get ha
  obtain ⟨rb,f1,f2,_⟩:=W.get hb
  have hd:∀ i,i < n→∃ x,(R i)[0]? = some x∧(R i).head? = some x:=fun i hi=>by
    cases h:R i with
    | nil=>exact absurd h (D.r i hi).ne
    | cons x t=>exact ⟨x,rfl,rfl⟩
  obtain ⟨x,hx,hx'⟩:=hd a ha
  obtain ⟨y,hy,hy'⟩:=hd b hb
  have hj:=D.head ha hb
  rw [hx',hy'] at hj
  unfold rd_Wood_joined
  walk_at "x"
  refine x_fld ?_
  walk_at "x"
  refine ⟨p,C,dx,_,_,rfl,W.ob,ct.cl,ct.n,flds_n _ _,?_⟩
  walk_at "x"
  refine .inl ⟨n,a,b,rfl,ha,hb,?_⟩
  walk_at "x"
  refine x_fld ?_
  walk_at "x"
  refine ⟨p,C,dx,_,_,rfl,W.ob,ct.cl,ct.rows,flds_rows _ _,?_⟩
  walk_at "x"
  refine x_ixL (SqL.of W.rl) (atI_of (j:=a) rfl (by rw [List.getElem?_map,e1]; rfl)) ?_
  walk_at "x"
  refine x_ixI (SqL.of e2) (j:=0) rfl hx ?_
  walk_at "x"
  refine x_fld ?_
  walk_at "x"
  refine ⟨p,C,dx,_,_,rfl,W.ob,ct.cl,ct.rows,flds_rows _ _,?_⟩
  walk_at "x"
  refine x_ixL (SqL.of W.rl) (atI_of (j:=b) rfl (by rw [List.getElem?_map,f1]; rfl)) ?_
  walk_at "x"
  refine x_ixI (SqL.of f2) (j:=0) rfl hy ?_
  walk_at "x"
  have e:decide (V.int x=V.int y)=decide ((b:Int) ∈ R a):=by
    rw [Bool.eq_iff_iff,decide_eq_true_iff,decide_eq_true_iff,eq_int_iff,← hj]
    exact ⟨fun h=>by rw [h],fun h=>Option.some.inj h⟩
  rw [e]
  exact k
def sp_Wood_joined (K:PySem.W.Frag) (C:Addr) (X:EC):Sp:=fun vs H Q E=>sp0_Wood_joined K C vs H Q E∨NP2 K C X vs H E
theorem len_Wood_joined {K:PySem.W.Frag} {C:Addr} {X:EC}:∀ vs H Q E,sp_Wood_joined K C X vs H Q E→vs.length=3:=by
  rintro vs H Q E (⟨p,dx,l,n,a,b,as,R,rfl,_⟩ | ⟨p,dx,l,n,v,u,as,R,rfl,_⟩) <;> rfl
theorem run_Wood_joined {K:PySem.W.Frag} {C:Addr} {X:EC}:∀ vs H Q E,sp_Wood_joined K C X vs H Q E→rd_Wood_joined K C E (sp_refuse_no_places K C X) { nx:=fun _ H'=>Q .non H',rt:=Q } (start ["self","a","b"] vs) H:=by
  rintro vs H Q E (h | ⟨p,dx,l,n,v,u,as,R,rfl,ct,W,hv,hu,hp,k⟩)
  · exact run0_Wood_joined vs H Q E h
  · unfold rd_Wood_joined
    walk_at "x"
    refine x_fld ?_
    walk_at "x"
    refine ⟨p,C,dx,_,_,rfl,W.ob,ct.cl,ct.n,flds_n _ _,?_⟩
    walk_at "x"
    exact .inr ⟨n,v,u,rfl,hv,hu,hp,k⟩
def sp0_Wood_way (K:PySem.W.Frag) (C:Addr):Sp:=fun vs H Q _=>∃ (p dx l:Addr) (n a b:Nat) (as:List Addr) (R:Nat→List Int),vs=[.ref p,.int a,.int b]∧CT K C∧WA C H p dx l n as R∧Wd n R∧n≤60∧a < n∧b < n ∧
  ((b:Int) ∉ R a→Q .non H)∧((b:Int) ∈ R a→∀ q H' w,Same H H'→H q=none→H' q=some (.lst (w.map V.int))→Way (R a) a b w→Q (.ref q) H')
theorem run0_Wood_way {K:PySem.W.Frag} {C:Addr} {X:EC}:∀ vs H Q E,sp0_Wood_way K C vs H Q E→rd_Wood_way K C E (sp_Wood_joined K C X) (sp_way_in K C) { nx:=fun _ H'=>Q .non H',rt:=Q } (start ["self","a","b"] vs) H:=by
  rintro vs H Q E ⟨p,dx,l,n,a,b,as,R,rfl,ct,W,D,hn,ha,hb,k1,k2⟩
  obtain ⟨ra,e1,e2,_⟩:=W.get ha
  have hlen:=D.len ha
  unfold rd_Wood_way
  walk_at "x"
  refine x_meth ?_
  walk_at "x"
  refine ⟨p,dx,_,rfl,W.ob,flds_no _ _ (by decide +kernel) (by decide +kernel),?_⟩
  walk_at "x"
  refine .inl ⟨p,dx,l,n,a,b,as,R,rfl,ct,W,D,ha,hb,?_⟩
  refine ⟨_,rfl,?_⟩
  refine ifd (fun hm=>?_) fun hm=>?_
  · walk_at "x"
    refine x_fld ?_
    walk_at "x"
    refine ⟨p,C,dx,_,_,rfl,W.ob,ct.cl,ct.rows,flds_rows _ _,?_⟩
    walk_at "x"
    refine x_ixL (SqL.of W.rl) (atI_of (j:=a) rfl (by rw [List.getElem?_map,e1]; rfl)) ?_
    walk_at "x"
    exact ⟨ra,R a,a,b,rfl,e2,D.r a ha,by omega,D.me a ha,hm,fun q H' w S hq gq hw=>k2 hm q H' w S hq gq hw⟩
  · walk_at "x"
    exact k1 hm
def sp_Wood_way (K:PySem.W.Frag) (C:Addr) (X:EC):Sp:=fun vs H Q E=>sp0_Wood_way K C vs H Q E∨NP2 K C X vs H E
theorem len_Wood_way {K:PySem.W.Frag} {C:Addr} {X:EC}:∀ vs H Q E,sp_Wood_way K C X vs H Q E→vs.length=3:=by
  rintro vs H Q E (⟨p,dx,l,n,a,b,as,R,rfl,_⟩ | ⟨p,dx,l,n,v,u,as,R,rfl,_⟩) <;> rfl
theorem run_Wood_way {K:PySem.W.Frag} {C:Addr} {X:EC}:∀ vs H Q E,sp_Wood_way K C X vs H Q E→rd_Wood_way K C E (sp_Wood_joined K C X) (sp_way_in K C) { nx:=fun _ H'=>Q .non H',rt:=Q } (start ["self","a","b"] vs) H:=by
  rintro vs H Q E (h | ⟨p,dx,l,n,v,u,as,R,rfl,ct,W,hv,hu,hp,k⟩)
  · exact run0_Wood_way vs H Q E h
  · unfold rd_Wood_way
    walk_at "x"
    refine x_meth ?_
    walk_at "x"
    refine ⟨p,dx,_,rfl,W.ob,flds_no _ _ (by decide +kernel) (by decide +kernel),?_⟩
    walk_at "x"
    exact .inr ⟨p,dx,l,n,v,u,as,R,rfl,ct,W,hv,hu,hp,k⟩
def sp0_Wood_link (K:PySem.W.Frag) (C:Addr):Sp:=fun vs H Q _=>∃ (p dx l:Addr) (n a b:Nat) (as:List Addr) (R:Nat→List Int),vs=[.ref p,.int a,.int b]∧CT K C∧WA C H p dx l n as R∧Wd n R∧n≤200∧a < n∧b < n∧(b:Int) ∉ R a ∧
  ∀ (as':List Addr) R' H',WA C H' p dx l n as' R'→Wd n R'→(∀ x y,Ed n R' x y↔(Ed n R x y∨(x,y)=((a:Int),(b:Int))∨(x,y)=((b:Int),(a:Int))))→SameBut1 l H H'→(∀ c ∈ as',c ∈ as∨H c=none)→Q .non H'
theorem run0_Wood_link {K : PySem.W.Frag} {C : Addr} {X : EC} : ∀ vs H Q E, sp0_Wood_link K C vs H Q E → rd_Wood_link K C X E (sp_refuse_no_pair K C X) (sp_Wood_joined K C X) (sp_Wood_keep K C) (sp_spliced K C) { nx := fun _ H' => Q .non H', rt := Q } (start ["self", "a", "b"] vs) H := by
  rintro vs H Q E ⟨p,dx,l,n,a,b,as,R,rfl,ct,W,D,hn,ha,hb,hm,k⟩
  obtain ⟨ra,e1,e2,_⟩:=W.get ha
  obtain ⟨rb,f1,f2,_⟩:=W.get hb
  have hla:=D.len ha
  have hlb:=D.len hb
  have hab:a≠b:=fun e=>hm (e ▸ D.me a ha)
  obtain ⟨T2,D2,E2⟩:=D.link ha hb hm
  unfold rd_Wood_link
  walk_at "x"
  refine x_fld ?_
  walk_at "x"
  refine ⟨p,C,dx,_,_,rfl,W.ob,ct.cl,ct.n,flds_n _ _,?_⟩
  walk_at "x"
  refine .inl ⟨n,a,b,rfl,ha,hb,hab,?_⟩
  walk_at "x"
  refine x_meth ?_
  walk_at "x"
  refine ⟨p,dx,_,rfl,W.ob,flds_no _ _ (by decide +kernel) (by decide +kernel),?_⟩
  walk_at "x"
  refine .inl ⟨p,dx,l,n,a,b,as,R,rfl,ct,W,D,ha,hb,?_⟩
  refine ⟨_,rfl,?_⟩
  refine ifd (fun z=>absurd z hm) fun _=>?_
  walk_at "x"
  refine x_meth ?_
  walk_at "x"
  refine ⟨p,dx,_,rfl,W.ob,flds_no _ _ (by decide +kernel) (by decide +kernel),?_⟩
  walk_at "x"
  refine x_fld ?_
  walk_at "x"
  refine ⟨p,C,dx,_,_,rfl,W.ob,ct.cl,ct.rows,flds_rows _ _,?_⟩
  walk_at "x"
  refine x_ixL (SqL.of W.rl) (atI_of (j:=a) rfl (by rw [List.getElem?_map,e1]; rfl)) ?_
  walk_at "x"
  refine x_fld ?_
  walk_at "x"
  refine ⟨p,C,dx,_,_,rfl,W.ob,ct.cl,ct.rows,flds_rows _ _,?_⟩
  walk_at "x"
  refine x_ixL (SqL.of W.rl) (atI_of (j:=b) rfl (by rw [List.getElem?_map,f1]; rfl)) ?_
  walk_at "x"
  refine ⟨ra,rb,R a,R b,a,b,rfl,SqL.of e2,SqL.of f2,D.me a ha,D.me b hb,by omega,by omega,fun q H1 S1 hq gq=>?_⟩
  walk_at "x"
  have W1:=W.same S1
  have hql:q≠l:=Ne.symm (ne_of_none W.rl hq)
  refine ⟨p,dx,l,q,n,as,_,rfl,ct,W1.ob,W1.rl,W.len,gq,hql,fun x hx=>?_,fun as' H2 hl2 hA g2 B2=>?_⟩
  · rcases (T2.mem x).mp hx with h | h
    · obtain ⟨j,hj,e,_⟩:=D.in_ a ha x h; exact ⟨j,hj,e⟩
    · obtain ⟨j,hj,e,_⟩:=D.in_ b hb x h; exact ⟨j,hj,e⟩
  · have hpl:p≠l:=ne_of W.ob W.rl (by intro z; cases z)
    have hAt:∀ (i:Nat) (c:Addr),as'[i]? = some c→∃ c0,as[i]? = some c0∧c=if (i:Int) ∈ spl (R a) (R b) a b then q else c0:=fun i c hc=>by
      have hi:i < as.length:=by rw [W.len,← hl2]; exact (List.getElem?_eq_some_iff.mp hc).1
      have:=hA i _ (List.getElem?_eq_getElem hi)
      rw [hc] at this
      exact ⟨_,List.getElem?_eq_getElem hi,Option.some.inj this⟩
    refine k as' _ H2 ⟨B2 _ _ W1.ob hpl,g2,hl2,fun i c hc=>?_,fun c hc=>?_⟩ D2 E2 (fun b' o e hne=>B2 _ _ (S1 _ _ e) hne) fun c hc=>?_
    · obtain ⟨c0,h0,ec⟩:=hAt i c hc
      by_cases ci:(i:Int) ∈ spl (R a) (R b) a b
      · rw [if_pos ci] at ec ⊢
        rw [ec]; exact B2 _ _ gq hql
      · rw [if_neg ci] at ec ⊢
        rw [ec]; exact B2 _ _ (W1.at_ i c0 h0) (W.ne _ (List.mem_of_getElem? h0))
    · obtain ⟨i,hi⟩:=List.mem_iff_getElem?.mp hc
      obtain ⟨c0,h0,ec⟩:=hAt i c hi
      by_cases ci:(i:Int) ∈ spl (R a) (R b) a b
      · rw [if_pos ci] at ec; rw [ec]; exact hql
      · rw [if_neg ci] at ec; rw [ec]; exact W.ne _ (List.mem_of_getElem? h0)
    · obtain ⟨i,hi⟩:=List.mem_iff_getElem?.mp hc
      obtain ⟨c0,h0,ec⟩:=hAt i c hi
      by_cases ci:(i:Int) ∈ spl (R a) (R b) a b
      · rw [if_pos ci] at ec; rw [ec]; exact .inr hq
      · rw [if_neg ci] at ec; rw [ec]; exact .inl (List.mem_of_getElem? h0)
def sp_Wood_link (K:PySem.W.Frag) (C:Addr) (X:EC):Sp:=fun vs H Q E=>sp0_Wood_link K C vs H Q E∨NP2 K C X vs H E∨AL2 K C X vs H E∨∃ (p dx l:Addr) (n a b:Nat) (as:List Addr) (R:Nat→List Int),vs=[.ref p,.int a,.int b]∧CT K C∧WA C H p dx l n as R∧Wd n R∧a < n∧b < n∧a≠b∧(b:Int) ∈ R a∧E (.ref X.Joined) none H
theorem len_Wood_link {K:PySem.W.Frag} {C:Addr} {X:EC}:∀ vs H Q E,sp_Wood_link K C X vs H Q E→vs.length=3:=by
  rintro vs H Q E (⟨p,dx,l,n,a,b,as,R,rfl,_⟩ | ⟨p,dx,l,n,v,u,as,R,rfl,_⟩ | ⟨p,dx,l,n,i,as,R,rfl,_⟩ | ⟨p,dx,l,n,a,b,as,R,rfl,_⟩) <;> rfl
theorem run_Wood_link {K:PySem.W.Frag} {C:Addr} {X:EC}:∀ vs H Q E,sp_Wood_link K C X vs H Q E→rd_Wood_link K C X E (sp_refuse_no_pair K C X) (sp_Wood_joined K C X) (sp_Wood_keep K C) (sp_spliced K C) { nx:=fun _ H'=>Q .non H',rt:=Q } (start ["self","a","b"] vs) H:=by
  rintro vs H Q E (h | ⟨p,dx,l,n,v,u,as,R,rfl,ct,W,hv,hu,hp,k⟩ | ⟨p,dx,l,n,i,as,R,rfl,ct,W,hi,k⟩ | ⟨p,dx,l,n,a,b,as,R,rfl,ct,W,D,ha,hb,hab,hm,k⟩)
  · exact run0_Wood_link vs H Q E h
  · unfold rd_Wood_link
    walk_at "x"
    refine x_fld ?_
    walk_at "x"
    refine ⟨p,C,dx,_,_,rfl,W.ob,ct.cl,ct.n,flds_n _ _,?_⟩
    walk_at "x"
    exact .inr (.inl ⟨n,v,u,rfl,hv,hu,hp,k⟩)
  · unfold rd_Wood_link
    walk_at "x"
    refine x_fld ?_
    walk_at "x"
    refine ⟨p,C,dx,_,_,rfl,W.ob,ct.cl,ct.n,flds_n _ _,?_⟩
    walk_at "x"
    exact .inr (.inr ⟨n,i,rfl,hi,k⟩)
  · unfold rd_Wood_link
    walk_at "x"
    refine x_fld ?_
    walk_at "x"
    refine ⟨p,C,dx,_,_,rfl,W.ob,ct.cl,ct.n,flds_n _ _,?_⟩
    walk_at "x"
    refine .inl ⟨n,a,b,rfl,ha,hb,hab,?_⟩
    walk_at "x"
    refine x_meth ?_
    walk_at "x"
    refine ⟨p,dx,_,rfl,W.ob,flds_no _ _ (by decide +kernel) (by decide +kernel),?_⟩
    walk_at "x"
    refine .inl ⟨p,dx,l,n,a,b,as,R,rfl,ct,W,D,ha,hb,?_⟩
    rw [decide_eq_true hm]
    refine ⟨true,rfl,?_⟩
    refine iteT ?_
    exact k
end K23
namespace K23
open Rm
def sp0_Wood_cut (K:PySem.W.Frag) (C:Addr):Sp:=fun vs H Q _=>∃ (p dx l:Addr) (n a b:Nat) (as:List Addr) (R:Nat→List Int),vs=[.ref p,.int a,.int b]∧CT K C∧WA C H p dx l n as R∧Wd n R∧n≤200∧a < n∧b < n∧a≠b∧Ed n R a b ∧
  ∀ (as':List Addr) R' H',WA C H' p dx l n as' R'→Wd n R'→(∀ x y,Ed n R' x y↔(Ed n R x y∧¬ (x,y)=((a:Int),(b:Int))∧¬ (x,y)=((b:Int),(a:Int))))→SameBut1 l H H'→(∀ c ∈ as',c ∈ as∨H c=none)→Q .non H'
theorem run0_Wood_cut {K : PySem.W.Frag} {C : Addr} {X : EC} : ∀ vs H Q E, sp0_Wood_cut K C vs H Q E → rd_Wood_cut K C X E (sp_refuse_no_pair K C X) (sp_parted K C) (sp_steps_along K C) (sp_Wood_keep K C) { nx := fun _ H' => Q .non H', rt := Q } (start ["self", "a", "b", "row"] vs) H := by
  rintro vs H Q E ⟨p,dx,l,n,a,b,as,R,rfl,ct,W,D,hn,ha,hb,hab,hE,k⟩
  obtain ⟨ra,e1,e2,_⟩:=W.get ha
  have hla:=D.len ha
  have hm:=Ed.at D hE ha (D.me a ha)
  have hm':=(D.r a ha).sym _ _ hm
  obtain ⟨D2,E2⟩:=D.cut ha hb hab hm
  have P:=(D.r a ha).parted hm (by omega:(a:Int)≠b)
  have PM:=P.mem (D.r a ha)
  have hpl:p≠l:=ne_of W.ob W.rl (by intro z; cases z)
  unfold rd_Wood_cut
  walk_at "x"
  refine x_fld ?_
  walk_at "x"
  refine ⟨p,C,dx,_,_,rfl,W.ob,ct.cl,ct.n,flds_n _ _,?_⟩
  walk_at "x"
  refine .inl ⟨n,a,b,rfl,ha,hb,hab,?_⟩
  walk_at "x"
  refine ⟨small_le (m:=2) (Nat.le_refl 2),fun t ht=>?_⟩
  have S1:=Same.upd_new (o:=.tup [.int (a:Int),.int (b:Int)]) ht
  have g1:(upd H t (.tup [.int (a:Int),.int (b:Int)])) t=some (.tup [.int (a:Int),.int (b:Int)]):=upd_same
  generalize upd H t (.tup [.int (a:Int),.int (b:Int)])=H1 at S1 g1
  have W1:=W.same S1
  walk_at "x"
  refine x_fld ?_
  walk_at "x"
  refine ⟨p,C,dx,_,_,rfl,W1.ob,ct.cl,ct.rows,flds_rows _ _,?_⟩
  walk_at "x"
  refine x_ixL (SqL.of W1.rl) (atI_of (j:=a) rfl (by rw [List.getElem?_map,e1]; rfl)) ?_
  walk_at "x"
  refine ⟨ra,R a,rfl,SqL.of (S1 _ _ e2),by omega,fun z H2 zs S2 hz gz pz ez=>?_⟩
  refine x_notInD (rep_pd (S2 _ _ g1)) (rep_zs gz pz) (fine_pd _) (plainAll_lay _ (plain_zs _)) ?_
  have hin:(((zs.map zP).map pdZ).any fun e=>PyData.eqv e (pdZ ((a:Int),(b:Int))))=true:=by
    rw [ez,List.any_map,List.any_eq_true]
    exact ⟨_,hm,by simp [eqv_pd]⟩
  rw [hin]
  walk_at "x"
  refine iteF ?_
  have S12:=S1.trans S2
  have W2:=W.same S12
  walk_at "x"
  unfold lp_Wood_cut_1
  walk_at "x"
  refine x_fld ?_
  walk_at "x"
  refine ⟨p,C,dx,_,_,rfl,W2.ob,ct.cl,ct.rows,flds_rows _ _,?_⟩
  walk_at "x"
  refine x_ixL (SqL.of W2.rl) (atI_of (j:=a) rfl (by rw [List.getElem?_map,e1]; rfl)) ?_
  walk_at "x"
  refine ⟨ra,R a,a,b,rfl,SqL.of (S12 _ _ e2),by omega,hm,hm',fun u x y H3 S3 hu hx hy hxy gu gx gy=>?_⟩
  have S13:=S12.trans S3
  have W3:=W.same S13
  have hxl:x≠l:=Ne.symm (ne_of_none W2.rl hx)
  have hyl:y≠l:=Ne.symm (ne_of_none W2.rl hy)
  have hul:u≠l:=Ne.symm (ne_of_none W2.rl hu)
  have jin:∀ z,z ∈ R a→∃ j:Nat,j < n∧z=(j:Int):=fun z hz=>let ⟨j,hj,e,_⟩:=D.in_ a ha z hz; ⟨j,hj,e⟩
  generalize (prt (R a) a b).1=X at P PM gx D2 E2
  generalize (prt (R a) a b).2=Y at P PM gy D2 E2
  walk_at "x"
  refine .inr (.inl ⟨⟨_,SqT.of gu⟩,for_tup (K:=K) (a:=u) (xs:=[.ref x,.ref y]) (fun i σ H4=>∃ (as1:List Addr) (o:Option V),σ = [some (.ref p),some (.int (a:Int)),some (.int (b:Int)),o]∧as1.length=n∧H4 l=some (.lst (as1.map V.ref))∧SameBut1 l H3 H4 ∧
    ∀ (j:Nat) (c:Addr),as[j]? = some c→as1[j]? = some (if 2≤i∧(j:Int) ∈ Y then y else if 1≤i∧(j:Int) ∈ X then x else c)) ⟨as,_,rfl,W.len,W3.rl,SameBut1.refl _ _,fun j c h=>by rw [if_neg (fun z=>by omega),if_neg (fun z=>by omega)]; exact h⟩ ?_ ?_ ?_⟩)
  · rintro i σ H4 _ ⟨_,_,_,_,_,B,_⟩; exact SqT.of (B _ _ gu hul)
  · rintro i v σ H4 hi ⟨as1,o,rfl,hl1,g4,B,hA⟩
    obtain ⟨q,s,hql,gq,hs,ev,hif⟩:∃ (q:Addr) (s:List Int),q≠l∧H3 q=some (.lst (s.map V.int))∧(∀ z ∈ s,∃ j:Nat,j < n∧z=(j:Int))∧v = .ref q∧(∀ (j:Nat) (c:Addr),(if (j:Int) ∈ s then q else if 2≤i∧(j:Int) ∈ Y then y else if 1≤i∧(j:Int) ∈ X then x else c)=if 2≤i+1∧(j:Int) ∈ Y then y else if 1≤i+1∧(j:Int) ∈ X then x else c):=by
      rcases (show i=0∨i=1 by have:=(List.getElem?_eq_some_iff.mp hi).1; simp at this; omega) with rfl | rfl
      · refine ⟨x,X,hxl,gx,fun z hz=>jin z ((PM z).mpr (.inl hz)),by simpa using hi.symm,fun j c=>?_⟩
        by_cases c1:(j:Int) ∈ X <;> simp [c1]
      · refine ⟨y,Y,hyl,gy,fun z hz=>jin z ((PM z).mpr (.inr hz)),by simpa using hi.symm,fun j c=>?_⟩
        by_cases c2:(j:Int) ∈ Y <;> by_cases c1:(j:Int) ∈ X <;> simp [c1,c2]
    subst ev
    walk_at "x"
    refine x_meth ?_
    walk_at "x"
    refine ⟨p,dx,_,rfl,B _ _ W3.ob hpl,flds_no _ _ (by decide +kernel) (by decide +kernel),?_⟩
    walk_at "x"
    refine ⟨p,dx,l,q,n,as1,s,rfl,ct,B _ _ W3.ob hpl,g4,hl1,B _ _ gq hql,hql,hs,fun as2 H5 hl2 hA2 g5 B5=>?_⟩
    refine ⟨as2,_,rfl,hl2,g5,fun b' o' e hne=>B5 _ _ (B _ _ e hne) hne,fun j c hc=>?_⟩
    rw [hA2 j _ (hA j c hc),hif j c]
  · rintro σ H4 ⟨as2,o,rfl,hl2,g4,B,hA⟩
    have hAt:∀ (i:Nat) (c:Addr),as2[i]? = some c→∃ c0,as[i]? = some c0∧c=if (i:Int) ∈ Y then y else if (i:Int) ∈ X then x else c0:=fun i c hc=>by
      have hi:i < as.length:=by rw [W.len,← hl2]; exact (List.getElem?_eq_some_iff.mp hc).1
      have:=hA i _ (List.getElem?_eq_getElem hi)
      rw [hc] at this
      refine ⟨_,List.getElem?_eq_getElem hi,(Option.some.inj this).trans ?_⟩
      show (if 2≤2∧(i:Int) ∈ Y then y else if 1≤2∧(i:Int) ∈ X then x else as[i])=_
      simp
    refine k as2 _ H4 ⟨B _ _ W3.ob hpl,g4,hl2,fun i c hc=>?_,fun c hc=>?_⟩ D2 E2 (fun b' o' e hne=>B _ _ (S13 _ _ e) hne) fun c hc=>?_
    · obtain ⟨c0,h0,ec⟩:=hAt i c hc
      by_cases c2:(i:Int) ∈ Y
      · rw [if_pos c2] at ec ⊢
        rw [ec]; exact B _ _ gy hyl
      · rw [if_neg c2] at ec ⊢
        by_cases c1:(i:Int) ∈ X
        · rw [if_pos c1] at ec ⊢
          rw [ec]; exact B _ _ gx hxl
        · rw [if_neg c1] at ec ⊢
          rw [ec]; exact B _ _ (W3.at_ i c0 h0) (W.ne _ (List.mem_of_getElem? h0))
    · obtain ⟨i,hi⟩:=List.mem_iff_getElem?.mp hc
      obtain ⟨c0,h0,ec⟩:=hAt i c hi
      by_cases c2:(i:Int) ∈ Y
      · rw [if_pos c2] at ec; rw [ec]; exact hyl
      · rw [if_neg c2] at ec
        by_cases c1:(i:Int) ∈ X
        · rw [if_pos c1] at ec; rw [ec]; exact hxl
        · rw [if_neg c1] at ec; rw [ec]; exact W.ne _ (List.mem_of_getElem? h0)
    · obtain ⟨i,hi⟩:=List.mem_iff_getElem?.mp hc
      obtain ⟨c0,h0,ec⟩:=hAt i c hi
      by_cases c2:(i:Int) ∈ Y
      · rw [if_pos c2] at ec; rw [ec]; exact .inr (S12.free hy)
      · rw [if_neg c2] at ec
        by_cases c1:(i:Int) ∈ X
        · rw [if_pos c1] at ec; rw [ec]; exact .inr (S12.free hx)
        · rw [if_neg c1] at ec; rw [ec]; exact .inl (List.mem_of_getElem? h0)
def sp_Wood_cut (K:PySem.W.Frag) (C:Addr) (X:EC):Sp:=fun vs H Q E=>sp0_Wood_cut K C vs H Q E∨NP2 K C X vs H E∨AL2 K C X vs H E∨∃ (p dx l:Addr) (n a b:Nat) (as:List Addr) (R:Nat→List Int),vs=[.ref p,.int a,.int b]∧CT K C∧WA C H p dx l n as R∧Wd n R∧n≤200∧a < n∧b < n∧a≠b∧¬ Ed n R a b∧∀ H',Same H H'→E (.ref X.NoTie) none H'
theorem len_Wood_cut {K:PySem.W.Frag} {C:Addr} {X:EC}:∀ vs H Q E,sp_Wood_cut K C X vs H Q E→vs.length=3:=by
  rintro vs H Q E (⟨p,dx,l,n,a,b,as,R,rfl,_⟩ | ⟨p,dx,l,n,v,u,as,R,rfl,_⟩ | ⟨p,dx,l,n,i,as,R,rfl,_⟩ | ⟨p,dx,l,n,a,b,as,R,rfl,_⟩) <;> rfl
theorem run_Wood_cut {K:PySem.W.Frag} {C:Addr} {X:EC}:∀ vs H Q E,sp_Wood_cut K C X vs H Q E→rd_Wood_cut K C X E (sp_refuse_no_pair K C X) (sp_parted K C) (sp_steps_along K C) (sp_Wood_keep K C) { nx:=fun _ H'=>Q .non H',rt:=Q } (start ["self","a","b","row"] vs) H:=by
  rintro vs H Q E (h | ⟨p,dx,l,n,v,u,as,R,rfl,ct,W,hv,hu,hp,k⟩ | ⟨p,dx,l,n,i,as,R,rfl,ct,W,hi,k⟩ | ⟨p,dx,l,n,a,b,as,R,rfl,ct,W,D,hn,ha,hb,hab,hE,k⟩)
  · exact run0_Wood_cut vs H Q E h
  · unfold rd_Wood_cut
    walk_at "x"
    refine x_fld ?_
    walk_at "x"
    refine ⟨p,C,dx,_,_,rfl,W.ob,ct.cl,ct.n,flds_n _ _,?_⟩
    walk_at "x"
    exact .inr (.inl ⟨n,v,u,rfl,hv,hu,hp,k⟩)
  · unfold rd_Wood_cut
    walk_at "x"
    refine x_fld ?_
    walk_at "x"
    refine ⟨p,C,dx,_,_,rfl,W.ob,ct.cl,ct.n,flds_n _ _,?_⟩
    walk_at "x"
    exact .inr (.inr ⟨n,i,rfl,hi,k⟩)
  · obtain ⟨ra,e1,e2,_⟩:=W.get ha
    have hla:=D.len ha
    unfold rd_Wood_cut
    walk_at "x"
    refine x_fld ?_
    walk_at "x"
    refine ⟨p,C,dx,_,_,rfl,W.ob,ct.cl,ct.n,flds_n _ _,?_⟩
    walk_at "x"
    refine .inl ⟨n,a,b,rfl,ha,hb,hab,?_⟩
    walk_at "x"
    refine ⟨small_le (m:=2) (Nat.le_refl 2),fun t ht=>?_⟩
    have S1:=Same.upd_new (o:=.tup [.int (a:Int),.int (b:Int)]) ht
    have g1:(upd H t (.tup [.int (a:Int),.int (b:Int)])) t=some (.tup [.int (a:Int),.int (b:Int)]):=upd_same
    generalize upd H t (.tup [.int (a:Int),.int (b:Int)])=H1 at S1 g1
    have W1:=W.same S1
    walk_at "x"
    refine x_fld ?_
    walk_at "x"
    refine ⟨p,C,dx,_,_,rfl,W1.ob,ct.cl,ct.rows,flds_rows _ _,?_⟩
    walk_at "x"
    refine x_ixL (SqL.of W1.rl) (atI_of (j:=a) rfl (by rw [List.getElem?_map,e1]; rfl)) ?_
    walk_at "x"
    refine ⟨ra,R a,rfl,SqL.of (S1 _ _ e2),by omega,fun z H2 zs S2 hz gz pz ez=>?_⟩
    refine x_notInD (rep_pd (S2 _ _ g1)) (rep_zs gz pz) (fine_pd _) (plainAll_lay _ (plain_zs _)) ?_
    have hin:(((zs.map zP).map pdZ).any fun e=>PyData.eqv e (pdZ ((a:Int),(b:Int))))=false:=by
      rw [ez,List.any_map,List.any_eq_false]
      intro t ht he
      have he:t=((a:Int),(b:Int)):=by simpa [eqv_pd] using he
      subst he
      exact hE ⟨a,ha,ht⟩
    rw [hin]
    walk_at "x"
    refine iteT ?_
    exact k _ (S1.trans S2)
end K23
namespace K23
open Rm
def sp0_Wood_group (K:PySem.W.Frag) (C:Addr):Sp:=fun vs H Q _=>∃ (p dx l:Addr) (n a:Nat) (as:List Addr) (R:Nat→List Int),vs=[.ref p,.int a]∧CT K C∧WA C H p dx l n as R∧Wd n R∧(R a).length≤125∧a < n ∧
  ∀ q (ks:List Int),H q=none→ks.Pairwise (· < ·)→(∀ x,x ∈ ks↔x ∈ R a)→Q (.ref q) (upd H q (.lst (ks.map V.int)))
theorem run0_Wood_group {K:PySem.W.Frag} {C:Addr} {X:EC}:∀ vs H Q E,sp0_Wood_group K C vs H Q E→rd_Wood_group K C E (sp_refuse_no_place K C X) { nx:=fun _ H'=>Q .non H',rt:=Q } (start ["self","a"] vs) H:=by
  rintro vs H Q E ⟨p,dx,l,n,a,as,R,rfl,ct,W,D,hn,ha,k⟩
  obtain ⟨ra,e1,e2,_⟩:=W.get ha
  unfold rd_Wood_group
  walk_at "x"
  refine x_fld ?_
  walk_at "x"
  refine ⟨p,C,dx,_,_,rfl,W.ob,ct.cl,ct.n,flds_n _ _,?_⟩
  walk_at "x"
  refine .inl ⟨n,a,rfl,ha,?_⟩
  walk_at "x"
  refine x_sortSet ?_
  walk_at "x"
  refine x_fld ?_
  walk_at "x"
  refine ⟨p,C,dx,_,_,rfl,W.ob,ct.cl,ct.rows,flds_rows _ _,?_⟩
  walk_at "x"
  refine x_ixL (SqL.of W.rl) (atI_of (j:=a) rfl (by rw [List.getElem?_map,e1]; rfl)) ?_
  walk_at "x"
  refine ⟨ra,R a,rfl,SqL.of e2,by omega,?_,fun q ks hq h1 h2=>k q ks hq h1 h2⟩
  obtain ⟨ds,d1,d2,d3⟩:=(D.r a ha).cnt
  exact ⟨ds,by omega,fun x hx=>(d2 x).mpr hx⟩
def sp0_Wood_size (K:PySem.W.Frag) (C:Addr):Sp:=fun vs H Q _=>∃ (p dx l:Addr) (n a:Nat) (as:List Addr) (R:Nat→List Int),vs=[.ref p,.int a]∧CT K C∧WA C H p dx l n as R∧Wd n R∧a < n∧Q (.int ((((R a).length:Int)+1) / 2)) H
theorem run0_Wood_size {K:PySem.W.Frag} {C:Addr} {X:EC}:∀ vs H Q E,sp0_Wood_size K C vs H Q E→rd_Wood_size K C E (sp_refuse_no_place K C X) { nx:=fun _ H'=>Q .non H',rt:=Q } (start ["self","a"] vs) H:=by
  rintro vs H Q E ⟨p,dx,l,n,a,as,R,rfl,ct,W,D,ha,k⟩
  obtain ⟨ra,e1,e2,_⟩:=W.get ha
  unfold rd_Wood_size
  walk_at "x"
  refine x_fld ?_
  walk_at "x"
  refine ⟨p,C,dx,_,_,rfl,W.ob,ct.cl,ct.n,flds_n _ _,?_⟩
  walk_at "x"
  refine .inl ⟨n,a,rfl,ha,?_⟩
  walk_at "x"
  refine x_fld ?_
  walk_at "x"
  refine ⟨p,C,dx,_,_,rfl,W.ob,ct.cl,ct.rows,flds_rows _ _,?_⟩
  walk_at "x"
  refine x_ixL (SqL.of W.rl) (atI_of (j:=a) rfl (by rw [List.getElem?_map,e1]; rfl)) ?_
  walk_at "x"
  refine x_lenI (SqL.of e2) ?_
  walk_at "x"
  exact k
def sp_Wood_group (K:PySem.W.Frag) (C:Addr) (X:EC):Sp:=fun vs H Q E=>sp0_Wood_group K C vs H Q E∨NP1 K C X vs H E
theorem len_Wood_group {K:PySem.W.Frag} {C:Addr} {X:EC}:∀ vs H Q E,sp_Wood_group K C X vs H Q E→vs.length=2:=by
  rintro vs H Q E (⟨p,dx,l,n,a,as,R,rfl,_⟩ | ⟨p,dx,l,n,v,as,R,rfl,_⟩) <;> rfl
theorem run_Wood_group {K:PySem.W.Frag} {C:Addr} {X:EC}:∀ vs H Q E,sp_Wood_group K C X vs H Q E→rd_Wood_group K C E (sp_refuse_no_place K C X) { nx:=fun _ H'=>Q .non H',rt:=Q } (start ["self","a"] vs) H:=by
  rintro vs H Q E (h | ⟨p,dx,l,n,v,as,R,rfl,ct,W,hv,hp,k⟩)
  · exact run0_Wood_group vs H Q E h
  · unfold rd_Wood_group
    walk_at "x"
    refine x_fld ?_
    walk_at "x"
    refine ⟨p,C,dx,_,_,rfl,W.ob,ct.cl,ct.n,flds_n _ _,?_⟩
    walk_at "x"
    exact .inr ⟨n,v,rfl,hv,hp,k⟩
def sp_Wood_size (K:PySem.W.Frag) (C:Addr) (X:EC):Sp:=fun vs H Q E=>sp0_Wood_size K C vs H Q E∨NP1 K C X vs H E
theorem len_Wood_size {K:PySem.W.Frag} {C:Addr} {X:EC}:∀ vs H Q E,sp_Wood_size K C X vs H Q E→vs.length=2:=by
  rintro vs H Q E (⟨p,dx,l,n,a,as,R,rfl,_⟩ | ⟨p,dx,l,n,v,as,R,rfl,_⟩) <;> rfl
theorem run_Wood_size {K:PySem.W.Frag} {C:Addr} {X:EC}:∀ vs H Q E,sp_Wood_size K C X vs H Q E→rd_Wood_size K C E (sp_refuse_no_place K C X) { nx:=fun _ H'=>Q .non H',rt:=Q } (start ["self","a"] vs) H:=by
  rintro vs H Q E (h | ⟨p,dx,l,n,v,as,R,rfl,ct,W,hv,hp,k⟩)
  · exact run0_Wood_size vs H Q E h
  · unfold rd_Wood_size
    walk_at "x"
    refine x_fld ?_
    walk_at "x"
    refine ⟨p,C,dx,_,_,rfl,W.ob,ct.cl,ct.n,flds_n _ _,?_⟩
    walk_at "x"
    exact .inr ⟨n,v,rfl,hv,hp,k⟩
end K23
namespace K23
open Rm
def sp_Wood_ties (K:PySem.W.Frag) (C:Addr):Sp:=fun vs H Q _=>∃ (p dx l:Addr) (n:Nat) (as:List Addr) (R:Nat→List Int),vs=[.ref p]∧CT K C∧WA C H p dx l n as R∧Wd n R∧n≤200∧(∃ L,Cnt n R L∧L.length < 64) ∧
  ∀ q (zs:List Zt) H',Same H H'→H q=none→H' q=some (.lst (zs.map refZ))→(∀ z ∈ zs,PairAt H' z)→zs.Pairwise (fun z w=>lexLe (zP z) (zP w))→(zs.map zP).Nodup→(∀ t:Int × Int,t ∈ zs.map zP↔t.1 < t.2∧Ed n R t.1 t.2)→zs.length < 64→Q (.ref q) H'
theorem len_Wood_ties {K:PySem.W.Frag} {C:Addr}:∀ vs H Q E,sp_Wood_ties K C vs H Q E→vs.length=1:=by
  rintro vs H Q E ⟨p,dx,l,n,as,R,rfl,_⟩; rfl
structure Td (n:Nat) (R:Nat→List Int) (H H1:Hp) (tl:Addr) (i:Nat) (zs:List Zt) (ds:List Int):Prop where
  at_:H1 tl=some (.lst (zs.map refZ))
  pr:∀ z ∈ zs,PairAt H1 z
  sm:Same H H1
  nd:(zs.map zP).Nodup
  mem:∀ t:Int × Int,t ∈ zs.map zP↔t.1 < t.2∧∃ j,j < i∧j < n∧(R j).head? = some (j:Int)∧t ∈ al (R j)
  dn:ds.Nodup
  dm:∀ x,x ∈ ds↔∃ j,j < i∧j < n∧(R j).head? = some (j:Int)∧x ∈ R j
  len:zs.length≤ds.length
theorem run_Wood_ties {K : PySem.W.Frag} {C : Addr} : ∀ vs H Q E, sp_Wood_ties K C vs H Q E → rd_Wood_ties K C (sp_steps_along K C) { nx := fun _ H' => Q .non H', rt := Q } (start ["self", "told", "place", "row"] vs) H := by
  rintro vs H Q E ⟨p,dx,l,n,as,R,rfl,ct,W,D,hn,⟨L0,hL0,hL64⟩,k⟩
  unfold rd_Wood_ties
  walk_at "x"
  refine ⟨small_le (m:=0) (Nat.le_refl 0),fun tl htl=>?_⟩
  have S0:=Same.upd_new (o:=.lst []) htl
  have g0:(upd H tl (.lst [])) tl=some (.lst []):=upd_same
  generalize upd H tl (.lst [])=H0 at S0 g0
  have W0:=W.same S0
  walk_at "x"
  unfold lp_Wood_ties_1
  walk_at "x1"
  refine x_iEnum ?_
  walk_at "x"
  refine x_fld ?_
  walk_at "x"
  refine ⟨p,C,dx,_,_,rfl,W0.ob,ct.cl,ct.rows,flds_rows _ _,?_⟩
  walk_at "x"
  refine ⟨l,_,rfl,SqL.of W0.rl,for_enum (K:=K) (a:=l) (xs:=as.map V.ref) (fun i σ H1=>∃ zs ds o2 o3,σ = [some (.ref p),some (.ref tl),o2,o3]∧Td n R H H1 tl i zs ds) ⟨[],[],_,_,rfl,⟨g0,(fun z hz=>nomatch hz),S0,List.nodup_nil,fun t=>⟨(fun h=>nomatch h),fun ⟨_,j,hj,_⟩=>by omega⟩,List.nodup_nil,fun x=>⟨(fun h=>nomatch h),fun ⟨j,hj,_⟩=>by omega⟩,Nat.le_refl _⟩⟩ ?_ ?_ ?_⟩
  · rintro i σ H1 _ ⟨zs,ds,o2,o3,rfl,T⟩; exact SqL.of (T.sm _ _ W.rl)
  · rintro i x q σ H1 hi hq ⟨zs,ds,o2,o3,rfl,T⟩
    rw [List.getElem?_map] at hi
    obtain ⟨ra,hra,ex⟩:=Option.map_eq_some_iff.mp hi
    subst ex
    have hin:i < n:=by rw [← W.len]; exact (List.getElem?_eq_some_iff.mp hra).1
    have S1:=Same.upd_new (o:=.tup [.int (i:Int),.ref ra]) hq
    have g1:(upd H1 q (.tup [.int (i:Int),.ref ra])) q=some (.tup [.int (i:Int),.ref ra]):=upd_same
    generalize upd H1 q (.tup [.int (i:Int),.ref ra])=H2 at S1 g1
    have hrow:=S1 _ _ (T.sm _ _ (W.at_ i ra hra))
    obtain ⟨x0,hx0,hx0'⟩:∃ x,(R i)[0]? = some x∧(R i).head? = some x:=by
      cases h:R i with
      | nil=>exact absurd h (D.r i hin).ne
      | cons x t=>exact ⟨x,rfl,rfl⟩
    have hlen:=D.len hin
    refine x_tupG (.of g1) rfl ?_
    walk_at "x"
    refine x_ixI (SqL.of hrow) (j:=0) rfl hx0 ?_
    walk_at "x"
    refine ifd (fun e=>?_) fun e=>?_
    · have e:x0=(i:Int):=eq_int_iff.mp e
      subst e
      have gt2:=S1 _ _ T.at_
      walk_at "x"
      refine ⟨.inl ⟨rfl,_,SqL.of gt2⟩,?_⟩
      walk_at "x"
      refine ⟨ra,R i,rfl,SqL.of hrow,by omega,fun al1 H3 ws S3 hal gal pal eal=>?_⟩
      walk_at "x"
      have S13:=S1.trans S3
      have gt3:=S13 _ _ T.at_
      refine .inl ⟨⟨_,SqL.of gal⟩,fun acc hacc=>?_⟩
      have hwl:ws.length+1≤2 * n:=by have:=congrArg List.length eal; rw [List.length_map,al_len] at this; omega
      refine comp_by (n:=ws.length) (fun t ys H'=>∃ vs:List Zt,ys=vs.map refZ∧vs.map zP=((ws.map zP).take t).filter (fun u=>decide (u.1 < u.2))∧H' acc=some (.lst ys)∧Same H3 H'∧∀ v ∈ vs,PairAt H' v) (fun σ=>∃ o o1,σ = [o,o1]) ⟨[],rfl,by simp,upd_same,Same.upd_new hacc,(fun z hz=>nomatch hz)⟩ ⟨_,_,rfl⟩ ?_ ?_ ?_ ?_
      · rintro t ys H' ⟨_,_,_,h,_⟩; exact h
      · rintro ys H4 ⟨vs,rfl,ev,g4,S4,pv⟩
        refine ⟨⟨_,S4.seq (SqL.of gal),by rw [List.length_map]; exact Nat.le_refl _⟩,?_⟩
        rw [show ws.length=(ws.map zP).length by rw [List.length_map],List.take_length,eal] at ev
        have ev:vs.map zP=ups (R i):=ev
        have hvl:2 * vs.length+1=(R i).length:=by have:=(D.r i hin).ups_len; rw [← ev,List.length_map] at this; exact this
        obtain ⟨es,q1,q2,q3⟩:=(D.r i hin).cnt
        have gt4:=S4 _ _ gt3
        have hds:=few T.dn fun x hx=>by
          obtain ⟨j,_,hj,_,hx'⟩:=(T.dm x).mp hx
          obtain ⟨j',h1,h2,_⟩:=D.in_ j hj x hx'
          exact ⟨j',h1,h2⟩
        have hzl:=T.len
        walk_at "x"
        refine x_ext gt4 g4 (small_le (m:=1000) (by rw [List.length_map,List.length_map]; omega)) ?_
        have keep:∀ b o,b≠tl→H4 b=some o→(upd H4 tl (.lst (zs.map refZ ++ vs.map refZ))) b=some o:=fun b o hb e=>by rw [upd_ne hb]; exact e
        have S14:=S13.trans S4
        have ntl:∀ {b:Addr} {ys:List V},H4 b=some (.tup ys)→b≠tl:=fun e z=>by rw [z,gt4] at e; cases e
        have dis:∀ x,x ∈ R i→∀ j,j < i→j < n→(R j).head? = some (j:Int)→x ∉ R j:=fun x hx j hj hjn hh hx'=>by
          have e:=D.same hin hjn hx hx'
          rw [e,hh] at hx0'
          have:=Option.some.inj hx0'
          omega
        refine ⟨zs ++ vs,ds ++ es,_,_,rfl,⟨by rw [upd_same,List.map_append],fun z hz=>?_,fun b o e=>keep b o (ne_of_none e htl) (S14 _ _ (T.sm _ _ e)),?_,fun t=>?_,?_,fun x=>?_,by rw [List.length_append,List.length_append]; omega⟩⟩
        · rcases List.mem_append.mp hz with hz | hz
          · have e:=S14 _ _ (T.pr z hz); exact keep _ _ (ntl e) e
          · have e:=pv z hz; exact keep _ _ (ntl e) e
        · rw [List.map_append,List.nodup_append]
          refine ⟨T.nd,by rw [ev]; exact (D.r i hin).ups_nd,fun t ht u hu e=>?_⟩
          subst e
          rw [ev,mem_ups] at hu
          obtain ⟨_,j,hj,hjn,hh,hm⟩:=(T.mem t).mp ht
          exact dis t.1 (al_mem (x:=t.1) (y:=t.2) hu.2).1 j hj hjn hh (al_mem (x:=t.1) (y:=t.2) hm).1
        · rw [List.map_append,List.mem_append,T.mem,ev,mem_ups]
          constructor
          · rintro (⟨h1,j,h2,h3⟩ | ⟨h1,h2⟩)
            · exact ⟨h1,j,by omega,h3⟩
            · exact ⟨h1,i,by omega,hin,hx0',h2⟩
          · rintro ⟨h1,j,h2,h3,h4,h5⟩
            by_cases hj:j=i
            · subst hj; exact .inr ⟨h1,h5⟩
            · exact .inl ⟨h1,j,by omega,h3,h4,h5⟩
        · rw [List.nodup_append]
          refine ⟨T.dn,q1,fun x hx y hy e=>?_⟩
          subst e
          obtain ⟨j,hj,hjn,hh,hm⟩:=(T.dm x).mp hx
          exact dis x ((q2 x).mp hy) j hj hjn hh hm
        · rw [List.mem_append,T.dm,q2]
          constructor
          · rintro (⟨j,h2,h3⟩ | h2)
            · exact ⟨j,by omega,h3⟩
            · exact ⟨i,by omega,hin,hx0',h2⟩
          · rintro ⟨j,h2,h3,h4,h5⟩
            by_cases hj:j=i
            · subst hj; exact .inr h5
            · exact .inl ⟨j,by omega,h3,h4,h5⟩
      · rintro t ys H4 ht ⟨vs,rfl,ev,g4,S4,pv⟩
        exact ⟨_,_,S4.seq (SqL.of gal),by rw [List.getElem?_map,List.getElem?_eq_getElem ht]; rfl⟩
      · rintro t ys σ' H4 x H5 ht ⟨vs,rfl,ev,g4,S4,pv⟩ ⟨o,o1,rfl⟩ ⟨eH,ex⟩
        subst eH
        have hw:=ex _ (S4.seq (SqL.of gal))
        rw [List.getElem?_map,List.getElem?_eq_getElem ht] at hw
        have hw:=(Option.some.inj hw).symm
        subst hw
        have hpw:=S4 _ _ (pal _ (List.getElem_mem ht))
        have etk:(ws.map zP).take (t+1)=(ws.map zP).take t ++ [zP ws[t]]:=by rw [List.take_succ,List.getElem?_map,List.getElem?_eq_getElem ht]; rfl
        refine x_tupG (.of hpw) rfl ?_
        walk_at "x"
        refine ifd (fun c=>?_) fun c=>?_
        · walk_at "x"
          refine ⟨small_le (m:=2) (Nat.le_refl 2),fun u hu=>?_⟩
          have T1:=Same.upd_new (o:=.tup [.int ws[t].1,.int ws[t].2.1]) hu
          have u1:(upd H5 u (.tup [.int ws[t].1,.int ws[t].2.1])) u=some (.tup [.int ws[t].1,.int ws[t].2.1]):=upd_same
          generalize upd H5 u (.tup [.int ws[t].1,.int ws[t].2.1])=H6 at T1 u1
          have hvle:vs.length≤ws.length:=by
            have:=congrArg List.length ev
            rw [List.length_map] at this
            have h2:=List.length_filter_le (fun u:Int × Int=>decide (u.1 < u.2)) ((ws.map zP).take t)
            rw [List.length_take,List.length_map] at h2
            omega
          have nac:∀ {b:Addr} {ys:List V},H6 b=some (.tup ys)→b≠acc:=fun e z=>by rw [z,T1 _ _ g4] at e; cases e
          refine ⟨T1 _ _ g4,small_lt (m:=1000) (by rw [List.length_map]; omega),CNext.mk' ht ⟨_,_,rfl⟩ ⟨vs ++ [(ws[t].1,ws[t].2.1,u)],by simp [refZ],?_,upd_same,fun b o e=>by rw [upd_ne (ne_of_none e hacc)]; exact T1 _ _ (S4 _ _ e),fun v hv=>?_⟩⟩
          · rw [etk,List.filter_append,List.map_append,ev]
            simp [zP,c]
          · rcases List.mem_append.mp hv with hv | hv
            · have e:=T1 _ _ (pv v hv)
              show (upd H6 acc _) _=_
              rw [upd_ne (nac e)]; exact e
            · rw [List.mem_singleton.mp hv]
              show (upd H6 acc _) _=_
              rw [upd_ne (nac u1)]; exact u1
        · exact CNext.mk' ht ⟨_,_,rfl⟩ ⟨vs,rfl,by rw [etk,List.filter_append,ev]; simp [zP,c],g4,S4,pv⟩
    · walk_at "x"
      refine ⟨zs,ds,_,_,rfl,⟨S1 _ _ T.at_,fun z hz=>S1 _ _ (T.pr z hz),T.sm.trans S1,T.nd,fun t=>?_,T.dn,fun x=>?_,T.len⟩⟩
      · rw [T.mem]
        refine and_congr_right fun _=>⟨fun ⟨j,h1,h2⟩=>⟨j,by omega,h2⟩,fun ⟨j,h1,h2,h3,h4⟩=>⟨j,?_,h2,h3,h4⟩⟩
        rcases Nat.lt_succ_iff_lt_or_eq.mp h1 with h | h
        · exact h
        · subst h; rw [hx0'] at h3; exact absurd (by rw [Option.some.inj h3]) e
      · rw [T.dm]
        refine ⟨fun ⟨j,h1,h2⟩=>⟨j,by omega,h2⟩,fun ⟨j,h1,h2,h3,h4⟩=>⟨j,?_,h2,h3,h4⟩⟩
        rcases Nat.lt_succ_iff_lt_or_eq.mp h1 with h | h
        · exact h
        · subst h; rw [hx0'] at h3; exact absurd (by rw [Option.some.inj h3]) e
  · rintro σ H1 ⟨zs,ds,o2,o3,rfl,T⟩
    rw [List.length_map,W.len] at T
    have mm:∀ t:Int × Int,t ∈ zs.map zP↔t.1 < t.2∧Ed n R t.1 t.2:=fun t=>by
      rw [T.mem]
      refine and_congr_right fun _=>⟨fun ⟨j,_,h2,_,h4⟩=>⟨j,h2,h4⟩,fun ⟨j,h2,h4⟩=>?_⟩
      obtain ⟨x,hx⟩:∃ x,(R j).head? = some x:=by
        cases h:R j with
        | nil=>exact absurd h (D.r j h2).ne
        | cons x t=>exact ⟨x,rfl⟩
      obtain ⟨j',h5,rfl,h6⟩:=D.in_ j h2 x (List.mem_of_mem_head? hx)
      exact ⟨j',h5,h5,by rw [h6]; exact hx,by rw [h6]; exact h4⟩
    have hz64:=Cnt.len ⟨T.nd,mm⟩ hL0
    rw [List.length_map] at hz64
    walk_at "x"
    refine .inl (.inr ⟨tl,zs,rfl,SqL.of T.at_,T.pr,by omega,fun q zs' hq hperm hsort=>?_⟩)
    have S2:=Same.upd_new (o:=.lst (zs'.map refZ)) hq
    refine k q zs' _ (T.sm.trans S2) (T.sm.free hq) upd_same (fun z hz=>S2 _ _ (T.pr z (hperm.mem_iff.mp hz))) hsort ((hperm.map zP).nodup_iff.mpr T.nd) (fun t=>by rw [(hperm.map zP).mem_iff,mm]) (by rw [hperm.length_eq]; omega)
end K23
namespace K23
theorem x_make {C:Addr} {sp:Sp} {dvs:List V} {E:XK} {t:TA} {σ:L2.St} {H:Hp} {Q:VK} (h:t σ H fun vs H1=>∀ x dx,H1 x=none→H1 dx=none→dx≠x→sp (.ref x :: (vs ++ dvs)) (upd (upd H1 dx (.own x)) x (.ins C dx [])) (fun v H2=>v = .non∧Q (.ref x) H2) E):tMake C sp dvs E t σ H Q:=h
theorem ifd_b {c:Prop} [Decidable c] {A B:Prop} (hB:B) (hA:B→c→A):if decide c=true then A else B:=by
  by_cases h:c
  · rw [decide_eq_true h,if_pos rfl]; exact hA hB h
  · rw [decide_eq_false h,if_neg (by decide)]; exact hB
end K23
namespace K23
theorem x_seqR {t u:TS} {D:Ends} {σ:L2.St} {H:Hp} (P:L2.St→Hp→Prop) (rest:∀ σ' H',P σ' H'→u D σ' H') (h:(∀ σ' H',P σ' H'→u D σ' H')→t { D with nx:=u D } σ H):tSeq t u D σ H:=h rest
end K23
namespace K23
open Rm
structure Kn (n:Nat) (R:Nat→List Int) (kvs:List (List Key × V)):Prop where
  to:∀ q ∈ kvs,∃ x y:Int,q.1=[Sum.inl x,Sum.inl y]∧x < y∧Ed n R x y
  of:∀ x y:Int,x < y→Ed n R x y→([Sum.inl x,Sum.inl y]:List Key) ∈ kvs.map (·.1)
theorem any_ints (ns:List Int) (a:Int):((ns.map PyData.int).any fun e=>PyData.eqv e (.int a))=decide (a ∈ ns):=by
  rw [Bool.eq_iff_iff,List.any_map,List.any_eq_true,decide_eq_true_iff]
  constructor
  · rintro ⟨u,hu,e⟩
    have:u=a:=by simpa [PyData.eqv] using e
    exact this ▸ hu
  · intro h
    exact ⟨a,h,by simp [PyData.eqv]⟩
theorem fine_int (a:Int):Fine (.int a):=⟨plain_lay _ (by simp [plainD]),by simp [PyData.depth]⟩
structure Ms (Ra:List Int) (n:Nat) (M:List Int):Prop where
  nd:M.Nodup
  sub:∀ x ∈ M,x ∈ Ra
  inn:∀ x ∈ Ra,∃ j:Nat,j < n∧x=(j:Int)
theorem Ms.len {Ra:List Int} {n:Nat} {M:List Int} (h:Ms Ra n M):M.length≤n:=few h.nd fun x hx=>h.inn x (h.sub x hx)
theorem Ms.snoc {Ra:List Int} {n:Nat} {M:List Int} (h:Ms Ra n M) {x:Int} (hx:x ∈ Ra) (hn:x ∉ M):Ms Ra n (M ++ [x]) :=
  ⟨nd_snoc h.nd hn,fun y hy=>(List.mem_append.mp hy).elim (h.sub y) fun e=>by rw [List.mem_singleton.mp e]; exact hx,h.inn⟩
theorem add_one {K:PySem.W.Frag} {C:Addr} {D:Ends} {H:Hp} {d l b:Addr} {a k c u v:Int} {j:Nat} {M Ra:List Int} {n i1 i2:Nat} {o4 o5:Option V} {σ:L2.St} (hσ:σ = [some (.ref d),some (.int a),some (.ref l),some (.int k),o4,o5]) (hi1:σ[i1]? = some (some (.int u))) (hi2:σ[i2]? = some (some (.int v)))
    (hl:H l=some (.lst (M.map V.int))) (hj:k=(j:Int)) (hc:M[j]? = some c) (hm:Ms Ra n M) (hn:n≤60) (hv:u=c→v ∈ Ra)
    (fin:∀ H' M',M <+: M'→Ms Ra n M'→(u=c→v ∈ M')→H' l=some (.lst (M'.map V.int))→SameBut1 l H H'→D.nx σ H') :
    tIfS (tAnd (tTest (tOp (rEqG K) (tVar i1) (tOp (rIxG K) (tVar 2) (tVar 3)))) (tTest (tOp (rInG K true) (tVar i2) (tVar 2)))) (tDrop (tBM K "list" rAppend (tVar 2) (tCons (tVar i2) (tNil)))) (tNext) D σ H:=by
  have h2:σ[2]? = some (some (.ref l)):=by rw [hσ]; rfl
  have h3:σ[3]? = some (some (.int k)):=by rw [hσ]; rfl
  refine x_ifS ?_
  refine x_and ?_
  refine x_test ?_
  refine x_op ?_
  refine x_var hi1 ?_
  refine x_op ?_
  refine x_var h2 ?_
  refine x_var h3 ?_
  refine x_ixI (SqL.of hl) hj hc ?_
  refine x_eqI ?_
  refine ⟨_,rfl,?_⟩
  refine ifd (fun e=>?_) fun e=>?_
  · have e:u=c:=eq_int_iff.mp e
    refine x_test ?_
    refine x_op ?_
    refine x_var hi2 ?_
    refine x_var h2 ?_
    refine x_notInD (.int v) (rep_ints (SqL.of hl)) (fine_int v) (plainAll_lay _ (plain_ints _)) ?_
    rw [any_ints]
    refine ⟨_,rfl,?_⟩
    by_cases hin:v ∈ M
    · rw [decide_eq_true hin]
      refine iteF ?_
      exact fin H M (List.prefix_refl _) hm (fun _=>hin) hl (SameBut1.refl _ _)
    · rw [decide_eq_false hin]
      refine iteT ?_
      refine x_drop ?_
      refine x_bm ?_
      refine x_var h2 ?_
      refine ⟨.inl ⟨rfl,_,SqL.of hl⟩,?_⟩
      refine x_cons ?_
      refine x_var hi2 ?_
      refine x_nil ?_
      have hlen:=hm.len
      refine x_append hl (small_lt (m:=1000) (by rw [List.length_map]; omega)) ?_
      refine fin _ (M ++ [v]) (List.prefix_append _ _) (hm.snoc (hv e) hin) (fun _=>by simp) ?_ SameBut1.upd
      rw [upd_same]; simp
  · refine fin H M (List.prefix_refl _) hm (fun h=>absurd (eq_int_iff.mpr h) e) hl (SameBut1.refl _ _)
end K23
namespace K23
open Rm
theorem pre_get {M M':List Int} {j:Nat} {c:Int} (h:M <+: M') (e:M[j]? = some c):M'[j]? = some c:=by
  obtain ⟨t,rfl⟩:=h
  rw [List.getElem?_append_left (List.getElem?_eq_some_iff.mp e).1]; exact e
theorem run_fz {K : PySem.W.Frag} {C : Addr} {D : Ends} {H : Hp} {d l : Addr} {a c : Int} {j n : Nat} {R : Nat → List Int} {M Ra : List Int} {kvs : List (List Key × V)} {o : Obj} {o4 o5 : Option V} (kn : Kn n R kvs) (hn : n ≤ 60)
    (hl:H l=some (.lst (M.map V.int))) (hd:H d=some (.frz o (.dT kvs))) (hdl:d≠l) (hc:M[j]? = some c) (hm:Ms Ra n M) (hcl:∀ y,Ed n R c y→y ∈ Ra) (hsy:∀ x y,Ed n R x y→Ed n R y x) (hir:∀ x,¬ Ed n R x x)
    (fin:∀ H' M' o4 o5,M <+: M'→Ms Ra n M'→(∀ y,Ed n R c y→y ∈ M')→H' l=some (.lst (M'.map V.int))→SameBut1 l H H'→D.nx [some (.ref d),some (.int a),some (.ref l),some (.int j),o4,o5] H') :
    tFor (fun _ H R=>R (ItT d kvs o) H) (gTup K 2 (gCons (gName 4) (gCons (gName 5) (gNil))))
     (tSeq (tIfS (tAnd (tTest (tOp (rEqG K) (tVar 4) (tOp (rIxG K) (tVar 2) (tVar 3)))) (tTest (tOp (rInG K true) (tVar 5) (tVar 2)))) (tDrop (tBM K "list" rAppend (tVar 2) (tCons (tVar 5) (tNil)))) (tNext))
      (tIfS (tAnd (tTest (tOp (rEqG K) (tVar 5) (tOp (rIxG K) (tVar 2) (tVar 3)))) (tTest (tOp (rInG K true) (tVar 4) (tVar 2)))) (tDrop (tBM K "list" rAppend (tVar 2) (tCons (tVar 4) (tNil)))) (tNext)))
     D [some (.ref d),some (.int a),some (.ref l),some (.int j),o4,o5] H:=by
  refine for_dT (a:=d) (kvs:=kvs) (o:=o) (fun i σ H1=>∃ M' o4 o5,σ = [some (.ref d),some (.int a),some (.ref l),some (.int j),o4,o5]∧M <+: M'∧Ms Ra n M'∧H1 l=some (.lst (M'.map V.int))∧SameBut1 l H H1 ∧
    ∀ (t:Nat) (x y:Int) v,t < i→kvs[t]? = some ([Sum.inl x,Sum.inl y],v)→(x=c→y ∈ M')∧(y=c→x ∈ M')) ⟨M,_,_,rfl,List.prefix_refl _,hm,hl,SameBut1.refl _ _,fun t x y v ht=>absurd ht (by omega)⟩ ?_ ?_ ?_
  · rintro i σ H1 _ ⟨M',_,_,_,_,_,_,B,_⟩; exact B _ _ hd hdl
  · rintro i k v b σ H1 hk hb ⟨M',p4,p5,rfl,pre,ms,gl,B,done⟩
    obtain ⟨x,y,ek,hxy,hE⟩:=kn.to _ (List.mem_of_getElem? hk)
    have ek:k=[Sum.inl x,Sum.inl y]:=ek
    subst ek
    have hb:H1 b=some (.tup [.int x,.int y]):=hb
    refine x_tupG (.of hb) rfl ?_
    refine x_gcons ?_
    refine x_gname ?_
    refine x_gcons ?_
    refine x_gname ?_
    refine x_gnil ?_
    refine x_seq ?_
    refine add_one (C:=C) (b:=b) (a:=a) (k:=(j:Int)) (u:=x) (v:=y) (j:=j) (M:=M') (c:=c) (Ra:=Ra) (n:=n) rfl rfl rfl gl rfl (pre_get pre hc) ms hn (fun e=>hcl y (e ▸ hE)) fun H2 M2 pre2 ms2 hy2 g2 B2=>?_
    refine add_one (C:=C) (b:=b) (a:=a) (k:=(j:Int)) (u:=y) (v:=x) (j:=j) (M:=M2) (c:=c) (Ra:=Ra) (n:=n) rfl rfl rfl g2 rfl (pre_get (pre.trans pre2) hc) ms2 hn (fun e=>hcl x (e ▸ hsy _ _ hE)) fun H3 M3 pre3 ms3 hx3 g3 B3=>?_
    refine ⟨M3,_,_,rfl,(pre.trans pre2).trans pre3,ms3,g3,fun b' o' e hne=>B3 _ _ (B2 _ _ (B _ _ e hne) hne) hne,fun t x' y' v' ht hk'=>?_⟩
    have up3:∀ {z:Int},z ∈ M2→z ∈ M3:=fun hz=>pre3.subset hz
    by_cases hti:t=i
    · subst hti
      rw [hk] at hk'
      obtain ⟨rfl,rfl⟩:x=x'∧y=y':=by
        have:=(Prod.mk.inj (Option.some.inj hk')).1
        simp at this; exact this
      exact ⟨fun e=>up3 (hy2 e),fun e=>hx3 e⟩
    · obtain ⟨q1,q2⟩:=done t x' y' v' (by omega) hk'
      exact ⟨fun e=>up3 (pre2.subset (q1 e)),fun e=>up3 (pre2.subset (q2 e))⟩
  · rintro σ H1 ⟨M',p4,p5,rfl,pre,ms,gl,B,done⟩
    refine fin H1 M' p4 p5 pre ms (fun y hy=>?_) gl B
    have hne:c≠y:=fun e=>hir c (by rw [← e] at hy; exact hy)
    rcases Int.lt_or_gt_of_ne hne with h | h
    · obtain ⟨q,hq,e⟩:=List.mem_map.mp (kn.of c y h hy)
      obtain ⟨t,ht⟩:=List.mem_iff_getElem?.mp hq
      obtain ⟨qk,qv⟩:=q
      have e:qk=_:=e
      subst e
      exact (done t c y qv (List.getElem?_eq_some_iff.mp ht).1 ht).1 rfl
    · obtain ⟨q,hq,e⟩:=List.mem_map.mp (kn.of y c h (hsy _ _ hy))
      obtain ⟨t,ht⟩:=List.mem_iff_getElem?.mp hq
      obtain ⟨qk,qv⟩:=q
      have e:qk=_:=e
      subst e
      exact (done t y c qv (List.getElem?_eq_some_iff.mp ht).1 ht).2 rfl
def spf__law_members (K:PySem.W.Frag) (C:Addr):Sp:=fun vs H Q _=>∃ (d:Addr) (a n:Nat) (R:Nat→List Int) (kvs:List (List Key × V)),vs=[.ref d,.int a]∧H d=some (.dT kvs)∧Kn n R kvs∧Wd n R∧a < n∧n≤60 ∧
  ∀ (l:Addr) (M:List Int) (o:Obj) H',H l=none→H' l=some (.lst (M.map V.int))→(∀ x,x ∈ M↔x ∈ R a)→H' d=some (.frz o (.dT kvs))→SameBut1 d H H'→Q (.ref l) H'
def sp__law_members (K:PySem.W.Frag) (C:Addr):Sp:=fun vs H Q _=>∃ (d:Addr) (a n:Nat) (R:Nat→List Int) (kvs:List (List Key × V)),vs=[.ref d,.int a]∧H d=some (.dT kvs)∧Kn n R kvs∧Wd n R∧a < n∧n≤60 ∧
  ∀ (l:Addr) (M:List Int) H',H l=none→H' l=some (.lst (M.map V.int))→(∀ x,x ∈ M↔x ∈ R a)→Same H H'→Q (.ref l) H'
theorem lenf__law_members {K:PySem.W.Frag} {C:Addr}:∀ vs H Q E,spf__law_members K C vs H Q E→vs.length=2:=by
  rintro vs H Q E ⟨d,a,n,R,kvs,rfl,_⟩; rfl
theorem thaw__law_members {K:PySem.W.Frag} {C:Addr}:∀ vs H Q E,sp__law_members K C vs H Q E→spf__law_members K C vs H (Thaw H Q) E:=by
  rintro vs H Q E ⟨d,a,n,R,kvs,rfl,hd,kn,W,ha,hn,k⟩
  refine ⟨d,a,n,R,kvs,rfl,hd,kn,W,ha,hn,fun l M o H' hl gl hM gd B=>.inr ⟨d,o,kvs,(fun o' u' e=>by rw [hd] at e; cases e),gd,?_⟩⟩
  have hld:l≠d:=Ne.symm (ne_of_none hd hl)
  refine k l M _ hl (by rw [upd_ne hld]; exact gl) hM fun b ob e=>?_
  by_cases hb:b=d
  · subst hb; rw [upd_same,← hd,e]
  · rw [upd_ne hb]; exact B _ _ e hb
theorem runf__law_members {K : PySem.W.Frag} {C : Addr} : ∀ vs H Q E, spf__law_members K C vs H Q E → rd__law_members K C { nx := fun _ H' => Q .non H', rt := Q } (start ["_law_known", "_law_a", "_law_row", "_law_k", "_law_one", "_law_other"] vs) H := by
  rintro vs H Q E ⟨d,a,n,R,kvs,rfl,hd,kn,W,ha,hn,k⟩
  have inn:∀ x ∈ R a,∃ j:Nat,j < n∧x=(j:Int):=fun x hx=>let ⟨j,hj,e,_⟩:=W.in_ a ha x hx; ⟨j,hj,e⟩
  have hcl:∀ {c:Int},c ∈ R a→∀ y,Ed n R c y→y ∈ R a:=fun hc y hy=>(al_mem (Ed.at W hy ha hc)).2
  unfold rd__law_members
  walk_at "x"
  refine ⟨small_le (m:=1) (Nat.le_refl 1),fun l hl=>?_⟩
  have hdl:d≠l:=ne_of_none hd hl
  have S0:=Same.upd_new (o:=.lst [.int (a:Int)]) hl
  have g0:(upd H l (.lst [.int (a:Int)])) l=some (.lst ([(a:Int)].map V.int)):=upd_same
  generalize upd H l (.lst [.int (a:Int)])=H0 at S0 g0
  walk_at "x"
  unfold lp__law_members_2
  refine while_on (fun σ H1=>∃ (j:Nat) (M:List Int) (o4 o5:Option V),σ = [some (.ref d),some (.int (a:Int)),some (.ref l),some (.int (j:Int)),o4,o5]∧j≤M.length∧Ms (R a) n M∧(a:Int) ∈ M∧(∀ i c,i < j→M[i]? = some c→∀ y,Ed n R c y→y ∈ M)∧H1 l=some (.lst (M.map V.int)) ∧
    (∀ b ob,H b=some ob→b≠d→H1 b=some ob)∧((j=0∧H1 d=some (.dT kvs))∨∃ o,H1 d=some (.frz o (.dT kvs)))) (fun σ _=>match σ with | [_,_,_,some (.int j),_,_]=>(n+1:Int).toNat - j.toNat | _=>0)
    ⟨0,[(a:Int)],_,_,rfl,Nat.zero_le _,⟨by simp,fun x hx=>by rw [List.mem_singleton.mp hx]; exact W.me a ha,inn⟩,by simp,fun i c hi=>absurd hi (by omega),g0,fun b ob e _=>S0 _ _ e,.inl ⟨rfl,S0 _ _ hd⟩⟩ ?_
  rintro σ H1 ⟨j,M,o4,o5,rfl,hj,ms,haM,done,gl,B,hfz⟩
  have hlen:=ms.len
  walk_at "x"
  refine x_lenI (SqL.of gl) ?_
  walk_at "x"
  refine ifd (fun h=>⟨_,wN_ok,?_⟩) fun h=>?_
  · have hjl:j < M.length:=by omega
    obtain ⟨c,hc⟩:∃ c,M[j]? = some c:=⟨_,List.getElem?_eq_getElem hjl⟩
    have hcR:=ms.sub c (List.mem_of_getElem? hc)
    refine x_seq ?_
    unfold lp__law_members_1
    refine x_for ?_
    refine x_iDT ?_
    walk_at "x"
    refine ⟨d,kvs,rfl,?_⟩
    have tail:∀ (H' Hf:Hp) (M':List Int) (p4 p5:Option V) (o:Obj) (D:Ends),(∀ b ob,H b=some ob→b≠d→Hf b=some ob)→Hf d=some (.frz o (.dT kvs))→M <+: M'→Ms (R a) n M'→(∀ y,Ed n R c y→y ∈ M')→H' l=some (.lst (M'.map V.int))→SameBut1 l Hf H' →
        (D.nx=wN (fun σ H1=>∃ (j:Nat) (M:List Int) (o4 o5:Option V),σ = [some (.ref d),some (.int (a:Int)),some (.ref l),some (.int (j:Int)),o4,o5]∧j≤M.length∧Ms (R a) n M∧(a:Int) ∈ M∧(∀ i c,i < j→M[i]? = some c→∀ y,Ed n R c y→y ∈ M)∧H1 l=some (.lst (M.map V.int)) ∧
          (∀ b ob,H b=some ob→b≠d→H1 b=some ob)∧((j=0∧H1 d=some (.dT kvs))∨∃ o,H1 d=some (.frz o (.dT kvs)))) (fun σ _=>match σ with | [_,_,_,some (.int j),_,_]=>(n+1:Int).toNat - j.toNat | _=>0) ((n+1:Int).toNat - (j:Int).toNat)) →
        tAsg (tOp rAddG (tVar 3) (tC (.int 1))) (gName 3) D [some (.ref d),some (.int (a:Int)),some (.ref l),some (.int (j:Int)),p4,p5] H':=by
      intro H' Hf M' p4 p5 o D hB hfd pre ms' hc' g' B' eD
      walk_at "x"
      rw [eD]
      have hlb:∀ b ob,H b=some ob→b≠l:=fun b ob e=>ne_of_none e hl
      refine ⟨⟨j+1,M',p4,p5,rfl,(List.getElem?_eq_some_iff.mp (pre_get pre hc)).1,ms',pre.subset haM,fun i c' hi hc1 y hy=>?_,g',fun b ob e hb=>B' _ _ (hB b ob e hb) (hlb b ob e),.inr ⟨o,B' _ _ hfd hdl⟩⟩,?_⟩
      · by_cases hij:i=j
        · subst hij
          rw [pre_get pre hc] at hc1
          cases hc1
          exact hc' y hy
        · obtain ⟨c2,hc2⟩:∃ c2,M[i]? = some c2:=⟨_,List.getElem?_eq_getElem (by omega)⟩
          rw [pre_get pre hc2] at hc1
          cases hc1
          exact pre.subset (done i _ (by omega) hc2 y hy)
      · show (n+1:Int).toNat - ((j:Int)+1).toNat < (n+1:Int).toNat - (j:Int).toNat
        omega
    rcases hfz with ⟨_,hdT⟩ | ⟨o,hfz⟩
    · refine .inl ⟨hdT,fun o=>?_⟩
      have hne:∀ b ob,H b=some ob→b≠d→(upd H1 d (.frz o (.dT kvs))) b=some ob:=fun b ob e hb=>by rw [upd_ne hb]; exact B _ _ e hb
      have gl1:(upd H1 d (.frz o (.dT kvs))) l=some (.lst (M.map V.int)):=by rw [upd_ne (Ne.symm hdl)]; exact gl
      refine run_fz (C:=C) (j:=j) kn hn gl1 upd_same hdl hc ms (hcl hcR) (fun x y h=>Ed.symm W h) W.irr fun H' M' p4 p5 pre ms' hc' g' B'=>?_
      exact tail H' _ M' p4 p5 o _ hne upd_same pre ms' hc' g' B' rfl
    · refine .inr ⟨o,hfz,?_⟩
      refine run_fz (C:=C) (j:=j) kn hn gl hfz hdl hc ms (hcl hcR) (fun x y h=>Ed.symm W h) W.irr fun H' M' p4 p5 pre ms' hc' g' B'=>?_
      exact tail H' _ M' p4 p5 o _ B hfz pre ms' hc' g' B' rfl
  · have hjl:j=M.length:=by omega
    walk_at "x"
    have hM:∀ x,x ∈ M↔x ∈ R a:=fun x=>⟨ms.sub x,fun hx=>by
      refine conn (M:=fun x=>x ∈ M) (l:=R a) (fun u v huv=>?_) ⟨_,W.me a ha,haM⟩ x hx
      have cl:∀ {u v:Int},u ∈ M→(u,v) ∈ al (R a)→v ∈ M:=fun {u v} hu huv=>by
        obtain ⟨i,hi⟩:=List.mem_iff_getElem?.mp hu
        exact done i u (by rw [hjl]; exact (List.getElem?_eq_some_iff.mp hi).1) hi v ⟨a,ha,huv⟩
      exact ⟨fun hu=>cl hu huv,fun hv=>cl hv ((W.r a ha).sym _ _ huv)⟩⟩
    rcases hfz with ⟨h0,_⟩ | ⟨o,hfz⟩
    · have:=List.length_pos_of_mem haM; omega
    · exact k l M o H1 hl gl hM hfz fun b ob e hb=>B _ _ e hb
end K23
namespace K23
open Rm
def kP:List Key→Int × Int
  | [Sum.inl x,Sum.inl y]=>(x,y)
  | _=>(0,0)
structure Kd (n:Nat) (R:Nat→List Int) (kvs:List (List Key × V)):Prop where
  kn:Kn n R kvs
  nd:(kvs.map (·.1)).Nodup
theorem Kd.cnt {n : Nat} {R : Nat → List Int} {kvs : List (List Key × V)} (h : Kd n R kvs) : Cnt n R ((kvs.map (·.1)).map kP) := by
  have hk:∀ k ∈ kvs.map (·.1),∃ x y:Int,k=[Sum.inl x,Sum.inl y]∧x < y∧Ed n R x y:=fun k hk=>by
    obtain ⟨q,hq,rfl⟩:=List.mem_map.mp hk
    exact h.kn.to q hq
  constructor
  · have:∀ ks:List (List Key),ks.Nodup→(∀ k ∈ ks,∃ x y:Int,k=[Sum.inl x,Sum.inl y]∧x < y∧Ed n R x y)→(ks.map kP).Nodup:=by
      intro ks
      induction ks with
      | nil=>intro _ _; exact List.nodup_nil
      | cons k ks ih =>
        intro hn hs
        obtain ⟨h1,h2⟩:=List.nodup_cons.mp hn
        rw [List.map_cons]
        refine List.nodup_cons.mpr ⟨fun hm=>?_,ih h2 fun k' hk'=>hs k' (List.mem_cons_of_mem _ hk')⟩
        obtain ⟨k',hk',e⟩:=List.mem_map.mp hm
        obtain ⟨x,y,ek,_⟩:=hs k List.mem_cons_self
        obtain ⟨x',y',ek',_⟩:=hs k' (List.mem_cons_of_mem _ hk')
        subst ek; subst ek'
        have e:(x',y')=(x,y):=e
        obtain ⟨rfl,rfl⟩:=Prod.mk.inj e
        exact h1 hk'
    exact this _ h.nd hk
  · intro t
    rw [List.mem_map]
    constructor
    · rintro ⟨k,hm,rfl⟩
      obtain ⟨x,y,rfl,h1,h2⟩:=hk k hm
      exact ⟨h1,h2⟩
    · rintro ⟨h1,h2⟩
      exact ⟨_,h.kn.of t.1 t.2 h1 h2,rfl⟩
theorem Kd.len {n:Nat} {R:Nat→List Int} {kvs:List (List Key × V)} (h:Kd n R kvs) {m:Nat} (hm:kvs.length≤m):∃ L,Cnt n R L∧L.length≤m:=⟨_,h.cnt,by rw [List.length_map,List.length_map]; exact hm⟩
theorem Kd.same {n:Nat} {R:Nat→List Int} {kvs:List (List Key × V)} (h:Kd n R kvs) {zs ws:List Zt} (hp:(zs.map fun z=>([Sum.inl z.1,Sum.inl z.2.1]:List Key)).Perm (kvs.map (·.1))) (hs:zs.Pairwise (fun z w=>lexLe (zP z) (zP w)))
    (sw:ws.Pairwise (fun z w=>lexLe (zP z) (zP w))) (ndw:(ws.map zP).Nodup) (mw:∀ t:Int × Int,t ∈ ws.map zP↔t.1 < t.2∧Ed n R t.1 t.2):ws.map zP=zs.map zP:=by
  have e:zs.map zP=(zs.map fun z=>([Sum.inl z.1,Sum.inl z.2.1]:List Key)).map kP:=by rw [List.map_map]; rfl
  have pm:(zs.map zP).Perm ((kvs.map (·.1)).map kP):=by rw [e]; exact hp.map _
  refine sorted_ext (strict_of (List.pairwise_map.mpr sw) ndw) (strict_of (List.pairwise_map.mpr hs) (pm.nodup_iff.mpr h.cnt.nd)) fun t=>?_
  rw [mw,pm.mem_iff,h.cnt.mem]
end K23
namespace K23
open Rm
theorem mem_put {κ:Type} [DecidableEq κ] {kvs:List (κ × V)} {k:κ} {v:V} {q:κ × V} (h:q ∈ putK kvs k v):q ∈ kvs∨q=(k,v):=by
  unfold putK at h
  split at h
  · obtain ⟨q',h',rfl⟩:=List.mem_map.mp h
    by_cases c:q'.1=k
    · rw [if_pos c,c]; exact .inr rfl
    · rw [if_neg c]; exact .inl h'
  · rcases List.mem_append.mp h with h | h
    · exact .inl h
    · exact .inr (List.mem_singleton.mp h)
theorem Kn.start (n:Nat):Kn n (fun i=>[(i:Int)]) [] :=
  ⟨(fun q hq=>nomatch hq),fun x y _ ⟨i,_,hm⟩=>by simp [al] at hm⟩
theorem Kn.put {n a b : Nat} {R R' : Nat → List Int} {kvs : List (List Key × V)} {u1 u2 : Int} {v : V} (kn : Kn n R kvs) (hE : ∀ x y, Ed n R' x y ↔ (Ed n R x y ∨ (x, y) = ((a : Int), (b : Int)) ∨ (x, y) = ((b : Int), (a : Int)))) (hlt : u1 < u2)
    (hu:(u1=a∧u2=b)∨(u1=b∧u2=a)):Kn n R' (putK kvs [Sum.inl u1,Sum.inl u2] v):=by
  refine ⟨fun q hq=>?_,fun x y hxy h=>?_⟩
  · rcases mem_put hq with hq | rfl
    · obtain ⟨x,y,e,h1,h2⟩:=kn.to q hq
      exact ⟨x,y,e,h1,(hE x y).mpr (.inl h2)⟩
    · refine ⟨u1,u2,rfl,hlt,(hE u1 u2).mpr (.inr ?_)⟩
      rcases hu with ⟨e1,e2⟩ | ⟨e1,e2⟩
      · exact .inl (by rw [e1,e2])
      · exact .inr (by rw [e1,e2])
  · rw [keys_put]
    have key:∀ k:List Key,k ∈ kvs.map (·.1)→k ∈ (if (valV kvs [Sum.inl u1,Sum.inl u2]).isSome=true then kvs.map (·.1) else kvs.map (·.1) ++ [[Sum.inl u1,Sum.inl u2]]):=fun k hk=>by
      split
      · exact hk
      · exact List.mem_append_left _ hk
    rcases (hE x y).mp h with h | h
    · exact key _ (kn.of x y hxy h)
    · have:x=u1∧y=u2:=by
        rcases h with h | h <;> obtain ⟨e1,e2⟩:=Prod.mk.inj h <;> rcases hu with ⟨f1,f2⟩ | ⟨f1,f2⟩ <;> omega
      obtain ⟨rfl,rfl⟩:=this
      split
      · rename_i hs
        obtain ⟨w,hw⟩:=Option.isSome_iff_exists.mp hs
        exact valV_in hw
      · simp
theorem Kn.drop {n a b:Nat} {R R':Nat→List Int} {kvs:List (List Key × V)} (kn:Kn n R kvs) (hE:∀ x y,Ed n R' x y↔(Ed n R x y∧¬ (x,y)=((b:Int),(a:Int))∧¬ (x,y)=((a:Int),(b:Int)))) (hab:a < b):Kn n R' (dropK kvs [Sum.inl (a:Int),Sum.inl (b:Int)]):=by
  refine ⟨fun q hq=>?_,fun x y hxy h=>?_⟩
  · have hq1:=dropK_mem hq
    have hne:¬ q.1=[Sum.inl (a:Int),Sum.inl (b:Int)]:=by
      have:=(List.mem_filter.mp hq).2
      simpa using this
    obtain ⟨x,y,e,h1,h2⟩:=kn.to q hq1
    refine ⟨x,y,e,h1,(hE x y).mpr ⟨h2,fun z=>?_,fun z=>?_⟩⟩
    · obtain ⟨e1,e2⟩:=Prod.mk.inj z; omega
    · obtain ⟨e1,e2⟩:=Prod.mk.inj z
      exact hne (by rw [e,e1,e2])
  · obtain ⟨h1,h2,h3⟩:=(hE x y).mp h
    obtain ⟨q,hq,e⟩:=List.mem_map.mp (kn.of x y hxy h1)
    refine List.mem_map.mpr ⟨q,List.mem_filter.mpr ⟨hq,?_⟩,e⟩
    rw [decide_eq_true_iff,e]
    intro z
    simp at z
    exact h3 (by rw [z.1,z.2])
theorem WA.updD {C:Addr} {H:Hp} {p dx l d:Addr} {n:Nat} {as:List Addr} {R:Nat→List Int} {kvs kvs':List (List Key × V)} (W:WA C H p dx l n as R) (hd:H d=some (.dT kvs)):WA C (upd H d (.dT kvs')) p dx l n as R:=by
  have ne:∀ {b:Addr} {o:HO},H b=some o→(∀ k,o≠.dT k)→b≠d:=fun e h z=>by rw [z,hd] at e; exact h _ (Option.some.inj e).symm
  refine ⟨by rw [upd_ne (ne W.ob (fun k z=>by cases z))]; exact W.ob,by rw [upd_ne (ne W.rl (fun k z=>by cases z))]; exact W.rl,W.len,fun i a h=>?_,W.ne⟩
  rw [upd_ne (ne (W.at_ i a h) (fun k z=>by cases z))]; exact W.at_ i a h
theorem WA.but {C:Addr} {H:Hp} {p dx l d:Addr} {n:Nat} {as:List Addr} {R:Nat→List Int} {kvs:List (List Key × V)} (W:WA C H p dx l n as R) (hd:H d=some (.dT kvs)):d≠l:=fun z=>by rw [z,W.rl] at hd; cases hd
theorem key_valV {kvs:List (List Key × V)} {k:List Key} (h:k ∈ kvs.map (·.1)):∃ v,valV kvs k=some v∧(k,v) ∈ kvs:=by
  cases e:valV kvs k with
  | none=>exact absurd h (valV_not e)
  | some v =>
    refine ⟨v,rfl,?_⟩
    unfold valV at e
    obtain ⟨q,e1,rfl⟩:=Option.map_eq_some_iff.mp e
    have h1:=List.mem_of_find?_eq_some e1
    have h2:q.1=k:=by have:=List.find?_some e1; simpa using this
    rw [← h2]; exact h1
theorem Kd.start (n:Nat):Kd n (fun i=>[(i:Int)]) []:=⟨Kn.start n,List.nodup_nil⟩
theorem keys_putS {kvs:List (List Key × V)} {k:List Key} {v:V} (h:(kvs.map (·.1)).Nodup):((putK kvs k v).map (·.1)).Nodup:=by
  rw [keys_put]
  split
  · exact h
  · rename_i hs
    refine List.nodup_append.mpr ⟨h,by simp,fun x hx y hy e=>?_⟩
    rw [List.mem_singleton.mp hy] at e
    subst e
    obtain ⟨v',hv,_⟩:=key_valV hx
    rw [hv] at hs; exact hs rfl
theorem keys_drop {kvs:List (List Key × V)} {k:List Key} (h:(kvs.map (·.1)).Nodup):((dropK kvs k).map (·.1)).Nodup:=(List.filter_sublist.map _).nodup h
end K23
namespace K23
def sp__law_cell_at (K:PySem.W.Frag) (C:Addr):Sp:=fun vs H Q _=>∃ (a:Addr) (ns:List Int) (k:Nat),vs=[.ref a,.int k]∧SqL K H a (ns.map V.int)∧∀ z:Int,Q (.int z) H
theorem len__law_cell_at {K:PySem.W.Frag} {C:Addr}:∀ vs H Q E,sp__law_cell_at K C vs H Q E→vs.length=2:=by
  rintro vs H Q E ⟨a,ns,k,rfl,_⟩; rfl
theorem run__law_cell_at {K:PySem.W.Frag} {C:Addr}:∀ vs H Q E,sp__law_cell_at K C vs H Q E→rd__law_cell_at K C { nx:=fun _ H'=>Q .non H',rt:=Q } (start ["_law_script","_law_k"] vs) H:=by
  rintro vs H Q E ⟨a,ns,k,rfl,hS,q⟩
  unfold rd__law_cell_at
  walk_at "x"
  refine x_lenI hS ?_
  walk_at "x"
  refine ifd (fun h=>?_) fun h=>?_
  · walk_at "x"
    have hk:k < ns.length:=by omega
    refine x_ixI hS rfl (List.getElem?_eq_getElem hk) ?_
    exact q _
  · walk_at "x"
    exact q _
end K23
namespace K23
def sp_law (K:PySem.W.Frag):Sp:=fun vs H Q _=>∃ (a:Addr) (ns:List Int),vs=[.ref a]∧SqL K H a (ns.map V.int)∧ns.length≤63∧∀ H',Q (.bl true) H'
theorem len_law {K:PySem.W.Frag}:∀ vs H Q E,sp_law K vs H Q E→vs.length=1:=by
  rintro vs H Q E ⟨a,ns,rfl,_⟩; rfl
end K23
namespace K23
open Rm
theorem x_eqS {K:PySem.W.Frag} {H:Hp} {Q:VK} {i j:Str} (h:Q (.bl (decide (V.str i=V.str j))) H):rEqG K (.str i) (.str j) H Q:=.inl ⟨rfl,h⟩
def DueW (X:EC) (D:Addr) (w:Str):Prop:=(D=X.NoPlace∧w = "place")∨(D=X.Alike∧w = "alike")∨(D=X.Joined∧w = "joined")∨(D=X.NoTie∧w = "tie")
def sp__law_words (K:PySem.W.Frag) (C:Addr) (X:EC):Sp:=fun vs H Q _=>∃ (a D:Addr) (w:Str),vs=[.ref a]∧H a=some (ExO a (.ref D))∧DueW X D w∧∀ q H',Same H H'→H q=none→H' q=some (.lst [.str w])→Q (.ref q) H'
theorem len__law_words {K:PySem.W.Frag} {C:Addr} {X:EC}:∀ vs H Q E,sp__law_words K C X vs H Q E→vs.length=1:=by
  rintro vs H Q E ⟨a,D,w,rfl,_⟩; rfl
theorem run__law_words {K:PySem.W.Frag} {C:Addr} {X:EC} {mg:Str→Option Value} (T:Txt K mg C X):∀ vs H Q E,sp__law_words K C X vs H Q E→rd__law_words K C X { nx:=fun _ H'=>Q .non H',rt:=Q } (start ["_law_e","_law_row"] vs) H:=by
  rintro vs H Q E ⟨a,D,w,rfl,ha,hD,k⟩
  unfold rd__law_words
  walk_at "x"
  refine ⟨small_le (m:=0) (Nat.le_refl 0),fun l hl=>?_⟩
  have S0:=Same.upd_new (o:=.lst []) hl
  have g0:(upd H l (.lst [])) l=some (.lst []):=upd_same
  generalize upd H l (.lst [])=H0 at S0 g0
  have ha0:=S0 _ _ ha
  walk_at "x"
  rcases hD with ⟨rfl,rfl⟩ | ⟨rfl,rfl⟩ | ⟨rfl,rfl⟩ | ⟨rfl,rfl⟩
  · refine x_isiX ha0 T.i_NoPlace T.kk_NoPlace_NoPlace ?_
    refine ⟨true,rfl,?_⟩
    refine iteT ?_
    walk_at "x"
    refine ⟨.inl ⟨rfl,_,SqL.of g0⟩,?_⟩
    walk_at "x"
    refine x_append g0 (small_lt (m:=1000) (by simp)) ?_
    have S1:Same H (upd H0 l (.lst ([] ++ [.str "place"]))):=fun b o e=>by rw [upd_ne (ne_of_none e hl)]; exact S0 _ _ e
    have g1:(upd H0 l (.lst ([] ++ [.str "place"]))) l=some (.lst [.str "place"]):=upd_same
    have ha1:=S1 _ _ ha
    generalize upd H0 l (.lst ([] ++ [.str "place"]))=H1 at S1 g1 ha1
    walk_at "x"
    refine x_isiX ha1 T.i_NoPlace T.kk_NoPlace_Alike ?_
    refine ⟨false,rfl,?_⟩
    refine iteF ?_
    walk_at "x"
    refine x_isiX ha1 T.i_NoPlace T.kk_NoPlace_Joined ?_
    refine ⟨false,rfl,?_⟩
    refine iteF ?_
    walk_at "x"
    refine x_isiX ha1 T.i_NoPlace T.kk_NoPlace_NoTie ?_
    refine ⟨false,rfl,?_⟩
    refine iteF ?_
    walk_at "x"
    refine x_isiX ha1 T.i_NoPlace T.kk_NoPlace_NoCount ?_
    refine ⟨false,rfl,?_⟩
    refine iteF ?_
    walk_at "x"
    refine x_isiX ha1 T.i_NoPlace T.kk_NoPlace_Tied ?_
    refine ⟨false,rfl,?_⟩
    refine iteF ?_
    walk_at "x"
    refine x_isiX ha1 T.i_NoPlace T.kk_NoPlace_NoRow ?_
    refine ⟨false,rfl,?_⟩
    refine iteF ?_
    walk_at "x"
    refine x_isiX ha1 T.i_NoPlace T.kk_NoPlace_Fixed ?_
    refine ⟨false,rfl,?_⟩
    refine iteF ?_
    walk_at "x"
    exact k l H1 S1 hl g1
  · refine x_isiX ha0 T.i_Alike T.kk_Alike_NoPlace ?_
    refine ⟨false,rfl,?_⟩
    refine iteF ?_
    walk_at "x"
    refine x_isiX ha0 T.i_Alike T.kk_Alike_Alike ?_
    refine ⟨true,rfl,?_⟩
    refine iteT ?_
    walk_at "x"
    refine ⟨.inl ⟨rfl,_,SqL.of g0⟩,?_⟩
    walk_at "x"
    refine x_append g0 (small_lt (m:=1000) (by simp)) ?_
    have S1:Same H (upd H0 l (.lst ([] ++ [.str "alike"]))):=fun b o e=>by rw [upd_ne (ne_of_none e hl)]; exact S0 _ _ e
    have g1:(upd H0 l (.lst ([] ++ [.str "alike"]))) l=some (.lst [.str "alike"]):=upd_same
    have ha1:=S1 _ _ ha
    generalize upd H0 l (.lst ([] ++ [.str "alike"]))=H1 at S1 g1 ha1
    walk_at "x"
    refine x_isiX ha1 T.i_Alike T.kk_Alike_Joined ?_
    refine ⟨false,rfl,?_⟩
    refine iteF ?_
    walk_at "x"
    refine x_isiX ha1 T.i_Alike T.kk_Alike_NoTie ?_
    refine ⟨false,rfl,?_⟩
    refine iteF ?_
    walk_at "x"
    refine x_isiX ha1 T.i_Alike T.kk_Alike_NoCount ?_
    refine ⟨false,rfl,?_⟩
    refine iteF ?_
    walk_at "x"
    refine x_isiX ha1 T.i_Alike T.kk_Alike_Tied ?_
    refine ⟨false,rfl,?_⟩
    refine iteF ?_
    walk_at "x"
    refine x_isiX ha1 T.i_Alike T.kk_Alike_NoRow ?_
    refine ⟨false,rfl,?_⟩
    refine iteF ?_
    walk_at "x"
    refine x_isiX ha1 T.i_Alike T.kk_Alike_Fixed ?_
    refine ⟨false,rfl,?_⟩
    refine iteF ?_
    walk_at "x"
    exact k l H1 S1 hl g1
  · refine x_isiX ha0 T.i_Joined T.kk_Joined_NoPlace ?_
    refine ⟨false,rfl,?_⟩
    refine iteF ?_
    walk_at "x"
    refine x_isiX ha0 T.i_Joined T.kk_Joined_Alike ?_
    refine ⟨false,rfl,?_⟩
    refine iteF ?_
    walk_at "x"
    refine x_isiX ha0 T.i_Joined T.kk_Joined_Joined ?_
    refine ⟨true,rfl,?_⟩
    refine iteT ?_
    walk_at "x"
    refine ⟨.inl ⟨rfl,_,SqL.of g0⟩,?_⟩
    walk_at "x"
    refine x_append g0 (small_lt (m:=1000) (by simp)) ?_
    have S1:Same H (upd H0 l (.lst ([] ++ [.str "joined"]))):=fun b o e=>by rw [upd_ne (ne_of_none e hl)]; exact S0 _ _ e
    have g1:(upd H0 l (.lst ([] ++ [.str "joined"]))) l=some (.lst [.str "joined"]):=upd_same
    have ha1:=S1 _ _ ha
    generalize upd H0 l (.lst ([] ++ [.str "joined"]))=H1 at S1 g1 ha1
    walk_at "x"
    refine x_isiX ha1 T.i_Joined T.kk_Joined_NoTie ?_
    refine ⟨false,rfl,?_⟩
    refine iteF ?_
    walk_at "x"
    refine x_isiX ha1 T.i_Joined T.kk_Joined_NoCount ?_
    refine ⟨false,rfl,?_⟩
    refine iteF ?_
    walk_at "x"
    refine x_isiX ha1 T.i_Joined T.kk_Joined_Tied ?_
    refine ⟨false,rfl,?_⟩
    refine iteF ?_
    walk_at "x"
    refine x_isiX ha1 T.i_Joined T.kk_Joined_NoRow ?_
    refine ⟨false,rfl,?_⟩
    refine iteF ?_
    walk_at "x"
    refine x_isiX ha1 T.i_Joined T.kk_Joined_Fixed ?_
    refine ⟨false,rfl,?_⟩
    refine iteF ?_
    walk_at "x"
    exact k l H1 S1 hl g1
  · refine x_isiX ha0 T.i_NoTie T.kk_NoTie_NoPlace ?_
    refine ⟨false,rfl,?_⟩
    refine iteF ?_
    walk_at "x"
    refine x_isiX ha0 T.i_NoTie T.kk_NoTie_Alike ?_
    refine ⟨false,rfl,?_⟩
    refine iteF ?_
    walk_at "x"
    refine x_isiX ha0 T.i_NoTie T.kk_NoTie_Joined ?_
    refine ⟨false,rfl,?_⟩
    refine iteF ?_
    walk_at "x"
    refine x_isiX ha0 T.i_NoTie T.kk_NoTie_NoTie ?_
    refine ⟨true,rfl,?_⟩
    refine iteT ?_
    walk_at "x"
    refine ⟨.inl ⟨rfl,_,SqL.of g0⟩,?_⟩
    walk_at "x"
    refine x_append g0 (small_lt (m:=1000) (by simp)) ?_
    have S1:Same H (upd H0 l (.lst ([] ++ [.str "tie"]))):=fun b o e=>by rw [upd_ne (ne_of_none e hl)]; exact S0 _ _ e
    have g1:(upd H0 l (.lst ([] ++ [.str "tie"]))) l=some (.lst [.str "tie"]):=upd_same
    have ha1:=S1 _ _ ha
    generalize upd H0 l (.lst ([] ++ [.str "tie"]))=H1 at S1 g1 ha1
    walk_at "x"
    refine x_isiX ha1 T.i_NoTie T.kk_NoTie_NoCount ?_
    refine ⟨false,rfl,?_⟩
    refine iteF ?_
    walk_at "x"
    refine x_isiX ha1 T.i_NoTie T.kk_NoTie_Tied ?_
    refine ⟨false,rfl,?_⟩
    refine iteF ?_
    walk_at "x"
    refine x_isiX ha1 T.i_NoTie T.kk_NoTie_NoRow ?_
    refine ⟨false,rfl,?_⟩
    refine iteF ?_
    walk_at "x"
    refine x_isiX ha1 T.i_NoTie T.kk_NoTie_Fixed ?_
    refine ⟨false,rfl,?_⟩
    refine iteF ?_
    walk_at "x"
    exact k l H1 S1 hl g1
inductive Due (X:EC) (n:Nat) (R:Nat→List Int):Str→V→V→Addr→Prop
  | two {w:Str} {v u:V} (hw:w = "joined"∨w = "way"∨w = "link"∨w = "cut") (hv:Th v) (hu:Th u) (h:(isPl n v && isPl n u)=false):Due X n R w v u X.NoPlace
  | one {w:Str} {v u:V} (hw:w = "group"∨w = "size") (hv:Th v) (h:isPl n v=false):Due X n R w v u X.NoPlace
  | alike {w:Str} {i:Nat} (hw:w = "link"∨w = "cut") (h:i < n):Due X n R w (.int i) (.int i) X.Alike
  | joined {a b:Nat} (ha:a < n) (hb:b < n) (hab:a≠b) (h:(b:Int) ∈ R a):Due X n R "link" (.int a) (.int b) X.Joined
  | tie {a b:Nat} (ha:a < n) (hb:b < n) (hab:a≠b) (h:¬ Ed n R a b):Due X n R "cut" (.int a) (.int b) X.NoTie
def sp__law_ask (K:PySem.W.Frag) (C:Addr) (X:EC):Sp:=fun vs H Q E=>∃ (p dx l D:Addr) (n:Nat) (as:List Addr) (R:Nat→List Int) (w:Str) (v u:V),vs=[.ref p,.str w,v,u]∧CT K C∧WA C H p dx l n as R∧Wd n R∧n≤60∧Due X n R w v u D∧∀ H',Same H H'→E (.ref D) none H'
theorem len__law_ask {K:PySem.W.Frag} {C:Addr} {X:EC}:∀ vs H Q E,sp__law_ask K C X vs H Q E→vs.length=4:=by
  rintro vs H Q E ⟨p,dx,l,D,n,as,R,w,v,u,rfl,_⟩; rfl
theorem run__law_ask {K:PySem.W.Frag} {C:Addr} {X:EC}:∀ vs H Q E,sp__law_ask K C X vs H Q E→rd__law_ask K C E (sp_Wood_size K C X) (sp_Wood_link K C X) (sp_Wood_cut K C X) (sp_Wood_joined K C X) (sp_Wood_way K C X) (sp_Wood_group K C X) { nx:=fun _ H'=>Q .non H',rt:=Q } (start ["_law_wood","_law_word","_law_one","_law_other"] vs) H:=by
  rintro vs H Q E ⟨p,dx,l,D,n,as,R,w,v,u,rfl,ct,W,Dw,hn,hd,k⟩
  have kH:=k H (Same.refl _)
  unfold rd__law_ask
  walk_at "x"
  refine x_eqS ?_
  walk_at "x"
  refine ifd (fun hw=>?_) fun hw1=>?_
  · have hw:w = "link":=by injection hw
    subst hw
    walk_at "x"
    refine x_meth ?_
    walk_at "x"
    refine ⟨p,dx,_,rfl,W.ob,flds_no _ _ (by decide +kernel) (by decide +kernel),?_⟩
    walk_at "x"
    cases hd with
    | two _ hv hu h=>exact .inr (.inl ⟨p,dx,l,n,v,u,as,R,rfl,ct,W,hv,hu,h,kH⟩)
    | one hw=>rcases hw with z | z <;> exact absurd z (by decide)
    | alike _ h=>exact .inr (.inr (.inl ⟨p,dx,l,n,_,as,R,rfl,ct,W,h,kH⟩))
    | joined ha hb hab h=>exact .inr (.inr (.inr ⟨p,dx,l,n,_,_,as,R,rfl,ct,W,Dw,ha,hb,hab,h,kH⟩))
  walk_at "x"
  refine x_eqS ?_
  walk_at "x"
  refine ifd (fun hw=>?_) fun hw2=>?_
  · have hw:w = "cut":=by injection hw
    subst hw
    walk_at "x"
    refine x_meth ?_
    walk_at "x"
    refine ⟨p,dx,_,rfl,W.ob,flds_no _ _ (by decide +kernel) (by decide +kernel),?_⟩
    walk_at "x"
    cases hd with
    | two _ hv hu h=>exact .inr (.inl ⟨p,dx,l,n,v,u,as,R,rfl,ct,W,hv,hu,h,kH⟩)
    | one hw=>rcases hw with z | z <;> exact absurd z (by decide)
    | alike _ h=>exact .inr (.inr (.inl ⟨p,dx,l,n,_,as,R,rfl,ct,W,h,kH⟩))
    | tie ha hb hab h=>exact .inr (.inr (.inr ⟨p,dx,l,n,_,_,as,R,rfl,ct,W,Dw,by omega,ha,hb,hab,h,k⟩))
  have nl:w≠"link":=fun z=>hw1 (by rw [z])
  have nc:w≠"cut":=fun z=>hw2 (by rw [z])
  walk_at "x"
  refine x_eqS ?_
  walk_at "x"
  refine ifd (fun hw=>?_) fun hw3=>?_
  · have hw:w = "joined":=by injection hw
    subst hw
    walk_at "x"
    refine x_meth ?_
    walk_at "x"
    refine ⟨p,dx,_,rfl,W.ob,flds_no _ _ (by decide +kernel) (by decide +kernel),?_⟩
    walk_at "x"
    cases hd with
    | two _ hv hu h=>exact .inr ⟨p,dx,l,n,v,u,as,R,rfl,ct,W,hv,hu,h,kH⟩
    | one hw=>rcases hw with z | z <;> exact absurd z (by decide)
    | alike hw=>rcases hw with z | z <;> exact absurd z (by decide)
  walk_at "x"
  refine x_eqS ?_
  walk_at "x"
  refine ifd (fun hw=>?_) fun hw4=>?_
  · have hw:w = "way":=by injection hw
    subst hw
    walk_at "x"
    refine x_meth ?_
    walk_at "x"
    refine ⟨p,dx,_,rfl,W.ob,flds_no _ _ (by decide +kernel) (by decide +kernel),?_⟩
    walk_at "x"
    cases hd with
    | two _ hv hu h=>exact .inr ⟨p,dx,l,n,v,u,as,R,rfl,ct,W,hv,hu,h,kH⟩
    | one hw=>rcases hw with z | z <;> exact absurd z (by decide)
    | alike hw=>rcases hw with z | z <;> exact absurd z (by decide)
  have nj:w≠"joined":=fun z=>hw3 (by rw [z])
  have nw:w≠"way":=fun z=>hw4 (by rw [z])
  obtain ⟨rfl,hw,hv,h⟩:D=X.NoPlace∧(w = "group"∨w = "size")∧Th v∧isPl n v=false:=by
    cases hd with
    | two hw=>exact (hw.elim nj fun z=>z.elim nw fun z=>z.elim nl nc).elim
    | one hw hv h=>exact ⟨rfl,hw,hv,h⟩
    | alike hw=>exact (hw.elim nl nc).elim
    | joined=>exact absurd rfl nl
    | tie=>exact absurd rfl nc
  walk_at "x"
  refine x_eqS ?_
  walk_at "x"
  refine ifd (fun _=>?_) fun _=>?_
  · walk_at "x"
    refine x_meth ?_
    walk_at "x"
    refine ⟨p,dx,_,rfl,W.ob,flds_no _ _ (by decide +kernel) (by decide +kernel),?_⟩
    walk_at "x"
    exact .inr ⟨p,dx,l,n,v,as,R,rfl,ct,W,hv,h,kH⟩
  · walk_at "x"
    refine x_meth ?_
    walk_at "x"
    refine ⟨p,dx,_,rfl,W.ob,flds_no _ _ (by decide +kernel) (by decide +kernel),?_⟩
    walk_at "x"
    exact .inr ⟨p,dx,l,n,v,as,R,rfl,ct,W,hv,h,kH⟩
end K23
namespace K23
open Rm
theorem fine_str {x:Str} (h:PyData.strOk x=true):Fine (.list [.str x]):=⟨by simp [PyData.canLay0,PyData.canLayAll0,h],by simp [PyData.depth,PyData.depthAll]⟩
theorem DueW.ok {X:EC} {D:Addr} {w:Str} (h:DueW X D w):PyData.strOk w=true:=by
  rcases h with ⟨_,rfl⟩ | ⟨_,rfl⟩ | ⟨_,rfl⟩ | ⟨_,rfl⟩ <;> decide +kernel
theorem em {n:Nat} (hn:0 < n) (x:Int):∃ j:Nat,x % (n:Int)=(j:Int)∧j < n:=by
  have h1:=Int.emod_nonneg x (show (n:Int)≠0 by omega)
  have h2:=Int.emod_lt_of_pos x (show (0:Int) < n by omega)
  exact ⟨(x % (n:Int)).toNat,by omega,by omega⟩
theorem DueW.em {K:PySem.W.Frag} {C:Addr} {X:EC} {mg:Str→Option Value} (T:Txt K mg C X) {D:Addr} {w:Str} (h:DueW X D w):PySem.W.exmOne K (.ref D) (.ref X.TieError)=some true:=by
  rcases h with ⟨rfl,_⟩ | ⟨rfl,_⟩ | ⟨rfl,_⟩ | ⟨rfl,_⟩
  · exact T.em_NoPlace
  · exact T.em_Alike
  · exact T.em_Joined
  · exact T.em_NoTie
def sp__law_refused (K:PySem.W.Frag) (C:Addr) (X:EC):Sp:=fun vs H Q _=>∃ (p dx l D:Addr) (n:Nat) (as:List Addr) (R:Nat→List Int) (w d:Str) (v u:V),vs=[.ref p,.str w,v,u,.str d]∧CT K C∧WA C H p dx l n as R∧Wd n R∧n≤60∧Due X n R w v u D∧DueW X D d∧∀ H',Same H H'→Q (.bl true) H'
theorem len__law_refused {K:PySem.W.Frag} {C:Addr} {X:EC}:∀ vs H Q E,sp__law_refused K C X vs H Q E→vs.length=5:=by
  rintro vs H Q E ⟨p,dx,l,D,n,as,R,w,d,v,u,rfl,_⟩; rfl
theorem run__law_refused {K:PySem.W.Frag} {C:Addr} {X:EC} {mg:Str→Option Value} (T:Txt K mg C X):∀ vs H Q E,sp__law_refused K C X vs H Q E→rd__law_refused K C X (sp__law_ask K C X) (sp__law_words K C X) { nx:=fun _ H'=>Q .non H',rt:=Q } (start ["_law_wood","_law_word","_law_one","_law_other","_law_due","_law_e"] vs) H:=by
  rintro vs H Q E ⟨p,dx,l,D,n,as,R,w,d,v,u,rfl,ct,W,Dw,hn,hd,hdw,k⟩
  unfold rd__law_refused
  refine x_seq ?_
  refine x_try ?_
  walk_at "x"
  refine ⟨fun cls _ H2=>cls = .ref D∧Same H H2,⟨p,dx,l,D,n,as,R,w,v,u,rfl,ct,W,Dw,hn,hd,fun H' S=>⟨rfl,S⟩⟩,?_⟩
  rintro cls H2 ⟨rfl,S2⟩
  refine ⟨D,rfl,hdw.em T,fun a ha=>?_⟩
  have S3:=Same.upd_new (o:=ExO a (.ref D)) ha
  have g3:(upd H2 a (ExO a (.ref D))) a=some (ExO a (.ref D)):=upd_same
  generalize upd H2 a (ExO a (.ref D))=H3 at S3 g3
  walk_at "x"
  refine ⟨a,D,d,rfl,g3,hdw,fun q H4 S4 hq g4=>?_⟩
  walk_at "x"
  refine ⟨small_le (m:=1) (Nat.le_refl 1),fun r hr=>?_⟩
  have S5:=Same.upd_new (o:=.lst [.str d]) hr
  have g5:(upd H4 r (.lst [.str d])) r=some (.lst [.str d]):=upd_same
  generalize upd H4 r (.lst [.str d])=H5 at S5 g5
  have rp:∀ {b:Addr},H5 b=some (.lst [.str d])→Rep K H5 (.list [.str d]) (.ref b):=fun {b} e=>by
    simp only [Rep]
    refine ⟨b,_,rfl,SqL.of e,?_⟩
    simp only [RepAll,Rep]
    exact ⟨_,_,rfl,rfl,rfl⟩
  refine x_eqD (rp (S5 _ _ g4)) (rp g5) (fine_str hdw.ok) (fine_str hdw.ok) ?_
  rw [SeqAt.eqv_refl _ (fine_str hdw.ok).lay]
  exact k _ (((S2.trans S3).trans S4).trans S5)
def sp__law_place (K:PySem.W.Frag) (C:Addr):Sp:=fun vs H Q _=>∃ (n:Nat) (v:V),vs=[.int n,v]∧Th v∧Q (.bl (isPl n v)) H
theorem len__law_place {K:PySem.W.Frag} {C:Addr}:∀ vs H Q E,sp__law_place K C vs H Q E→vs.length=2:=by
  rintro vs H Q E ⟨n,i,rfl,_⟩; rfl
theorem run__law_place {K:PySem.W.Frag} {C:Addr}:∀ vs H Q E,sp__law_place K C vs H Q E→rd__law_place K C { nx:=fun _ H'=>Q .non H',rt:=Q } (start ["_law_n","_law_thing_here"] vs) H:=by
  rintro vs H Q E ⟨n,v,rfl,hv,k⟩
  unfold rd__law_place
  walk_at "x"
  cases hv with
  | int i =>
    refine x_isi (.int i) kit_ii ?_
    walk_at "x"
    refine iteT ?_
    walk_at "x"
    refine x_isi (.int i) kit_ib ?_
    walk_at "x"
    refine iteT ?_
    walk_at "x"
    refine ifd (fun h=>?_) fun h=>?_
    · walk_at "x"
      have:isPl n (.int i)=decide (i < n):=by show (decide (0≤i) && decide (i < n))=_; rw [decide_eq_true h,Bool.true_and]
      rw [← this]; exact k
    · have:isPl n (.int i)=false:=by show (decide (0≤i) && decide (i < n))=_; rw [decide_eq_false h,Bool.false_and]
      rw [← this]; exact k
  | bl b =>
    refine x_isi (.bl b) kit_bi ?_
    walk_at "x"
    refine iteT ?_
    walk_at "x"
    refine x_isi (.bl b) kit_bb ?_
    walk_at "x"
    refine iteF ?_
    exact k
  | non =>
    refine x_isi .non kit_ni ?_
    walk_at "x"
    refine iteF ?_
    exact k
  | str x =>
    refine x_isi (.str x) kit_si ?_
    walk_at "x"
    refine iteF ?_
    exact k
def sp__law_thing (K:PySem.W.Frag) (C:Addr):Sp:=fun vs H Q _=>∃ (n:Nat) (c:Int),vs=[.int n,.int c]∧1≤n∧∀ v H',Th v→Same H H'→Q v H'
theorem len__law_thing {K:PySem.W.Frag} {C:Addr}:∀ vs H Q E,sp__law_thing K C vs H Q E→vs.length=2:=by
  rintro vs H Q E ⟨n,i,rfl,_⟩; rfl
theorem run__law_thing {K:PySem.W.Frag} {C:Addr}:∀ vs H Q E,sp__law_thing K C vs H Q E→rd__law_thing K C { nx:=fun _ H'=>Q .non H',rt:=Q } (start ["_law_n","_law_cell","_law_rest"] vs) H:=by
  rintro vs H Q E ⟨n,c,rfl,hn,k⟩
  have p30:(0:Int) < 10 ^ (30:Int).toNat:=by decide
  unfold rd__law_thing
  walk_at "x"
  refine ifd (fun _=>?_) fun _=>?_
  · walk_at "x"
    exact k _ _ (.int _) (Same.refl _)
  walk_at "x"
  have two:∀ {p:Addr} {H1:Hp} {z:Int} {Q':VK},H1 p=some (.lst [.int 0,.int z])→(∀ y,Q' (.int y) H1)→rIxG K (.ref p) (.int (c / 12 % 2)) H1 Q':=fun {p H1 z Q'} g q=>by
    obtain ⟨j,ej,hj⟩:=em (n:=2) (by omega) (c / 12)
    have ej:c / 12 % 2=(j:Int):=ej
    rw [ej]
    rcases (show j=0∨j=1 by omega) with rfl | rfl
    · exact x_ixL (SqL.of g) (atI_of (j:=0) rfl rfl) (q _)
    · exact x_ixL (SqL.of g) (atI_of (j:=1) rfl rfl) (q _)
  refine ifd (fun _=>?_) fun _=>?_
  · walk_at "x"
    refine ⟨small_le (m:=2) (Nat.le_refl 2),fun p hp=>?_⟩
    have S1:=Same.upd_new (o:=.lst [.int 0,.int (c / 12 % 10 ^ Int.toNat 30)]) hp
    have g1:(upd H p (.lst [.int 0,.int (c / 12 % 10 ^ Int.toNat 30)])) p=some (.lst [.int 0,.int (c / 12 % 10 ^ Int.toNat 30)]):=upd_same
    generalize upd H p (.lst [.int 0,.int (c / 12 % 10 ^ Int.toNat 30)])=H1 at S1 g1
    walk_at "x"
    refine two g1 fun y=>?_
    walk_at "x"
    exact k _ _ (.int _) S1
  walk_at "x"
  refine ifd (fun _=>?_) fun _=>?_
  · walk_at "x"
    refine ⟨small_le (m:=2) (Nat.le_refl 2),fun p hp=>?_⟩
    have S1:=Same.upd_new (o:=.lst [.int 0,.int (c / 12 % 10 ^ Int.toNat 30)]) hp
    have g1:(upd H p (.lst [.int 0,.int (c / 12 % 10 ^ Int.toNat 30)])) p=some (.lst [.int 0,.int (c / 12 % 10 ^ Int.toNat 30)]):=upd_same
    generalize upd H p (.lst [.int 0,.int (c / 12 % 10 ^ Int.toNat 30)])=H1 at S1 g1
    walk_at "x"
    refine two g1 fun y=>?_
    walk_at "x"
    exact k _ _ (.int _) S1
  walk_at "x"
  refine ⟨small_le (m:=3) (Nat.le_refl 3),fun p hp=>?_⟩
  have S1:=Same.upd_new (o:=.lst [.bl (decide (V.int (c / 12 % 2)=V.int 0)),.non,.str "0"]) hp
  have g1:(upd H p (.lst [.bl (decide (V.int (c / 12 % 2)=V.int 0)),.non,.str "0"])) p=some (.lst [.bl (decide (V.int (c / 12 % 2)=V.int 0)),.non,.str "0"]):=upd_same
  generalize upd H p (.lst [.bl (decide (V.int (c / 12 % 2)=V.int 0)),.non,.str "0"])=H1 at S1 g1
  walk_at "x"
  obtain ⟨j,ej,hj⟩:=em (n:=3) (by omega) c
  have ej:c % 3=(j:Int):=ej
  rw [ej]
  rcases (show j=0∨j=1∨j=2 by omega) with rfl | rfl | rfl
  · exact x_ixL (SqL.of g1) (atI_of (j:=0) rfl rfl) (k _ _ (.bl _) S1)
  · exact x_ixL (SqL.of g1) (atI_of (j:=1) rfl rfl) (k _ _ .non S1)
  · exact x_ixL (SqL.of g1) (atI_of (j:=2) rfl rfl) (k _ _ (.str _) S1)
end K23
namespace K23
open Rm
def sp__law_questions (K:PySem.W.Frag) (C:Addr):Sp:=fun vs H Q _=>∃ (p dx l:Addr) (n:Nat) (as:List Addr) (R:Nat→List Int) (v u:V),vs=[.ref p,.int n,v,u]∧CT K C∧WA C H p dx l n as R∧Wd n R∧n≤60∧Th v∧Th u∧(isPl n v && isPl n u)=false∧∀ H',Same H H'→Q (.bl true) H'
theorem len__law_questions {K:PySem.W.Frag} {C:Addr}:∀ vs H Q E,sp__law_questions K C vs H Q E→vs.length=4:=by
  rintro vs H Q E ⟨p,dx,l,n,as,R,v,u,rfl,_⟩; rfl
theorem run__law_questions {K:PySem.W.Frag} {C:Addr} {X:EC}:∀ vs H Q E,sp__law_questions K C vs H Q E→rd__law_questions K C (sp__law_refused K C X) (sp__law_place K C) { nx:=fun _ H'=>Q .non H',rt:=Q } (start ["_law_wood","_law_n","_law_one","_law_other","_law_word","_law_thing_here"] vs) H:=by
  rintro vs H Q E ⟨p,dx,l,n,as,R,v,u,rfl,ct,W,D,hn,hv,hu,hp,k⟩
  have ref:∀ {w:Str} {H1:Hp} {Q':VK},(w = "joined"∨w = "way"∨w = "link"∨w = "cut")→Same H H1→(∀ H2,Same H H2→Q' (.bl true) H2)→sp__law_refused K C X [.ref p,.str w,v,u,.str "place"] H1 Q' E0:=fun {w H1 Q'} hw S1 q =>
    ⟨p,dx,l,X.NoPlace,n,as,R,w,"place",v,u,rfl,ct,W.same S1,D,hn,.two hw hv hu hp,.inl ⟨rfl,rfl⟩,fun H2 S2=>q H2 (S1.trans S2)⟩
  unfold rd__law_questions lp__law_questions_1
  walk_at "x"
  refine ⟨small_le (m:=2) (Nat.le_refl 2),fun a ha=>?_⟩
  have S0:=Same.upd_new (o:=.lst [.str "joined",.str "way"]) ha
  have g0:(upd H a (.lst [.str "joined",.str "way"])) a=some (.lst [.str "joined",.str "way"]):=upd_same
  generalize upd H a (.lst [.str "joined",.str "way"])=H0 at S0 g0
  refine ⟨a,rfl,?_⟩
  refine .inl ⟨⟨_,SqL.of g0⟩,for_list (K:=K) (a:=a) (xs:=[.str "joined",.str "way"]) (fun i σ H1=>Same H0 H1∧∃ o4 o5,σ = [some (.ref p),some (.int (n:Int)),some v,some u,o4,o5]) ⟨Same.refl _,_,_,rfl⟩ ?_ ?_ ?_⟩
  · rintro i σ H1 _ ⟨S1,_⟩; exact SqL.of (S1 _ _ g0)
  · rintro i x σ H1 hi ⟨S1,o4,o5,rfl⟩
    obtain ⟨w,rfl,hw⟩:∃ w:Str,x = .str w∧(w = "joined"∨w = "way"∨w = "link"∨w = "cut"):=by
      rcases (show i=0∨i=1 by have:=(List.getElem?_eq_some_iff.mp hi).1; simp at this; omega) with rfl | rfl
      · exact ⟨"joined",by simpa using hi.symm,.inl rfl⟩
      · exact ⟨"way",by simpa using hi.symm,.inr (.inl rfl)⟩
    walk_at "x"
    refine ⟨p,dx,l,X.NoPlace,n,as,R,w,"place",v,u,rfl,ct,W.same (S0.trans S1),D,hn,.two hw hv hu hp,.inl ⟨rfl,rfl⟩,fun H2 S2=>?_⟩
    refine ⟨true,rfl,?_⟩
    refine iteF ?_
    walk_at "x"
    exact ⟨S1.trans S2,_,_,rfl⟩
  rintro σ H1 ⟨S1,o4,o5,rfl⟩
  have S01:=S0.trans S1
  walk_at "x"
  unfold lp__law_questions_2
  walk_at "x"
  refine ⟨small_le (m:=2) (Nat.le_refl 2),fun a ha=>?_⟩
  have S2:=Same.upd_new (o:=.lst [v,u]) ha
  have g2:(upd H1 a (.lst [v,u])) a=some (.lst [v,u]):=upd_same
  generalize upd H1 a (.lst [v,u])=H2 at S2 g2
  have S02:=S01.trans S2
  refine ⟨a,rfl,?_⟩
  refine .inl ⟨⟨_,SqL.of g2⟩,for_list (K:=K) (a:=a) (xs:=[v,u]) (fun i σ H3=>Same H2 H3∧∃ o4 o5,σ = [some (.ref p),some (.int (n:Int)),some v,some u,o4,o5]) ⟨Same.refl _,_,_,rfl⟩ ?_ ?_ ?_⟩
  · rintro i σ H1 _ ⟨S1,_⟩; exact SqL.of (S1 _ _ g2)
  · rintro i x σ H3 hi ⟨S3,o4,o5,rfl⟩
    have hx:Th x:=by
      rcases List.mem_cons.mp (List.mem_of_getElem? hi) with rfl | h
      · exact hv
      · rw [List.mem_singleton.mp h]; exact hu
    have W3:=W.same (S02.trans S3)
    walk_at "x"
    refine ⟨n,x,rfl,hx,?_⟩
    refine ⟨isPl n x,rfl,?_⟩
    cases hpx:isPl n x with
    | true =>
      refine iteF ?_
      walk_at "x"
      exact ⟨S3,_,_,rfl⟩
    | false =>
      refine iteT ?_
      walk_at "x"
      refine ⟨p,dx,l,X.NoPlace,n,as,R,"group","place",x,x,rfl,ct,W3,D,hn,.one (.inl rfl) hx hpx,.inl ⟨rfl,rfl⟩,fun H4 S4=>?_⟩
      refine ⟨true,rfl,?_⟩
      refine iteF ?_
      walk_at "x"
      refine ⟨p,dx,l,X.NoPlace,n,as,R,"size","place",x,x,rfl,ct,W3.same S4,D,hn,.one (.inr rfl) hx hpx,.inl ⟨rfl,rfl⟩,fun H5 S5=>?_⟩
      refine ⟨true,rfl,?_⟩
      refine iteF ?_
      walk_at "x"
      exact ⟨(S3.trans S4).trans S5,_,_,rfl⟩
  rintro σ H3 ⟨S3,o4,o5,rfl⟩
  have S03:=S02.trans S3
  walk_at "x"
  refine ⟨p,dx,l,X.NoPlace,n,as,R,"link","place",v,u,rfl,ct,W.same S03,D,hn,.two (.inr (.inr (.inl rfl))) hv hu hp,.inl ⟨rfl,rfl⟩,fun H4 S4=>?_⟩
  refine ⟨true,rfl,?_⟩
  refine iteT ?_
  walk_at "x"
  refine ⟨p,dx,l,X.NoPlace,n,as,R,"cut","place",v,u,rfl,ct,W.same (S03.trans S4),D,hn,.two (.inr (.inr (.inr rfl))) hv hu hp,.inl ⟨rfl,rfl⟩,fun H5 S5=>?_⟩
  exact k H5 ((S03.trans S4).trans S5)
def Sn (R:Nat→List Int) (H:Hp) (i:Nat) (y:V):Prop:=∃ (t g:Addr) (ks:List Int) (wv:V),y = .ref t∧H t=some (.tup [.ref g,wv])∧H g=some (.lst (ks.map V.int))∧ks.Pairwise (· < ·)∧(∀ x,x ∈ ks↔x ∈ R i) ∧
  (((i:Int) ∉ R 0∧wv = .non)∨((i:Int) ∈ R 0∧∃ q w,wv = .ref q∧H q=some (.lst (w.map V.int))∧Pth (R 0) 0 i w))
theorem Sn.same {R:Nat→List Int} {H H':Hp} {i:Nat} {y:V} (h:Sn R H i y) (S:Same H H'):Sn R H' i y:=by
  obtain ⟨t,g,ks,wv,e,h1,h2,h3,h4,h5⟩:=h
  refine ⟨t,g,ks,wv,e,S _ _ h1,S _ _ h2,h3,h4,?_⟩
  rcases h5 with h5 | ⟨h5,q,w,e1,e2,e3⟩
  · exact .inl h5
  · exact .inr ⟨h5,q,w,e1,S _ _ e2,e3⟩
def SnD (R:Nat→List Int) (i:Nat) (d:PyData):Prop:=∃ (ks:List Int) (wd:PyData),d = .tuple [.list (ks.map .int),wd]∧ks.Pairwise (· < ·)∧(∀ x,x ∈ ks↔x ∈ R i)∧(((i:Int) ∉ R 0∧wd = .none)∨((i:Int) ∈ R 0∧∃ w:List Int,Pth (R 0) 0 i w∧wd = .list (w.map .int)))
theorem Sn.rep {K:PySem.W.Frag} {R:Nat→List Int} {H:Hp} {i:Nat} {y:V} (h:Sn R H i y):∃ d,SnD R i d∧Rep K H d y:=by
  obtain ⟨t,g,ks,wv,rfl,h1,h2,h3,h4,h5⟩:=h
  rcases h5 with ⟨h5,rfl⟩ | ⟨h5,q,w,rfl,e2,e3⟩
  · refine ⟨.tuple [.list (ks.map .int),.none],⟨ks,.none,rfl,h3,h4,.inl ⟨h5,rfl⟩⟩,?_⟩
    rw [Rep]
    refine ⟨t,_,rfl,SqT.of h1,?_⟩
    simp only [RepAll]
    exact ⟨_,_,rfl,rep_ints (SqL.of h2),_,_,rfl,by simp [Rep],rfl⟩
  · refine ⟨.tuple [.list (ks.map .int),.list (w.map .int)],⟨ks,_,rfl,h3,h4,.inr ⟨h5,w,e3,rfl⟩⟩,?_⟩
    rw [Rep]
    refine ⟨t,_,rfl,SqT.of h1,?_⟩
    simp only [RepAll]
    exact ⟨_,_,rfl,rep_ints (SqL.of h2),_,_,rfl,rep_ints (SqL.of e2),rfl⟩
theorem SnD.uniq {n:Nat} {R:Nat→List Int} (W:Wd n R) (hn:0 < n) {i:Nat} {d d':PyData} (h:SnD R i d) (h':SnD R i d'):d=d':=by
  obtain ⟨ks,wd,rfl,h1,h2,h3⟩:=h
  obtain ⟨ks',wd',rfl,h1',h2',h3'⟩:=h'
  rw [rise_ext h1 h1' fun x=>by rw [h2,h2']]
  rcases h3 with ⟨z,rfl⟩ | ⟨z,w,p,rfl⟩
  · rcases h3' with ⟨_,rfl⟩ | ⟨z',_⟩
    · rfl
    · exact absurd z' z
  · rcases h3' with ⟨z',_⟩ | ⟨_,w',p',rfl⟩
    · exact absurd z z'
    · rw [Pth.uniq _ (Nat.le_refl _) (W.r 0 hn) p p']
theorem lay_ints:∀ ns:List Int,PyData.canLayAll0 (ns.map .int)=true:=fun ns=>plainAll_lay _ (plain_ints ns)
theorem dep_ints:∀ ns:List Int,PyData.depthAll (ns.map .int)≤1
  | []=>by simp [PyData.depthAll]
  | x :: xs => by
    have:=dep_ints xs
    simp only [List.map_cons,PyData.depthAll,PyData.depth]; omega
theorem SnD.fine {R:Nat→List Int} {i:Nat} {d:PyData} (h:SnD R i d):d.canLay0=true∧d.depth≤10:=by
  obtain ⟨ks,wd,rfl,h1,h2,h3⟩:=h
  have hw:wd.canLay0=true∧wd.depth≤5:=by
    rcases h3 with ⟨_,rfl⟩ | ⟨_,w,_,rfl⟩
    · simp [PyData.canLay0,PyData.depth]
    · have:=dep_ints w
      simp only [PyData.canLay0,PyData.depth]
      exact ⟨lay_ints w,by omega⟩
  have:=dep_ints ks
  simp only [PyData.canLay0,PyData.canLayAll0,PyData.depth,PyData.depthAll,Bool.and_eq_true]
  exact ⟨⟨lay_ints ks,hw.1,trivial⟩,by omega⟩
theorem fine_all:∀ {gs:List PyData},(∀ d ∈ gs,d.canLay0=true∧d.depth≤10)→PyData.canLayAll0 gs=true∧PyData.depthAll gs≤10
  | [],_=>by simp [PyData.canLayAll0,PyData.depthAll]
  | d :: gs, h => by
    have h1:=h d List.mem_cons_self
    have h2:=fine_all fun d' hd'=>h d' (List.mem_cons_of_mem _ hd')
    simp only [PyData.canLayAll0,PyData.depthAll,Bool.and_eq_true]
    exact ⟨⟨h1.1,h2.1⟩,by omega⟩
theorem rep_all {K:PySem.W.Frag} {H:Hp}:∀ {ys:List V} {P:Nat→PyData→Prop},(∀ i y,ys[i]? = some y→∃ d,P i d∧Rep K H d y)→∃ gs,gs.length=ys.length∧RepAll K H gs ys∧∀ i d,gs[i]? = some d→P i d
  | [],P,_=>⟨[],rfl,by simp [RepAll],fun i d h=>by simp at h⟩
  | y :: ys, P, h => by
    obtain ⟨d,h1,h2⟩:=h 0 y rfl
    obtain ⟨gs,e,r,q⟩:=rep_all (ys:=ys) (P:=fun i=>P (i+1)) fun i y' hy'=>h (i+1) y' (by simpa using hy')
    refine ⟨d :: gs,by simp [e],by simp only [RepAll]; exact ⟨_,_,rfl,h2,r⟩,fun i d' hd'=>?_⟩
    cases i with
    | zero=>simp at hd'; exact hd' ▸ h1
    | succ i=>exact q i d' (by simpa using hd')
def SnL (n:Nat) (R:Nat→List Int) (H:Hp) (q:Addr):Prop:=∃ ys:List V,H q=some (.lst ys)∧ys.length=n∧∀ i y,ys[i]? = some y→Sn R H i y
theorem SnL.same {n:Nat} {R:Nat→List Int} {H H':Hp} {q:Addr} (h:SnL n R H q) (S:Same H H'):SnL n R H' q:=by
  obtain ⟨ys,h1,h2,h3⟩:=h
  exact ⟨ys,S _ _ h1,h2,fun i y hy=>(h3 i y hy).same S⟩
theorem x_neSn {K:PySem.W.Frag} {n:Nat} {R:Nat→List Int} {H:Hp} {q q':Addr} {Q:VK} (W:Wd n R) (hn:0 < n) (h:SnL n R H q) (h':SnL n R H q') (k:Q (.bl false) H):rNeG K (.ref q) (.ref q') H Q:=by
  obtain ⟨ys,h1,h2,h3⟩:=h
  obtain ⟨ys',h1',h2',h3'⟩:=h'
  obtain ⟨gs,e,r,P⟩:=rep_all (K:=K) (P:=SnD R) fun i y hy=>(h3 i y hy).rep
  obtain ⟨gs',e',r',P'⟩:=rep_all (K:=K) (P:=SnD R) fun i y hy=>(h3' i y hy).rep
  have eg:gs=gs':=List.ext_getElem? fun i=>by
    by_cases hi:i < gs.length
    · have hi':i < gs'.length:=by omega
      rw [List.getElem?_eq_getElem hi,List.getElem?_eq_getElem hi',(P i _ (List.getElem?_eq_getElem hi)).uniq W hn (P' i _ (List.getElem?_eq_getElem hi'))]
    · rw [List.getElem?_eq_none (by omega),List.getElem?_eq_none (by omega)]
  subst eg
  have hf:Fine (.list gs):=by
    have:=fine_all (gs:=gs) fun d hd=>by
      obtain ⟨i,hi⟩:=List.mem_iff_getElem?.mp hd
      exact (P i d hi).fine
    exact ⟨by simp only [PyData.canLay0]; exact this.1,by simp only [PyData.depth]; omega⟩
  refine x_neD (dx:=.list gs) (dy:=.list gs) (by rw [Rep]; exact ⟨q,_,rfl,SqL.of h1,r⟩) (by rw [Rep]; exact ⟨q',_,rfl,SqL.of h1',r'⟩) hf hf ?_
  rw [SeqAt.eqv_refl _ hf.lay]
  exact k
def sp__law_seen (K:PySem.W.Frag) (C:Addr):Sp:=fun vs H Q _=>∃ (p dx l:Addr) (n:Nat) (as:List Addr) (R:Nat→List Int),vs=[.ref p,.int n]∧CT K C∧WA C H p dx l n as R∧Wd n R∧n≤60∧0 < n∧∀ q H',Same H H'→H q=none→SnL n R H' q→Q (.ref q) H'
theorem len__law_seen {K:PySem.W.Frag} {C:Addr}:∀ vs H Q E,sp__law_seen K C vs H Q E→vs.length=2:=by
  rintro vs H Q E ⟨p,dx,l,n,as,R,rfl,_⟩; rfl
theorem run__law_seen {K:PySem.W.Frag} {C:Addr} {X:EC}:∀ vs H Q E,sp__law_seen K C vs H Q E→rd__law_seen K C (sp_Wood_group K C X) (sp_Wood_way K C X) { nx:=fun _ H'=>Q .non H',rt:=Q } (start ["_law_wood","_law_n"] vs) H:=by
  rintro vs H Q E ⟨p,dx,l,n,as,R,rfl,ct,W,D,hn,hn0,k⟩
  unfold rd__law_seen
  walk_at "x"
  refine ⟨by omega,by omega,fun acc hacc=>?_⟩
  refine comp_rngA (n:=n) (fun i y H1=>∃ (t g:Addr) (ks:List Int) (wv:V),y = .ref t∧H1 t=some (.tup [.ref g,wv])∧H1 g=some (.lst (ks.map V.int))∧g≠acc∧ks.Pairwise (· < ·)∧(∀ x,x ∈ ks↔x ∈ R i) ∧
    (((i:Int) ∉ R 0∧wv = .non)∨((i:Int) ∈ R 0∧∃ q w,wv = .ref q∧H1 q=some (.lst (w.map V.int))∧q≠acc∧Pth (R 0) 0 i w))) (fun σ=>∃ o,σ = [o,some (.ref p)]) hacc ⟨_,rfl⟩ (by omega) ?_ ?_ ?_
  · rintro i y H1 H2 zs hz B ⟨t,g,ks,wv,e,h1,h2,h3,h4,h5,h6⟩
    refine ⟨t,g,ks,wv,e,B _ _ h1 (fun z=>by rw [z,hz] at h1; cases h1),B _ _ h2 h3,h3,h4,h5,?_⟩
    rcases h6 with h6 | ⟨h6,q,w,e1,e2,e3,e4⟩
    · exact .inl h6
    · exact .inr ⟨h6,q,w,e1,B _ _ e2 e3,e3,e4⟩
  · rintro i σ' H' G hi S' ⟨zs,hzs⟩ ⟨o,rfl⟩ fin
    have hi0:(0:Int)+(i:Int)=(i:Int):=by omega
    rw [hi0]
    have hla:=D.len hi
    have W0:=W.same S'
    walk_at "x"
    refine x_meth ?_
    walk_at "x"
    refine ⟨p,dx,_,rfl,W0.ob,flds_no _ _ (by decide +kernel) (by decide +kernel),?_⟩
    walk_at "x"
    refine .inl ⟨p,dx,l,n,i,as,R,rfl,ct,W0,D,by omega,hi,fun g ks hg h1 h2=>?_⟩
    have S1:=Same.upd_new (o:=.lst (ks.map V.int)) hg
    have g1:(upd H' g (.lst (ks.map V.int))) g=some (.lst (ks.map V.int)):=upd_same
    generalize upd H' g (.lst (ks.map V.int))=H1 at S1 g1
    have W1:=W0.same S1
    have hga:g≠acc:=Ne.symm (ne_of_none hzs hg)
    walk_at "x"
    refine x_meth ?_
    walk_at "x"
    refine ⟨p,dx,_,rfl,W1.ob,flds_no _ _ (by decide +kernel) (by decide +kernel),?_⟩
    walk_at "x"
    refine .inl ⟨p,dx,l,n,0,i,as,R,rfl,ct,W1,D,hn,hn0,hi,fun hno=>?_,fun hyes q H2 w S2 hq g2 hw=>?_⟩
    · walk_at "x"
      refine ⟨small_le (m:=2) (Nat.le_refl 2),fun t ht=>?_⟩
      exact fin _ _ _ ⟨_,rfl⟩ (S1.trans (Same.upd_new ht)) ⟨t,g,ks,.non,rfl,upd_same,Same.upd_new ht _ _ g1,hga,h1,h2,.inl ⟨hno,rfl⟩⟩
    · walk_at "x"
      refine ⟨small_le (m:=2) (Nat.le_refl 2),fun t ht=>?_⟩
      have S3:=Same.upd_new (o:=.tup [.ref g,.ref q]) ht
      exact fin _ _ _ ⟨_,rfl⟩ ((S1.trans S2).trans S3) ⟨t,g,ks,.ref q,rfl,upd_same,S3 _ _ (S2 _ _ g1),hga,h1,h2,.inr ⟨hyes,q,w,rfl,S3 _ _ g2,Ne.symm (ne_of_none (S1 _ _ hzs) hq),hw.pth⟩⟩
  · rintro ys H' hl hacc' S' hE
    refine k acc H' S' hacc ⟨ys,hacc',hl,fun i y hy=>?_⟩
    obtain ⟨t,g,ks,wv,e,h1,h2,h3,h4,h5,h6⟩:=hE i y hy
    refine ⟨t,g,ks,wv,e,h1,h2,h4,h5,?_⟩
    rcases h6 with h6 | ⟨h6,q,w,e1,e2,e3,e4⟩
    · exact .inl h6
    · exact .inr ⟨h6,q,w,e1,e2,e4⟩
end K23
namespace K23
open Rm
def sp__law_linked (K:PySem.W.Frag) (C:Addr):Sp:=fun vs H Q _=>∃ (p dx l d:Addr) (n a b:Nat) (as:List Addr) (R:Nat→List Int) (kvs:List (List Key × V)),vs=[.ref p,.ref d,.int n,.int a,.int b]∧CT K C∧WA C H p dx l n as R∧Wd n R∧n≤60∧H d=some (.dT kvs)∧Kd n R kvs∧kvs.length≤50∧a < n∧b < n∧a≠b ∧
  ∀ (as':List Addr) R' (kvs':List (List Key × V)) H',WA C H' p dx l n as' R'→Wd n R'→H' d=some (.dT kvs')→Kd n R' kvs'→kvs'.length≤kvs.length+1→(∀ b o,H b=some o→b≠l→b≠d→H' b=some o)→Q (.bl true) H'
theorem len__law_linked {K:PySem.W.Frag} {C:Addr}:∀ vs H Q E,sp__law_linked K C vs H Q E→vs.length=5:=by
  rintro vs H Q E ⟨p,dx,l,d,n,a,b,as,R,kvs,rfl,_⟩; rfl
theorem min_max (a b:Nat):∃ u v:Nat,(if (b:Int) < a then (b:Int) else a)=(u:Int)∧(if (b:Int) > a then (b:Int) else a)=(v:Int)∧u≤v∧((u=a∧v=b)∨(u=b∧v=a)):=by
  by_cases c:(b:Int) < a
  · exact ⟨b,a,by rw [if_pos c],by rw [if_neg (by omega)],by omega,.inr ⟨rfl,rfl⟩⟩
  · by_cases c2:(b:Int) > a
    · exact ⟨a,b,by rw [if_neg c],by rw [if_pos c2],by omega,.inl ⟨rfl,rfl⟩⟩
    · exact ⟨a,b,by rw [if_neg c],by rw [if_neg c2]; omega,by omega,.inl ⟨rfl,rfl⟩⟩
theorem run__law_linked {K : PySem.W.Frag} {C : Addr} {X : EC} : ∀ vs H Q E, sp__law_linked K C vs H Q E → rd__law_linked K C (sp__law_seen K C) (sp__law_refused K C X) (sp__law_members K C) (sp_Wood_way K C X) (sp_Wood_cut K C X) (sp_Wood_link K C X) { nx := fun _ H' => Q .non H', rt := Q } (start ["_law_wood", "_law_known", "_law_n", "_law_a", "_law_b", "_law_before", "_law_way", "_law_tie"] vs) H := by
  rintro vs H Q E ⟨p,dx,l,d,n,a,b,as,R,kvs,rfl,ct,W,D,hn,hd,kd,hk,ha,hb,hab,k⟩
  unfold rd__law_linked
  walk_at "x"
  refine ⟨p,dx,l,n,as,R,rfl,ct,W,D,hn,by omega,fun q0 H1 S1 hq0 sn0=>?_⟩
  have W1:=W.same S1
  walk_at "x1"
  with_reducible refine x_seqR (fun σ H3=>∃ (as1:List Addr) (R1:Nat→List Int) (kvs1:List (List Key × V)) (o5 o6 o7:Option V),σ = [some (.ref p),some (.ref d),some (.int (n:Int)),some (.int (a:Int)),some (.int (b:Int)),o5,o6,o7]∧WA C H3 p dx l n as1 R1∧Wd n R1∧H3 d=some (.dT kvs1)∧Kd n R1 kvs1∧kvs1.length≤kvs.length∧(b:Int) ∉ R1 a∧∀ b o,H b=some o→b≠l→b≠d→H3 b=some o) ?_ fun go=>?_
  · rintro σ H3 ⟨as1,R1,kvs1,o5,o6,o7,rfl,W3,D3,d3,kd3,l3,hb3,B3⟩
    walk_at "x"
    refine ⟨p,dx,l,X.NoTie,n,as1,R1,"cut","tie",_,_,rfl,ct,W3,D3,hn,.tie ha hb hab (fun z=>hb3 (al_mem (Ed.at D3 z ha (D3.me a ha))).2),.inr (.inr (.inr ⟨rfl,rfl⟩)),fun H4 S4=>?_⟩
    refine ⟨true,rfl,?_⟩
    refine iteF ?_
    have W4:=W3.same S4
    have d4:=S4 _ _ d3
    walk_at "x"
    refine x_meth ?_
    walk_at "x"
    refine ⟨p,dx,_,rfl,W4.ob,flds_no _ _ (by decide +kernel) (by decide +kernel),?_⟩
    walk_at "x"
    refine .inl ⟨p,dx,l,n,a,b,as1,R1,rfl,ct,W4,D3,by omega,ha,hb,hb3,fun as' R' H5 W5 D5 E5 B5 _=>?_⟩
    walk_at "x"
    rw [decide_eq_true rfl]
    refine iteF ?_
    have d5:=B5 _ _ d4 (W4.but d4)
    walk_at "x"
    obtain ⟨u,v,eu,ev,hle,huv⟩:=min_max a b
    rw [eu,ev]
    refine ⟨small_le (m:=2) (Nat.le_refl 2),fun t ht=>?_⟩
    have T:=Same.upd_new (o:=.tup [.int (u:Int),.int (v:Int)]) ht
    have g:(upd H5 t (.tup [.int (u:Int),.int (v:Int)])) t=some (.tup ([Sum.inl (u:Int),Sum.inl (v:Int)].map kV)):=upd_same
    generalize upd H5 t (.tup [.int (u:Int),.int (v:Int)])=H6 at T g
    have d6:=T _ _ d5
    refine .inr ⟨d,_,rfl,DPut.t (k:=[Sum.inl (u:Int),Sum.inl (v:Int)]) d6 g (small_lt (m:=100) (by omega)),?_⟩
    have W7:=(W5.same T).updD (kvs':=putK kvs1 [Sum.inl (u:Int),Sum.inl (v:Int)] (.bl true)) d6
    have d7:(upd H6 d (.dT (putK kvs1 [Sum.inl (u:Int),Sum.inl (v:Int)] (.bl true)))) d=some (.dT (putK kvs1 [Sum.inl (u:Int),Sum.inl (v:Int)] (.bl true))):=upd_same
    have B7:∀ b o,H b=some o→b≠l→b≠d→(upd H6 d (.dT (putK kvs1 [Sum.inl (u:Int),Sum.inl (v:Int)] (.bl true)))) b=some o:=fun b o e h1 h2=>by rw [upd_ne h2]; exact T _ _ (B5 _ _ (S4 _ _ (B3 _ _ e h1 h2)) h1)
    generalize upd H6 d (.dT (putK kvs1 [Sum.inl (u:Int),Sum.inl (v:Int)] (.bl true)))=H7 at W7 d7 B7
    have hE:Ed n R' b a:=(E5 _ _).mpr (.inr (.inr rfl))
    have hm:(a:Int) ∈ R' b:=(al_mem (Ed.at D5 hE hb (D5.me b hb))).2
    walk_at "x"
    refine ⟨p,dx,l,X.Joined,n,as',R',"link","joined",_,_,rfl,ct,W7,D5,hn,.joined hb ha (Ne.symm hab) hm,.inr (.inr (.inl ⟨rfl,rfl⟩)),fun H8 S8=>?_⟩
    have hlen:=length_putK kvs1 [Sum.inl (u:Int),Sum.inl (v:Int)] (V.bl true)
    exact k as' R' _ H8 (W7.same S8) D5 (S8 _ _ d7) ⟨kd3.kn.put E5 (by omega) (by omega),keys_putS kd3.nd⟩ (by omega) fun b o e h1 h2=>S8 _ _ (B7 b o e h1 h2)
  · have hd1:=S1 _ _ hd
    walk_at "x"
    refine ⟨d,a,n,R,kvs,rfl,hd1,kd.kn,D,ha,hn,fun m M H2 hm g2 hM S2=>?_⟩
    have S02:=S1.trans S2
    have W2:=W.same S02
    refine x_inD (.int (b:Int)) (rep_ints (SqL.of g2)) (fine_int _) (plainAll_lay _ (plain_ints _)) ?_
    rw [any_ints]
    walk_at "x"
    refine ifd (fun hbM=>?_) fun hbM=>?_
    · have hbR:(b:Int) ∈ R a:=(hM b).mp hbM
      walk_at "x"
      refine ⟨p,dx,l,X.Joined,n,as,R,"link","joined",_,_,rfl,ct,W2,D,hn,.joined ha hb hab hbR,.inr (.inr (.inl ⟨rfl,rfl⟩)),fun H3 S3=>?_⟩
      refine ⟨true,rfl,?_⟩
      refine iteF ?_
      walk_at "x"
      have W3:=W2.same S3
      refine ⟨p,dx,l,n,as,R,rfl,ct,W3,D,hn,by omega,fun q1 H4 S4 hq1 sn1=>?_⟩
      have S24:=S2.trans (S3.trans S4)
      walk_at "x"
      refine x_neSn D (by omega) sn1 (sn0.same S24) ?_
      walk_at "x"
      refine iteF ?_
      have W4:=W3.same S4
      have d4:=S24 _ _ hd1
      walk_at "x"
      refine x_meth ?_
      walk_at "x"
      refine ⟨p,dx,_,rfl,W4.ob,flds_no _ _ (by decide +kernel) (by decide +kernel),?_⟩
      walk_at "x"
      refine .inl ⟨p,dx,l,n,a,b,as,R,rfl,ct,W4,D,hn,ha,hb,fun z=>absurd hbR z,fun _ y H5 w S5 hy g5 hw=>?_⟩
      obtain ⟨Y,w',rfl,hY,hAY⟩:∃ (Y:Nat) (w':List Int),w=(a:Int) :: (Y:Int) :: w'∧Y < n∧((a:Int),(Y:Int)) ∈ al (R a):=by
        have P:=hw.pth
        match w,P with
        | [],P=>exact absurd P.hd (by simp)
        | [x], P =>
          have e1:=P.hd
          have e2:=P.la
          simp at e1 e2
          omega
        | x :: z :: w', P =>
          have e1:x=(a:Int):=by simpa using P.hd
          subst e1
          have hm:=P.ps _ _ (by rw [al_cons2]; exact List.mem_cons_self)
          obtain ⟨j,hj,e,_⟩:=D.in_ a ha z (al_mem hm).2
          subst e
          exact ⟨j,w',rfl,hj,hm⟩
      have hE:Ed n R a Y:=⟨a,ha,hAY⟩
      have hYA:a≠Y:=fun e=>by subst e; exact D.irr _ hE
      have W5:=W4.same S5
      have d5:=S5 _ _ d4
      obtain ⟨u,v,eu,ev,hle,huv⟩:=min_max a Y
      walk_at "x"
      refine x_ixI (SqL.of g5) (j:=0) rfl rfl ?_
      walk_at "x"
      refine x_ixI (SqL.of g5) (j:=1) rfl rfl ?_
      walk_at "x"
      refine x_ixI (SqL.of g5) (j:=0) rfl rfl ?_
      walk_at "x"
      refine x_ixI (SqL.of g5) (j:=1) rfl rfl ?_
      walk_at "x"
      rw [eu,ev]
      refine ⟨small_le (m:=2) (Nat.le_refl 2),fun t ht=>?_⟩
      have T:=Same.upd_new (o:=.tup [.int (u:Int),.int (v:Int)]) ht
      have g:(upd H5 t (.tup [.int (u:Int),.int (v:Int)])) t=some (.tup ([Sum.inl (u:Int),Sum.inl (v:Int)].map kV)):=upd_same
      generalize upd H5 t (.tup [.int (u:Int),.int (v:Int)])=H6 at T g
      have W6:=W5.same T
      have d6:=T _ _ d5
      have g6:=T _ _ g5
      walk_at "x"
      refine x_meth ?_
      walk_at "x"
      refine ⟨p,dx,_,rfl,W6.ob,flds_no _ _ (by decide +kernel) (by decide +kernel),?_⟩
      walk_at "x"
      refine x_ixI (SqL.of g6) (j:=0) rfl rfl ?_
      walk_at "x"
      refine x_ixI (SqL.of g6) (j:=1) rfl rfl ?_
      walk_at "x"
      refine .inl ⟨p,dx,l,n,a,Y,as,R,rfl,ct,W6,D,by omega,ha,hY,hYA,hE,fun as' R' H7 W7 D7 E7 B7 _=>?_⟩
      have d7:=B7 _ _ d6 (W6.but d6)
      have tl:t≠l:=fun z=>by rw [z,W6.rl] at g; cases g
      have g7:=B7 _ _ g tl
      have hEuv:Ed n R u v:=by
        rcases huv with ⟨rfl,rfl⟩ | ⟨rfl,rfl⟩
        · exact hE
        · exact Ed.symm D hE
      have huv2:u < v:=by omega
      obtain ⟨vv,hvv,_⟩:=key_valV (kd.kn.of (u:Int) (v:Int) (by omega) hEuv)
      walk_at "x"
      refine ⟨.inr (.inr (.inl ⟨rfl,.inr ⟨_,d7⟩⟩)),?_⟩
      walk_at "x"
      refine ⟨d,kvs,[Sum.inl (u:Int),Sum.inl (v:Int)],t,vv,rfl,rfl,d7,g7,hvv,?_⟩
      have E7':∀ x y,Ed n R' x y↔(Ed n R x y∧¬ (x,y)=((v:Int),(u:Int))∧¬ (x,y)=((u:Int),(v:Int))):=fun x y=>by
        rw [E7]
        rcases huv with ⟨rfl,rfl⟩ | ⟨rfl,rfl⟩
        · exact and_congr_right fun _=>And.comm
        · rfl
      refine go _ _ ⟨as',R',dropK kvs [Sum.inl (u:Int),Sum.inl (v:Int)],_,_,_,rfl,W7.updD d7,D7,upd_same,⟨kd.kn.drop E7' huv2,keys_drop kd.nd⟩,List.length_filter_le _ _,D.apart D7 ha hw.pth (fun x z h=>⟨((E7 x z).mp h).1,((E7 x z).mp h).2.1⟩),fun b' o e h1 h2=>?_⟩
      rw [upd_ne h2]
      exact B7 _ _ (T _ _ (S5 _ _ (S24 _ _ (S1 _ _ e)))) h1
    · have hbR:(b:Int) ∉ R a:=fun z=>hbM ((hM b).mpr z)
      walk_at "x"
      refine ⟨p,dx,l,X.NoTie,n,as,R,"cut","tie",_,_,rfl,ct,W2,D,hn,.tie ha hb hab (fun z=>hbR (al_mem (Ed.at D z ha (D.me a ha))).2),.inr (.inr (.inr ⟨rfl,rfl⟩)),fun H3 S3=>?_⟩
      refine ⟨true,rfl,?_⟩
      refine iteF ?_
      walk_at "x"
      have W3:=W2.same S3
      refine ⟨p,dx,l,n,as,R,rfl,ct,W3,D,hn,by omega,fun q1 H4 S4 hq1 sn1=>?_⟩
      have S24:=S2.trans (S3.trans S4)
      walk_at "x"
      refine x_neSn D (by omega) sn1 (sn0.same S24) ?_
      walk_at "x"
      refine iteF ?_
      refine x_next ?_
      exact go _ _ ⟨as,R,kvs,_,_,_,rfl,W3.same S4,D,S24 _ _ hd1,kd,Nat.le_refl _,hbR,fun b' o e _ _=>S24 _ _ (S1 _ _ e)⟩
end K23
namespace K23
open Rm
structure St23 (K:PySem.W.Frag) (C:Addr) (H0 H:Hp) (p dx l d:Addr) (n:Nat) (as:List Addr) (R:Nat→List Int) (kvs:List (List Key × V)) (i:Nat):Prop where
  wa:WA C H p dx l n as R
  wd:Wd n R
  hd:H d=some (.dT kvs)
  kd:Kd n R kvs
  len:kvs.length≤i
  sm:Same H0 H
theorem St23.same {K:PySem.W.Frag} {C:Addr} {H0 H H':Hp} {p dx l d:Addr} {n:Nat} {as:List Addr} {R:Nat→List Int} {kvs:List (List Key × V)} {i:Nat} (s:St23 K C H0 H p dx l d n as R kvs i) (S:Same H H'):St23 K C H0 H' p dx l d n as R kvs i:=⟨s.wa.same S,s.wd,S _ _ s.hd,s.kd,s.len,s.sm.trans S⟩
theorem St23.up {K:PySem.W.Frag} {C:Addr} {H0 H:Hp} {p dx l d:Addr} {n:Nat} {as:List Addr} {R:Nat→List Int} {kvs:List (List Key × V)} {i:Nat} (s:St23 K C H0 H p dx l d n as R kvs i):St23 K C H0 H p dx l d n as R kvs (i+1):=⟨s.wa,s.wd,s.hd,s.kd,by have:=s.len; omega,s.sm⟩
theorem St23.keys {K:PySem.W.Frag} {C:Addr} {H0 H:Hp} {p dx l d:Addr} {n:Nat} {as:List Addr} {R:Nat→List Int} {kvs:List (List Key × V)} {i:Nat} (s:St23 K C H0 H p dx l d n as R kvs i):∀ q ∈ kvs,∃ x y:Int,q.1=[Sum.inl x,Sum.inl y]:=fun q hq=>let ⟨x,y,e,_⟩:=s.kd.kn.to q hq; ⟨x,y,e⟩
theorem St23.few {K:PySem.W.Frag} {C:Addr} {H0 H:Hp} {p dx l d:Addr} {n:Nat} {as:List Addr} {R:Nat→List Int} {kvs:List (List Key × V)} {i:Nat} (s:St23 K C H0 H p dx l d n as R kvs i) (hi:i < 60):∃ L,Cnt n R L∧L.length < 64:=let ⟨L,h1,h2⟩:=s.kd.len s.len; ⟨L,h1,by omega⟩
theorem run_law_1 {K : PySem.W.Frag} {C : Addr} {X : EC} {D : Ends} {H0 H : Hp} {a p dx l d : Addr} {ns : List Int} {n : Nat} {as : List Addr} {o4 o5 o6 o7 o8 o9 : Option V} (ct : CT K C) (hS : SqL K H0 a (ns.map V.int)) (hlen : ns.length ≤ 63) (hn : 1 ≤ n) (hn2 : n ≤ 20) (hl0 : H0 l = none) (hd0 : H0 d = none)
    (s0:St23 K C H0 H p dx l d n as (fun i=>[(i:Int)]) [] 0)
    (fin:∀ H' as R kvs o4 o5 o6 o7 o8 o9,St23 K C H0 H' p dx l d n as R kvs 50→D.nx [some (.ref a),some (.int (n:Int)),some (.ref p),some (.ref d),o4,o5,o6,o7,o8,o9] H') :
    lp_law_1 K C (sp_Wood___init__ K C) (sp__law_thing K C) (sp_Wood_ties K C) (sp__law_cell_at K C) (sp__law_seen K C) (sp__law_place K C) (sp__law_questions K C) (sp__law_linked K C) (sp_Wood_cut K C X) (sp__law_refused K C X) D [some (.ref a),some (.int (n:Int)),some (.ref p),some (.ref d),o4,o5,o6,o7,o8,o9] H:=by
  unfold lp_law_1
  walk_at "x"
  refine x_iRng3 ?_
  walk_at "x"
  refine x_lenI (s0.sm.seq hS) ?_
  walk_at "x"
  generalize hM:(if (25:Int) < (ns.length:Int) - 1 then (25:Int) else (ns.length:Int) - 1)=M
  have hM2:M≤25∧M+1≤ns.length∧-1≤M:=by
    subst hM
    split <;> omega
  have hrng:rng3 1 M 2≤50:=by
    unfold rng3
    split <;> omega
  refine ⟨1,M,2,rfl,by omega,for_range3 (fun i σ H1=>∃ as R kvs o4 o5 o6 o7 o8 o9,σ = [some (.ref a),some (.int (n:Int)),some (.ref p),some (.ref d),o4,o5,o6,o7,o8,o9]∧St23 K C H0 H1 p dx l d n as R kvs i) ⟨as,_,[],_,_,_,_,_,_,rfl,s0⟩ ?_ ?_⟩
  · rintro i σ H1 hi ⟨as,R,kvs,o4,o5,o6,o7,o8,o9,rfl,s1⟩
    have hi:1+2 * i < 25∧2+2 * i < ns.length:=by
      unfold rng3 at hi
      split at hi <;> omega
    have ej:(1:Int)+(i:Int) * 2=((1+2 * i:Nat):Int):=by omega
    rw [ej]
    have h1:1+2 * i < ns.length:=by omega
    have hgx:=List.getElem?_eq_getElem h1
    have hgy:=List.getElem?_eq_getElem hi.2
    generalize ns[1+2 * i]=A at hgx
    generalize ns[2+2 * i]=B at hgy
    have ek1:((1+2 * i:Nat):Int)+1=((2+2 * i:Nat):Int):=by omega
    walk_at "x"
    refine x_ixI (s1.sm.seq hS) rfl hgx ?_
    walk_at "x"
    refine ⟨n,A,rfl,hn,fun v H2 hv S2=>?_⟩
    have s2:=s1.same S2
    walk_at "x"
    refine x_ixI (s2.sm.seq hS) ek1 hgy ?_
    walk_at "x"
    refine ⟨n,B,rfl,hn,fun u H3 hu S3=>?_⟩
    have s3:=s2.same S3
    walk_at "x1"
    with_reducible refine x_seqR (fun σ H4=>∃ as R kvs o7 o8 o9,σ = [some (.ref a),some (.int (n:Int)),some (.ref p),some (.ref d),some (.int ((1+2 * i:Nat):Int)),some v,some u,o7,o8,o9]∧St23 K C H0 H4 p dx l d n as R kvs (i+1)) ?_ fun go=>?_
    · clear s1 s2 s3
      rintro σ H4 ⟨as,R,kvs,o7,o8,o9,rfl,s4⟩
      have hkl:=s4.len
      walk_at "x"
      refine x_meth ?_
      walk_at "x"
      refine ⟨p,dx,_,rfl,s4.wa.ob,flds_no _ _ (by decide +kernel) (by decide +kernel),?_⟩
      walk_at "x"
      refine ⟨p,dx,l,n,as,R,rfl,ct,s4.wa,s4.wd,by omega,s4.few (by omega),fun t ws H5 S5 ht gt pt st ndt mt lt=>?_⟩
      walk_at "x"
      refine .inr ⟨d,kvs,rfl,S5 _ _ s4.hd,s4.keys,by omega,fun s zs hs pz hperm hsort=>?_⟩
      have S6:=Same.upd_new (o:=.lst (zs.map refZ)) hs
      have g6:(upd H5 s (.lst (zs.map refZ))) s=some (.lst (zs.map refZ)):=upd_same
      generalize upd H5 s (.lst (zs.map refZ))=H6 at S6 g6
      refine x_neD (rep_zs (S6 _ _ gt) (fun z hz=>S6 _ _ (pt z hz))) (rep_zs g6 (fun z hz=>S6 _ _ (pz z hz))) (fine_zs _) (fine_zs _) ?_
      walk_at "x"
      rw [eqv_zs (s4.kd.same hperm hsort st ndt mt)]
      refine iteF ?_
      have s6:=s4.same (S5.trans S6)
      walk_at "x"
      have hEnd:∀ H7 as R kvs o7 o8 o9,St23 K C H0 H7 p dx l d n as R kvs (i+1)→∃ as R kvs o4 o5 o6' o7' o8' o9',[some (.ref a),some (.int (n:Int)),some (.ref p),some (.ref d),some (.int ((1+2 * i:Nat):Int)),some v,some u,o7,o8,o9]=[some (.ref a),some (.int (n:Int)),some (.ref p),some (.ref d),o4,o5,o6',o7',o8',o9']∧St23 K C H0 H7 p dx l d n as R kvs (i+1):=fun H7 as R kvs o7 o8 o9 s7=>⟨as,R,kvs,_,_,_,_,_,_,rfl,s7⟩
      refine ifd_b ?_ fun hElse hc1=>?_
      · refine iteF ?_
        refine x_next ?_
        exact hEnd _ as R kvs _ _ _ s6
      · walk_at "x"
        refine ⟨d,kvs,rfl,s6.hd,?_⟩
        walk_at "x"
        rw [if_neg (by decide)] at hElse
        refine ifd (fun hpos=>?_) fun _=>hElse
        have hpos:0 < kvs.length:=by omega
        walk_at "x"
        refine .inr ⟨d,kvs,rfl,s6.hd,s6.keys,by omega,fun z zs hz pz hperm _=>?_⟩
        have S7:=Same.upd_new (o:=.lst (zs.map refZ)) hz
        have g7:(upd H6 z (.lst (zs.map refZ))) z=some (.lst (zs.map refZ)):=upd_same
        have hzl:zs.length=kvs.length:=by have:=hperm.length_eq; simpa using this
        generalize upd H6 z (.lst (zs.map refZ))=H7 at S7 g7
        have s7:=s6.same S7
        walk_at "x"
        refine x_ixI (s7.sm.seq hS) rfl hgx ?_
        walk_at "x"
        refine ⟨d,kvs,rfl,s7.hd,?_⟩
        walk_at "x"
        obtain ⟨jj,ej,hjj⟩:=em (n:=kvs.length) hpos (A / 5)
        rw [ej]
        have hjz:jj < zs.length:=by omega
        have hmz:zs[jj] ∈ zs:=List.getElem_mem hjz
        refine x_ixL (SqL.of g7) (atI_of (j:=jj) rfl (by rw [List.getElem?_map,List.getElem?_eq_getElem hjz]; rfl)) ?_
        have hpz:=S7 _ _ (pz _ hmz)
        have hkm:=hperm.mem_iff.mp (List.mem_map_of_mem (f:=fun z:Zt=>([Sum.inl z.1,Sum.inl z.2.1]:List Key)) hmz)
        generalize zs[jj]=w at hpz hkm
        obtain ⟨vv,hvv,hq⟩:=key_valV hkm
        obtain ⟨x,y,exy,hlt,hE⟩:=s6.kd.kn.to _ hq
        have exy:([Sum.inl w.1,Sum.inl w.2.1]:List Key)=[Sum.inl x,Sum.inl y]:=exy
        simp at exy
        obtain ⟨e1,e2⟩:=exy
        obtain ⟨xi,hxi,rfl⟩:∃ j:Nat,j < n∧x=(j:Int):=by
          obtain ⟨i',hi',hm'⟩:=hE
          obtain ⟨j,hj,e,_⟩:=s6.wd.in_ i' hi' x (al_mem hm').1; exact ⟨j,hj,e⟩
        obtain ⟨yi,hyi,rfl⟩:∃ j:Nat,j < n∧y=(j:Int):=by
          obtain ⟨i',hi',hm'⟩:=hE
          obtain ⟨j,hj,e,_⟩:=s6.wd.in_ i' hi' y (al_mem hm').2; exact ⟨j,hj,e⟩
        refine x_tupG (.of hpz) rfl ?_
        rw [e1,e2]
        rw [e1,e2] at hvv
        walk_at "x"
        refine ⟨.inr (.inr (.inl ⟨rfl,.inr ⟨_,s7.hd⟩⟩)),?_⟩
        walk_at "x"
        refine ⟨small_le (m:=2) (Nat.le_refl 2),fun t' ht'=>?_⟩
        have T:=Same.upd_new (o:=.tup [.int (xi:Int),.int (yi:Int)]) ht'
        have gt':(upd H7 t' (.tup [.int (xi:Int),.int (yi:Int)])) t'=some (.tup ([Sum.inl (xi:Int),Sum.inl (yi:Int)].map kV)):=upd_same
        generalize upd H7 t' (.tup [.int (xi:Int),.int (yi:Int)])=H8 at T gt'
        have s8:=s7.same T
        walk_at "x"
        refine ⟨d,kvs,[Sum.inl (xi:Int),Sum.inl (yi:Int)],t',vv,rfl,rfl,s8.hd,gt',hvv,?_⟩
        have W9:=s8.wa.updD (kvs':=dropK kvs [Sum.inl (xi:Int),Sum.inl (yi:Int)]) s8.hd
        have d9:(upd H8 d (.dT (dropK kvs [Sum.inl (xi:Int),Sum.inl (yi:Int)]))) d=some (.dT (dropK kvs [Sum.inl (xi:Int),Sum.inl (yi:Int)])):=upd_same
        have B9:Same H0 (upd H8 d (.dT (dropK kvs [Sum.inl (xi:Int),Sum.inl (yi:Int)]))):=fun b o e=>by rw [upd_ne (ne_of_none e hd0)]; exact s8.sm _ _ e
        generalize upd H8 d (.dT (dropK kvs [Sum.inl (xi:Int),Sum.inl (yi:Int)]))=H9 at W9 d9 B9
        walk_at "x"
        refine x_meth ?_
        walk_at "x"
        refine ⟨p,dx,_,rfl,W9.ob,flds_no _ _ (by decide +kernel) (by decide +kernel),?_⟩
        walk_at "x"
        refine .inl ⟨p,dx,l,n,xi,yi,as,R,rfl,ct,W9,s8.wd,by omega,hxi,hyi,by omega,hE,fun as' R' Ha Wa Da Ea Ba _=>?_⟩
        walk_at "x"
        rw [decide_eq_true rfl]
        refine iteF ?_
        walk_at "x"
        refine ⟨p,dx,l,X.NoTie,n,as',R',"cut","tie",_,_,rfl,ct,Wa,Da,by omega,.tie hyi hxi (by omega) (fun z=>((Ea _ _).mp z).2.2 rfl),.inr (.inr (.inr ⟨rfl,rfl⟩)),fun Hb Sb=>?_⟩
        refine ⟨true,rfl,?_⟩
        refine iteF ?_
        walk_at "x"
        have hlenf:(dropK kvs [Sum.inl (xi:Int),Sum.inl (yi:Int)]).length≤kvs.length:=List.length_filter_le _ _
        refine hEnd Hb as' R' (dropK kvs [Sum.inl (xi:Int),Sum.inl (yi:Int)]) _ _ _ ⟨Wa.same Sb,Da,Sb _ _ (Ba _ _ d9 (W9.but d9)),⟨s8.kd.kn.drop (fun x y=>by rw [Ea]; exact and_congr_right fun _=>And.comm) (by omega),keys_drop s8.kd.nd⟩,by omega,fun b o e=>Sb _ _ (Ba _ _ (B9 _ _ e) (ne_of_none e hl0))⟩
    · have hkl:=s3.len
      walk_at "x"
      refine ⟨n,v,rfl,hv,?_⟩
      refine ⟨isPl n v,rfl,?_⟩
      cases hpv:isPl n v with
      | false =>
        have hp:(isPl n v && isPl n u)=false:=by rw [hpv,Bool.false_and]
        refine iteT ?_
        refine iteT ?_
        walk_at "x"
        refine ⟨p,dx,l,n,as,R,rfl,ct,s3.wa,s3.wd,by omega,by omega,fun q0 H4 S4 hq0 sn0=>?_⟩
        walk_at "x"
        refine ⟨p,dx,l,n,as,R,v,u,rfl,ct,s3.wa.same S4,s3.wd,by omega,hv,hu,hp,fun H5 S5=>?_⟩
        refine ⟨true,rfl,?_⟩
        refine iteF ?_
        walk_at "x"
        refine ⟨p,dx,l,n,as,R,rfl,ct,s3.wa.same (S4.trans S5),s3.wd,by omega,by omega,fun q1 H6 S6 hq1 sn1=>?_⟩
        walk_at "x"
        refine x_neSn s3.wd (by omega) sn1 (sn0.same (S5.trans S6)) ?_
        walk_at "x"
        refine iteF ?_
        refine x_next ?_
        exact go _ _ ⟨as,R,kvs,_,_,_,rfl,(s3.same ((S4.trans S5).trans S6)).up⟩
      | true =>
        refine iteF ?_
        walk_at "x"
        refine ⟨n,u,rfl,hu,?_⟩
        refine ⟨isPl n u,rfl,?_⟩
        cases hpu:isPl n u with
        | false =>
          have hp:(isPl n v && isPl n u)=false:=by rw [hpu,Bool.and_false]
          refine iteT ?_
          walk_at "x"
          refine ⟨p,dx,l,n,as,R,rfl,ct,s3.wa,s3.wd,by omega,by omega,fun q0 H4 S4 hq0 sn0=>?_⟩
          walk_at "x"
          refine ⟨p,dx,l,n,as,R,v,u,rfl,ct,s3.wa.same S4,s3.wd,by omega,hv,hu,hp,fun H5 S5=>?_⟩
          refine ⟨true,rfl,?_⟩
          refine iteF ?_
          walk_at "x"
          refine ⟨p,dx,l,n,as,R,rfl,ct,s3.wa.same (S4.trans S5),s3.wd,by omega,by omega,fun q1 H6 S6 hq1 sn1=>?_⟩
          walk_at "x"
          refine x_neSn s3.wd (by omega) sn1 (sn0.same (S5.trans S6)) ?_
          walk_at "x"
          refine iteF ?_
          refine x_next ?_
          exact go _ _ ⟨as,R,kvs,_,_,_,rfl,(s3.same ((S4.trans S5).trans S6)).up⟩
        | true =>
          refine iteF ?_
          obtain ⟨vi,hvi,rfl⟩:=isPl_of hpv
          obtain ⟨ui,hui,rfl⟩:=isPl_of hpu
          walk_at "x"
          refine ifd (fun heq=>?_) fun hne=>?_
          · walk_at "x"
            refine ⟨p,dx,l,X.Alike,n,as,R,"link","alike",_,_,rfl,ct,s3.wa,s3.wd,by omega,.alike (.inl rfl) hvi,.inr (.inl ⟨rfl,rfl⟩),fun H4 S4=>?_⟩
            refine ⟨true,rfl,?_⟩
            refine iteF ?_
            walk_at "x"
            refine ⟨p,dx,l,X.Alike,n,as,R,"cut","alike",_,_,rfl,ct,s3.wa.same S4,s3.wd,by omega,.alike (.inr rfl) hvi,.inr (.inl ⟨rfl,rfl⟩),fun H5 S5=>?_⟩
            refine ⟨true,rfl,?_⟩
            refine iteF ?_
            refine x_next ?_
            exact go _ _ ⟨as,R,kvs,_,_,_,rfl,(s3.same (S4.trans S5)).up⟩
          · walk_at "x"
            refine ⟨p,dx,l,d,n,vi,ui,as,R,kvs,rfl,ct,s3.wa,s3.wd,by omega,s3.hd,s3.kd,by omega,hvi,hui,(fun z=>hne (by rw [z])),fun as' R' kvs' H4 W4 D4 d4 k4 l4 B4=>?_⟩
            refine ⟨true,rfl,?_⟩
            refine iteF ?_
            refine x_next ?_
            exact go _ _ ⟨as',R',kvs',_,_,_,rfl,⟨W4,D4,d4,k4,by omega,fun b o e=>B4 _ _ (s3.sm _ _ e) (ne_of_none e hl0) (ne_of_none e hd0)⟩⟩
  · rintro σ H1 ⟨as,R,kvs,o4,o5,o6,o7,o8,o9,rfl,s1⟩
    exact fin H1 as R kvs _ _ _ _ _ _ ⟨s1.wa,s1.wd,s1.hd,s1.kd,by have:=s1.len; omega,s1.sm⟩
theorem run_law {K:PySem.W.Frag} {C:Addr} {X:EC} {mg:Str→Option Value} (T:Txt K mg C X):∀ vs H Q E,sp_law K vs H Q E→rd_law K C (sp_Wood___init__ K C) (sp__law_thing K C) (sp_Wood_ties K C) (sp__law_cell_at K C) (sp__law_seen K C) (sp__law_place K C) (sp__law_questions K C) (sp__law_linked K C) (sp_Wood_cut K C X) (sp__law_refused K C X) { nx:=fun _ H'=>Q .non H',rt:=Q } (start ["_law_script","_law_n","_law_wood","_law_known","_law_k","_law_one","_law_other","_law_before","_law_a","_law_b"] vs) H:=by
  rintro vs H Q E ⟨a,ns,rfl,hS,hl,k⟩
  have ct:CT K C:=⟨T.cl,T.n_n,T.n_rows⟩
  unfold rd_law
  walk_at "x"
  refine ⟨a,ns,0,rfl,hS,fun z=>?_⟩
  walk_at "x"
  obtain ⟨n,en,hn,hn2⟩:∃ n:Nat,1+z % 20=(n:Int)∧1≤n∧n≤20:=by
    have h1:=Int.emod_nonneg z (show (20:Int)≠0 by omega)
    have h2:=Int.emod_lt_of_pos z (show (0:Int) < 20 by omega)
    exact ⟨(1+z % 20).toNat,by omega,by omega,by omega⟩
  rw [en]
  refine x_make ?_
  walk_at "x"
  intro p dx hp hdx hne
  refine ⟨p,dx,n,rfl,upd_same,ct,by omega,fun l as H1 W1 hl1 B1=>⟨rfl,?_⟩⟩
  have S1:Same H H1:=fun b o e=>B1 _ _ (by rw [upd_ne (ne_of_none e hp),upd_ne (ne_of_none e hdx)]; exact e) (ne_of_none e hp)
  have hl0:H l=none:=by
    by_cases e1:l=p
    · rw [e1,upd_same] at hl1; cases hl1
    · by_cases e2:l=dx
      · rw [upd_ne e1,e2,upd_same] at hl1; cases hl1
      · rw [upd_ne e1,upd_ne e2] at hl1; exact hl1
  walk_at "x"
  intro d hd
  have hd0:H d=none:=S1.free hd
  walk_at "x1"
  walk_at "x1"
  refine run_law_1 (X:=X) (n:=n) ct hS hl hn hn2 hl0 hd0 (p:=p) (dx:=dx) (l:=l) (as:=as) (d:=d) ⟨W1.same (Same.upd_new hd),Wd.start n,upd_same,Kd.start n,Nat.le_refl _,S1.trans (Same.upd_new hd)⟩ fun H4 as R kvs o4 o5 o6 o7 o8 o9 s4=>?_
  have hkl:=s4.len
  walk_at "x"
  refine x_meth ?_
  walk_at "x"
  refine ⟨p,dx,_,rfl,s4.wa.ob,flds_no _ _ (by decide +kernel) (by decide +kernel),?_⟩
  walk_at "x"
  refine ⟨p,dx,l,n,as,R,rfl,ct,s4.wa,s4.wd,by omega,s4.few (by omega),fun t ws H5 S5 ht gt pt st ndt mt lt=>?_⟩
  walk_at "x"
  refine .inr ⟨d,kvs,rfl,S5 _ _ s4.hd,s4.keys,by omega,fun s zs hs pz hperm hsort=>?_⟩
  have S6:=Same.upd_new (o:=.lst (zs.map refZ)) hs
  have g6:(upd H5 s (.lst (zs.map refZ))) s=some (.lst (zs.map refZ)):=upd_same
  generalize upd H5 s (.lst (zs.map refZ))=H6 at S6 g6
  refine x_eqD (rep_zs (S6 _ _ gt) (fun z hz=>S6 _ _ (pt z hz))) (rep_zs g6 (fun z hz=>S6 _ _ (pz z hz))) (fine_zs _) (fine_zs _) ?_
  rw [eqv_zs (s4.kd.same hperm hsort st ndt mt)]
  exact k _
end K23
namespace K23
theorem all_mk {l:PySem.W.OpenLaw} {w:World} {K:PySem.W.Frag} {h:Heap} {mg:Str→Option Value} {fa:Addr} (X:K.In h) (G:h.Ns mainGlobals mg) (hfa:mg "law" = some (.ref fa))
    {C:Addr} (aC:PySem.W.nsIn K mainGlobals "Wood" = some (some (.ref C))) (pg:PySem.W.plainGet K C Str.empty=true) (hd:PySem.W.hasDictIn K C=true) (po:PySem.W.plainOver K C=true) (sa:PySem.W.findIn K (.ref C) "__setattr__" = some (some (.builtin "object.__setattr__"))) (mk:PySem.W.makesIn K C=true) (kc:PySem.W.keepIn K (.ref C)=true)
    (n_n:PySem.W.findIn K (.ref C) "n" = some none)
    (n_rows:PySem.W.findIn K (.ref C) "rows" = some none)
    {X_Alike:Addr} (ax_Alike:PySem.W.nsIn K mainGlobals "Alike" = some (some (.ref X_Alike)))
    {X_Fixed:Addr} (ax_Fixed:PySem.W.nsIn K mainGlobals "Fixed" = some (some (.ref X_Fixed)))
    {X_Joined:Addr} (ax_Joined:PySem.W.nsIn K mainGlobals "Joined" = some (some (.ref X_Joined)))
    {X_NoCount:Addr} (ax_NoCount:PySem.W.nsIn K mainGlobals "NoCount" = some (some (.ref X_NoCount)))
    {X_NoPlace:Addr} (ax_NoPlace:PySem.W.nsIn K mainGlobals "NoPlace" = some (some (.ref X_NoPlace)))
    {X_NoRow:Addr} (ax_NoRow:PySem.W.nsIn K mainGlobals "NoRow" = some (some (.ref X_NoRow)))
    {X_NoTie:Addr} (ax_NoTie:PySem.W.nsIn K mainGlobals "NoTie" = some (some (.ref X_NoTie)))
    {X_TieError:Addr} (ax_TieError:PySem.W.nsIn K mainGlobals "TieError" = some (some (.ref X_TieError)))
    {X_Tied:Addr} (ax_Tied:PySem.W.nsIn K mainGlobals "Tied" = some (some (.ref X_Tied)))
    (ex_Alike:ExcK K X_Alike)
    (em_Alike:PySem.W.exmOne K (.ref X_Alike) (.ref X_TieError)=some true)
    (ga_Alike:PySem.W.findIn K (.ref X_Alike) "__getattribute__" = some (some (.builtin "BaseException.__getattribute__"))) (gt_Alike:PySem.W.findIn K (.ref X_Alike) "__getattr__" = some none) (it_Alike:PySem.W.kitCls K (.ref X_Alike) (.ref X_Alike)=some true) (ha_Alike:PySem.W.findIn K (.ref X_Alike) "__class__" = some (some (.builtin "object.__class__"))) (hm_Alike:PySem.W.mroIn K X_Alike (.type "object")=some true)
    (kk_Alike_NoCount:PySem.W.kitOne K (.ref X_Alike) (.ref X_NoCount)=some false)
    (kk_Alike_NoPlace:PySem.W.kitOne K (.ref X_Alike) (.ref X_NoPlace)=some false)
    (kk_Alike_Alike:PySem.W.kitOne K (.ref X_Alike) (.ref X_Alike)=some true)
    (kk_Alike_Joined:PySem.W.kitOne K (.ref X_Alike) (.ref X_Joined)=some false)
    (kk_Alike_Tied:PySem.W.kitOne K (.ref X_Alike) (.ref X_Tied)=some false)
    (kk_Alike_NoTie:PySem.W.kitOne K (.ref X_Alike) (.ref X_NoTie)=some false)
    (kk_Alike_NoRow:PySem.W.kitOne K (.ref X_Alike) (.ref X_NoRow)=some false)
    (kk_Alike_Fixed:PySem.W.kitOne K (.ref X_Alike) (.ref X_Fixed)=some false)
    (ex_Joined:ExcK K X_Joined)
    (em_Joined:PySem.W.exmOne K (.ref X_Joined) (.ref X_TieError)=some true)
    (ga_Joined:PySem.W.findIn K (.ref X_Joined) "__getattribute__" = some (some (.builtin "BaseException.__getattribute__"))) (gt_Joined:PySem.W.findIn K (.ref X_Joined) "__getattr__" = some none) (it_Joined:PySem.W.kitCls K (.ref X_Joined) (.ref X_Joined)=some true) (ha_Joined:PySem.W.findIn K (.ref X_Joined) "__class__" = some (some (.builtin "object.__class__"))) (hm_Joined:PySem.W.mroIn K X_Joined (.type "object")=some true)
    (kk_Joined_NoCount:PySem.W.kitOne K (.ref X_Joined) (.ref X_NoCount)=some false)
    (kk_Joined_NoPlace:PySem.W.kitOne K (.ref X_Joined) (.ref X_NoPlace)=some false)
    (kk_Joined_Alike:PySem.W.kitOne K (.ref X_Joined) (.ref X_Alike)=some false)
    (kk_Joined_Joined:PySem.W.kitOne K (.ref X_Joined) (.ref X_Joined)=some true)
    (kk_Joined_Tied:PySem.W.kitOne K (.ref X_Joined) (.ref X_Tied)=some false)
    (kk_Joined_NoTie:PySem.W.kitOne K (.ref X_Joined) (.ref X_NoTie)=some false)
    (kk_Joined_NoRow:PySem.W.kitOne K (.ref X_Joined) (.ref X_NoRow)=some false)
    (kk_Joined_Fixed:PySem.W.kitOne K (.ref X_Joined) (.ref X_Fixed)=some false)
    (ex_NoPlace:ExcK K X_NoPlace)
    (em_NoPlace:PySem.W.exmOne K (.ref X_NoPlace) (.ref X_TieError)=some true)
    (ga_NoPlace:PySem.W.findIn K (.ref X_NoPlace) "__getattribute__" = some (some (.builtin "BaseException.__getattribute__"))) (gt_NoPlace:PySem.W.findIn K (.ref X_NoPlace) "__getattr__" = some none) (it_NoPlace:PySem.W.kitCls K (.ref X_NoPlace) (.ref X_NoPlace)=some true) (ha_NoPlace:PySem.W.findIn K (.ref X_NoPlace) "__class__" = some (some (.builtin "object.__class__"))) (hm_NoPlace:PySem.W.mroIn K X_NoPlace (.type "object")=some true)
    (kk_NoPlace_NoCount:PySem.W.kitOne K (.ref X_NoPlace) (.ref X_NoCount)=some false)
    (kk_NoPlace_NoPlace:PySem.W.kitOne K (.ref X_NoPlace) (.ref X_NoPlace)=some true)
    (kk_NoPlace_Alike:PySem.W.kitOne K (.ref X_NoPlace) (.ref X_Alike)=some false)
    (kk_NoPlace_Joined:PySem.W.kitOne K (.ref X_NoPlace) (.ref X_Joined)=some false)
    (kk_NoPlace_Tied:PySem.W.kitOne K (.ref X_NoPlace) (.ref X_Tied)=some false)
    (kk_NoPlace_NoTie:PySem.W.kitOne K (.ref X_NoPlace) (.ref X_NoTie)=some false)
    (kk_NoPlace_NoRow:PySem.W.kitOne K (.ref X_NoPlace) (.ref X_NoRow)=some false)
    (kk_NoPlace_Fixed:PySem.W.kitOne K (.ref X_NoPlace) (.ref X_Fixed)=some false)
    (ex_NoTie:ExcK K X_NoTie)
    (em_NoTie:PySem.W.exmOne K (.ref X_NoTie) (.ref X_TieError)=some true)
    (ga_NoTie:PySem.W.findIn K (.ref X_NoTie) "__getattribute__" = some (some (.builtin "BaseException.__getattribute__"))) (gt_NoTie:PySem.W.findIn K (.ref X_NoTie) "__getattr__" = some none) (it_NoTie:PySem.W.kitCls K (.ref X_NoTie) (.ref X_NoTie)=some true) (ha_NoTie:PySem.W.findIn K (.ref X_NoTie) "__class__" = some (some (.builtin "object.__class__"))) (hm_NoTie:PySem.W.mroIn K X_NoTie (.type "object")=some true)
    (kk_NoTie_NoCount:PySem.W.kitOne K (.ref X_NoTie) (.ref X_NoCount)=some false)
    (kk_NoTie_NoPlace:PySem.W.kitOne K (.ref X_NoTie) (.ref X_NoPlace)=some false)
    (kk_NoTie_Alike:PySem.W.kitOne K (.ref X_NoTie) (.ref X_Alike)=some false)
    (kk_NoTie_Joined:PySem.W.kitOne K (.ref X_NoTie) (.ref X_Joined)=some false)
    (kk_NoTie_Tied:PySem.W.kitOne K (.ref X_NoTie) (.ref X_Tied)=some false)
    (kk_NoTie_NoTie:PySem.W.kitOne K (.ref X_NoTie) (.ref X_NoTie)=some true)
    (kk_NoTie_NoRow:PySem.W.kitOne K (.ref X_NoTie) (.ref X_NoRow)=some false)
    (kk_NoTie_Fixed:PySem.W.kitOne K (.ref X_NoTie) (.ref X_Fixed)=some false)
    (xhn:PySem.W.specialIn K (.builtin "object.__class__") "__get__" = some (some (.builtin "getset_descriptor.__get__"))) (xhtk:PySem.W.takesIn K (.builtin "object.__class__")=some true)
    (d_is_whole:Dfn K mg "is_whole" sis_whole ["thing"])
    (d_is_place:Dfn K mg "is_place" sis_place ["n","thing"])
    (d_steps_along:Dfn K mg "steps_along" ssteps_along ["row"])
    (d_turned:Dfn K mg "turned" sturned ["row","a"])
    (d_spliced:Dfn K mg "spliced" sspliced ["row","other","a","b"])
    (d_parted:Dfn K mg "parted" sparted ["row","a","b"])
    (d_way_in:Dfn K mg "way_in" sway_in ["row","a","b"])
    (d_refuse_no_place:Dfn K mg "refuse_no_place" srefuse_no_place ["n","thing"])
    (d_refuse_no_places:Dfn K mg "refuse_no_places" srefuse_no_places ["n","a","b"])
    (d_refuse_no_pair:Dfn K mg "refuse_no_pair" srefuse_no_pair ["n","a","b"])
    (d__law_cell_at:Dfn K mg "_law_cell_at" s_law_cell_at ["_law_script","_law_k"])
    (d__law_thing:Dfn K mg "_law_thing" s_law_thing ["_law_n","_law_cell"])
    (d__law_place:Dfn K mg "_law_place" s_law_place ["_law_n","_law_thing_here"])
    (d__law_members:Dfn K mg "_law_members" s_law_members ["_law_known","_law_a"])
    (d__law_words:Dfn K mg "_law_words" s_law_words ["_law_e"])
    (d__law_ask:Dfn K mg "_law_ask" s_law_ask ["_law_wood","_law_word","_law_one","_law_other"])
    (d__law_refused:Dfn K mg "_law_refused" s_law_refused ["_law_wood","_law_word","_law_one","_law_other","_law_due"])
    (d__law_questions:Dfn K mg "_law_questions" s_law_questions ["_law_wood","_law_n","_law_one","_law_other"])
    (d__law_seen:Dfn K mg "_law_seen" s_law_seen ["_law_wood","_law_n"])
    (d__law_linked:Dfn K mg "_law_linked" s_law_linked ["_law_wood","_law_known","_law_n","_law_a","_law_b"])
    (d_law:Dfn K mg "law" slaw ["_law_script"])
    (d_Wood___init__:DfnM K C "__init__" "Wood.__init__" sWood___init__ ["self","n"])
    (d_Wood_keep:DfnM K C "keep" "Wood.keep" sWood_keep ["self","row"])
    (d_Wood_link:DfnM K C "link" "Wood.link" sWood_link ["self","a","b"])
    (d_Wood_cut:DfnM K C "cut" "Wood.cut" sWood_cut ["self","a","b"])
    (d_Wood_joined:DfnM K C "joined" "Wood.joined" sWood_joined ["self","a","b"])
    (d_Wood_group:DfnM K C "group" "Wood.group" sWood_group ["self","a"])
    (d_Wood_size:DfnM K C "size" "Wood.size" sWood_size ["self","a"])
    (d_Wood_way:DfnM K C "way" "Wood.way" sWood_way ["self","a","b"])
    (d_Wood_ties:DfnM K C "ties" "Wood.ties" sWood_ties ["self"])
    (z_bool:PySem.W.nsIn K mainGlobals "bool" = some none)
    (z_enumerate:PySem.W.nsIn K mainGlobals "enumerate" = some none)
    (z_int:PySem.W.nsIn K mainGlobals "int" = some none)
    (z_isinstance:PySem.W.nsIn K mainGlobals "isinstance" = some none)
    (z_len:PySem.W.nsIn K mainGlobals "len" = some none)
    (z_list:PySem.W.nsIn K mainGlobals "list" = some none)
    (z_max:PySem.W.nsIn K mainGlobals "max" = some none)
    (z_min:PySem.W.nsIn K mainGlobals "min" = some none)
    (z_range:PySem.W.nsIn K mainGlobals "range" = some none)
    (z_set:PySem.W.nsIn K mainGlobals "set" = some none)
    (z_sorted:PySem.W.nsIn K mainGlobals "sorted" = some none)
    (z_zip:PySem.W.nsIn K mainGlobals "zip" = some none)
    : ∃ fd:FuncData,(∀ (s:Shared) (v:Value),BindsTo s fd ⟨[v],[]⟩ [("_law_script",v)])∧∀ base:Heap,K.In base→base.Ns mainGlobals mg→FnOk l.prog w K mg base CX0 10 fa fd ["_law_script"] (sp_law K):=by
  have e:=d_law.law hfa
  subst e
  have T:Txt K mg C ⟨X_Alike,X_Fixed,X_Joined,X_NoCount,X_NoPlace,X_NoRow,X_NoTie,X_TieError,X_Tied⟩:=⟨⟨pg,hd,po,sa⟩,PySem.W.mg_of X G aC,n_n,n_rows,PySem.W.mg_of X G ax_Alike,PySem.W.mg_of X G ax_Fixed,PySem.W.mg_of X G ax_Joined,PySem.W.mg_of X G ax_NoCount,PySem.W.mg_of X G ax_NoPlace,PySem.W.mg_of X G ax_NoRow,PySem.W.mg_of X G ax_NoTie,PySem.W.mg_of X G ax_TieError,PySem.W.mg_of X G ax_Tied,ex_Alike,ex_Joined,ex_NoPlace,ex_NoTie,em_Alike,em_Joined,em_NoPlace,em_NoTie,⟨ex_Alike,it_Alike,ga_Alike,gt_Alike,ha_Alike,xhn,xhtk,hm_Alike⟩,⟨ex_Joined,it_Joined,ga_Joined,gt_Joined,ha_Joined,xhn,xhtk,hm_Joined⟩,⟨ex_NoPlace,it_NoPlace,ga_NoPlace,gt_NoPlace,ha_NoPlace,xhn,xhtk,hm_NoPlace⟩,⟨ex_NoTie,it_NoTie,ga_NoTie,gt_NoTie,ha_NoTie,xhn,xhtk,hm_NoTie⟩,kk_Alike_NoCount,kk_Alike_NoPlace,kk_Alike_Alike,kk_Alike_Joined,kk_Alike_Tied,kk_Alike_NoTie,kk_Alike_NoRow,kk_Alike_Fixed,kk_Joined_NoCount,kk_Joined_NoPlace,kk_Joined_Alike,kk_Joined_Joined,kk_Joined_Tied,kk_Joined_NoTie,kk_Joined_NoRow,kk_Joined_Fixed,kk_NoPlace_NoCount,kk_NoPlace_NoPlace,kk_NoPlace_Alike,kk_NoPlace_Joined,kk_NoPlace_Tied,kk_NoPlace_NoTie,kk_NoPlace_NoRow,kk_NoPlace_Fixed,kk_NoTie_NoCount,kk_NoTie_NoPlace,kk_NoTie_Alike,kk_NoTie_Joined,kk_NoTie_Tied,kk_NoTie_NoTie,kk_NoTie_NoRow,kk_NoTie_Fixed,PySem.W.mg_none_of X G z_bool,PySem.W.mg_none_of X G z_enumerate,PySem.W.mg_none_of X G z_int,PySem.W.mg_none_of X G z_isinstance,PySem.W.mg_none_of X G z_len,PySem.W.mg_none_of X G z_list,PySem.W.mg_none_of X G z_max,PySem.W.mg_none_of X G z_min,PySem.W.mg_none_of X G z_range,PySem.W.mg_none_of X G z_set,PySem.W.mg_none_of X G z_sorted,PySem.W.mg_none_of X G z_zip⟩
  refine ⟨d_law.d,fun s v=>d_law.bt s [v] rfl,fun base _ _=>?_⟩
  have c_is_whole:Cal l.prog w K mg base CX0 1 "is_whole" ["thing"] (sp_is_whole K C):=⟨d_is_whole.f,d_is_whole.d,ok_is_whole d_is_whole.F T len_is_whole run_is_whole,d_is_whole.m,d_is_whole.F.kp,d_is_whole.b⟩
  have c_steps_along:Cal l.prog w K mg base CX0 1 "steps_along" ["row"] (sp_steps_along K C):=⟨d_steps_along.f,d_steps_along.d,ok_steps_along d_steps_along.F T len_steps_along run_steps_along,d_steps_along.m,d_steps_along.F.kp,d_steps_along.b⟩
  have c_turned:Cal l.prog w K mg base CX0 1 "turned" ["row","a"] (sp_turned K C):=⟨d_turned.f,d_turned.d,ok_turned d_turned.F T len_turned run_turned,d_turned.m,d_turned.F.kp,d_turned.b⟩
  have c__law_cell_at:Cal l.prog w K mg base CX0 1 "_law_cell_at" ["_law_script","_law_k"] (sp__law_cell_at K C):=⟨d__law_cell_at.f,d__law_cell_at.d,ok__law_cell_at d__law_cell_at.F T len__law_cell_at run__law_cell_at,d__law_cell_at.m,d__law_cell_at.F.kp,d__law_cell_at.b⟩
  have c__law_thing:Cal l.prog w K mg base CX0 1 "_law_thing" ["_law_n","_law_cell"] (sp__law_thing K C):=⟨d__law_thing.f,d__law_thing.d,ok__law_thing d__law_thing.F T len__law_thing run__law_thing,d__law_thing.m,d__law_thing.F.kp,d__law_thing.b⟩
  have c__law_place:Cal l.prog w K mg base CX0 1 "_law_place" ["_law_n","_law_thing_here"] (sp__law_place K C):=⟨d__law_place.f,d__law_place.d,ok__law_place d__law_place.F T len__law_place run__law_place,d__law_place.m,d__law_place.F.kp,d__law_place.b⟩
  have c__law_members:Cal l.prog w K mg base CX0 1 "_law_members" ["_law_known","_law_a"] (sp__law_members K C):=⟨d__law_members.f,d__law_members.d,FnOk.thaw (ok__law_members d__law_members.F T lenf__law_members runf__law_members) thaw__law_members,d__law_members.m,d__law_members.F.kp,d__law_members.b⟩
  have c__law_words:CalN l.prog w K mg base 1 "_law_words" ["_law_e"] (sp__law_words K C ⟨X_Alike,X_Fixed,X_Joined,X_NoCount,X_NoPlace,X_NoRow,X_NoTie,X_TieError,X_Tied⟩):=⟨d__law_words.f,d__law_words.d,ok__law_words d__law_words.F T len__law_words (run__law_words T),d__law_words.m,d__law_words.F.kp,d__law_words.b⟩
  have c_Wood___init__:CalI l.prog w K mg base CX0 1 C ["self","n"] (sp_Wood___init__ K C):=⟨d_Wood___init__.f,d_Wood___init__.d,ok_Wood___init__ d_Wood___init__.F T len_Wood___init__ run_Wood___init__,⟨mk,d_Wood___init__.a,d_Wood___init__.i,kc⟩,d_Wood___init__.b⟩
  have c_Wood_keep:CalM l.prog w K mg base CX0 1 C "keep" ["self","row"] (sp_Wood_keep K C):=⟨d_Wood_keep.f,d_Wood_keep.d,ok_Wood_keep d_Wood_keep.F T len_Wood_keep run_Wood_keep,⟨d_Wood_keep.a,d_Wood_keep.i,d_Wood_keep.F.kp⟩,d_Wood_keep.b⟩
  have c_is_place:Cal l.prog w K mg base CX0 2 "is_place" ["n","thing"] (sp_is_place K C):=⟨d_is_place.f,d_is_place.d,ok_is_place d_is_place.F T c_is_whole len_is_place run_is_place,d_is_place.m,d_is_place.F.kp,d_is_place.b⟩
  have c_spliced:Cal l.prog w K mg base CX0 2 "spliced" ["row","other","a","b"] (sp_spliced K C):=⟨d_spliced.f,d_spliced.d,ok_spliced d_spliced.F T c_turned len_spliced run_spliced,d_spliced.m,d_spliced.F.kp,d_spliced.b⟩
  have c_parted:Cal l.prog w K mg base CX0 2 "parted" ["row","a","b"] (sp_parted K C):=⟨d_parted.f,d_parted.d,ok_parted d_parted.F T c_steps_along len_parted run_parted,d_parted.m,d_parted.F.kp,d_parted.b⟩
  have c_way_in:Cal l.prog w K mg base CX0 2 "way_in" ["row","a","b"] (sp_way_in K C):=⟨d_way_in.f,d_way_in.d,ok_way_in d_way_in.F T c_turned len_way_in run_way_in,d_way_in.m,d_way_in.F.kp,d_way_in.b⟩
  have c_Wood_ties:CalM l.prog w K mg base CX0 2 C "ties" ["self"] (sp_Wood_ties K C):=⟨d_Wood_ties.f,d_Wood_ties.d,ok_Wood_ties d_Wood_ties.F T c_steps_along len_Wood_ties run_Wood_ties,⟨d_Wood_ties.a,d_Wood_ties.i,d_Wood_ties.F.kp⟩,d_Wood_ties.b⟩
  have c_refuse_no_place:Cal l.prog w K mg base (CXr l.prog w) 3 "refuse_no_place" ["n","thing"] (sp_refuse_no_place K C ⟨X_Alike,X_Fixed,X_Joined,X_NoCount,X_NoPlace,X_NoRow,X_NoTie,X_TieError,X_Tied⟩):=⟨d_refuse_no_place.f,d_refuse_no_place.d,ok_refuse_no_place d_refuse_no_place.F T c_is_place len_refuse_no_place run_refuse_no_place,d_refuse_no_place.m,d_refuse_no_place.F.kp,d_refuse_no_place.b⟩
  have c_refuse_no_places:Cal l.prog w K mg base (CXr l.prog w) 4 "refuse_no_places" ["n","a","b"] (sp_refuse_no_places K C ⟨X_Alike,X_Fixed,X_Joined,X_NoCount,X_NoPlace,X_NoRow,X_NoTie,X_TieError,X_Tied⟩):=⟨d_refuse_no_places.f,d_refuse_no_places.d,ok_refuse_no_places d_refuse_no_places.F T c_refuse_no_place len_refuse_no_places run_refuse_no_places,d_refuse_no_places.m,d_refuse_no_places.F.kp,d_refuse_no_places.b⟩
  have c_Wood_group:CalM l.prog w K mg base (CXr l.prog w) 4 C "group" ["self","a"] (sp_Wood_group K C ⟨X_Alike,X_Fixed,X_Joined,X_NoCount,X_NoPlace,X_NoRow,X_NoTie,X_TieError,X_Tied⟩):=⟨d_Wood_group.f,d_Wood_group.d,ok_Wood_group d_Wood_group.F T c_refuse_no_place len_Wood_group run_Wood_group,⟨d_Wood_group.a,d_Wood_group.i,d_Wood_group.F.kp⟩,d_Wood_group.b⟩
  have c_Wood_size:CalM l.prog w K mg base (CXr l.prog w) 4 C "size" ["self","a"] (sp_Wood_size K C ⟨X_Alike,X_Fixed,X_Joined,X_NoCount,X_NoPlace,X_NoRow,X_NoTie,X_TieError,X_Tied⟩):=⟨d_Wood_size.f,d_Wood_size.d,ok_Wood_size d_Wood_size.F T c_refuse_no_place len_Wood_size run_Wood_size,⟨d_Wood_size.a,d_Wood_size.i,d_Wood_size.F.kp⟩,d_Wood_size.b⟩
  have c_refuse_no_pair:Cal l.prog w K mg base (CXr l.prog w) 5 "refuse_no_pair" ["n","a","b"] (sp_refuse_no_pair K C ⟨X_Alike,X_Fixed,X_Joined,X_NoCount,X_NoPlace,X_NoRow,X_NoTie,X_TieError,X_Tied⟩):=⟨d_refuse_no_pair.f,d_refuse_no_pair.d,ok_refuse_no_pair d_refuse_no_pair.F T c_refuse_no_places len_refuse_no_pair run_refuse_no_pair,d_refuse_no_pair.m,d_refuse_no_pair.F.kp,d_refuse_no_pair.b⟩
  have c_Wood_joined:CalM l.prog w K mg base (CXr l.prog w) 5 C "joined" ["self","a","b"] (sp_Wood_joined K C ⟨X_Alike,X_Fixed,X_Joined,X_NoCount,X_NoPlace,X_NoRow,X_NoTie,X_TieError,X_Tied⟩):=⟨d_Wood_joined.f,d_Wood_joined.d,ok_Wood_joined d_Wood_joined.F T c_refuse_no_places len_Wood_joined run_Wood_joined,⟨d_Wood_joined.a,d_Wood_joined.i,d_Wood_joined.F.kp⟩,d_Wood_joined.b⟩
  have c_Wood_link:CalM l.prog w K mg base (CXr l.prog w) 6 C "link" ["self","a","b"] (sp_Wood_link K C ⟨X_Alike,X_Fixed,X_Joined,X_NoCount,X_NoPlace,X_NoRow,X_NoTie,X_TieError,X_Tied⟩):=⟨d_Wood_link.f,d_Wood_link.d,ok_Wood_link d_Wood_link.F T c_refuse_no_pair c_Wood_joined c_Wood_keep c_spliced len_Wood_link run_Wood_link,⟨d_Wood_link.a,d_Wood_link.i,d_Wood_link.F.kp⟩,d_Wood_link.b⟩
  have c_Wood_cut:CalM l.prog w K mg base (CXr l.prog w) 6 C "cut" ["self","a","b"] (sp_Wood_cut K C ⟨X_Alike,X_Fixed,X_Joined,X_NoCount,X_NoPlace,X_NoRow,X_NoTie,X_TieError,X_Tied⟩):=⟨d_Wood_cut.f,d_Wood_cut.d,ok_Wood_cut d_Wood_cut.F T c_refuse_no_pair c_parted c_steps_along c_Wood_keep len_Wood_cut run_Wood_cut,⟨d_Wood_cut.a,d_Wood_cut.i,d_Wood_cut.F.kp⟩,d_Wood_cut.b⟩
  have c_Wood_way:CalM l.prog w K mg base (CXr l.prog w) 6 C "way" ["self","a","b"] (sp_Wood_way K C ⟨X_Alike,X_Fixed,X_Joined,X_NoCount,X_NoPlace,X_NoRow,X_NoTie,X_TieError,X_Tied⟩):=⟨d_Wood_way.f,d_Wood_way.d,ok_Wood_way d_Wood_way.F T c_Wood_joined c_way_in len_Wood_way run_Wood_way,⟨d_Wood_way.a,d_Wood_way.i,d_Wood_way.F.kp⟩,d_Wood_way.b⟩
  have c__law_ask:Cal l.prog w K mg base (CXr l.prog w) 7 "_law_ask" ["_law_wood","_law_word","_law_one","_law_other"] (sp__law_ask K C ⟨X_Alike,X_Fixed,X_Joined,X_NoCount,X_NoPlace,X_NoRow,X_NoTie,X_TieError,X_Tied⟩):=⟨d__law_ask.f,d__law_ask.d,ok__law_ask d__law_ask.F T c_Wood_size c_Wood_link c_Wood_cut c_Wood_joined c_Wood_way c_Wood_group len__law_ask run__law_ask,d__law_ask.m,d__law_ask.F.kp,d__law_ask.b⟩
  have c__law_seen:Cal l.prog w K mg base CX0 7 "_law_seen" ["_law_wood","_law_n"] (sp__law_seen K C):=⟨d__law_seen.f,d__law_seen.d,ok__law_seen d__law_seen.F T c_Wood_group c_Wood_way len__law_seen run__law_seen,d__law_seen.m,d__law_seen.F.kp,d__law_seen.b⟩
  have c__law_refused:Cal l.prog w K mg base CX0 8 "_law_refused" ["_law_wood","_law_word","_law_one","_law_other","_law_due"] (sp__law_refused K C ⟨X_Alike,X_Fixed,X_Joined,X_NoCount,X_NoPlace,X_NoRow,X_NoTie,X_TieError,X_Tied⟩):=⟨d__law_refused.f,d__law_refused.d,ok__law_refused d__law_refused.F T c__law_ask c__law_words len__law_refused (run__law_refused T),d__law_refused.m,d__law_refused.F.kp,d__law_refused.b⟩
  have c__law_questions:Cal l.prog w K mg base CX0 9 "_law_questions" ["_law_wood","_law_n","_law_one","_law_other"] (sp__law_questions K C):=⟨d__law_questions.f,d__law_questions.d,ok__law_questions d__law_questions.F T c__law_refused c__law_place len__law_questions run__law_questions,d__law_questions.m,d__law_questions.F.kp,d__law_questions.b⟩
  have c__law_linked:Cal l.prog w K mg base CX0 9 "_law_linked" ["_law_wood","_law_known","_law_n","_law_a","_law_b"] (sp__law_linked K C):=⟨d__law_linked.f,d__law_linked.d,ok__law_linked d__law_linked.F T c__law_seen c__law_refused c__law_members c_Wood_way c_Wood_cut c_Wood_link len__law_linked run__law_linked,d__law_linked.m,d__law_linked.F.kp,d__law_linked.b⟩
  exact ok_law d_law.F T c_Wood___init__ c__law_thing c_Wood_ties c__law_cell_at c__law_seen c__law_place c__law_questions c__law_linked c_Wood_cut c__law_refused len_law (run_law T)
theorem walk {l:PySem.W.OpenLaw} {q:Program} {loose:List Str} {XP:(Str→Option Value)→Heap→Prop} {YP:World→Heap→Prop} {d:DefRec} {K:Params→PySem.W.Frag} (hn:l.most=some 63) (hdf:d.params.defaults=[])
    (hY:∀ (w:World) (h:Heap),YP w h→(K w.params).In h)
    (F:∀ (w:World) (mg:Str→Option Value) (fa:Addr) (h:Heap),(K w.params).In h→h.Ns mainGlobals mg→mg d.name=some (.ref fa) →
      ∃ fd:FuncData,(∀ (s:Shared) (u:Value),BindsTo s fd ⟨[u],[]⟩ [("_law_script",u)])∧∀ base:Heap,(K w.params).In base→base.Ns mainGlobals mg→FnOk l.prog w (K w.params) mg base CX0 10 fa fd ["_law_script"] (sp_law (K w.params))) :
    PySem.W.WalkO q loose XP YP l.row.toRowW d [] (fun f vs=>PySem.call f vs) :=
  L2.walk_of (n:=63) (k:=10) (x:="_law_script") (CX:=fun _=>CX0) (sp:=fun w=>sp_law (K w.params)) hn (by decide) hdf ⟨rfl,by decide,by decide⟩ hY F (fun _ _ a ns hl _ hS=>⟨a,ns,rfl,hS,hl,fun _=>rfl⟩) fun _ _ _ _ _ z=>z
end K23
end
namespace PySem.W.Fast
def tw17432541369055910723:=0
def tw15004777000687944142:=0
def tw14898499432177491056:=0
def tw17644778708003604752:=0
def tw254420172073757138:=0
def tw13249691995440718126:=0
def tw6293610889925245152:=0
def tw2512313389492620431:=0
def tw17077898233478547160:=0
def tw3159018282035289622:=0
def tw5855746683127047947:=0
def tw1443192727128476546:=0
def tw17919187275749796611:=0
def tw17401641522396441014:=0
def tw18183885893886999838:=0
def tw17021441425464351297:=0
def tw11192055470811449579:=0
def tw13636731435340088592:=0
def tw17264992478859596322:=0
def tw11466174905131256483:=0
def tw1513192899950204804:=0
def tw186514260140916768:=0
def tw4377702192331715175:=0
def tw9721011413495878726:=0
def tw18265489920544739247:=0
def tw8150027244298946777:=0
def tw2524276821155049874:=0
def tw12083843783226235536:=0
def tw14425550338675501626:=0
def tw7346355174363082379:=0
def tw10359321667183809409:=0
def tw16041948973132707512:=0
def tw12133714419923169259:=0
def tw11938733136823209753:=0
def tw13881637280424244072:=0
def tw7792070635335512613:=0
def tw4633471379659073488:=0
def tw9708434551406812307:=0
def tw18068856926102555291:=0
def tw16045377423185383527:=0
def tw2189519506091773829:=0
def tw1110383185873437910:=0
def tw9343231471022983159:=0
def tw2173349088741924909:=0
def tw1902215493884747108:=0
def tw16870708660375706322:=0
def tw9263132202245780204:=0
def tw15724975493905989477:=0
def tw7519420467946141813:=0
def tw12573516002412511775:=0
def tw1216135642989869538:=0
def tw14045361253762152272:=0
def tw7374687549146058666:=0
def tw535049723669122337:=0
def tw17485187227950440339:=0
def tw2099355831561347445:=0
def tw17895995216516647254:=0
def tw9925365641374942709:=0
def tw15977399340862589402:=0
def tw8651878060581884270:=0
def tw15581334467930221147:=0
def tw8923604644519677279:=0
def tw10107082965423152921:=0
def tw17196863532664833934:=0
def tw3487378093804547110:=0
def tw5124185156858054371:=0
def tw14661905988653220509:=0
def tw4163165321356917655:=0
def tw9161278787989991816:=0
def tw8790081923846247724:=0
def tw666362840847689456:=0
def tw9839151954761044585:=0
def tw15727065139182754009:=0
def tw11216154270659726606:=0
def tw17600599179609047824:=0
def tw7195550317056035008:=0
def tw4454141988028962432:=0
def tw6435095713121920095:=0
def tw14314453470606308298:=0
def tw786018071136292529:=0
def tw8465582761361935695:=0
def tw2438023714564009017:=0
def tw2143555358109853383:=0
def tw10462810396784230823:=0
def tw4529214137879464106:=0
def tw7857433667280909493:=0
def tw13727053604073298334:=0
def tw13865486949839500078:=0
def tw8160912489379316407:=0
def tw5852185278778419752:=0
def tw9228327604923881471:=0
def tw4748572620315802621:=0
def tw4334542148455030506:=0
def tw16874828877537270989:=0
def tw75462362323352311:=0
def tw5288468869696452410:=0
def tw10286564735901123120:=0
def tw16746138108662100833:=0
def tw16798364920392158531:=0
def tw15948623559730205472:=0
def tw10161347466774244785:=0
def tw1595593772168060964:=0
def tw9620971737730467711:=0
def tw15788182024896837848:=0
def tw18427946631773019784:=0
def tw9559255309342963520:=0
def tw11038074943584743682:=0
def tw9124809040374470675:=0
def tw11847530778376291093:=0
def tw10493286390478139324:=0
def tw12781871788490082150:=0
def tw17609180477772833205:=0
def tw11757244965304281833:=0
def tw12416993680550742786:=0
def tw8212099736026495002:=0
def tw7963272934168717400:=0
def tw11139844081789180966:=0
def tw15917174298243326235:=0
def tw3223311909282549599:=0
def tw4123864765283909334:=0
def tw15073590146113165090:=0
def tw11644427997293702691:=0
def tw14289539006657220458:=0
def tw980715075603357510:=0
def tw4006773425337536663:=0
def tw12813374369559203682:=0
def tw12461322178994445437:=0
def tw14975320178680782524:=0
def tw12251835094730356894:=0
def tw3737002443079248000:=0
def tw12543372944132594756:=0
def tw7024321701677201049:=0
def tw14617646241300415672:=0
def tw16409705778468102653:=0
def tw3502252585759989868:=0
def tw17778153605515610853:=0
def tw2614209396323291551:=0
def tw5420001524586989504:=0
def tw1860094357784668167:=0
def tw14939989021011649744:=0
def tw2127076047096791354:=0
def tw3983797512377365543:=0
def tw11394655286687592393:=0
def tw18306474328163429459:=0
def tw2480754686469210158:=0
def tw708623441422137720:=0
def tw3551892878565333497:=0
def tw4415302849818765719:=0
def tw6384354682271161190:=0
def tw13818700597021537293:=0
def tw3789451118894956565:=0
def tw15152012217398052819:=0
def tw5436141195338310415:=0
def tw8394049161476153117:=0
def tw13053440323525443423:=0
def tw12753373465328744715:=0
def tw9792473828660784041:=0
def tw11337430901024862557:=0
def tw2102697827954682447:=0
def tw10567305846351783903:=0
def tw16575231314652321429:=0
def tw1568768298004582663:=0
def tw3086731482647231888:=0
def tw4816592934715659847:=0
def tw10773459799378207599:=0
def tw10864393000401537352:=0
def tw16409939638526060640:=0
def tw356698103949372112:=0
def tw16189911791760079155:=0
def tw2470851277971236150:=0
def tw1419073302507142991:=0
def tw1824863117915361257:=0
def tw13598880245058248197:=0
def tw15705731216160030917:=0
def tw13191954353692432272:=0
def tw17342146776045416247:=0
def tw15833754610946539083:=0
def tw3290189405339088681:=0
def tw5068474721310824746:=0
def tw12166362853447241471:=0
def tw757914918896430894:=0
def tw3349567990771056442:=0
def tw15621651586567134742:=0
def tw9800747883711470743:=0
def tw13597397642325979535:=0
def tw15104513201111674817:=0
def tw5878803754983900062:=0
def tw4619111471868920724:=0
def tw5665692539975835865:=0
def tw533686916696672981:=0
def tw13066430474782158176:=0
def tw1778404292784635203:=0
def tw8681477884144253662:=0
def tw7730455801777115009:=0
def tw92220248862314412:=0
def tw7842398291679506653:=0
def tw15963341122116801309:=0
def tw3581449695146078615:=0
def tw1510712468788498393:=0
def tw269976505117911343:=0
def tw2711017718743220158:=0
def tw546211419819323671:=0
def tw7820601579979919632:=0
def tw7229365377887901627:=0
def tw825527733994257100:=0
def tw15390318861920682267:=0
def tw2426886029059594540:=0
def tw8004088645257507587:=0
def tw2125595796097188234:=0
def tw5122605430412336755:=0
def tw10303140070190789425:=0
def tw13770471676044498064:=0
def tw13921859956757737155:=0
def tw1458487119788340453:=0
def tw12815345687674343757:=0
def tw13844601292136068369:=0
def tw16357568433043334196:=0
def tw12960276678174110374:=0
def tw15986993925893120468:=0
def tw2349543808453150393:=0
def tw9382965358996280452:=0
def tw15433093751146178762:=0
def tw13134173450888029318:=0
def tw5189679688041107121:=0
def tw6045623091735037686:=0
def tw6687413420289373665:=0
def tw7124459951791449899:=0
def tw2967489731356167466:=0
def tw8262778427498695847:=0
def tw4672868423114488332:=0
def tw9943368682256534605:=0
def tw7854041474401291742:=0
def tw16080359534954114128:=0
def tw17939532991526129107:=0
def tw1760051548023064906:=0
def tw18326996562707219839:=0
def tw15226410194429620906:=0
def tw3655026820871065361:=0
def tw14670841432491713669:=0
def tw14819371916688924647:=0
def tw16862059583771933689:=0
def tw13410829933244614197:=0
def tw4268821318391623033:=0
def tw2335473357076077264:=0
def tw4989395328476395351:=0
def tw12554772105671576490:=0
def tw5354920725156672931:=0
def tw15700463194913930712:=0
def tw5733229561006511852:=0
def tw14193234771375223482:=0
def tw1537496504421158037:=0
def tw8724861207095040932:=0
def tw11343698524650460736:=0
def tw11633770609956360927:=0
def tw403949728937284335:=0
def tw4706844858546508398:=0
def tw14814988018361457820:=0
def tw15096629275014623374:=0
def tw4736064920870599561:=0
def tw851825383229323091:=0
def tw11387576595948284283:=0
def tw378855154526200860:=0
def tw4982769919322567631:=0
def tw2977393891497119838:=0
def tw16744686224070800702:=0
def tw1845080920605677788:=0
def tw10334039281879111186:=0
def tw8254163415401938014:=0
def tw16466347528764551230:=0
def tw745780388672650765:=0
def tw13355261136003416318:=0
def tw7631157981676852501:=0
def tw14897549711383125880:=0
def tw17800259563363104663:=0
def tw5010321220274057281:=0
def tw17353739061786749886:=0
def tw12523442924657408246:=0
def tw17724213184877216682:=0
def tw5413595489653154580:=0
def tw8639477158671261352:=0
def tw2227114562328792482:=0
def tw11632758808274096503:=0
def tw10012775242375951419:=0
def tw8792565361300911987:=0
def tw11341657251323797827:=0
def tw13606943022054795027:=0
def tw4028641263844793172:=0
def tw17386737772583626642:=0
def tw13340839195851201867:=0
def tw2091769281877713703:=0
def tw14109107767920908489:=0
def tw6784334709515729823:=0
def tw10087726453625973668:=0
def tw2200251417787104714:=0
def tw6629438291701872193:=0
def tw12105774533451460420:=0
def tw16464976422236708336:=0
def tw13953471279621360758:=0
def tw2484204456876445124:=0
def tw303281086803862860:=0
def tw2842374174190864540:=0
def tw2158398186048504885:=0
def tw5017078896838461112:=0
def tw4916384429928449631:=0
def tw2677920358562961130:=0
def tw7644429570228313254:=0
def tw10223212634894689973:=0
def tw15512095948689109682:=0
def tw7602962072107922759:=0
def tw14864752650279994824:=0
def tw7891096540201713054:=0
def tw4529337407862702303:=0
def tw3704453797595255198:=0
def tw5642237318099246671:=0
def tw1178915549589450154:=0
def tw1672167050575053974:=0
def tw13526524494171868766:=0
def tw18395728031055124147:=0
def tw8533417206282347582:=0
def tw12015730231086694988:=0
def tw15373348228722053544:=0
def tw5057324836223409772:=0
def tw18203350468053209142:=0
def tw2659589904425905852:=0
def tw18198538701027476592:=0
def tw10057121121779589540:=0
def tw3240016629200417104:=0
def tw15512607826907415692:=0
def tw14142368709302847970:=0
def tw10840859379506454824:=0
def tw16246677350450272445:=0
def tw5649639208767328595:=0
def tw10673519748256711776:=0
def tw7022490051532332542:=0
def tw14817388121778784910:=0
def tw8290349325631850302:=0
def tw10350438077509150057:=0
def tw7630883731593992959:=0
def tw16657128967002218883:=0
def tw5230229135962427252:=0
def tw8857056665690872542:=0
def tw17912011886510003585:=0
end PySem.W.Fast
open PySem PySem.W PyProof.Rows
set_option maxRecDepth 100000 in
set_option maxHeartbeats 0 in
theorem PySem.Challenge.cw_tiewood_k23_refusals_of_a_wood_holds : PySem.Challenge.rw_tiewood_k23_refusals_of_a_wood.Holds := by
  w_on; o_law; k_head; (case hw=>w_witness2)
  k_fill
  refine K23.walk (l:=PySem.Challenge.rw_tiewood_k23_refusals_of_a_wood) rfl rfl (fun w h Y=>PySem.W.kIn_of Y) ?F
  case F =>
    intro w mg fa h KX G hmg
    refine' K23.all_mk KX G hmg ?aC ?pg ?hd ?po ?sa ?mk ?kc ?n_n ?n_rows ?ax_Alike ?ax_Fixed ?ax_Joined ?ax_NoCount ?ax_NoPlace ?ax_NoRow ?ax_NoTie ?ax_TieError ?ax_Tied ?ex_Alike ?em_Alike ?ga_Alike ?gt_Alike ?it_Alike ?ha_Alike ?hm_Alike ?kk_Alike_NoCount ?kk_Alike_NoPlace ?kk_Alike_Alike ?kk_Alike_Joined ?kk_Alike_Tied ?kk_Alike_NoTie ?kk_Alike_NoRow ?kk_Alike_Fixed ?ex_Joined ?em_Joined ?ga_Joined ?gt_Joined ?it_Joined ?ha_Joined ?hm_Joined ?kk_Joined_NoCount ?kk_Joined_NoPlace ?kk_Joined_Alike ?kk_Joined_Joined ?kk_Joined_Tied ?kk_Joined_NoTie ?kk_Joined_NoRow ?kk_Joined_Fixed ?ex_NoPlace ?em_NoPlace ?ga_NoPlace ?gt_NoPlace ?it_NoPlace ?ha_NoPlace ?hm_NoPlace ?kk_NoPlace_NoCount ?kk_NoPlace_NoPlace ?kk_NoPlace_Alike ?kk_NoPlace_Joined ?kk_NoPlace_Tied ?kk_NoPlace_NoTie ?kk_NoPlace_NoRow ?kk_NoPlace_Fixed ?ex_NoTie ?em_NoTie ?ga_NoTie ?gt_NoTie ?it_NoTie ?ha_NoTie ?hm_NoTie ?kk_NoTie_NoCount ?kk_NoTie_NoPlace ?kk_NoTie_Alike ?kk_NoTie_Joined ?kk_NoTie_Tied ?kk_NoTie_NoTie ?kk_NoTie_NoRow ?kk_NoTie_Fixed ?xhn ?xhtk (L2.mkD KX G ?a_is_whole ?l_is_whole ?c_is_whole ?k_is_whole fun _ _ _ _ _ _ us hl=>match us,hl with | [_],_=>rfl) (L2.mkD KX G ?a_is_place ?l_is_place ?c_is_place ?k_is_place fun _ _ _ _ _ _ us hl=>match us,hl with | [_,_],_=>rfl) (L2.mkD KX G ?a_steps_along ?l_steps_along ?c_steps_along ?k_steps_along fun _ _ _ _ _ _ us hl=>match us,hl with | [_],_=>rfl) (L2.mkD KX G ?a_turned ?l_turned ?c_turned ?k_turned fun _ _ _ _ _ _ us hl=>match us,hl with | [_,_],_=>rfl) (L2.mkD KX G ?a_spliced ?l_spliced ?c_spliced ?k_spliced fun _ _ _ _ _ _ us hl=>match us,hl with | [_,_,_,_],_=>rfl) (L2.mkD KX G ?a_parted ?l_parted ?c_parted ?k_parted fun _ _ _ _ _ _ us hl=>match us,hl with | [_,_,_],_=>rfl) (L2.mkD KX G ?a_way_in ?l_way_in ?c_way_in ?k_way_in fun _ _ _ _ _ _ us hl=>match us,hl with | [_,_,_],_=>rfl) (L2.mkD KX G ?a_refuse_no_place ?l_refuse_no_place ?c_refuse_no_place ?k_refuse_no_place fun _ _ _ _ _ _ us hl=>match us,hl with | [_,_],_=>rfl) (L2.mkD KX G ?a_refuse_no_places ?l_refuse_no_places ?c_refuse_no_places ?k_refuse_no_places fun _ _ _ _ _ _ us hl=>match us,hl with | [_,_,_],_=>rfl) (L2.mkD KX G ?a_refuse_no_pair ?l_refuse_no_pair ?c_refuse_no_pair ?k_refuse_no_pair fun _ _ _ _ _ _ us hl=>match us,hl with | [_,_,_],_=>rfl) (L2.mkD KX G ?a__law_cell_at ?l__law_cell_at ?c__law_cell_at ?k__law_cell_at fun _ _ _ _ _ _ us hl=>match us,hl with | [_,_],_=>rfl) (L2.mkD KX G ?a__law_thing ?l__law_thing ?c__law_thing ?k__law_thing fun _ _ _ _ _ _ us hl=>match us,hl with | [_,_],_=>rfl) (L2.mkD KX G ?a__law_place ?l__law_place ?c__law_place ?k__law_place fun _ _ _ _ _ _ us hl=>match us,hl with | [_,_],_=>rfl) (L2.mkD KX G ?a__law_members ?l__law_members ?c__law_members ?k__law_members fun _ _ _ _ _ _ us hl=>match us,hl with | [_,_],_=>rfl) (L2.mkD KX G ?a__law_words ?l__law_words ?c__law_words ?k__law_words fun _ _ _ _ _ _ us hl=>match us,hl with | [_],_=>rfl) (L2.mkD KX G ?a__law_ask ?l__law_ask ?c__law_ask ?k__law_ask fun _ _ _ _ _ _ us hl=>match us,hl with | [_,_,_,_],_=>rfl) (L2.mkD KX G ?a__law_refused ?l__law_refused ?c__law_refused ?k__law_refused fun _ _ _ _ _ _ us hl=>match us,hl with | [_,_,_,_,_],_=>rfl) (L2.mkD KX G ?a__law_questions ?l__law_questions ?c__law_questions ?k__law_questions fun _ _ _ _ _ _ us hl=>match us,hl with | [_,_,_,_],_=>rfl) (L2.mkD KX G ?a__law_seen ?l__law_seen ?c__law_seen ?k__law_seen fun _ _ _ _ _ _ us hl=>match us,hl with | [_,_],_=>rfl) (L2.mkD KX G ?a__law_linked ?l__law_linked ?c__law_linked ?k__law_linked fun _ _ _ _ _ _ us hl=>match us,hl with | [_,_,_,_,_],_=>rfl) (L2.mkD KX G ?a_law ?l_law ?c_law ?k_law fun _ _ _ _ _ _ us hl=>match us,hl with | [_],_=>rfl) (L2.mkM ?a_Wood___init__ ?i_Wood___init__ ?l_Wood___init__ ?c_Wood___init__ ?k_Wood___init__ fun _ _ _ _ _ _ us hl=>match us,hl with | [_,_],_=>rfl) (L2.mkM ?a_Wood_keep ?i_Wood_keep ?l_Wood_keep ?c_Wood_keep ?k_Wood_keep fun _ _ _ _ _ _ us hl=>match us,hl with | [_,_],_=>rfl) (L2.mkM ?a_Wood_link ?i_Wood_link ?l_Wood_link ?c_Wood_link ?k_Wood_link fun _ _ _ _ _ _ us hl=>match us,hl with | [_,_,_],_=>rfl) (L2.mkM ?a_Wood_cut ?i_Wood_cut ?l_Wood_cut ?c_Wood_cut ?k_Wood_cut fun _ _ _ _ _ _ us hl=>match us,hl with | [_,_,_],_=>rfl) (L2.mkM ?a_Wood_joined ?i_Wood_joined ?l_Wood_joined ?c_Wood_joined ?k_Wood_joined fun _ _ _ _ _ _ us hl=>match us,hl with | [_,_,_],_=>rfl) (L2.mkM ?a_Wood_group ?i_Wood_group ?l_Wood_group ?c_Wood_group ?k_Wood_group fun _ _ _ _ _ _ us hl=>match us,hl with | [_,_],_=>rfl) (L2.mkM ?a_Wood_size ?i_Wood_size ?l_Wood_size ?c_Wood_size ?k_Wood_size fun _ _ _ _ _ _ us hl=>match us,hl with | [_,_],_=>rfl) (L2.mkM ?a_Wood_way ?i_Wood_way ?l_Wood_way ?c_Wood_way ?k_Wood_way fun _ _ _ _ _ _ us hl=>match us,hl with | [_,_,_],_=>rfl) (L2.mkM ?a_Wood_ties ?i_Wood_ties ?l_Wood_ties ?c_Wood_ties ?k_Wood_ties fun _ _ _ _ _ _ us hl=>match us,hl with | [_],_=>rfl) ?z_bool ?z_enumerate ?z_int ?z_isinstance ?z_len ?z_list ?z_max ?z_min ?z_range ?z_set ?z_sorted ?z_zip
    (case aC=>k_is)
    (case pg=>k_is)
    (case hd=>k_is)
    (case po=>k_is)
    (case sa=>k_is)
    (case mk=>k_is)
    (case kc=>k_is)
    (case n_n=>k_is)
    (case n_rows=>k_is)
    (case ax_Alike=>k_is)
    (case ax_Fixed=>k_is)
    (case ax_Joined=>k_is)
    (case ax_NoCount=>k_is)
    (case ax_NoPlace=>k_is)
    (case ax_NoRow=>k_is)
    (case ax_NoTie=>k_is)
    (case ax_TieError=>k_is)
    (case ax_Tied=>k_is)
    (case ex_Alike=>exact L2.exK rfl rfl (L2.nsq rfl rfl rfl rfl rfl rfl) (L2.nsq rfl rfl rfl rfl rfl rfl))
    (case em_Alike=>exact rfl)
    (case ga_Alike=>k_is)
    (case gt_Alike=>k_is)
    (case it_Alike=>exact rfl)
    (case ha_Alike=>k_is)
    (case hm_Alike=>k_is)
    (case kk_Alike_NoCount=>exact rfl)
    (case kk_Alike_NoPlace=>exact rfl)
    (case kk_Alike_Alike=>exact rfl)
    (case kk_Alike_Joined=>exact rfl)
    (case kk_Alike_Tied=>exact rfl)
    (case kk_Alike_NoTie=>exact rfl)
    (case kk_Alike_NoRow=>exact rfl)
    (case kk_Alike_Fixed=>exact rfl)
    (case ex_Joined=>exact L2.exK rfl rfl (L2.nsq rfl rfl rfl rfl rfl rfl) (L2.nsq rfl rfl rfl rfl rfl rfl))
    (case em_Joined=>exact rfl)
    (case ga_Joined=>k_is)
    (case gt_Joined=>k_is)
    (case it_Joined=>exact rfl)
    (case ha_Joined=>k_is)
    (case hm_Joined=>k_is)
    (case kk_Joined_NoCount=>exact rfl)
    (case kk_Joined_NoPlace=>exact rfl)
    (case kk_Joined_Alike=>exact rfl)
    (case kk_Joined_Joined=>exact rfl)
    (case kk_Joined_Tied=>exact rfl)
    (case kk_Joined_NoTie=>exact rfl)
    (case kk_Joined_NoRow=>exact rfl)
    (case kk_Joined_Fixed=>exact rfl)
    (case ex_NoPlace=>exact L2.exK rfl rfl (L2.nsq rfl rfl rfl rfl rfl rfl) (L2.nsq rfl rfl rfl rfl rfl rfl))
    (case em_NoPlace=>exact rfl)
    (case ga_NoPlace=>k_is)
    (case gt_NoPlace=>k_is)
    (case it_NoPlace=>exact rfl)
    (case ha_NoPlace=>k_is)
    (case hm_NoPlace=>k_is)
    (case kk_NoPlace_NoCount=>exact rfl)
    (case kk_NoPlace_NoPlace=>exact rfl)
    (case kk_NoPlace_Alike=>exact rfl)
    (case kk_NoPlace_Joined=>exact rfl)
    (case kk_NoPlace_Tied=>exact rfl)
    (case kk_NoPlace_NoTie=>exact rfl)
    (case kk_NoPlace_NoRow=>exact rfl)
    (case kk_NoPlace_Fixed=>exact rfl)
    (case ex_NoTie=>exact L2.exK rfl rfl (L2.nsq rfl rfl rfl rfl rfl rfl) (L2.nsq rfl rfl rfl rfl rfl rfl))
    (case em_NoTie=>exact rfl)
    (case ga_NoTie=>k_is)
    (case gt_NoTie=>k_is)
    (case it_NoTie=>exact rfl)
    (case ha_NoTie=>k_is)
    (case hm_NoTie=>k_is)
    (case kk_NoTie_NoCount=>exact rfl)
    (case kk_NoTie_NoPlace=>exact rfl)
    (case kk_NoTie_Alike=>exact rfl)
    (case kk_NoTie_Joined=>exact rfl)
    (case kk_NoTie_Tied=>exact rfl)
    (case kk_NoTie_NoTie=>exact rfl)
    (case kk_NoTie_NoRow=>exact rfl)
    (case kk_NoTie_Fixed=>exact rfl)
    (case xhn=>k_is)
    (case xhtk=>k_is)
    (case a_is_whole=>k_is)
    (case l_is_whole=>k_is)
    (case c_is_whole=>k_is)
    (case k_is_whole=>k_is)
    (case a_is_place=>k_is)
    (case l_is_place=>k_is)
    (case c_is_place=>k_is)
    (case k_is_place=>k_is)
    (case a_steps_along=>k_is)
    (case l_steps_along=>k_is)
    (case c_steps_along=>k_is)
    (case k_steps_along=>k_is)
    (case a_turned=>k_is)
    (case l_turned=>k_is)
    (case c_turned=>k_is)
    (case k_turned=>k_is)
    (case a_spliced=>k_is)
    (case l_spliced=>k_is)
    (case c_spliced=>k_is)
    (case k_spliced=>k_is)
    (case a_parted=>k_is)
    (case l_parted=>k_is)
    (case c_parted=>k_is)
    (case k_parted=>k_is)
    (case a_way_in=>k_is)
    (case l_way_in=>k_is)
    (case c_way_in=>k_is)
    (case k_way_in=>k_is)
    (case a_refuse_no_place=>k_is)
    (case l_refuse_no_place=>k_is)
    (case c_refuse_no_place=>k_is)
    (case k_refuse_no_place=>k_is)
    (case a_refuse_no_places=>k_is)
    (case l_refuse_no_places=>k_is)
    (case c_refuse_no_places=>k_is)
    (case k_refuse_no_places=>k_is)
    (case a_refuse_no_pair=>k_is)
    (case l_refuse_no_pair=>k_is)
    (case c_refuse_no_pair=>k_is)
    (case k_refuse_no_pair=>k_is)
    (case a__law_cell_at=>k_is)
    (case l__law_cell_at=>k_is)
    (case c__law_cell_at=>k_is)
    (case k__law_cell_at=>k_is)
    (case a__law_thing=>k_is)
    (case l__law_thing=>k_is)
    (case c__law_thing=>k_is)
    (case k__law_thing=>k_is)
    (case a__law_place=>k_is)
    (case l__law_place=>k_is)
    (case c__law_place=>k_is)
    (case k__law_place=>k_is)
    (case a__law_members=>k_is)
    (case l__law_members=>k_is)
    (case c__law_members=>k_is)
    (case k__law_members=>k_is)
    (case a__law_words=>k_is)
    (case l__law_words=>k_is)
    (case c__law_words=>k_is)
    (case k__law_words=>k_is)
    (case a__law_ask=>k_is)
    (case l__law_ask=>k_is)
    (case c__law_ask=>k_is)
    (case k__law_ask=>k_is)
    (case a__law_refused=>k_is)
    (case l__law_refused=>k_is)
    (case c__law_refused=>k_is)
    (case k__law_refused=>k_is)
    (case a__law_questions=>k_is)
    (case l__law_questions=>k_is)
    (case c__law_questions=>k_is)
    (case k__law_questions=>k_is)
    (case a__law_seen=>k_is)
    (case l__law_seen=>k_is)
    (case c__law_seen=>k_is)
    (case k__law_seen=>k_is)
    (case a__law_linked=>k_is)
    (case l__law_linked=>k_is)
    (case c__law_linked=>k_is)
    (case k__law_linked=>k_is)
    (case a_law=>k_is)
    (case l_law=>k_is)
    (case c_law=>k_is)
    (case k_law=>k_is)
    (case a_Wood___init__=>k_is)
    (case i_Wood___init__=>k_is)
    (case l_Wood___init__=>k_is)
    (case c_Wood___init__=>k_is)
    (case k_Wood___init__=>k_is)
    (case a_Wood_keep=>k_is)
    (case i_Wood_keep=>k_is)
    (case l_Wood_keep=>k_is)
    (case c_Wood_keep=>k_is)
    (case k_Wood_keep=>k_is)
    (case a_Wood_link=>k_is)
    (case i_Wood_link=>k_is)
    (case l_Wood_link=>k_is)
    (case c_Wood_link=>k_is)
    (case k_Wood_link=>k_is)
    (case a_Wood_cut=>k_is)
    (case i_Wood_cut=>k_is)
    (case l_Wood_cut=>k_is)
    (case c_Wood_cut=>k_is)
    (case k_Wood_cut=>k_is)
    (case a_Wood_joined=>k_is)
    (case i_Wood_joined=>k_is)
    (case l_Wood_joined=>k_is)
    (case c_Wood_joined=>k_is)
    (case k_Wood_joined=>k_is)
    (case a_Wood_group=>k_is)
    (case i_Wood_group=>k_is)
    (case l_Wood_group=>k_is)
    (case c_Wood_group=>k_is)
    (case k_Wood_group=>k_is)
    (case a_Wood_size=>k_is)
    (case i_Wood_size=>k_is)
    (case l_Wood_size=>k_is)
    (case c_Wood_size=>k_is)
    (case k_Wood_size=>k_is)
    (case a_Wood_way=>k_is)
    (case i_Wood_way=>k_is)
    (case l_Wood_way=>k_is)
    (case c_Wood_way=>k_is)
    (case k_Wood_way=>k_is)
    (case a_Wood_ties=>k_is)
    (case i_Wood_ties=>k_is)
    (case l_Wood_ties=>k_is)
    (case c_Wood_ties=>k_is)
    (case k_Wood_ties=>k_is)
    (case z_bool=>k_is)
    (case z_enumerate=>k_is)
    (case z_int=>k_is)
    (case z_isinstance=>k_is)
    (case z_len=>k_is)
    (case z_list=>k_is)
    (case z_max=>k_is)
    (case z_min=>k_is)
    (case z_range=>k_is)
    (case z_set=>k_is)
    (case z_sorted=>k_is)
    (case z_zip=>k_is)
