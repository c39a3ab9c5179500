import PyProof.Rows.All
import Wide.All
import OpenK.AllK
import Wide.FinOn
import Lean
import PyProof.EqAt
import PyProof.EqKinds
import PyProof.TupleCall
import PyProof.Rows.Range3
import PyProof.Rows.SeqMore2
import PyProof.SeqI3
import KE.KSortTup
import PyProof.ZipIter
import KE.KItemsList
import KE.KDictList
import KE.KRevIter
import PyProof.Rows.SetFrom
import PySem.Challenge.RW_tiewood_k11_a_round_or_none
set_option Elab.async false
set_option linter.all false
set_option maxRecDepth 100000
set_option maxHeartbeats 4000000
namespace L2
open PySem PySem.Spec PyProof.Rows
abbrev Key := Sum Int Str
def keyIs : Key → Value → Bool
  | .inl k, v => Value.isInt k v
  | .inr x, v => Value.isStrOf x v
def keyH (w : World) : Key → Int
  | .inl k => hashInt k
  | .inr x => hashStr w x
theorem keyIs_shape : ∀ {k : Key} {v : Value}, keyIs k v = true → (∃ i t, k = Sum.inl i ∧ v = Value.int i t) ∨ (∃ x t, k = Sum.inr x ∧ v = Value.str x t)
  | .inl i, v, h => by
    obtain ⟨t, e⟩ := Value.isInt_shape (k := i) (v := v) h
    exact .inl ⟨i, t, rfl, e⟩
  | .inr x, v, h => by
    obtain ⟨t, e⟩ := Value.isStrOf_shape (x := x) (v := v) h
    exact .inr ⟨x, t, rfl, e⟩
theorem keyIs_int (i : Int) (t : Tok) : keyIs (.inl i) (.int i t) = true := by simp [keyIs, Value.isInt]
theorem keyIs_str (x : Str) (t : Tok) : keyIs (.inr x) (.str x t) = true := by simp [keyIs, Value.isStrOf]
theorem key_ll (a b : Int) : decide ((Sum.inl a : Key) = Sum.inl b) = (a == b) := by
  by_cases e : a = b
  · subst e; simp
  · have h : ¬ (Sum.inl a : Key) = Sum.inl b := fun q => e (Sum.inl.inj q)
    rw [decide_eq_false h]
    exact (beq_eq_false_iff_ne.mpr e).symm
theorem key_rr (a b : Str) : decide ((Sum.inr a : Key) = Sum.inr b) = decide (a = b) := by
  by_cases e : a = b
  · subst e; simp
  · have h : ¬ (Sum.inr a : Key) = Sum.inr b := fun q => e (Sum.inr.inj q)
    rw [decide_eq_false h, decide_eq_false e]
theorem key_lr (a : Int) (b : Str) : decide ((Sum.inl a : Key) = Sum.inr b) = false := decide_eq_false (fun q => nomatch q)
theorem key_rl (a : Str) (b : Int) : decide ((Sum.inr a : Key) = Sum.inl b) = false := decide_eq_false (fun q => nomatch q)
def mixKind (prog : Program) (w : World) : PySem.KeyKind prog w Key where
  is := keyIs
  hash := keyH w
  inj := fun v a b ha hb => by
    rcases keyIs_shape ha with ⟨i, t, rfl, rfl⟩ | ⟨x, t, rfl, rfl⟩
    · rcases keyIs_shape hb with ⟨j, u, rfl, e⟩ | ⟨y, u, rfl, e⟩
      · injection e with e1 _; rw [e1]
      · exact nomatch e
    · rcases keyIs_shape hb with ⟨j, u, rfl, e⟩ | ⟨y, u, rfl, e⟩
      · exact nomatch e
      · injection e with e1 _; rw [e1]
  byValue := fun k v h => by
    rcases keyIs_shape h with ⟨i, t, rfl, rfl⟩ | ⟨x, t, rfl, rfl⟩ <;> rfl
  pyHash := fun hv h => by
    rcases keyIs_shape hv with ⟨i, t, rfl, rfl⟩ | ⟨x, t, rfl, rfl⟩
    · exact wpAny_pyHash_int h
    · exact wpAny_pyHash_str h
  eqBool := fun hu hv h => by
    rcases keyIs_shape hu with ⟨i, t, rfl, rfl⟩ | ⟨x, t, rfl, rfl⟩
    · rcases keyIs_shape hv with ⟨j, u, rfl, rfl⟩ | ⟨y, u, rfl, rfl⟩
      · rw [key_ll] at h; exact wpAny_eqBool_int h
      · rw [key_lr] at h; exact SeqAt.EqAt.int_str i t y u _ _ _ _ h
    · rcases keyIs_shape hv with ⟨j, u, rfl, rfl⟩ | ⟨y, u, rfl, rfl⟩
      · rw [key_rl] at h; exact SeqAt.EqAt.str_int x t j u _ _ _ _ h
      · rw [key_rr] at h; exact wpAny_eqBool_str h
  «strs» := fun k x t v h => by
    rcases keyIs_shape h with ⟨i, u, rfl, e⟩ | ⟨y, u, rfl, e⟩
    · exact nomatch e
    · injection e with e1 _
      subst e1
      cases v <;> rfl
theorem mixKind_int (prog : Program) (w : World) (i : Int) (t : Tok) : (mixKind prog w).is (.inl i) (.int i t) = true := keyIs_int i t
theorem mixKind_str (prog : Program) (w : World) (x : Str) (t : Tok) : (mixKind prog w).is (.inr x) (.str x t) = true := keyIs_str x t
end L2
namespace L2
open PySem PySem.Spec PyProof.Rows
inductive V where
  | non | bl (b : Bool) | int (i : Int) | str (x : Str) | byt (b : Array UInt8) | flt (b : UInt64) | ref (a : Addr) | ty (n : String)
  deriving DecidableEq
def RelV : V → Value → Prop
  | .non, u => u = Value.none
  | .bl b, u => u = Value.bool b
  | .int i, u => ∃ t, u = Value.int i t
  | .str x, u => ∃ t, u = Value.str x t
  | .byt b, u => ∃ t, u = Value.bytes b t
  | .flt b, u => ∃ t, u = Value.float b t
  | .ref a, u => u = Value.ref a
  | .ty n, u => u = Value.type n
abbrev Vals : List V → List Value → Prop := Paired RelV
theorem Vals.length {xs : List V} {us : List Value} (r : Vals xs us) : xs.length = us.length := Paired.length r
theorem Vals.get : ∀ {xs : List V} {us : List Value} {i : Nat} {x : V}, Vals xs us → xs[i]? = some x → ∃ u, us[i]? = some u ∧ RelV x u
  | _, _, _, _, .nil, e => by simp at e
  | _, _, 0, _, .cons r _, e => by simp at e; subst e; exact ⟨_, rfl, r⟩
  | _, _, i + 1, x, .cons _ t, e => by
    obtain ⟨u, h1, h2⟩ := Vals.get (i := i) (x := x) t (by simpa using e)
    exact ⟨u, by simpa using h1, h2⟩
theorem Vals.append : ∀ {xs ys : List V} {us ws : List Value}, Vals xs us → Vals ys ws → Vals (xs ++ ys) (us ++ ws)
  | _, _, _, _, .nil, s => s
  | _, _, _, _, .cons r t, s => .cons r (Vals.append t s)
theorem Vals.take : ∀ {xs : List V} {us : List Value} (n : Nat), Vals xs us → Vals (xs.take n) (us.take n)
  | _, _, 0, _ => .nil
  | _, _, _ + 1, .nil => .nil
  | _, _, n + 1, .cons r t => .cons r (Vals.take n t)
theorem Vals.drop : ∀ {xs : List V} {us : List Value} (n : Nat), Vals xs us → Vals (xs.drop n) (us.drop n)
  | _, _, 0, r => r
  | _, _, _ + 1, .nil => .nil
  | _, _, n + 1, .cons _ t => Vals.drop n t
def RelO : Option V → Option Value → Prop
  | some v, some u => RelV v u
  | none, none => True
  | _, _ => False
def KV {κ : Type} : List (κ × V) → List (κ × Value) → Prop := Paired fun (p : κ × V) (q : κ × Value) => p.1 = q.1 ∧ RelV p.2 q.2
def kV : Key → V
  | .inl i => .int i
  | .inr x => .str x
inductive HO where
    | lst (xs : List V)
    | tup (xs : List V)
    | dK (kvs : List (Key × V)) | dT (kvs : List (List Key × V))
    | set (S : Int → Bool) (n : Nat)
    | ins (C dx : Addr) (fs : List (Str × V))
    | own (x : Addr)
    | xd (fs : List (Str × V))
    | met (f x : Addr)
    | rng (lo hi : Int)
    | frz (o : Obj) (u : HO)
    | tbl (ps : Array Value)
    | ext (φ : Heap → Prop)
abbrev Hp := Addr → Option HO
def upd (H : Hp) (a : Addr) (o : HO) : Hp := fun b => if b = a then some o else H b
theorem upd_same {H : Hp} {a : Addr} {o : HO} : upd H a o a = some o := by unfold upd; rw [if_pos rfl]
theorem upd_ne {H : Hp} {a b : Addr} {o : HO} (h : b ≠ a) : upd H a o b = H b := by unfold upd; rw [if_neg h]
theorem ne_of {H : Hp} {a b : Addr} {o u : HO} (h : H a = some o) (h' : H b = some u) (d : o ≠ u) : a ≠ b := by
  intro e; subst e; rw [h] at h'; exact d (Option.some.inj h')
theorem ne_of_none {H : Hp} {a b : Addr} {o : HO} (h : H a = some o) (h' : H b = none) : a ≠ b := by
  intro e; subst e; rw [h] at h'; cases h'
section
variable (P : Program) (w : World)
def ObjOk (H : Hp) (h : Heap) (a : Addr) : HO → Prop
  | .lst xs => xs.length ≤ sizeLine ∧ ∃ (its : List Value) (n : Nat), Vals xs its ∧ h.get? a = some { cls := .type "list", data := .seq its.toArray n }
  | .tup xs => xs.length ≤ sizeLine ∧ ∃ its : List Value, Vals xs its ∧ IsTup h a its.toArray
  | .dK kvs => kvs.length ≤ sizeLine ∧ (a == sysModules) = false ∧ ∃ vs, KV kvs vs ∧ h.DictOf (mixKind P w) a vs
  | .dT kvs => kvs.length ≤ sizeLine ∧ (a == sysModules) = false ∧ ∃ xs : List (List Key × Addr × Value),
      Paired (fun (p : List Key × V) (q : List Key × Addr × Value) => p.1 = q.1 ∧ H q.2.1 = some (.tup (p.1.map kV)) ∧ RelV p.2 q.2.2) kvs xs ∧
      ∃ o es ep, h.get? a = some o ∧ o.ExactDict ∧ o.data = .dict es ep ∧ es.toList = xs.map (entryOfKey (tupleKind (mixKind P w))) ∧ (xs.map (·.1)).Nodup
  | .set S n => h.SetOf (intKind P w) a S n
  | .ins C dx fs => H dx = some (.own a) ∧ fs.length ≤ 1000 ∧ dx ≠ a ∧ h.get? a = some (PySem.W.instObj C dx) ∧
      ∃ mA, h.Ns1 dx mA ∧ (∀ f, RelO (fs.lookup f) (mA f)) ∧ PySem.Within mA (fs.map (·.1))
  | .own _ => ∃ o, h.get? a = some o
  | .xd fs => ∃ mA, h.Ns1 a mA ∧ ∀ f, RelO (fs.lookup f) (mA f)
  | .rng lo hi => ∃ t u v, h.get? a = some { cls := .type "range", data := .fields #[.int lo t, .int hi u, .int 1 v] }
  | .frz o u => h.get? a = some o ∧ ObjOk H h a u
  | .tbl ps => h.get? a = some { cls := .none, data := .fields ps }
  | .met f x => h.get? a = some (PySem.W.methodObj (.ref f) (.ref x))
  | .ext φ => φ h ∧ (∃ o, h.get? a = some o) ∧ ∀ h1 h2 : Heap, φ h1 → (∀ o, h1.get? a = some o → h2.get? a = some o) → φ h2
def HOk (H : Hp) (h : Heap) : Prop := ∀ a o, H a = some o → ObjOk P w H h a o
end
section
variable {P : Program} {w : World} {H H' : Hp} {h h' : Heap} {a : Addr} {o : HO}
theorem ObjOk.lt (x : ObjOk P w H h a o) : a < h.objs.size := by
  cases o with
  | lst xs => obtain ⟨_, _, _, _, e⟩ := x; exact Heap.lt_size e
  | tup xs => obtain ⟨_, _, _, p⟩ := x; exact p.lt
  | dK kvs => obtain ⟨_, _, _, _, o, _, _, e, _⟩ := x; exact Heap.lt_size e
  | dT kvs => obtain ⟨_, _, _, _, o, _, _, e, _⟩ := x; exact Heap.lt_size e
  | set S n => obtain ⟨o, _, _, _, e, _⟩ := x; exact Heap.lt_size e
  | ins C dx fs => obtain ⟨_, _, _, e, _⟩ := x; exact Heap.lt_size e
  | own y => obtain ⟨_, e⟩ := x; exact Heap.lt_size e
  | xd fs => obtain ⟨_, ⟨_, _, _, e, _⟩, _⟩ := x; exact Heap.lt_size e
  | rng lo hi => obtain ⟨_, _, _, e⟩ := x; exact Heap.lt_size e
  | frz ob u => obtain ⟨e, _⟩ := x; exact Heap.lt_size e
  | tbl ps => exact Heap.lt_size (show h.get? a = some _ from x)
  | met f y => exact Heap.lt_size (show h.get? a = some _ from x)
  | ext φ => obtain ⟨_, ⟨_, e⟩, _⟩ := x; exact Heap.lt_size e
theorem Paired.mapP {α β : Type} {F G : α → β → Prop} : ∀ {l₁ : List α} {l₂ : List β}, Paired F l₁ l₂ → (∀ a b, F a b → G a b) → Paired G l₁ l₂
  | _, _, .nil, _ => .nil
  | _, _, .cons r t, f => .cons (f _ _ r) (Paired.mapP t f)
theorem ObjOk.stay (x : ObjOk P w H h a o) (k : ∀ b u, (b = a ∨ H b = some (.own a)) → h.get? b = some u → h'.get? b = some u)
    (ho : ∀ b, H b = some (.own a) → H' b = some (.own a)) (ht : ∀ b xs, H b = some (.tup xs) → H' b = some (.tup xs)) : ObjOk P w H' h' a o := by
  induction o with
  | lst xs => obtain ⟨z, its, n, r, e⟩ := x; exact ⟨z, its, n, r, k _ _ (.inl rfl) e⟩
  | tup xs => obtain ⟨z, its, r, ob, e, c⟩ := x; exact ⟨z, its, r, ob, k _ _ (.inl rfl) e, c⟩
  | dK kvs => obtain ⟨z, y, vs, r, ob, es, ep, e, c⟩ := x; exact ⟨z, y, vs, r, ob, es, ep, k _ _ (.inl rfl) e, c⟩
  | dT kvs =>
    obtain ⟨z, y, xs, r, ob, es, ep, e, c⟩ := x
    exact ⟨z, y, xs, Paired.mapP r fun p q z => ⟨z.1, ht _ _ z.2.1, z.2.2⟩, ob, es, ep, k _ _ (.inl rfl) e, c⟩
  | set S n => obtain ⟨ob, es, ep, t, e, c⟩ := x; exact ⟨ob, es, ep, t, k _ _ (.inl rfl) e, c⟩
  | ins C dx fs =>
    obtain ⟨d, z, ne, e, mA, ⟨od, es, ep, e2, c⟩, r⟩ := x
    exact ⟨ho _ d, z, ne, k _ _ (.inl rfl) e, mA, ⟨od, es, ep, k _ _ (.inr d) e2, c⟩, r⟩
  | own y => obtain ⟨ob, e⟩ := x; exact ⟨ob, k _ _ (.inl rfl) e⟩
  | xd fs => obtain ⟨mA, ⟨od, es, ep, e, c⟩, r⟩ := x; exact ⟨mA, ⟨od, es, ep, k _ _ (.inl rfl) e, c⟩, r⟩
  | rng lo hi => obtain ⟨t, u, v, e⟩ := x; exact ⟨t, u, v, k _ _ (.inl rfl) e⟩
  | frz ob u ih => obtain ⟨e, q⟩ := x; exact ⟨k _ _ (.inl rfl) e, ih q⟩
  | tbl ps =>
    have e : h.get? a = some { cls := .none, data := .fields ps } := x
    show h'.get? a = some { cls := .none, data := .fields ps }
    exact k a _ (.inl rfl) e
  | met f y =>
    have e : h.get? a = some (PySem.W.methodObj (.ref f) (.ref y)) := x
    show h'.get? a = some (PySem.W.methodObj (.ref f) (.ref y))
    exact k a _ (.inl rfl) e
  | ext φ => obtain ⟨p, ⟨o, e⟩, st⟩ := x; exact ⟨st _ _ p fun o q => k _ _ (.inl rfl) q, ⟨o, k _ _ (.inl rfl) e⟩, st⟩
theorem HOk.lt (x : HOk P w H h) (e : H a = some o) : a < h.objs.size := (x a o e).lt
theorem HOk.fresh (x : HOk P w H h) (e : h.objs.size ≤ a) : H a = none := by
  cases q : H a with
  | none => rfl
  | some u => exact absurd (Nat.lt_of_lt_of_le (x.lt q) e) (Nat.lt_irrefl _)
theorem HOk.kept (x : HOk P w H h) (k : ∀ b u, h.get? b = some u → h'.get? b = some u) : HOk P w H h' := fun a o e =>
  (x a o e).stay (fun b u _ q => k b u q) (fun _ q => q) fun _ _ q => q
theorem HOk.laid (x : HOk P w H h) (k : ∀ b u, h.get? b = some u → h'.get? b = some u) (hp : h.objs.size ≤ a) (new : ObjOk P w (upd H a o) h' a o) : HOk P w (upd H a o) h' := fun b u e => by
  have hn := x.fresh hp
  by_cases hb : b = a
  · subst hb; rw [upd_same] at e; cases e; exact new
  · rw [upd_ne hb] at e
    exact (x b u e).stay (fun c v _ q => k c v q) (fun c q => by rw [upd_ne (ne_of_none q hn)]; exact q) fun c xs q => by rw [upd_ne (ne_of_none q hn)]; exact q
end
def Rd (H : Hp) (a : Addr) (u : HO) : Prop := H a = some u ∨ ∃ o, H a = some (.frz o u)
theorem Rd.ok {P : Program} {w : World} {H : Hp} {h : Heap} {a : Addr} {u : HO} (r : Rd H a u) (x : HOk P w H h) : ObjOk P w H h a u := by
  rcases r with r | ⟨o, r⟩
  · exact x a u r
  · obtain ⟨_, q⟩ := x a _ r
    exact q
def Mut : Option HO → Prop
  | some (.lst _) => True
  | some (.dK _) => True
  | some (.dT _) => True
  | some (.set _ _) => True
  | some (.ins _ _ _) => True
  | some (.ext _) => True
  | _ => False
section
variable {P : Program} {w : World} {H : Hp} {h h' : Heap} {x e : Addr} {o' : HO}
theorem HOk.write (ok : HOk P w H h) (mu : Mut (H x)) (he : e = x ∨ H e = some (.own x)) (k : ∀ b u, b ≠ e → h.get? b = some u → h'.get? b = some u) (heo : ∃ u, h'.get? e = some u)
    (new : ObjOk P w (upd H x o') h' x o') : HOk P w (upd H x o') h' := fun b u q => by
  have nown : ∀ c y, H c = some (.own y) → c ≠ x := fun c y r z => by subst z; rw [r] at mu; exact mu
  have ntup : ∀ c xs, H c = some (.tup xs) → c ≠ x := fun c xs r z => by subst z; rw [r] at mu; exact mu
  by_cases hb : b = x
  · subst hb; rw [upd_same] at q; cases q; exact new
  · rw [upd_ne hb] at q
    by_cases hbe : b = e
    · have q' : H b = some (.own x) := by
        rcases he with z | z
        · exact absurd (hbe.trans z) hb
        · rw [hbe]; exact z
      rw [q] at q'; cases q'
      obtain ⟨v, hv⟩ := heo
      exact ⟨v, by rw [hbe]; exact hv⟩
    · refine (ok b u q).stay (fun c v hc r => k c v ?_ r) (fun c r => by rw [upd_ne (nown c b r)]; exact r) fun c xs r => by rw [upd_ne (ntup c xs r)]; exact r
      rcases hc with rfl | hc
      · exact hbe
      · rintro rfl
        rcases he with z | z
        · exact nown c b hc z
        · rw [hc] at z; cases z; exact hb rfl
end
structure Un (fs ex : List Addr) (H H' : Hp) (h h' : Heap) : Prop where
  keep : ∀ b o, h.get? b = some o → H b = none → b ∉ fs → b ∉ ex → h'.get? b = some o
  slot : ∀ b o, h.get? b = some o → H b = none → b ∈ fs → b ∉ ex → ∃ sl, h'.get? b = some { o with slots := sl }
  free : ∀ b o, h.get? b = some o → H b = none → b ∉ ex → H' b = none
  there : ∀ b o, h.get? b = some o → b ∉ ex → ∃ o', h'.get? b = some o'
  tups : ∀ b xs, H b = some (.tup xs) → H' b = some (.tup xs)
  frzs : ∀ b o u, H b = some (.frz o u) → H' b = some (.frz o u)
  tbls : ∀ b ps, H b = some (.tbl ps) → ∃ more, H' b = some (.tbl (ps ++ more))
section
variable {fs fs' ex ex' : List Addr} {H H1 H2 : Hp} {h h1 h2 h' : Heap} {a x e : Addr} {o : HO}
theorem Un.any (u : Un fs ex H H1 h h1) {b : Addr} {ob : Obj} (q : h.get? b = some ob) (n : H b = none) (hx : b ∉ ex) : ∃ sl, h1.get? b = some { ob with slots := sl } := by
  by_cases hb : b ∈ fs
  · exact u.slot b ob q n hb hx
  · exact ⟨ob.slots, u.keep b ob q n hb hx⟩
theorem Un.kept (k : ∀ b u, h.get? b = some u → h'.get? b = some u) : Un fs ex H H h h' :=
  ⟨fun b ob q _ _ _ => k b ob q, fun b ob q _ _ _ => ⟨ob.slots, k b ob q⟩, fun _ _ _ n _ => n, fun b ob q _ => ⟨ob, k b ob q⟩, fun _ _ q => q, fun _ _ _ q => q, fun _ ps q => ⟨#[], by rw [q]; simp⟩⟩
theorem Un.refl : Un fs ex H H h h := Un.kept fun _ _ q => q
theorem Un.laid (k : ∀ b u, h.get? b = some u → h'.get? b = some u) (hp : h.objs.size ≤ a) (hn : H a = none) : Un fs ex H (upd H a o) h h' where
  keep := fun b u q _ _ _ => k b u q
  slot := fun b u q _ _ _ => ⟨u.slots, k b u q⟩
  free := fun b u q n _ => by rw [upd_ne (Nat.ne_of_lt (Nat.lt_of_lt_of_le (Heap.lt_size q) hp))]; exact n
  there := fun b u q _ => ⟨u, k b u q⟩
  tups := fun b xs q => by rw [upd_ne (ne_of_none q hn)]; exact q
  frzs := fun b u xs q => by rw [upd_ne (ne_of_none q hn)]; exact q
  tbls := fun b ps q => ⟨#[], by rw [upd_ne (ne_of_none q hn), q]; simp⟩
theorem Un.write (mu : Mut (H x)) (he : e = x ∨ H e = some (.own x)) (k : ∀ b u, b ≠ e → h.get? b = some u → h'.get? b = some u) (heo : ∃ u, h'.get? e = some u) : Un fs ex H (upd H x o) h h' := by
  have hx : ∀ b, H b = none → b ≠ x := fun b n z => by subst z; rw [n] at mu; exact mu
  have hb : ∀ b, H b = none → b ≠ e := fun b n z => by
    subst z
    rcases he with r | r
    · exact hx b n r
    · rw [n] at r; cases r
  have hm : ∀ b u, H b = some u → ¬ Mut (some u) → b ≠ x := fun b u q nm z => by subst z; rw [q] at mu; exact nm mu
  refine ⟨fun b u q n _ _ => k b u (hb b n) q, fun b u q n _ _ => ⟨u.slots, k b u (hb b n) q⟩, fun b u q n _ => by rw [upd_ne (hx b n)]; exact n, fun b u q _ => ?_,
    fun b xs q => by rw [upd_ne (hm b _ q fun z => z)]; exact q, fun b u xs q => by rw [upd_ne (hm b _ q fun z => z)]; exact q, fun b ps q => ⟨#[], by rw [upd_ne (hm b _ q fun z => z), q]; simp⟩⟩
  by_cases hbe : b = e
  · subst hbe; exact heo
  · exact ⟨u, k b u hbe q⟩
end
def trk (h : Heap) (H : Hp) : List Addr := (List.range h.objs.size).filter fun a => (H a).isSome
def hidT (h : Heap) (H : Hp) : Heap := PySem.W.hideAll h (trk h H)
theorem hidT_size (h : Heap) (H : Hp) : (hidT h H).objs.size = h.objs.size := PySem.W.hideAll_size _ _
theorem hidT_get {h : Heap} {H : Hp} {b : Addr} {o : Obj} (e : h.get? b = some o) (n : H b = none) : (hidT h H).get? b = some o :=
  PySem.W.hideAll_get _ e fun hm => by
    have q : (H b).isSome = true := (List.mem_filter.mp hm).2
    rw [n] at q; simp at q
theorem of_hidT {h : Heap} {H : Hp} {b : Addr} {o : Obj} (e : (hidT h H).get? b = some o) : h.get? b = some o ∧ H b = none := by
  have e' : h.get? b = some o := PySem.W.of_hideAll (trk h H) e
  refine ⟨e', ?_⟩
  cases q : H b with
  | none => rfl
  | some x =>
    have hm : b ∈ trk h H := List.mem_filter.mpr ⟨List.mem_range.mpr (Heap.lt_size e'), by simp [q]⟩
    have z : (hidT h H).get? b = none := PySem.W.hideAll_none (trk h H) hm
    rw [z] at e; cases e
def allNews (g h : Heap) (L : Addr) : List (Addr × Obj) := (List.range h.objs.size).filterMap fun a => if a = L ∨ (g.get? a).isSome = true then none else (h.get? a).map fun o => (a, o)
theorem mem_allNews {g h : Heap} {L a : Addr} {o : Obj} (h1 : a ≠ L) (h2 : g.get? a = none) (h3 : h.get? a = some o) : (a, o) ∈ allNews g h L :=
  List.mem_filterMap.mpr ⟨a, List.mem_range.mpr (Heap.lt_size h3), by simp [h1, h2, h3]⟩
theorem of_mem_allNews {g h : Heap} {L : Addr} {p : Addr × Obj} (hp : p ∈ allNews g h L) : p.1 ≠ L ∧ g.get? p.1 = none ∧ h.get? p.1 = some p.2 := by
  obtain ⟨b, _, e⟩ := List.mem_filterMap.mp hp
  split at e
  · cases e
  · rename_i hn
    cases q : h.get? b with
    | none => rw [q] at e; simp at e
    | some u =>
      rw [q] at e
      simp only [Option.map_some, Option.some.injEq] at e
      subst e
      refine ⟨fun z => hn (.inl z), ?_, q⟩
      show g.get? b = none
      cases r : g.get? b with
      | none => rfl
      | some v => exact (hn (.inr (by simp [r]))).elim
theorem news_all {g h : Heap} {L : Addr} : News g L h (allNews g h L) := fun p hp => let ⟨a, b, c⟩ := of_mem_allNews hp; ⟨c, a, b⟩
end L2
namespace L2
open PySem PySem.Spec PyProof.Rows
structure Mod (K : PySem.W.Frag) (mg : Str → Option Value) (base : Heap) : Prop where
  kin : K.In base
  glob : base.Ns mainGlobals mg
  blt : ∃ mb, base.Ns builtinsNs mb ∧ ∀ x : Str, x ≠ "__name__" → mb x = bootBuiltins x
  nolimit : base.NoLimit
structure Cx where
  prog : Program
  w : World
  K : PySem.W.Frag
  mg : Str → Option Value
  base : Heap
  A : Around
  N : List Str
  s₀ : Shared
  H₀ : Hp
  env : Env
  outer : List Env
  stack : List Env
  ex : List Addr
  fn : Str → Bool
  calm : Bool
  pn : List (Addr × Obj)
  xe : Value → Shared → Prop
def frs (l : List Env) : List Addr := l.filterMap (·.frame)
abbrev Cx.fs (X : Cx) : List Addr := frs X.outer
def Vis (sc : Scope) (x : Str) : Prop := sc.names.lookup x = some .local ∨ sc.names.lookup x = some .cell ∨ sc.names.lookup x = some .free
def Loc (sc : Scope) (x : Str) : Prop := sc.names.lookup x = some .local ∨ sc.names.lookup x = some .cell
def Look (env : Env) (h : Heap) (m : Str → Option Value) (x : Str) (u : Value) : Prop :=
  (env.kindOf x = some .local ∧ m x = some u) ∨ ((env.kindOf x = some .cell ∨ env.kindOf x = some .free) ∧ ∃ c, env.cells.lookup x = some c ∧ h.IsCell c (some u))
structure Cx.Ok (X : Cx) : Prop where
  mod : Mod X.K X.mg X.base
  kind : X.env.scope.kind = .function
  glob : X.env.globals = mainGlobals
  blt : X.env.builtins = builtinsNs
  above : X.s₀.heap.objs.size ≤ X.env.locals
  inj : ∀ x y c, X.env.cells.lookup x = some c → X.env.cells.lookup y = some c → x = y
  has : ∀ x, (X.env.kindOf x = some .cell ∨ X.env.kindOf x = some .free) → ∃ c, X.env.cells.lookup x = some c
  cab : ∀ x c, X.fn x = true → X.env.cells.lookup x = some c → X.s₀.heap.objs.size ≤ c
  hd : X.calm = true → X.A.handled = none
  frames : X.A.frames = some X.stack
  stk : X.stack = X.outer ∨ (X.stack = X.env :: X.outer ∧ X.env.frame = some X.env.locals)
  exf : ∀ b ∈ X.ex, b ≠ X.env.locals ∧ ∀ x c, X.env.cells.lookup x = some c → c ≠ b
  bs : ∀ b o, X.base.get? b = some o → X.s₀.heap.get? b = some o ∧ X.H₀ b = none
  bsz : X.base.objs.size ≤ X.s₀.heap.objs.size
  noex : ∀ b o, X.base.get? b = some o → b ∉ X.ex
  exfs : ∀ b ∈ X.ex, b ∉ X.fs
  funs : X.s₀.heap.FunFrames X.base X.outer
  frf : ∀ b ∈ X.fs, X.H₀ b = none
structure Inv (X : Cx) (pins : List (Addr × Obj)) (σ : List (Option V)) (H : Hp) (s : Shared) : Prop where
  ok : X.Ok
  os : s.os = X.s₀.os
  bare : AllBare s.gens
  base : Un X.fs X.ex X.H₀ H X.s₀.heap s.heap
  loc : ∃ m, s.heap.Ns X.env.locals m ∧ ∀ (i : Nat) (x : Str) (v : V), X.N[i]? = some x → σ[i]? = some (some v) → Vis X.env.scope x → ∃ u, RelV v u ∧ Look X.env s.heap m x u
  cell : ∀ x c, X.env.cells.lookup x = some c → ∃ v, s.heap.IsCell c v
  free : H X.env.locals = none
  freeC : ∀ x c, X.env.cells.lookup x = some c → H c = none
  pin : ∀ p ∈ X.pn ++ pins, s.heap.get? p.1 = some p.2 ∧ H p.1 = none ∧ p.1 ≠ X.env.locals ∧ p.1 ∉ X.fs ∧ ∀ v, p.2.data ≠ .cell v
  hok : HOk X.prog X.w H s.heap
  len : σ.length = X.N.length
section
variable {X : Cx} {pins : List (Addr × Obj)} {σ : List (Option V)} {H H' : Hp} {s : Shared} {h' : Heap}
theorem Cx.Ok.nofr (ok : X.Ok) {b : Addr} {o : Obj} (e : X.base.get? b = some o) : b ∉ X.fs := fun hb => by
  have := (ok.funs.mem hb).1
  rw [e] at this; cases this
theorem Inv.bs (I : Inv X pins σ H s) : ∀ b o, X.base.get? b = some o → s.heap.get? b = some o ∧ H b = none := fun b o e =>
  ⟨I.base.keep b o (I.ok.bs b o e).1 (I.ok.bs b o e).2 (I.ok.nofr e) (I.ok.noex b o e), I.base.free b o (I.ok.bs b o e).1 (I.ok.bs b o e).2 (I.ok.noex b o e)⟩
theorem Inv.bk (I : Inv X pins σ H s) : ∀ b o, X.base.get? b = some o → s.heap.get? b = some o := fun b o e => (I.bs b o e).1
theorem Inv.mod (I : Inv X pins σ H s) : Mod X.K X.mg X.base := I.ok.mod
theorem Inv.kIn (I : Inv X pins σ H s) : X.K.In s.heap := I.ok.mod.kin.keeps I.bk
theorem Inv.fr (I : Inv X pins σ H s) : ∃ m, Fr X.base X.env.locals s.heap m :=
  let ⟨m, hn, _⟩ := I.loc
  ⟨m, hn, I.bk, Nat.le_trans I.ok.bsz I.ok.above⟩
theorem Inv.lt (I : Inv X pins σ H s) : X.env.locals < s.heap.objs.size := let ⟨_, hn, _⟩ := I.loc; hn.lt
theorem Inv.sz (I : Inv X pins σ H s) : X.s₀.heap.objs.size ≤ s.heap.objs.size := Nat.le_trans I.ok.above (Nat.le_of_lt I.lt)
theorem Inv.nofs (I : Inv X pins σ H s) {a : Addr} (h : s.heap.objs.size ≤ a) : a ∉ X.fs := fun hb => by
  obtain ⟨_, o, ho, _⟩ := I.ok.funs.mem hb
  exact absurd (Nat.lt_of_lt_of_le (Heap.lt_size ho) (Nat.le_trans I.sz h)) (Nat.lt_irrefl _)
theorem Inv.cne (I : Inv X pins σ H s) : ∀ x c, X.env.cells.lookup x = some c → c ≠ X.env.locals := fun x c e z => by
  obtain ⟨v, o, ho, hd⟩ := I.cell x c e
  obtain ⟨m, ⟨o', es, ep, ho', hd', _⟩, _⟩ := I.loc
  rw [z, ho'] at ho; cases ho; rw [hd'] at hd; cases hd
theorem Inv.funs (I : Inv X pins σ H s) : s.heap.FunFrames X.base X.outer := by
  have all : ∀ (l : List Env), (∀ b ∈ frs l, b ∈ X.fs) → X.s₀.heap.FunFrames X.base l → s.heap.FunFrames X.base l := by
    intro l
    induction l with
    | nil => intro _ _; trivial
    | cons env r ih =>
      intro hs hl
      obtain ⟨hk, ⟨L, o, hf, hn, ho, hd⟩, hr⟩ := hl
      have hL : L ∈ X.fs := hs L (by unfold frs; rw [List.filterMap_cons, hf]; exact List.mem_cons_self)
      obtain ⟨sl, e⟩ := I.base.slot L o ho (I.ok.frf L hL) hL fun z => I.ok.exfs L z hL
      exact ⟨hk, ⟨L, _, hf, hn, e, hd⟩, ih (fun b hb => hs b (by unfold frs; rw [List.filterMap_cons, hf]; exact List.mem_cons_of_mem _ hb)) hr⟩
  exact all X.outer (fun _ hb => hb) I.ok.funs
theorem Inv.stack (I : Inv X pins σ H s) : s.heap.FunFrames X.base X.stack := by
  rcases I.ok.stk with e | ⟨e, hf⟩
  · rw [e]; exact I.funs
  · rw [e]
    obtain ⟨m, hn, _⟩ := I.loc
    refine .cons (by rw [I.ok.kind]; decide) hf hn ?_ I.funs
    exact Heap.get?_none_of_le (Nat.le_trans I.ok.bsz I.ok.above)
theorem Inv.stkSub (I : Inv X pins σ H s) : ∀ b ∈ frs X.stack, b ∈ X.env.locals :: X.fs := fun b hb => by
  rcases I.ok.stk with e | ⟨e, hf⟩
  · rw [e] at hb; exact List.mem_cons_of_mem _ hb
  · rw [e] at hb
    unfold frs at hb
    rw [List.filterMap_cons, hf] at hb
    exact hb
theorem Inv.stkFree (I : Inv X pins σ H s) : ∀ b ∈ frs X.stack, H b = none := fun b hb => by
  rcases List.mem_cons.mp (I.stkSub b hb) with e | hb
  · rw [e]; exact I.free
  · obtain ⟨_, o, ho, _⟩ := I.ok.funs.mem hb
    exact I.base.free b o ho (I.ok.frf b hb) fun z => I.ok.exfs b z hb
theorem Inv.step {g' : Array GenState} {t' : Nat} {d' : Drawn} {ch : List Addr} (I : Inv X pins σ H s)
    (hch : ∀ b ∈ ch, (b ∈ X.ex ∨ X.s₀.heap.objs.size ≤ b) ∧ b ≠ X.env.locals ∧ (∀ x c, X.env.cells.lookup x = some c → c ≠ b) ∧ ∀ p ∈ X.pn ++ pins, p.1 ≠ b)
    (keep : ∀ b o, b ≠ X.env.locals → b ∉ X.fs → b ∉ ch → s.heap.get? b = some o → H b = none → h'.get? b = some o)
    (slot : ∀ b o, b ≠ X.env.locals → b ∈ X.fs → b ∉ ch → s.heap.get? b = some o → H b = none → ∃ sl, h'.get? b = some { o with slots := sl }) (free : ∀ b o, b ∉ ch → s.heap.get? b = some o → H b = none → H' b = none)
    (there : ∀ b o, b ∉ ch → s.heap.get? b = some o → ∃ o', h'.get? b = some o')
    (tups : ∀ b xs, H b = some (.tup xs) → H' b = some (.tup xs)) (frzs : ∀ b o u, H b = some (.frz o u) → H' b = some (.frz o u)) (tbls : ∀ b ps, H b = some (.tbl ps) → ∃ more, H' b = some (.tbl (ps ++ more)))
    (ns : ∀ m, s.heap.Ns X.env.locals m → h'.Ns X.env.locals m) (hok : HOk X.prog X.w H' h') (hg : AllBare g') :
    Inv X pins σ H' { s with heap := h', gens := g', drawn := d', toks := t' } := by
  have neL : ∀ b o, X.s₀.heap.get? b = some o → b ≠ X.env.locals := fun b o e => Nat.ne_of_lt (Nat.lt_of_lt_of_le (Heap.lt_size e) I.ok.above)
  have neC : ∀ b o, X.s₀.heap.get? b = some o → b ∉ X.ex → b ∉ ch := fun b o e hx hb => by
    rcases (hch b hb).1 with z | z
    · exact hx z
    · exact absurd (Nat.lt_of_lt_of_le (Heap.lt_size e) z) (Nat.lt_irrefl _)
  have cellK : ∀ x c, X.env.cells.lookup x = some c → ∀ v, s.heap.IsCell c v → h'.IsCell c v := fun x c e v ⟨o, ho, hd⟩ => by
    have nch : c ∉ ch := fun z => (hch c z).2.2.1 x c e rfl
    by_cases hc : c ∈ X.fs
    · obtain ⟨sl, q⟩ := slot c o (I.cne x c e) hc nch ho (I.freeC x c e)
      exact ⟨_, q, hd⟩
    · exact ⟨o, keep c o (I.cne x c e) hc nch ho (I.freeC x c e), hd⟩
  refine ⟨I.ok, I.os, hg, ⟨fun b o e n hb hx => ?_, fun b o e n hb hx => ?_, fun b o e n hx => ?_, fun b o e hx => ?_, fun b xs e => tups b xs (I.base.tups b xs e), fun b o xs e => frzs b o xs (I.base.frzs b o xs e), fun b ps e => ?_⟩, ?_, fun x c e => ?_, ?_, fun x c e => ?_, fun p hp => ?_, hok, I.len⟩
  · exact keep b o (neL b o e) hb (neC b o e hx) (I.base.keep b o e n hb hx) (I.base.free b o e n hx)
  · obtain ⟨sl, e1⟩ := I.base.slot b o e n hb hx
    obtain ⟨sl', e2⟩ := slot b _ (neL b o e) hb (neC b o e hx) e1 (I.base.free b o e n hx)
    exact ⟨sl', e2⟩
  · obtain ⟨o', e1⟩ := I.base.there b o e hx
    exact free b o' (neC b o e hx) e1 (I.base.free b o e n hx)
  · obtain ⟨o', e1⟩ := I.base.there b o e hx
    exact there b o' (neC b o e hx) e1
  · obtain ⟨m1, e1⟩ := I.base.tbls b ps e
    obtain ⟨m2, e2⟩ := tbls b _ e1
    exact ⟨m1 ++ m2, by rw [e2, Array.append_assoc]⟩
  · obtain ⟨m, hn, hl⟩ := I.loc
    refine ⟨m, ns m hn, fun i x v e1 e2 e3 => ?_⟩
    obtain ⟨u, r, l⟩ := hl i x v e1 e2 e3
    refine ⟨u, r, ?_⟩
    rcases l with l | ⟨k, c, e, z⟩
    · exact .inl l
    · exact .inr ⟨k, c, e, cellK x c e _ z⟩
  · obtain ⟨v, z⟩ := I.cell x c e
    exact ⟨v, cellK x c e v z⟩
  · obtain ⟨m, ⟨o, _, _, ho, _⟩, _⟩ := I.loc
    exact free _ o (fun z => (hch _ z).2.1 rfl) ho I.free
  · obtain ⟨v, o, ho, hd⟩ := I.cell x c e
    exact free c o (fun z => (hch c z).2.2.1 x c e rfl) ho (I.freeC x c e)
  · obtain ⟨e, n, ne, nf, d⟩ := I.pin p hp
    have nch : p.1 ∉ ch := fun z => (hch p.1 z).2.2.2 p hp rfl
    exact ⟨keep p.1 p.2 ne nf nch e n, free p.1 p.2 nch e n, ne, nf, d⟩
theorem Inv.un {t' : Nat} (I : Inv X pins σ H s) (u : Un X.fs [] H H' s.heap h') (hok : HOk X.prog X.w H' h') : Inv X pins σ H' { s with heap := h', toks := t' } := by
  obtain ⟨m, ⟨o, es, ep, ho, r⟩, _⟩ := id I.loc
  obtain ⟨sl, hL⟩ := u.any ho I.free (by simp)
  exact I.step (g' := s.gens) (d' := s.drawn) (ch := []) (fun _ z => nomatch z) (fun b o _ hb _ e n => u.keep b o e n hb (by simp)) (fun b o _ hb _ e n => u.slot b o e n hb (by simp)) (fun b o _ e n => u.free b o e n (by simp)) (fun b o _ e => u.there b o e (by simp)) u.tups u.frzs u.tbls (fun m' hm => by
    obtain ⟨o', es', ep', ho', r'⟩ := hm
    rw [ho] at ho'; cases ho'
    exact ⟨_, es', ep', hL, r'⟩) hok I.bare
theorem Inv.call {g' : Array GenState} {t' : Nat} {d' : Drawn} {ch : List Addr} (I : Inv X pins σ H s) (u : Un (frs X.stack) ch H H' s.heap h') (hok : HOk X.prog X.w H' h') (hg : AllBare g')
    (hch : ∀ b ∈ ch, (b ∈ X.ex ∨ X.s₀.heap.objs.size ≤ b) ∧ b ≠ X.env.locals ∧ (∀ x c, X.env.cells.lookup x = some c → c ≠ b) ∧ ∀ p ∈ X.pn ++ pins, p.1 ≠ b) :
    Inv X pins σ H' { s with heap := h', gens := g', drawn := d', toks := t' } := by
  obtain ⟨m, ⟨o, es, ep, ho, r⟩, _⟩ := id I.loc
  obtain ⟨sl, hL⟩ := u.any ho I.free fun z => (hch _ z).2.1 rfl
  exact I.step (ch := ch) hch (fun b o hL hb hc e n => u.keep b o e n (fun z => (List.mem_cons.mp (I.stkSub b z)).elim hL hb) hc) (fun b o _ _ hc e n => u.any e n hc) (fun b o hc e n => u.free b o e n hc) (fun b o hc e => u.there b o e hc) u.tups u.frzs u.tbls (fun m' hm => by
    obtain ⟨o', es', ep', ho', r'⟩ := hm
    rw [ho] at ho'; cases ho'
    exact ⟨_, es', ep', hL, r'⟩) hok hg
theorem Inv.turned {t' : Nat} {it : Addr} (I : Inv X pins σ H s) (k : ∀ b o, b ≠ it → s.heap.get? b = some o → h'.get? b = some o) (hn : H it = none) (hL : it ≠ X.env.locals)
    (h1 : it ∈ X.ex ∨ X.s₀.heap.objs.size ≤ it) (h2 : ∀ x c, X.env.cells.lookup x = some c → c ≠ it) (h3 : ∀ p ∈ X.pn ++ pins, p.1 ≠ it) : Inv X pins σ H { s with heap := h', toks := t' } := by
  have nit : ∀ b u, H b = some u → b ≠ it := fun b u e z => by rw [z, hn] at e; cases e
  refine I.step (g' := s.gens) (d' := s.drawn) (ch := [it]) (fun b hb => ?_) (fun b o _ _ hc e _ => k b o (fun z => hc (by simp [z])) e) (fun b o _ _ hc e _ => ⟨o.slots, k b o (fun z => hc (by simp [z])) e⟩) (fun _ _ _ _ n => n)
    (fun b o hc e => ⟨o, k b o (fun z => hc (by simp [z])) e⟩) (fun _ _ e => e) (fun _ _ _ e => e) (fun b ps e => ⟨#[], by rw [e]; simp⟩) (fun m hm => ?_) (fun b u e => ?_) I.bare
  · have e : b = it := by simpa using hb
    subst e
    exact ⟨h1, hL, h2, h3⟩
  · obtain ⟨o, es, ep, ho, r⟩ := hm
    exact ⟨o, es, ep, k _ o (Ne.symm hL) ho, r⟩
  · refine (I.hok b u e).stay (fun c v hc q => k c v ?_ q) (fun _ q => q) fun _ _ q => q
    rcases hc with z | z
    · rw [z]; exact nit b u e
    · exact nit c _ z
theorem Inv.tok (I : Inv X pins σ H s) (t : Nat) : Inv X pins σ H { s with toks := t } := I.un (h' := s.heap) (t' := t) Un.refl I.hok
theorem Inv.kept {t' : Nat} (I : Inv X pins σ H s) (k : ∀ b u, s.heap.get? b = some u → h'.get? b = some u) : Inv X pins σ H { s with heap := h', toks := t' } := I.un (Un.kept k) (I.hok.kept k)
theorem Inv.laid {a : Addr} {o : HO} {t' : Nat} (I : Inv X pins σ H s) (k : ∀ b u, s.heap.get? b = some u → h'.get? b = some u) (hp : s.heap.objs.size ≤ a) (new : ObjOk X.prog X.w (upd H a o) h' a o) :
    Inv X pins σ (upd H a o) { s with heap := h', toks := t' } := I.un (Un.laid k hp (I.hok.fresh hp)) (I.hok.laid k hp new)
theorem Inv.write {x e : Addr} {o : HO} {t' : Nat} (I : Inv X pins σ H s) (mu : Mut (H x)) (he : e = x ∨ H e = some (.own x)) (k : ∀ b u, b ≠ e → s.heap.get? b = some u → h'.get? b = some u) (heo : ∃ u, h'.get? e = some u)
    (new : ObjOk X.prog X.w (upd H x o) h' x o) : Inv X pins σ (upd H x o) { s with heap := h', toks := t' } := I.un (Un.write mu he k heo) (I.hok.write mu he k heo new)
theorem Inv.pins_of {pins' : List (Addr × Obj)} (I : Inv X pins σ H s) (h : ∀ p ∈ pins', s.heap.get? p.1 = some p.2 ∧ H p.1 = none ∧ p.1 ≠ X.env.locals ∧ p.1 ∉ X.fs ∧ ∀ v, p.2.data ≠ .cell v) : Inv X pins' σ H s :=
  ⟨I.ok, I.os, I.bare, I.base, I.loc, I.cell, I.free, I.freeC, fun p hp => (List.mem_append.mp hp).elim (fun z => I.pin p (List.mem_append_left _ z)) (h p), I.hok, I.len⟩
theorem nodup_ix {N : List Str} (hN : N.Nodup) {i j : Nat} {x : Str} (a : N[i]? = some x) (b : N[j]? = some x) : i = j := by
  obtain ⟨h1, e1⟩ := List.getElem?_eq_some_iff.mp a
  obtain ⟨h2, e2⟩ := List.getElem?_eq_some_iff.mp b
  exact (List.getElem_inj hN).mp (e1.trans e2.symm)
theorem store_ok2 {M : Model} {A : Around} {E : Value → Shared → Prop} {i : Nat} {x : Str} {v : V} {u : Value} {Q : Unit → Shared → Prop} (I : Inv X pins σ H s) (hN : X.N.Nodup) (hi : X.N[i]? = some x) (hx : Loc X.env.scope x) (r : RelV v u)
    (h : ∀ s', Inv X pins (σ.set i (some v)) H s' → (∃ a, Heap.SameBut a s.heap s'.heap ∧ (a = X.env.locals ∨ X.env.cells.lookup x = some a)) → Q () s') (hf : X.fn x = true ∨ X.env.scope.names.lookup x = some .local := by first | exact .inl rfl | exact .inr rfl | assumption) : wpAny M A (storeName X.env x u) Q E s := by
  obtain ⟨m, hn, hl⟩ := id I.loc
  have hcls : (X.env.scope.kind == .class || (X.env.scope.kind == .module && X.env.locals != X.env.globals)) = false := by rw [I.ok.kind]; rfl
  have hiσ : i < σ.length := by rw [I.len]; exact (List.getElem?_eq_some_iff.mp hi).1
  have cne := I.cne
  have tracked : ∀ {a : Addr} {h' : Heap}, (∃ o, s.heap.get? a = some o ∧ H a = none) → Heap.SameBut a s.heap h' → HOk X.prog X.w H h' := fun {a h'} ha hs b ob e => by
    obtain ⟨_, _, hfree⟩ := ha
    refine (I.hok b ob e).stay (fun c w' hc q => (hs.2 c ?_).trans q) (fun _ q => q) fun _ _ q => q
    rintro rfl
    rcases hc with rfl | hc
    · rw [hfree] at e; cases e
    · rw [hfree] at hc; cases hc
  rcases hx with hk | hk
  · refine wpAny_storeName_local hk hn (fun h' hn' hs => ?_) hcls
    obtain ⟨oL, _, _, hoL, _⟩ := id hn
    refine h _ ⟨I.ok, I.os, I.bare, ⟨fun b o e n hb hx => ?_, fun b o e n hb hx => ?_, I.base.free, fun b o e hx => ?_, I.base.tups, I.base.frzs, I.base.tbls⟩, ⟨_, hn', fun j y v' e1 e2 e3 => ?_⟩, fun y c e => ?_, I.free, I.freeC, fun p hp => ?_, tracked ⟨oL, hoL, I.free⟩ hs, by simpa using I.len⟩ ⟨_, hs, .inl rfl⟩
    · exact (hs.2 b (Nat.ne_of_lt (Nat.lt_of_lt_of_le (Heap.lt_size e) I.ok.above))).trans (I.base.keep b o e n hb hx)
    · obtain ⟨sl, e1⟩ := I.base.slot b o e n hb hx
      exact ⟨sl, (hs.2 b (Nat.ne_of_lt (Nat.lt_of_lt_of_le (Heap.lt_size e) I.ok.above))).trans e1⟩
    · obtain ⟨o', e1⟩ := I.base.there b o e hx
      exact ⟨o', (hs.2 b (Nat.ne_of_lt (Nat.lt_of_lt_of_le (Heap.lt_size e) I.ok.above))).trans e1⟩
    · by_cases hj : j = i
      · subst hj
        rw [hi] at e1; cases e1
        rw [List.getElem?_set_self hiσ] at e2
        cases e2
        exact ⟨u, r, .inl ⟨hk, by simp⟩⟩
      · rw [List.getElem?_set_ne (Ne.symm hj)] at e2
        obtain ⟨u', r', q⟩ := hl j y v' e1 e2 e3
        refine ⟨u', r', ?_⟩
        rcases q with ⟨k, e⟩ | ⟨k, c, e, z⟩
        · refine .inl ⟨k, ?_⟩
          have : y ≠ x := fun e => hj (nodup_ix hN e1 (e ▸ hi))
          simp [this, e]
        · exact .inr ⟨k, c, e, z.sameBut hs (cne y c e)⟩
    · obtain ⟨w', z⟩ := I.cell y c e
      exact ⟨w', z.sameBut hs (cne y c e)⟩
    · obtain ⟨e, n, ne, nf, d⟩ := I.pin p hp
      exact ⟨(hs.2 p.1 ne).trans e, n, ne, nf, d⟩
  · have hfn : X.fn x = true := by
      rcases hf with z | z
      · exact z
      · rw [z] at hk; cases hk
    obtain ⟨c, hc⟩ := I.ok.has x (.inl hk)
    obtain ⟨w', z⟩ := I.cell x c hc
    refine wpAny_storeName_cell I.ok.kind hk hc z (fun h' hc' hs => ?_)
    obtain ⟨oc, hoc, hocd⟩ := id z
    refine h { s with heap := h' } ⟨I.ok, I.os, I.bare, ⟨fun b o e n hb hx => ?_, fun b o e n hb hx => ?_, I.base.free, fun b o e hx => ?_, I.base.tups, I.base.frzs, I.base.tbls⟩, ⟨m, hn.sameBut hs (Ne.symm (cne x c hc)), fun j y v' e1 e2 e3 => ?_⟩, fun y c' e => ?_, I.free, I.freeC, fun p hp => ?_, tracked ⟨oc, hoc, I.freeC x c hc⟩ hs, by simpa using I.len⟩ ⟨c, hs, .inr hc⟩
    · exact (hs.2 b (Nat.ne_of_lt (Nat.lt_of_lt_of_le (Heap.lt_size e) (I.ok.cab x c hfn hc)))).trans (I.base.keep b o e n hb hx)
    · obtain ⟨sl, e1⟩ := I.base.slot b o e n hb hx
      exact ⟨sl, (hs.2 b (Nat.ne_of_lt (Nat.lt_of_lt_of_le (Heap.lt_size e) (I.ok.cab x c hfn hc)))).trans e1⟩
    · obtain ⟨o', e1⟩ := I.base.there b o e hx
      exact ⟨o', (hs.2 b (Nat.ne_of_lt (Nat.lt_of_lt_of_le (Heap.lt_size e) (I.ok.cab x c hfn hc)))).trans e1⟩
    · by_cases hj : j = i
      · subst hj
        rw [hi] at e1; cases e1
        rw [List.getElem?_set_self hiσ] at e2
        cases e2
        exact ⟨u, r, .inr ⟨.inl hk, c, hc, hc'⟩⟩
      · rw [List.getElem?_set_ne (Ne.symm hj)] at e2
        obtain ⟨u', r', q⟩ := hl j y v' e1 e2 e3
        refine ⟨u', r', ?_⟩
        rcases q with q | ⟨k, c', e, z'⟩
        · exact .inl q
        · refine .inr ⟨k, c', e, z'.sameBut hs ?_⟩
          rintro rfl
          exact hj (nodup_ix hN e1 (I.ok.inj _ _ _ e hc ▸ hi))
    · by_cases hcc : c' = c
      · subst hcc; exact ⟨_, hc'⟩
      · obtain ⟨w2, z2⟩ := I.cell y c' e
        exact ⟨w2, z2.sameBut hs hcc⟩
    · obtain ⟨e, n, ne, nf, d⟩ := I.pin p hp
      refine ⟨(hs.2 p.1 ?_).trans e, n, ne, nf, d⟩
      intro q
      rw [q, hoc] at e
      have q' : oc = p.2 := Option.some.inj e
      exact d w' (by rw [← q']; exact hocd)
theorem store_ok {M : Model} {A : Around} {E : Value → Shared → Prop} {i : Nat} {x : Str} {v : V} {u : Value} {Q : Unit → Shared → Prop} (I : Inv X pins σ H s) (hN : X.N.Nodup) (hi : X.N[i]? = some x) (hx : Loc X.env.scope x) (r : RelV v u)
    (h : ∀ s', Inv X pins (σ.set i (some v)) H s' → Q () s') (hf : X.fn x = true ∨ X.env.scope.names.lookup x = some .local := by first | exact .inl rfl | exact .inr rfl | assumption) : wpAny M A (storeName X.env x u) Q E s :=
  store_ok2 I hN hi hx r (fun s' I' _ => h s' I') hf
theorem Inv.call' {s' : Shared} {ch : List Addr} (I : Inv X pins σ H s) (ho : s'.os = s.os) (u : Un (frs X.stack) ch H H' s.heap s'.heap) (hok : HOk X.prog X.w H' s'.heap) (hg : AllBare s'.gens)
    (hch : ∀ b ∈ ch, (b ∈ X.ex ∨ X.s₀.heap.objs.size ≤ b) ∧ b ≠ X.env.locals ∧ (∀ x c, X.env.cells.lookup x = some c → c ≠ b) ∧ ∀ p ∈ X.pn ++ pins, p.1 ≠ b) : Inv X pins σ H' s' := by
  obtain ⟨h', g', d', t', o'⟩ := s'
  have e : o' = s.os := ho
  subst e
  exact I.call (g' := g') (t' := t') (d' := d') u hok hg hch
end
abbrev XK := Value → Option Addr → Hp → Prop
abbrev St := List (Option V)
abbrev VK := V → Hp → Prop
abbrev TE := St → Hp → VK → Prop
abbrev TT := St → Hp → (Bool → Hp → Prop) → Prop
abbrev TA := St → Hp → (List V → Hp → Prop) → Prop
structure Ends where
  nx : St → Hp → Prop
  rt : VK
  bk : St → Hp → Prop := fun _ _ => False
  ct : St → Hp → Prop := fun _ _ => False
abbrev TS := Ends → St → Hp → Prop
def EP (X : Cx) (pins : List (Addr × Obj)) (σ : St) (Q : VK) (u : Value) (s' : Shared) : Prop := ∃ v H', Inv X pins σ H' s' ∧ RelV v u ∧ Q v H'
def TP (X : Cx) (pins : List (Addr × Obj)) (σ : St) (Q : Bool → Hp → Prop) (b : Bool) (s' : Shared) : Prop := ∃ H', Inv X pins σ H' s' ∧ Q b H'
def AP (X : Cx) (pins : List (Addr × Obj)) (σ : St) (Q : List V → Hp → Prop) (us : List Value) (s' : Shared) : Prop := ∃ vs H', Inv X pins σ H' s' ∧ Vals vs us ∧ Q vs H'
def SP (X : Cx) (pins : List (Addr × Obj)) (D : Ends) (f : Flow) (s' : Shared) : Prop :=
  match f with
  | .next => ∃ σ' H', Inv X pins σ' H' s' ∧ D.nx σ' H'
  | .brk => ∃ σ' H', Inv X pins σ' H' s' ∧ D.bk σ' H'
  | .cont => ∃ σ' H', Inv X pins σ' H' s' ∧ D.ct σ' H'
  | .ret u => ∃ v σ' H', Inv X pins σ' H' s' ∧ RelV v u ∧ D.rt v H'
def PE (X : Cx) (e : Expr) (t : TE) : Prop :=
  ∀ (pins : List (Addr × Obj)) (s : Shared) (σ : St) (H : Hp) (Q : VK), Inv X pins σ H s → t σ H Q → wpAny (model X.prog X.w) X.A (eval e X.env) (EP X pins σ Q) X.xe s
def PT (X : Cx) (e : Expr) (t : TT) : Prop :=
  ∀ (pins : List (Addr × Obj)) (s : Shared) (σ : St) (H : Hp) (Q : Bool → Hp → Prop), Inv X pins σ H s → t σ H Q → wpAny (model X.prog X.w) X.A (isTrue e X.env (eval e X.env)) (TP X pins σ Q) X.xe s
def PW (X : Cx) (e : Expr) (t : TT) : Prop :=
  ∀ (whole : Sem Value) (pins : List (Addr × Obj)) (s : Shared) (σ : St) (H : Hp) (Q : Bool → Hp → Prop), Inv X pins σ H s → t σ H Q → wpAny (model X.prog X.w) X.A (isTrue e X.env whole) (TP X pins σ Q) X.xe s
theorem PW.pt {X : Cx} {e : Expr} {t : TT} (h : PW X e t) : PT X e t := h _
def PA (X : Cx) (es : List Expr) (t : TA) : Prop :=
  ∀ (pos : Pos) (pins : List (Addr × Obj)) (s : Shared) (σ : St) (H : Hp) (Q : List V → Hp → Prop), Inv X pins σ H s → t σ H Q → wpAny (model X.prog X.w) X.A (spliced (backTo pos (starEach es X.env))) (AP X pins σ Q) X.xe s
def PS (X : Cx) (st : Stmt) (t : TS) : Prop :=
  ∀ (pins : List (Addr × Obj)) (s : Shared) (σ : St) (H : Hp) (D : Ends), Inv X pins σ H s → t D σ H → wpAny (model X.prog X.w) X.A (exec st X.env) (SP X pins D) X.xe s
def PSs (X : Cx) (st : List Stmt) (t : TS) : Prop :=
  ∀ (pins : List (Addr × Obj)) (s : Shared) (σ : St) (H : Hp) (D : Ends), Inv X pins σ H s → t D σ H → wpAny (model X.prog X.w) X.A (execs st X.env) (SP X pins D) X.xe s
theorem thn {α : Type} {t : Sem α} {Q Q' : α → Shared → Prop} {M : Model} {A : Around} {E : Value → Shared → Prop} {s : Shared} (h : wpAny M A t Q E s) (hQ : ∀ a s, Q a s → Q' a s) : wpAny M A t Q' E s := wpAny_mono h hQ fun _ _ x => x
end L2
namespace L2
open PySem PySem.Spec PyProof.Rows
section
variable {X : Cx}
theorem bin {a b : Expr} {ta tb : TE} (ha : PE X a ta) (hb : PE X b tb) {pins : List (Addr × Obj)} {s : Shared} {σ : St} {H : Hp} {R : V → V → Hp → Prop} (I : Inv X pins σ H s) (h : ta σ H fun x H1 => tb σ H1 fun y H2 => R x y H2)
    {α : Type} {Q : α → Shared → Prop} {f : Value → Value → Sem α}
    (hf : ∀ v u s2 x y H2, Inv X pins σ H2 s2 → RelV x v → RelV y u → R x y H2 → wpAny (model X.prog X.w) X.A (f v u) Q X.xe s2) :
    wpAny (model X.prog X.w) X.A (eval a X.env) (fun v s₁ => wpAny (model X.prog X.w) X.A (eval b X.env) (fun u s₂ => wpAny (model X.prog X.w) X.A (f v u) Q X.xe s₂) X.xe s₁) X.xe s := by
  refine thn (ha pins s σ H _ I h) fun v s1 ⟨x, H1, I1, r1, q1⟩ => ?_
  refine thn (hb pins s1 σ H1 _ I1 q1) fun u s2 ⟨y, H2, I2, r2, q2⟩ => ?_
  exact hf v u s2 x y H2 I2 r1 r2 q2
def tVar (i : Nat) : TE := fun σ H Q => ∃ v, σ[i]? = some (some v) ∧ Q v H
def tC (v : V) : TE := fun _ H Q => Q v H
theorem pe_var {i : Nat} {x : Str} {pos : Pos} (hN : X.N[i]? = some x) (hv : Vis X.env.scope x) (hd : (x == ("__debug__" : Str)) = false := by decide) (hcd : (x == ("__classdict__" : Str)) = false := by decide) : PE X (.Name x pos) (tVar i) := by
  intro pins s σ H Q I h
  obtain ⟨v, e, h⟩ := h
  obtain ⟨m, hn, hl⟩ := I.loc
  obtain ⟨u, r, l⟩ := hl i x v hN e hv
  have fin : EP X pins σ Q u s := ⟨v, H, I, r, h⟩
  rcases l with ⟨hk, hm⟩ | ⟨hk, c, hc, hcell⟩
  · exact wpAny_Name (wpAny_loadName_local I.ok.kind hk hn hm fin) hd
  · rcases hk with hk | hk
    · exact wpAny_Name (wpAny_loadName_cell I.ok.kind hk hc hcell fin) hd
    · exact wpAny_Name (wpAny_loadName_free I.ok.kind hk hc hcell fin hcd) hd
theorem pe_int {i j pos} : PE X (.Constant (.int i) j pos) (tC (.int i)) := fun _ _ _ H _ I h => wpAny_Constant_int ⟨.int i, H, I.tok _, ⟨_, rfl⟩, h⟩
theorem pe_bl {b j pos} : PE X (.Constant (.bool b) j pos) (tC (.bl b)) := fun _ _ _ H _ I h => Constant_bool ⟨.bl b, H, I, rfl, h⟩
theorem pe_non {j pos} : PE X (.Constant .none j pos) (tC .non) := fun _ _ _ H _ I h => Constant_none ⟨.non, H, I, rfl, h⟩
def Gl (X : Cx) (x : Str) : Prop := X.env.kindOf x = some .globalImplicit
theorem ld_glob {E : Value → Shared → Prop} {pins : List (Addr × Obj)} {s : Shared} {σ : St} {H : Hp} {x : Str} {u : Value} {pos : Pos} {Q : Value → Shared → Prop} (I : Inv X pins σ H s) (hg : Gl X x) (hm : X.mg x = some u) (h : Q u s)
    (hd : (x == ("__debug__" : Str)) = false := by decide) : wpAny (model X.prog X.w) X.A (eval (.Name x pos) X.env) Q E s :=
  Calls.Name_function_global I.ok.kind hg (Calls.loadGlobal_global (by rw [I.ok.glob]; exact I.mod.glob.keeps I.bk) hm h) hd
theorem ld_blt {E : Value → Shared → Prop} {pins : List (Addr × Obj)} {s : Shared} {σ : St} {H : Hp} {x : Str} {u : Value} {pos : Pos} {Q : Value → Shared → Prop} (I : Inv X pins σ H s) (hg : Gl X x) (hm : X.mg x = none) (hv : bootBuiltins x = some u) (h : Q u s)
    (hn : x ≠ "__name__" := by decide) (hd : (x == ("__debug__" : Str)) = false := by decide) : wpAny (model X.prog X.w) X.A (eval (.Name x pos) X.env) Q E s := by
  obtain ⟨mb, h1, h2⟩ := I.mod.blt
  exact Calls.Name_function_global I.ok.kind hg (Calls.loadGlobal_builtin (by rw [I.ok.glob]; exact I.mod.glob.keeps I.bk) hm (by rw [I.ok.blt]; exact h1.keeps I.bk) ((h2 x hn).trans hv) h) hd
theorem pe_bltn {x : Str} {v : V} {u : Value} {pos : Pos} (hg : Gl X x) (hm : X.mg x = none) (hv : bootBuiltins x = some u) (r : RelV v u) (hn : x ≠ "__name__" := by decide) (hd : (x == ("__debug__" : Str)) = false := by decide) : PE X (.Name x pos) (tC v) :=
  fun _ _ _ H _ I h => ld_blt I hg hm hv ⟨v, H, I, r, h⟩ hn hd
variable {a b : Expr} {ta tb : TE} {pos : Pos}
def PC (X : Cx) (op : CmpOp) (a b : Expr) (t : TE) : Prop :=
  ∀ (pins : List (Addr × Obj)) (s : Shared) (σ : St) (H : Hp) (Q : VK), Inv X pins σ H s → t σ H Q →
    wpAny (model X.prog X.w) X.A (eval a X.env) (fun v s₁ => wpAny (model X.prog X.w) X.A (eval b X.env) (fun u s₂ => wpAny (model X.prog X.w) X.A (compareOp op v u) (EP X pins σ Q) X.xe s₂) X.xe s₁) X.xe s
theorem nobehind (b : Expr) {op : CmpOp} (h : op ≠ .In) (h2 : op ≠ .NotIn) : behindInMarks op b = false := by
  have e1 : (op == CmpOp.In) = false := by cases op <;> first | rfl | exact absurd rfl h
  have e2 : (op == CmpOp.NotIn) = false := by cases op <;> first | rfl | exact absurd rfl h2
  cases b <;> simp [behindInMarks, e1, e2]
def tNotN (ta : TE) : TE := fun σ H Q => ta σ H fun x H1 => Q (.bl (!decide (x = .non))) H1
theorem RelV.none_iff {x : V} {v : Value} (r : RelV x v) : (v == Value.none) = decide (x = .non) := by
  cases x with
  | non => cases r; rfl
  | bl _ => cases r; rfl
  | int _ => obtain ⟨t, rfl⟩ := r; rfl
  | str _ => obtain ⟨t, rfl⟩ := r; rfl
  | byt _ => obtain ⟨t, rfl⟩ := r; rfl
  | flt _ => obtain ⟨t, rfl⟩ := r; rfl
  | ref _ => cases r; rfl
  | ty _ => cases r; rfl
theorem pc_notN {j pos'} (ha : PE X a ta) : PC X .IsNot a (.Constant .none j pos') (tNotN ta) := by
  intro pins s σ H Q I h
  refine thn (ha pins s σ H _ I h) fun v s1 ⟨x, H1, I1, r1, q1⟩ => ?_
  exact Constant_none (isnot_none_gen ⟨.bl _, H1, I1, by rw [r1.none_iff]; rfl, q1⟩)
theorem pe_cmp {op : CmpOp} {t : TE} (h : PC X op a b t) (h1 : behindInMarks op b = false := by first | exact nobehind _ (by decide) (by decide) | rfl) : PE X (.Compare a [op] [b] pos) t := fun pins s σ H Q I hw => wpAny_Compare1 (h pins s σ H Q I hw) h1
variable {tA tB' : TT} {rest : List Expr}
def tAnd (t u : TT) : TT := fun σ H Q => t σ H fun c H1 => if c = true then u σ H1 Q else Q false H1
def tNot (t : TT) : TT := fun σ H Q => t σ H fun c H1 => Q (!c) H1
theorem pw_and1 (ha : PT X a tA) : PW X (.BoolOp .And [a] pos) tA := by
  intro wh pins s σ H Q I h
  refine isTrue_and (thn (ha pins s σ H Q I h) fun c s1 e => ?_)
  cases c with
  | true => exact isTrue_and_nil e
  | false => exact e
theorem pw_and (ha : PT X a tA) (hb : PW X (.BoolOp .And (b :: rest) pos) tB') : PW X (.BoolOp .And (a :: b :: rest) pos) (tAnd tA tB') := by
  intro wh pins s σ H Q I h
  refine isTrue_and (thn (ha pins s σ H _ I h) fun c s1 ⟨H1, I1, q1⟩ => ?_)
  cases c with
  | true => exact hb wh pins s1 σ H1 Q I1 q1
  | false => exact ⟨H1, I1, q1⟩
theorem pt_not (ha : PT X a tA) : PT X (.UnaryOp .Not a pos) (tNot tA) := by
  intro pins s σ H Q I h
  exact isTrue_not (ha pins s σ H (fun c H1 => Q (!c) H1) I h)
def tAndV (ta tb : TE) : TE := fun σ H Q => ta σ H fun x H1 => ∃ c, x = .bl c ∧ if c = true then tb σ H1 Q else Q (.bl false) H1
theorem pe_one {op} {t : TE} (h : PE X a t) : PE X (.BoolOp op [a] pos) t := fun pins s σ H Q I hw => BoolOp_one (h pins s σ H Q I hw)
theorem pe_and (ha : PE X a ta) (hb : PE X (.BoolOp .And (b :: rest) pos) tb) : PE X (.BoolOp .And (a :: b :: rest) pos) (tAndV ta tb) := by
  intro pins s σ H Q I h
  refine BoolOp_and (thn (ha pins s σ H _ I h) fun v s1 ⟨x, H1, I1, r1, q1⟩ => ?_)
  obtain ⟨c, rfl, q1⟩ := q1
  cases r1
  refine wpAny_truthy_bool ?_
  cases c with
  | true => exact hb pins s1 σ H1 Q I1 q1
  | false => exact ⟨.bl false, H1, I1, rfl, q1⟩
def tIf (t : TT) (ta tb : TE) : TE := fun σ H Q => t σ H fun c H1 => if c = true then ta σ H1 Q else tb σ H1 Q
theorem pe_ifExp {c : Expr} (hc : PT X c tA) (ha : PE X a ta) (hb : PE X b tb) : PE X (.IfExp c a b pos) (tIf tA ta tb) := by
  intro pins s σ H Q I h
  refine wpAny_IfExp (thn (hc pins s σ H _ I h) fun d s1 ⟨H1, I1, q1⟩ => ?_)
  cases d with
  | true => exact ha pins s1 σ H1 Q I1 q1
  | false => exact hb pins s1 σ H1 Q I1 q1
end
end L2
namespace L2
open PySem PySem.Spec PyProof.Rows
def SqL (K : PySem.W.Frag) (H : Hp) (a : Addr) (xs : List V) : Prop :=
  Rd H a (.lst xs) ∨
    ∃ (o : Obj) (its : Array Value) (n : Nat), K.lookup a = some o ∧ o.cls = .type "list" ∧ o.dict = none ∧ o.data = .seq its n ∧ its.size ≤ sizeLine ∧ Vals xs its.toList
def SqT (K : PySem.W.Frag) (H : Hp) (a : Addr) (xs : List V) : Prop :=
  Rd H a (.tup xs) ∨
    ∃ (o : Obj) (its : Array Value) (n : Nat), K.lookup a = some o ∧ o.cls = .type "tuple" ∧ o.data = .seq its n ∧ its.size ≤ sizeLine ∧ Vals xs its.toList
def absV : Value → Option V
  | .none => some .non
  | .bool b => some (.bl b)
  | .int i _ => some (.int i)
  | .str x _ => some (.str x)
  | .bytes b _ => some (.byt b)
  | .float b _ => some (.flt b)
  | .ref a => some (.ref a)
  | .type n => some (.ty n)
  | _ => none
theorem RelV.abs {x : V} {u : Value} (r : RelV x u) : absV u = some x := by
  cases x with
  | non => cases r; rfl
  | bl _ => cases r; rfl
  | int _ => obtain ⟨t, rfl⟩ := r; rfl
  | str _ => obtain ⟨t, rfl⟩ := r; rfl
  | byt _ => obtain ⟨t, rfl⟩ := r; rfl
  | flt _ => obtain ⟨t, rfl⟩ := r; rfl
  | ref _ => cases r; rfl
  | ty _ => cases r; rfl
theorem RelV.inj {x y : V} {u : Value} (r : RelV x u) (q : RelV y u) : x = y := Option.some.inj (r.abs.symm.trans q.abs)
theorem Vals.inj : ∀ {xs ys : List V} {us : List Value}, Vals xs us → Vals ys us → xs = ys
  | _, _, _, .nil, .nil => rfl
  | _, _, _, .cons r t, .cons r' t' => by rw [r.inj r', Vals.inj t t']
section
variable {X : Cx} {pins : List (Addr × Obj)} {σ : St} {H : Hp} {s : Shared} {a : Addr} {xs ys : List V}
theorem SqL.of {K : PySem.W.Frag} (h : H a = some (.lst xs)) : SqL K H a xs := .inl (.inl h)
theorem SqT.of {K : PySem.W.Frag} (h : H a = some (.tup xs)) : SqT K H a xs := .inl (.inl h)
theorem Inv.list (I : Inv X pins σ H s) (h : SqL X.K H a xs) : ∃ its : List Value, Vals xs its ∧ PlainL s.heap a its.toArray ∧ xs.length ≤ sizeLine := by
  rcases h with h | ⟨o, its, n, hk, hc, hd, hs, hz, r⟩
  · obtain ⟨z, its, n, r, e⟩ := h.ok I.hok
    exact ⟨its, r, ⟨_, n, e, rfl, rfl, rfl⟩, z⟩
  · refine ⟨its.toList, r, ⟨o, n, I.kIn a o hk, hc, hd, by simpa using hs⟩, ?_⟩
    have e := r.length
    simp only [Array.length_toList] at e
    omega
theorem Inv.tuple (I : Inv X pins σ H s) (h : SqT X.K H a xs) : ∃ its : List Value, Vals xs its ∧ IsTup s.heap a its.toArray ∧ xs.length ≤ sizeLine := by
  rcases h with h | ⟨o, its, n, hk, hc, hs, hz, r⟩
  · obtain ⟨z, its, r, p⟩ := h.ok I.hok
    exact ⟨its, r, p, z⟩
  · refine ⟨its.toList, r, ⟨o, I.kIn a o hk, hc, n, by simpa using hs⟩, ?_⟩
    have e := r.length
    simp only [Array.length_toList] at e
    omega
theorem Inv.list_inj (I : Inv X pins σ H s) (h : SqL X.K H a xs) (h' : SqL X.K H a ys) : xs = ys := by
  obtain ⟨its, r, ⟨o, n, e, _, _, d⟩, _⟩ := I.list h
  obtain ⟨its', r', ⟨o', n', e', _, _, d'⟩, _⟩ := I.list h'
  rw [e] at e'; cases e'
  rw [d] at d'
  injection d' with d1 _
  have : its = its' := by simpa using congrArg Array.toList d1
  subst this
  exact r.inj r'
theorem Inv.tuple_inj (I : Inv X pins σ H s) (h : SqT X.K H a xs) (h' : SqT X.K H a ys) : xs = ys := by
  obtain ⟨its, r, ⟨o, e, _, n, d⟩, _⟩ := I.tuple h
  obtain ⟨its', r', ⟨o', e', _, n', d'⟩, _⟩ := I.tuple h'
  rw [e] at e'; cases e'
  rw [d] at d'
  injection d' with d1 _
  have : its = its' := by simpa using congrArg Array.toList d1
  subst this
  exact r.inj r'
end
abbrev Cx.wish (X : Cx) (E : Value → Shared → Prop) : Cx := { X with xe := E }
abbrev Cx.nox (X : Cx) : Cx := X.wish fun _ _ => False
theorem Cx.Ok.wish {X : Cx} (ok : X.Ok) (E : Value → Shared → Prop) : (X.wish E).Ok :=
  ⟨ok.mod, ok.kind, ok.glob, ok.blt, ok.above, ok.inj, ok.has, ok.cab, ok.hd, ok.frames, ok.stk, ok.exf, ok.bs, ok.bsz, ok.noex, ok.exfs, ok.funs, ok.frf⟩
theorem Cx.Ok.unwish {X : Cx} {E : Value → Shared → Prop} (ok : (X.wish E).Ok) : X.Ok :=
  ⟨ok.mod, ok.kind, ok.glob, ok.blt, ok.above, ok.inj, ok.has, ok.cab, ok.hd, ok.frames, ok.stk, ok.exf, ok.bs, ok.bsz, ok.noex, ok.exfs, ok.funs, ok.frf⟩
section
variable {X : Cx} {pins : List (Addr × Obj)} {σ : St} {H : Hp} {s : Shared} {E : Value → Shared → Prop}
theorem Inv.wish (I : Inv X pins σ H s) (E : Value → Shared → Prop) : Inv (X.wish E) pins σ H s := ⟨I.ok.wish E, I.os, I.bare, I.base, I.loc, I.cell, I.free, I.freeC, I.pin, I.hok, I.len⟩
theorem Inv.unwish (I : Inv (X.wish E) pins σ H s) : Inv X pins σ H s := ⟨I.ok.unwish, I.os, I.bare, I.base, I.loc, I.cell, I.free, I.freeC, I.pin, I.hok, I.len⟩
theorem SP.unwish {D : Ends} {f : Flow} {s' : Shared} (h : SP (X.wish E) pins D f s') : SP X pins D f s' := by
  cases f with
  | next => obtain ⟨σ', H', I, q⟩ := h; exact ⟨σ', H', I.unwish, q⟩
  | brk => obtain ⟨σ', H', I, q⟩ := h; exact ⟨σ', H', I.unwish, q⟩
  | cont => obtain ⟨σ', H', I, q⟩ := h; exact ⟨σ', H', I.unwish, q⟩
  | ret u => obtain ⟨v, σ', H', I, r, q⟩ := h; exact ⟨v, σ', H', I.unwish, r, q⟩
theorem PSs.nox {st : List Stmt} {t : TS} (h : PSs X.nox st t) : PSs X st t := fun pins s σ H D I hw =>
  wpAny_mono (h pins s σ H D (I.wish _) hw) (fun _ _ q => q.unwish) fun _ _ z => False.elim z
end
section
variable {X : Cx} {st : Stmt} {rest : List Stmt} {t u : TS} {e : Expr} {te : TE} {pos : Pos}
def tNext : TS := fun D σ H => D.nx σ H
def tSeq (t u : TS) : TS := fun D σ H => t { D with nx := u D } σ H
theorem pss_nil : PSs X [] tNext := fun _ _ σ H _ I h => wpAny_execs_nil ⟨σ, H, I, h⟩
theorem pss_cons (h1 : PS X st t) (h2 : PSs X rest u) : PSs X (st :: rest) (tSeq t u) := by
  intro pins s σ H D I h
  refine wpAny_execs_cons (thn (h1 pins s σ H { D with nx := u D } I h) fun f s1 q => ?_)
  cases f with
  | next =>
    obtain ⟨σ', H', I', q⟩ := q
    exact h2 pins s1 σ' H' D I' q
  | ret v => exact q
  | brk => exact q
  | cont => exact q
theorem pss_one (h1 : PS X st t) : PSs X [st] t := by
  intro pins s σ H D I h
  refine wpAny_execs_cons (thn (h1 pins s σ H D I h) fun f s1 q => ?_)
  cases f with
  | next => exact wpAny_execs_nil q
  | ret v => exact q
  | brk => exact q
  | cont => exact q
theorem Inv.quiet {pins : List (Addr × Obj)} {σ : St} {H : Hp} {s : Shared} (I : Inv X pins σ H s) : interactive X.env = false := by simp [interactive, I.ok.kind]
def tDrop (te : TE) : TS := fun D σ H => te σ H fun _ H1 => D.nx σ H1
theorem ps_expr (he : PE X e te) (hs : swapsWith e none pos.line X.env = pure false := by rfl) : PS X (.Expr e pos) (tDrop te) := by
  intro pins s σ H D I h
  exact wpAny_Expr_any (thn (he pins s σ H _ I h) fun v s1 ⟨x, H1, I1, r1, q1⟩ => ⟨σ, H1, I1, q1⟩) I.quiet hs
def tRet (te : TE) : TS := fun D σ H => te σ H D.rt
theorem ps_ret (he : PE X e te) : PS X (.Return (some e) pos) (tRet te) := by
  intro pins s σ H D I h
  exact wpAny_Return_some (thn (he pins s σ H _ I h) fun v s1 ⟨x, H1, I1, r1, q1⟩ => ⟨x, σ, H1, I1, r1, q1⟩)
def tIfS (c : TT) (t u : TS) : TS := fun D σ H => c σ H fun b H1 => if b = true then t D σ H1 else u D σ H1
theorem ps_if {c : Expr} {a b : List Stmt} {tc : TT} (hc : PT X c tc) (ha : PSs X a t) (hb : PSs X b u) : PS X (.If c a b pos) (tIfS tc t u) := by
  intro pins s σ H D I h
  refine wpAny_If (thn (hc pins s σ H _ I h) fun d s1 ⟨H1, I1, q1⟩ => ?_)
  cases d with
  | true => exact ha pins s1 σ H1 D I1 q1
  | false => exact hb pins s1 σ H1 D I1 q1
end
abbrev TG := V → St → Hp → (St → Hp → Prop) → Prop
abbrev TGs := List V → St → Hp → (St → Hp → Prop) → Prop
def PG (X : Cx) (target : Expr) (t : TG) : Prop :=
  ∀ (pins : List (Addr × Obj)) (s : Shared) (σ : St) (H : Hp) (v : V) (u : Value) (Q : St → Hp → Prop), Inv X pins σ H s → RelV v u → t v σ H Q →
    wpAny (model X.prog X.w) X.A (assign target X.env u) (fun _ s' => ∃ σ' H', Inv X pins σ' H' s' ∧ Q σ' H') X.xe s
def PGs (X : Cx) (ts : List Expr) (t : TGs) : Prop :=
  ∀ (pins : List (Addr × Obj)) (s : Shared) (σ : St) (H : Hp) (vs : List V) (us : List Value) (Q : St → Hp → Prop), Inv X pins σ H s → Vals vs us → t vs σ H Q →
    wpAny (model X.prog X.w) X.A (assignInOrder ((assignEach ts X.env).map (·.2)) us) (fun _ s' => ∃ σ' H', Inv X pins σ' H' s' ∧ Q σ' H') X.xe s
section
variable {X : Cx} {pos : Pos}
def gName (i : Nat) : TG := fun v σ H Q => Q (σ.set i (some v)) H
theorem pg_name {i : Nat} {x : Str} (hN : X.N.Nodup) (hi : X.N[i]? = some x) (hx : Loc X.env.scope x) (hf : X.fn x = true ∨ X.env.scope.names.lookup x = some .local := by first | exact .inl rfl | exact .inr rfl | assumption) : PG X (.Name x pos) (gName i) := by
  intro pins s σ H v u Q I r h
  exact wpAny_assign_Name (store_ok I hN hi hx r (fun s' I' => ⟨_, H, I', h⟩) hf)
def gNil : TGs := fun vs σ H Q => vs = [] ∧ Q σ H
def gCons (t : TG) (u : TGs) : TGs := fun vs σ H Q => ∃ v r, vs = v :: r ∧ t v σ H fun σ' H' => u r σ' H' Q
theorem pgs_nil : PGs X [] gNil := by
  intro pins s σ H vs us Q I r h
  obtain ⟨e, h⟩ := h
  subst e
  cases r
  exact assignInOrder_nil ⟨σ, H, I, h⟩
theorem pgs_cons {e : Expr} {es : List Expr} {t : TG} {u : TGs} (h1 : PG X e t) (h2 : PGs X es u)
    (hs : (assignEach (e :: es) X.env).map (·.2) = assign e X.env :: (assignEach es X.env).map (·.2) := by rfl) : PGs X (e :: es) (gCons t u) := by
  intro pins s σ H vs us Q I r h
  obtain ⟨v, vr, e1, h⟩ := h
  subst e1
  cases r with
  | cons r rr =>
    rw [hs]
    refine assignInOrder_cons (thn (h1 pins s σ H _ _ _ I r h) fun _ s1 ⟨σ1, H1, I1, q1⟩ => ?_)
    exact h2 pins s1 σ1 H1 _ _ Q I1 rr q1
def gTup (K : PySem.W.Frag) (n : Nat) (t : TGs) : TG := fun v σ H Q => ∃ a xs, v = .ref a ∧ SqT K H a xs ∧ xs.length = n ∧ t xs σ H Q
theorem pg_tup {es : List Expr} {k : Nat} {t : TGs} {n : Nat} (hc : X.calm = true) (h : PGs X es t)
    (hn : (assignEach es X.env).length = n := by rfl) (hst : (assignEach es X.env).findIdx? (·.1) = none := by rfl) : PG X (.Tuple es k pos) (gTup X.K n t) := by
  intro pins s σ H v u Q I r hw
  obtain ⟨a, xs, e1, hq, hl, hw⟩ := hw
  subst e1
  cases r
  obtain ⟨its, rv, ht, hz⟩ := I.tuple hq
  refine assign_Tuple_tuple (I.ok.hd hc) ht (by simp [hn, ← hl, rv.length]) hst fun h' hx => ?_
  have I1 : Inv X pins σ H { s with heap := h' } := I.kept (t' := s.toks) fun b o e => hx b o (Nat.ne_of_lt (Heap.lt_size e)) e
  exact h pins _ σ H xs _ Q I1 (by simpa using rv) hw
def tAsg (te : TE) (g : TG) : TS := fun D σ H => te σ H fun x H1 => g x σ H1 D.nx
theorem ps_set {i : Nat} {x : Str} {e : Expr} {te : TE} {pos' : Pos} (hN : X.N.Nodup) (hi : X.N[i]? = some x) (hx : Loc X.env.scope x) (he : PE X e te) (hs : swapsWith e (some (.Name x pos')) pos.line X.env = pure false := by rfl) (hf : X.fn x = true ∨ X.env.scope.names.lookup x = some .local := by first | exact .inl rfl | exact .inr rfl | assumption) :
    PS X (.Assign [.Name x pos'] e pos) (tAsg te (gName i)) := by
  intro pins s σ H D I h
  refine wpAny_Assign_Name (thn (he pins s σ H _ I h) fun v s1 ⟨y, H1, I1, r1, q1⟩ => ?_) hs
  exact store_ok I1 hN hi hx r1 (fun s2 I2 => ⟨_, H1, I2, q1⟩) hf
end
section
variable {X : Cx} {pos : Pos}
def tWhile (c : TT) (tb : TS) : TS := fun D σ H => ∃ W : Nat → St → Hp → Prop, (∃ m, W m σ H) ∧ ∀ m σ H, W m σ H →
  c σ H fun b H1 => if b = true then ∃ N : St → Hp → Prop, (∀ σ' H', N σ' H' → ∃ m', m' < m ∧ W m' σ' H') ∧ tb { D with nx := N, ct := N, bk := D.nx } σ H1 else D.nx σ H1
theorem ps_while {c : Expr} {body : List Stmt} {tc : TT} {tb : TS} (hp : PassesOwn (model X.prog X.w) X.A X.env X.xe) (hc : PT X c tc) (hb : PSs X body tb) : PS X (.While c body [] pos) (tWhile tc tb) := by
  intro pins s σ H D I h
  obtain ⟨W, ⟨m0, w0⟩, turn⟩ := h
  refine wpAny_While (codeAny_whileLoop (fun n s' => ∃ σ' H', Inv X pins σ' H' s' ∧ W n σ' H') ?_ m0 ⟨σ, H, I, w0⟩)
  rintro n s1 ⟨σ1, H1, I1, w1⟩
  refine wpAny_passesOwn hp (thn (hc pins s1 σ1 H1 _ I1 (turn n σ1 H1 w1)) fun b s2 ⟨H2, I2, q2⟩ => ?_)
  cases b with
  | true =>
    obtain ⟨N, hN, q2⟩ := q2
    rw [if_pos rfl]
    refine wpAny_passesOwn hp (thn (hb pins s2 σ1 H2 _ I2 q2) fun f s3 q3 => ?_)
    cases f with
    | next =>
      obtain ⟨σ3, H3, I3, n3⟩ := q3
      obtain ⟨m', hm, w3⟩ := hN σ3 H3 n3
      exact ⟨m', hm, σ3, H3, I3, w3⟩
    | cont =>
      obtain ⟨σ3, H3, I3, n3⟩ := q3
      obtain ⟨m', hm, w3⟩ := hN σ3 H3 n3
      exact ⟨m', hm, σ3, H3, I3, w3⟩
    | brk => exact q3
    | ret v => exact q3
  | false =>
    rw [if_neg Bool.false_ne_true]
    exact wpAny_execs_nil ⟨σ1, H2, I2, q2⟩
end
structure It where
  go : Nat → Hp → Prop
  yld : Nat → Hp → V → Hp → Prop
  stop : Nat → Hp → Prop
def FpOk (X : Cx) (pins : List (Addr × Obj)) (H : Hp) (b : Addr) : Prop :=
  H b = none ∧ b ≠ X.env.locals ∧ b ∉ X.fs ∧ (b ∈ X.ex ∨ X.s₀.heap.objs.size ≤ b) ∧ (∀ x c, X.env.cells.lookup x = some c → c ≠ b) ∧ ∀ p ∈ X.pn ++ pins, p.1 ≠ b
theorem Inv.fpOk {X : Cx} {pins : List (Addr × Obj)} {σ : St} {H H' : Hp} {s : Shared} {b : Addr} (I : Inv X pins σ H s) (hb : s.heap.objs.size ≤ b) (hn : H' b = none) : FpOk X pins H' b := by
  refine ⟨hn, Nat.ne_of_gt (Nat.lt_of_lt_of_le I.lt hb), I.nofs hb, .inr (Nat.le_trans I.sz hb), fun x c e z => ?_, fun p hp z => ?_⟩
  · obtain ⟨v, q⟩ := I.cell x c e
    exact absurd (Nat.lt_of_lt_of_le q.lt (by rw [z]; exact hb)) (Nat.lt_irrefl _)
  · exact absurd (Nat.lt_of_lt_of_le (Heap.lt_size (I.pin p hp).1) (by rw [z]; exact hb)) (Nat.lt_irrefl _)
structure Turn (P : Program) (w : World) (K : PySem.W.Frag) (tg : Expr) (J : It) (fp : List Addr) (it : Addr) (tn : Nat → Heap → Prop) : Prop where
  mem : it ∈ fp
  obj : ∀ i h, tn i h → ∀ b ∈ fp, ∃ o, h.get? b = some o ∧ ∀ v, o.data ≠ .cell v
  keep : ∀ i h h', tn i h → (∀ b ∈ fp, ∀ o, h.get? b = some o → h'.get? b = some o) → tn i h'
  item : ∀ (X : Cx), X.prog = P → X.w = w → X.K = K → X.calm = true → ∀ (i : Nat) (pins : List (Addr × Obj)) (s : Shared) (σ : St) (H : Hp) (E : Value → Shared → Prop), Inv X pins σ H s → (∀ b ∈ fp, FpOk X pins H b) → tn i s.heap → J.go i H →
    wpAny (model P w) X.A (pyNext (.ref it)) (fun r s1 => ∃ u, r = some u ∧
      wpAny (model P w) X.A (letOwnedTupleGo tg (.ref it) u) (fun _ s2 => ∃ x H', Inv X pins σ H' s2 ∧ RelV x u ∧ J.yld i H x H' ∧ tn (i + 1) s2.heap ∧ ∀ b ∈ fp, H' b = none) E s1) E s
  done : ∀ (X : Cx), X.prog = P → X.w = w → X.K = K → X.calm = true → ∀ (i : Nat) (pins : List (Addr × Obj)) (s : Shared) (σ : St) (H : Hp) (E : Value → Shared → Prop), Inv X pins σ H s → (∀ b ∈ fp, FpOk X pins H b) → tn i s.heap → J.stop i H →
    wpAny (model P w) X.A (pyNext (.ref it)) (fun r s1 => r = none ∧ Inv X pins σ H s1) E s
  self : ∀ (A : Around) (i : Nat) (s : Shared) (Q : Value → Shared → Prop) (E : Value → Shared → Prop), tn i s.heap → Q (.ref it) s → wpAny (model P w) A (pyIter (.ref it)) Q E s
abbrev TI := St → Hp → (It → Hp → Prop) → Prop
def PIE (X : Cx) (pins : List (Addr × Obj)) (σ : St) (tg : Expr) (R : It → Hp → Prop) (itv : Value) (s2 : Shared) : Prop :=
  ∃ (it : Addr) (fp : List Addr) (tn : Nat → Heap → Prop) (J : It) (H' : Hp), itv = .ref it ∧ Inv X pins σ H' s2 ∧ Turn X.prog X.w X.K tg J fp it tn ∧ tn 0 s2.heap ∧ (∀ b ∈ fp, FpOk X pins H' b) ∧ R J H'
def PI (X : Cx) (tg iter : Expr) (wi : TI) : Prop :=
  ∀ (pins : List (Addr × Obj)) (s : Shared) (σ : St) (H : Hp) (R : It → Hp → Prop), Inv X pins σ H s → wi σ H R →
    wpAny (model X.prog X.w) X.A (eval iter X.env) (fun v s1 => wpAny (model X.prog X.w) X.A (pyIter v) (PIE X pins σ tg R) X.xe s1) X.xe s
theorem go_of {M : Model} {A : Around} {E : Value → Shared → Prop} {s : Shared} {tg : Expr} {it : Addr} {u : Value} {o : Obj} {n : String} {vs : Array Value} {Q : Unit → Shared → Prop} (ho : s.heap.get? it = some o) (hc : o.cls = .type n) (hd : o.data = .fields vs)
    (hn : ["enumerate", "zip", "dict_itemiterator", "dict_reverseitemiterator", "odict_iterator", "itertools.zip_longest", "itertools.pairwise"].contains n = false) (hQ : Q () s) : wpAny M A (letOwnedTupleGo tg (.ref it) u) Q E s := by
  unfold letOwnedTupleGo
  cases tg <;> first
    | exact wpAny_pure hQ
    | (cases u <;> first
        | exact wpAny_pure hQ
        | (refine wpAny_bind (wpAny_load ho ?_)
           rw [hc, hd]
           show wpAny M A (if (["enumerate", "zip", "dict_itemiterator", "dict_reverseitemiterator", "odict_iterator", "itertools.zip_longest", "itertools.pairwise"].contains n && vs[0]? == some (rawInt _)) = true then _ else _) Q E s
           rw [if_neg (by intro h; rw [hn, Bool.false_and] at h; cases h)]
           exact wpAny_pure hQ))
def Itl (K : PySem.W.Frag) (a : Addr) : It :=
  ⟨fun i H => ∃ xs x, SqL K H a xs ∧ xs[i]? = some x, fun i H x H' => H' = H ∧ ∀ xs, SqL K H a xs → xs[i]? = some x, fun i H => ∃ xs, SqL K H a xs ∧ xs.length ≤ i⟩
def Itt (K : PySem.W.Frag) (a : Addr) : It :=
  ⟨fun i H => ∃ xs x, SqT K H a xs ∧ xs[i]? = some x, fun i H x H' => H' = H ∧ ∀ xs, SqT K H a xs → xs[i]? = some x, fun i H => ∃ xs, SqT K H a xs ∧ xs.length ≤ i⟩
def Itr (lo : Int) (n : Nat) : It := ⟨fun i _ => i < n, fun i H x H' => H' = H ∧ x = .int (lo + i), fun i _ => n ≤ i⟩
theorem turn_list {P : Program} {w : World} {K : PySem.W.Frag} {tg : Expr} (a it : Addr) : Turn P w K tg (Itl K a) [it] it (fun i h => h.IsListIter it a i) where
  mem := by simp
  obj := fun i h st b hb => by
    have e : b = it := by simpa using hb
    subst e
    obtain ⟨o, e, c, d⟩ := st
    exact ⟨o, e, fun v z => by rw [d] at z; cases z⟩
  keep := fun i h h' st k => st.at fun o e => k it (by simp) o e
  item := by
    intro X hP hw hK hc i pins s σ H E I hf st hg
    subst hP hw hK
    obtain ⟨xs, x, hq, hx⟩ := hg
    obtain ⟨its, rv, p, hz⟩ := I.list hq
    obtain ⟨u, hu, ru⟩ := rv.get hx
    obtain ⟨f0, f1, f2, f3, f4, f5⟩ := hf it (by simp)
    refine wpAny_pyNext_list_item st p.isList (x := u) (by simpa using hu) fun h' st' sb => ?_
    have I1 : Inv X pins σ H { s with heap := h' } := I.turned (t' := s.toks) (fun b o hb e => (sb.2 b hb).trans e) f0 f1 f3 f4 f5
    obtain ⟨o, e, c, d⟩ := id st'
    exact ⟨u, rfl, go_of (s := { s with heap := h' }) e c d (by decide) ⟨x, H, I1, ru, ⟨rfl, fun ys hy => by rw [I.list_inj hy hq]; exact hx⟩, st', fun b hb => (hf b hb).1⟩⟩
  done := by
    intro X hP hw hK hc i pins s σ H E I hf st hg
    subst hP hw hK
    obtain ⟨xs, hq, hx⟩ := hg
    obtain ⟨its, rv, p, hz⟩ := I.list hq
    obtain ⟨f0, f1, f2, f3, f4, f5⟩ := hf it (by simp)
    have hl := rv.length
    exact wpAny_pyNext_list_end (I.ok.hd hc) st p.isList (by simp; omega) fun h' eb => ⟨rfl, I.turned (t' := s.toks) (fun b o hb e => eb b o hb e) f0 f1 f3 f4 f5⟩
  self := fun _ _ _ _ _ st h => wpAny_pyIter_listiter st h
theorem turn_tuple {P : Program} {w : World} {K : PySem.W.Frag} {tg : Expr} (a it : Addr) : Turn P w K tg (Itt K a) [it] it (fun i h => h.IsTupleIter it a i) where
  mem := by simp
  obj := fun i h st b hb => by
    have e : b = it := by simpa using hb
    subst e
    obtain ⟨o, e, c, d⟩ := st
    exact ⟨o, e, fun v z => by rw [d] at z; cases z⟩
  keep := fun i h h' st k => st.at fun o e => k it (by simp) o e
  item := by
    intro X hP hw hK hc i pins s σ H E I hf st hg
    subst hP hw hK
    obtain ⟨xs, x, hq, hx⟩ := hg
    obtain ⟨its, rv, p, hz⟩ := I.tuple hq
    obtain ⟨u, hu, ru⟩ := rv.get hx
    obtain ⟨f0, f1, f2, f3, f4, f5⟩ := hf it (by simp)
    refine wpAny_pyNext_tuple_item st (show s.heap.IsTuple a its.toArray from p) (x := u) (by simpa using hu) fun h' st' sb => ?_
    have I1 : Inv X pins σ H { s with heap := h' } := I.turned (t' := s.toks) (fun b o hb e => (sb.2 b hb).trans e) f0 f1 f3 f4 f5
    obtain ⟨o, e, c, d⟩ := id st'
    exact ⟨u, rfl, go_of (s := { s with heap := h' }) e c d (by decide) ⟨x, H, I1, ru, ⟨rfl, fun ys hy => by rw [I.tuple_inj hy hq]; exact hx⟩, st', fun b hb => (hf b hb).1⟩⟩
  done := by
    intro X hP hw hK hc i pins s σ H E I hf st hg
    subst hP hw hK
    obtain ⟨xs, hq, hx⟩ := hg
    obtain ⟨its, rv, p, hz⟩ := I.tuple hq
    obtain ⟨f0, f1, f2, f3, f4, f5⟩ := hf it (by simp)
    have hl := rv.length
    exact wpAny_pyNext_tuple_end (I.ok.hd hc) st (show s.heap.IsTuple a its.toArray from p) (by simp; omega) fun h' eb => ⟨rfl, I.turned (t' := s.toks) (fun b o hb e => eb b o hb e) f0 f1 f3 f4 f5⟩
  self := fun _ _ _ _ _ st h => wpAny_pyIter_tupleiter st h
theorem turn_range {P : Program} {w : World} {K : PySem.W.Frag} {tg : Expr} (it : Addr) (lo : Int) (n : Nat) : Turn P w K tg (Itr lo n) [it] it (fun i h => IsRangeIter h it (lo + (i : Nat) * 1) ((n : Int) - (i : Nat)) 1) where
  mem := by simp
  obj := fun i h st b hb => by
    have e : b = it := by simpa using hb
    subst e
    exact ⟨_, st, fun v z => by
      have z' : Data.fields _ = Data.cell v := z
      cases z'⟩
  keep := fun i h h' st k => k it (by simp) _ st
  item := by
    intro X hP hw hK hc i pins s σ H E I hf st hg
    subst hP hw hK
    obtain ⟨f0, f1, f2, f3, f4, f5⟩ := hf it (by simp)
    have W := Walks.range (prog := X.prog) (w := X.w) (I.ok.hd hc) it lo 1 n
    refine W.item i s _ _ hg st fun v h' tk hv st' kk => ?_
    obtain ⟨t, rfl⟩ := hv
    have I1 : Inv X pins σ H { s with heap := h', toks := tk } := I.turned (fun b o hb e => kk b o (by simpa using hb) e) f0 f1 f3 f4 f5
    refine ⟨_, rfl, go_of (s := { s with heap := h', toks := tk }) (n := "range_iterator") st' rfl rfl (by decide) ⟨.int (lo + i), H, I1, ⟨t, ?_⟩, ⟨rfl, rfl⟩, st', fun b hb => (hf b hb).1⟩⟩
    rw [Int.mul_one]
  done := by
    intro X hP hw hK hc i pins s σ H E I hf st hg
    subst hP hw hK
    obtain ⟨f0, f1, f2, f3, f4, f5⟩ := hf it (by simp)
    exact wpAny_pyNext_range_end (I.ok.hd hc) st (by have : n ≤ i := hg; omega) fun h' eb => ⟨rfl, I.turned (t' := s.toks) (fun b o hb e => eb b o hb e) f0 f1 f3 f4 f5⟩
  self := fun _ _ _ _ _ st h => wpAny_pyIter_rangeiter st h
end L2
namespace L2
open PySem PySem.Spec PyProof.Rows
section
variable {X : Cx} {tg : Expr}
theorem range_it {pins : List (Addr × Obj)} {σ : St} {H : Hp} {s : Shared} {R : It → Hp → Prop} {E : Value → Shared → Prop} {lo hi : Int} {t u v : Tok} {tk : Nat} (I : Inv X pins σ H s) (h1 : -(2 ^ 62) ≤ lo) (h2 : lo < 2 ^ 62) (h3 : -(2 ^ 62) ≤ hi) (h4 : hi < 2 ^ 62)
    (q : R (Itr lo (hi - lo).toNat) H) : wpAny (model X.prog X.w) X.A (pyIter (.ref s.heap.objs.size)) (PIE X pins σ tg R) E { s with heap := s.heap.push { cls := .type "range", data := .fields #[.int lo t, .int hi u, .int 1 v] }, toks := tk } := by
  refine wpAny_pyIter_range (IsRange.new ..) (small_one h1 h2 h3 h4) ?_
  have I1 : Inv X pins σ H { s with heap := s.heap.push { cls := .type "range", data := .fields #[.int lo t, .int hi u, .int 1 v] }, toks := tk } := I.kept fun b o e => Heap.get?_push_of_some _ e
  refine ⟨(s.heap.push { cls := .type "range", data := .fields #[.int lo t, .int hi u, .int 1 v] }).objs.size, [(s.heap.push { cls := .type "range", data := .fields #[.int lo t, .int hi u, .int 1 v] }).objs.size], _, _, H, rfl,
    I1.kept (t' := tk) fun b o e => Heap.get?_push_of_some _ e, turn_range _ lo (hi - lo).toNat, ?_, fun b hb => ?_, q⟩
  · have e1 : lo + ((0 : Nat) : Int) * 1 = lo := by simp
    have e2 : (((hi - lo).toNat : Nat) : Int) - ((0 : Nat) : Int) = Builtin.Range.rangeSize lo hi 1 := by rw [rangeSize_one]; split <;> omega
    show IsRangeIter _ _ (lo + ((0 : Nat) : Int) * 1) ((((hi - lo).toNat : Nat) : Int) - ((0 : Nat) : Int)) 1
    rw [e1, e2]
    exact Heap.get?_push_size _ rfl
  · have e : b = (s.heap.push { cls := .type "range", data := .fields #[.int lo t, .int hi u, .int 1 v] }).objs.size := by simpa using hb
    subst e
    exact I1.fpOk (Nat.le_refl _) (I1.hok.fresh (Nat.le_refl _))
def iRng1 (ta : TA) : TI := fun σ H R => ta σ H fun vs H1 => ∃ j : Int, vs = [.int j] ∧ -(2 ^ 62) ≤ j ∧ j < 2 ^ 62 ∧ R (Itr 0 j.toNat) H1
theorem pi_range1 {a : Expr} {ta : TA} {p pos : Pos} (hg : Gl X "range") (hm : X.mg "range" = none) (ha : PA X [a] ta) (hs : starEach [a] X.env = [(false, eval a X.env)] := by rfl) : PI X tg (.Call (.Name "range" p) [a] [] pos) (iRng1 ta) := by
  intro pins s σ H R I h
  refine Call_ (ld_blt I hg hm boot_range (PyProof.Rows.callWith_type1 (thn (ha pos pins s σ H _ I h) fun us s1 ⟨vs, H1, I1, r1, q1⟩ => ?_) hs rfl))
  obtain ⟨j, e, q1, q2, q⟩ := q1
  subst e
  cases r1 with
  | cons r rr =>
    cases rr
    obtain ⟨t, rfl⟩ := r
    exact call_range_1 (range_it I1 (by omega) (by omega) q1 q2 (by simpa using q))
def tFor (wi : TI) (g : TG) (tb : TS) : TS := fun D σ H => wi σ H fun J H1 => ∃ W : Nat → Nat → St → Hp → Prop, (∃ m, W 0 m σ H1) ∧ ∀ i m σ H, W i m σ H →
  (J.stop i H ∧ D.nx σ H) ∨ (J.go i H ∧ ∃ N : St → Hp → Prop, (∀ σ' H', N σ' H' → ∃ m', m' < m ∧ W (i + 1) m' σ' H') ∧ ∀ x H', J.yld i H x H' → g x σ H' fun σ2 H2 => tb { D with nx := N, ct := N, bk := D.nx } σ2 H2)
def pinsAt (fp : List Addr) (h : Heap) : List (Addr × Obj) := fp.filterMap fun b => (h.get? b).map fun o => (b, o)
theorem mem_pinsAt {fp : List Addr} {h : Heap} {b : Addr} {o : Obj} (hb : b ∈ fp) (e : h.get? b = some o) : (b, o) ∈ pinsAt fp h := List.mem_filterMap.mpr ⟨b, hb, by rw [e]; rfl⟩
theorem of_pinsAt {fp : List Addr} {h : Heap} {p : Addr × Obj} (hp : p ∈ pinsAt fp h) : p.1 ∈ fp ∧ h.get? p.1 = some p.2 := by
  obtain ⟨b, hb, e⟩ := List.mem_filterMap.mp hp
  cases q : h.get? b with
  | none => rw [q] at e; cases e
  | some o =>
    rw [q] at e
    have e' : (b, o) = p := Option.some.inj e
    subst e'
    exact ⟨hb, q⟩
theorem Inv.pinned {pins : List (Addr × Obj)} {σ : St} {H : Hp} {s : Shared} {fp : List Addr} (I : Inv X pins σ H s) (hf : ∀ b ∈ fp, FpOk X pins H b) (ho : ∀ b ∈ fp, ∃ o, s.heap.get? b = some o ∧ ∀ v, o.data ≠ .cell v) : Inv X (pins ++ pinsAt fp s.heap) σ H s :=
  I.pins_of fun p hp => (List.mem_append.mp hp).elim (fun z => I.pin p (List.mem_append_right _ z)) fun z => by
    obtain ⟨hb, e⟩ := of_pinsAt z
    obtain ⟨f0, f1, f2, _⟩ := hf p.1 hb
    obtain ⟨o, e', d⟩ := ho p.1 hb
    rw [e] at e'; cases e'
    exact ⟨e, f0, f1, f2, d⟩
theorem Inv.unpinned {pins pl : List (Addr × Obj)} {σ : St} {H : Hp} {s : Shared} (I : Inv X (pins ++ pl) σ H s) : Inv X pins σ H s := I.pins_of fun p hp => I.pin p (List.mem_append_right _ (List.mem_append_left _ hp))
theorem ps_for {iter : Expr} {body : List Stmt} {wi : TI} {g : TG} {tb : TS} {pos : Pos} (hp : PassesOwn (model X.prog X.w) X.A X.env X.xe) (hc : X.calm = true) (hi : PI X tg iter wi) (hg : PG X tg g) (hb : PSs X body tb)
    (hs : ∀ x, foldedSetIterable iter X.env x = pure x := by intro _; rfl) : PS X (.For tg iter body [] pos) (tFor wi g tb) := by
  intro pins s σ H D I h
  refine wpAny_For (thn (hi pins s σ H _ I h) fun v s1 h1 => thn h1 fun itv s2 h2 => ?_) hs
  obtain ⟨it, fp, tn, J, H2, e, I2, T, st2, f2, W, ⟨m0, w0⟩, turn⟩ := h2
  subst e
  -- what stays true of the iterator's objects through the loop
  have stat : ∀ {H' : Hp}, (∀ b ∈ fp, H' b = none) → ∀ b ∈ fp, FpOk X pins H' b := fun hn b hb => ⟨hn b hb, (f2 b hb).2⟩
  refine codeAny_forLoop_any (fun n s' => ∃ i σ' H', Inv X pins σ' H' s' ∧ tn i s'.heap ∧ (∀ b ∈ fp, H' b = none) ∧ W i n σ' H') ?_ m0 ⟨0, σ, H2, I2, st2, fun b hb => (f2 b hb).1, w0⟩
  rintro n s3 ⟨i, σ3, H3, I3, st3, fr3, w3⟩
  rcases turn i n σ3 H3 w3 with ⟨stop, qn⟩ | ⟨go, N, hN, step⟩
  · refine wpAny_passesOwn hp (thn (T.done X rfl rfl rfl hc i pins s3 σ3 H3 X.xe I3 (stat fr3) st3 stop) fun r s4 ⟨hr, I4⟩ => ?_)
    subst hr
    exact wpAny_execs_nil ⟨σ3, H3, I4, qn⟩
  · refine wpAny_passesOwn hp (thn (T.item X rfl rfl rfl hc i pins s3 σ3 H3 X.xe I3 (stat fr3) st3 go) fun r s4 ⟨u, hr, h4⟩ => ?_)
    subst hr
    refine wpAny_passesOwn hp (thn h4 fun _ s5 ⟨x, H5, I5, r5, y5, st5, fr5⟩ => ?_)
    have I5' := I5.pinned (stat fr5) (T.obj _ _ st5)
    refine wpAny_passesOwn hp (thn (hg _ s5 σ3 H5 x u _ I5' r5 (step x H5 y5)) fun _ s6 ⟨σ6, H6, I6, q6⟩ => ?_)
    refine wpAny_passesOwn hp (thn (hb _ s6 σ6 H6 _ I6 q6) fun f s7 q7 => ?_)
    have again : ∀ {σ7 : St} {H7 : Hp}, Inv X (pins ++ pinsAt fp s5.heap) σ7 H7 s7 → N σ7 H7 → ∃ m, m < n ∧ ∃ i σ' H', Inv X pins σ' H' s7 ∧ tn i s7.heap ∧ (∀ b ∈ fp, H' b = none) ∧ W i m σ' H' := fun {σ7 H7} I7 n7 => by
      obtain ⟨m', hm, w7⟩ := hN σ7 H7 n7
      refine ⟨m', hm, i + 1, σ7, H7, I7.unpinned, T.keep _ _ _ st5 fun b hb o e => (I7.pin (b, o) (List.mem_append_right _ (List.mem_append_right _ (mem_pinsAt hb e)))).1, fun b hb => ?_, w7⟩
      obtain ⟨o, e, d⟩ := T.obj _ _ st5 b hb
      exact (I7.pin (b, o) (List.mem_append_right _ (List.mem_append_right _ (mem_pinsAt hb e)))).2.1
    cases f with
    | next => obtain ⟨σ7, H7, I7, n7⟩ := q7; exact again I7 n7
    | cont => obtain ⟨σ7, H7, I7, n7⟩ := q7; exact again I7 n7
    | brk => obtain ⟨σ7, H7, I7, q7⟩ := q7; exact ⟨σ7, H7, I7.unpinned, q7⟩
    | ret v => obtain ⟨x7, σ7, H7, I7, r7, q7⟩ := q7; exact ⟨x7, σ7, H7, I7.unpinned, r7, q7⟩
end
theorem for_range {lo : Int} {n : Nat} {g : TG} {tb : TS} {D : Ends} {σ : St} {H : Hp} (Pv : Nat → St → Hp → Prop) (h0 : Pv 0 σ H)
    (hs : ∀ i σ H, i < n → Pv i σ H → g (.int (lo + i)) σ H fun σ2 H2 => tb { D with nx := Pv (i + 1), ct := Pv (i + 1), bk := D.nx } σ2 H2) (hd : ∀ σ H, Pv n σ H → D.nx σ H) :
    ∃ W : Nat → Nat → St → Hp → Prop, (∃ m, W 0 m σ H) ∧ ∀ i m σ H, W i m σ H →
      ((Itr lo n).stop i H ∧ D.nx σ H) ∨ ((Itr lo n).go i H ∧ ∃ N : St → Hp → Prop, (∀ σ' H', N σ' H' → ∃ m', m' < m ∧ W (i + 1) m' σ' H') ∧ ∀ x H', (Itr lo n).yld i H x H' → g x σ H' fun σ2 H2 => tb { D with nx := N, ct := N, bk := D.nx } σ2 H2) := by
  refine ⟨fun i m σ H => m = n - i ∧ i ≤ n ∧ Pv i σ H, ⟨n, by simp, Nat.zero_le _, h0⟩, ?_⟩
  rintro i m σ H ⟨rfl, hi, p⟩
  by_cases hlt : i < n
  · refine .inr ⟨hlt, Pv (i + 1), fun σ' H' p' => ⟨n - (i + 1), by omega, rfl, hlt, p'⟩, fun x H' y => ?_⟩
    obtain ⟨e, y⟩ := y
    subst e y
    exact hs i σ _ hlt p
  · have e : i = n := by omega
    subst e
    exact .inl ⟨Nat.le_refl _, hd σ H p⟩
end L2
namespace L2
open PySem PySem.Spec PyProof.Rows
abbrev R2 := V → V → Hp → VK → Prop
def OpR (X : Cx) (f : Value → Value → Sem Value) (r : R2) : Prop :=
  ∀ (pins : List (Addr × Obj)) (s : Shared) (σ : St) (H : Hp) (x y : V) (v u : Value) (Q : VK), Inv X pins σ H s → RelV x v → RelV y u → r x y H Q →
    wpAny (model X.prog X.w) X.A (f v u) (EP X pins σ Q) X.xe s
def UnR (X : Cx) (f : Value → Sem Value) (r : V → Hp → VK → Prop) : Prop :=
  ∀ (pins : List (Addr × Obj)) (s : Shared) (σ : St) (H : Hp) (x : V) (v : Value) (Q : VK), Inv X pins σ H s → RelV x v → r x H Q →
    wpAny (model X.prog X.w) X.A (f v) (EP X pins σ Q) X.xe s
def CallR (X : Cx) (f : Value) (r : List V → Hp → VK → Prop) : Prop :=
  ∀ (pins : List (Addr × Obj)) (s : Shared) (σ : St) (H : Hp) (xs : List V) (us : List Value) (Q : VK), Inv X pins σ H s → Vals xs us → r xs H Q →
    wpAny (model X.prog X.w) X.A (call f us) (EP X pins σ Q) X.xe s
def TruR (X : Cx) (r : V → Hp → (Bool → Hp → Prop) → Prop) : Prop :=
  ∀ (pins : List (Addr × Obj)) (s : Shared) (σ : St) (H : Hp) (x : V) (v : Value) (Q : Bool → Hp → Prop), Inv X pins σ H s → RelV x v → r x H Q →
    wpAny (model X.prog X.w) X.A (truthy v) (TP X pins σ Q) X.xe s
def tOp (r : R2) (ta tb : TE) : TE := fun σ H Q => ta σ H fun x H1 => tb σ H1 fun y H2 => r x y H2 Q
def tUn (r : V → Hp → VK → Prop) (ta : TE) : TE := fun σ H Q => ta σ H fun x H1 => r x H1 Q
def rI (C : Int → Int → Prop) (g : Int → Int → V) : R2 := fun x y H Q => ∃ i j, x = .int i ∧ y = .int j ∧ C i j ∧ Q (g i j) H
def rI0 (g : Int → Int → V) : R2 := fun x y H Q => ∃ i j, x = .int i ∧ y = .int j ∧ Q (g i j) H
def rU (g : Int → V) : V → Hp → VK → Prop := fun x H Q => ∃ i, x = .int i ∧ Q (g i) H
section
variable {X : Cx} {a b c : Expr} {ta tb tc : TE} {pos : Pos}
theorem binT (ha : PE X a ta) (hb : PE X b tb) {pins : List (Addr × Obj)} {s : Shared} {σ : St} {H : Hp} {R : V → V → Hp → Prop} (I : Inv X pins σ H s)
    (h : ta σ H fun x H1 => tb σ H1 fun y H2 => R x y H2) {Q : Value → Shared → Prop} {f : Value → Value → Sem Value}
    (hf : ∀ v u s2 x y H2, Inv X pins σ H2 s2 → RelV x v → RelV y u → R x y H2 → wpAny (model X.prog X.w) X.A (f v u) Q X.xe s2) :
    wpAny (model X.prog X.w) X.A (eval a X.env) (fun v s₁ => wpAny (model X.prog X.w) X.A (eval b X.env) (fun u s₂ => wpAny (model X.prog X.w) X.A (f v u) Q X.xe s₂) X.xe s₁) X.xe s := by
  refine thn (ha pins s σ H _ I h) fun v s1 ⟨x, H1, I1, r1, q1⟩ => ?_
  refine thn (hb pins s1 σ H1 _ I1 q1) fun u s2 ⟨y, H2, I2, r2, q2⟩ => ?_
  exact hf v u s2 x y H2 I2 r1 r2 q2
theorem pe_op {op : Operator} {r : R2} (ho : OpR X (binaryOp op) r) (ha : PE X a ta) (hb : PE X b tb) : PE X (.BinOp a op b pos) (tOp r ta tb) := by
  intro pins s σ H Q I h
  exact wpAny_BinOp (binT ha hb I h fun v u s2 x y H2 I2 rx ry q => ho pins s2 σ H2 x y v u Q I2 rx ry q)
theorem pe_un {op : UnaryOp} {r : V → Hp → VK → Prop} (ho : UnR X (unaryOp op) r) (ha : PE X a ta) : PE X (.UnaryOp op a pos) (tUn r ta) := by
  intro pins s σ H Q I h
  exact UnaryOp_ (thn (ha pins s σ H _ I h) fun v s1 ⟨x, H1, I1, r1, q1⟩ => ho pins s1 σ H1 x v Q I1 r1 q1)
theorem opI {f : Value → Value → Sem Value} {C : Int → Int → Prop} {g : Int → Int → Int}
    (rule : ∀ (i j : Int) (t u : Tok) (s : Shared) (Q : Value → Shared → Prop) (E : Value → Shared → Prop), C i j → Q (.int (g i j) s.toks) { s with toks := s.toks + 1 } → wpAny (model X.prog X.w) X.A (f (.int i t) (.int j u)) Q E s) :
    OpR X f (rI C fun i j => .int (g i j)) := by
  intro pins s σ H x y v u Q I rx ry h
  obtain ⟨i, j, rfl, rfl, hc, q⟩ := h
  obtain ⟨t, rfl⟩ := rx
  obtain ⟨t', rfl⟩ := ry
  exact rule i j t t' s _ _ hc ⟨.int (g i j), H, I.tok _, ⟨_, rfl⟩, q⟩
theorem opI0 {f : Value → Value → Sem Value} {g : Int → Int → Int}
    (rule : ∀ (i j : Int) (t u : Tok) (s : Shared) (Q : Value → Shared → Prop) (E : Value → Shared → Prop), Q (.int (g i j) s.toks) { s with toks := s.toks + 1 } → wpAny (model X.prog X.w) X.A (f (.int i t) (.int j u)) Q E s) :
    OpR X f (rI0 fun i j => .int (g i j)) := by
  intro pins s σ H x y v u Q I rx ry h
  obtain ⟨i, j, rfl, rfl, q⟩ := h
  obtain ⟨t, rfl⟩ := rx
  obtain ⟨t', rfl⟩ := ry
  exact rule i j t t' s _ _ ⟨.int (g i j), H, I.tok _, ⟨_, rfl⟩, q⟩
theorem opB0 {f : Value → Value → Sem Value} {g : Int → Int → Bool}
    (rule : ∀ (i j : Int) (t u : Tok) (s : Shared) (Q : Value → Shared → Prop) (E : Value → Shared → Prop), Q (.bool (g i j)) s → wpAny (model X.prog X.w) X.A (f (.int i t) (.int j u)) Q E s) :
    OpR X f (rI0 fun i j => .bl (g i j)) := by
  intro pins s σ H x y v u Q I rx ry h
  obtain ⟨i, j, rfl, rfl, q⟩ := h
  obtain ⟨t, rfl⟩ := rx
  obtain ⟨t', rfl⟩ := ry
  exact rule i j t t' s _ _ ⟨.bl (g i j), H, I, rfl, q⟩
def CDiv (i j : Int) : Prop := 0 < j ∧ j < 1073741824
def CPow (i j : Int) : Prop := 0 ≤ j ∧ j ≤ 1000000 ∧ i.natAbs < 2 ^ 64
def CMul (i j : Int) : Prop := (-(2 ^ 64) < i ∧ i < 2 ^ 64) ∨ (-(2 ^ 64) < j ∧ j < 2 ^ 64)
theorem CMul.ok {i j : Int} (h : CMul i j) : IntMulOk i j := by
  rcases h with ⟨h1, h2⟩ | ⟨h1, h2⟩
  · exact .of_left (intBits_le_64 h1 h2)
  · exact .of_right (intBits_le_64 h1 h2)
theorem op_add : OpR X (binaryOp .Add) (rI0 fun i j => .int (i + j)) := opI0 fun _ _ _ _ _ _ _ q => add_int q
theorem op_sub : OpR X (binaryOp .Sub) (rI0 fun i j => .int (i - j)) := opI0 fun _ _ _ _ _ _ _ q => sub_int q
theorem op_mul : OpR X (binaryOp .Mult) (rI CMul fun i j => .int (i * j)) := opI fun _ _ _ _ _ _ _ hc q => mul_int q hc.ok
theorem op_fdiv : OpR X (binaryOp .FloorDiv) (rI CDiv fun i j => .int (i / j)) := opI fun i j _ _ _ _ _ hc q => by
  have h1 : (0 : Int) < j := hc.1
  have h2 : j < 1073741824 := hc.2
  exact floordiv_int (by omega) (by rw [Int.fdiv_eq_ediv_of_nonneg i (by omega)]; exact q) (.inl (PyProof.noPylong_small (by omega)))
theorem op_mod : OpR X (binaryOp .Mod) (rI (fun _ j => 0 < j) fun i j => .int (i % j)) := opI fun i j _ _ _ _ _ hc q => by
  have h1 : (0 : Int) < j := hc
  exact mod_int' (by omega) (by rw [Int.fmod_eq_emod_of_nonneg i (by omega)]; exact q)
theorem op_pow : OpR X (binaryOp .Pow) (rI CPow fun i j => .int (i ^ j.toNat)) := opI fun _ _ _ _ _ _ _ hc q => pow_int_small hc.1 hc.2.1 hc.2.2 q
theorem unI {f : Value → Sem Value} {g : Int → Int}
    (rule : ∀ (i : Int) (t : Tok) (s : Shared) (Q : Value → Shared → Prop) (E : Value → Shared → Prop), Q (.int (g i) s.toks) { s with toks := s.toks + 1 } → wpAny (model X.prog X.w) X.A (f (.int i t)) Q E s) :
    UnR X f (rU fun i => .int (g i)) := by
  intro pins s σ H x v Q I rx h
  obtain ⟨i, rfl, q⟩ := h
  obtain ⟨t, rfl⟩ := rx
  exact rule i t s _ _ ⟨.int (g i), H, I.tok _, ⟨_, rfl⟩, q⟩
theorem un_neg : UnR X (unaryOp .USub) (rU fun i => .int (-i)) := unI fun _ _ _ _ _ q => neg_int q
end
def scal : V → V → Bool
  | .non, .non => true | .non, .int _ => true | .int _, .non => true | .non, .bl _ => true | .bl _, .non => true | .non, .str _ => true | .str _, .non => true
  | .int _, .int _ => true | .bl _, .bl _ => true | .str _, .str _ => true | .byt _, .byt _ => true
  | .int _, .str _ => true | .str _, .int _ => true | .bl _, .str _ => true | .str _, .bl _ => true
  | _, _ => false
def rEq : R2 := fun x y H Q => scal x y = true ∧ Q (.bl (decide (x = y))) H
theorem dec_int {i j : Int} : decide (V.int i = V.int j) = (i == j) := by
  rw [Bool.eq_iff_iff]
  simp
theorem dec_bl {i j : Bool} : decide (V.bl i = V.bl j) = (i == j) := by
  rw [Bool.eq_iff_iff]
  simp
theorem dec_str {i j : Str} : decide (V.str i = V.str j) = (i == j) := by
  rw [Bool.eq_iff_iff]
  simp
theorem dec_byt {i j : Array UInt8} : decide (V.byt i = V.byt j) = (i.toList == j.toList) := by
  rw [Bool.eq_iff_iff]
  cases i
  cases j
  simp
section
variable {X : Cx} {a b c : Expr} {ta tb tc : TE} {pos : Pos}
theorem fin_bl {pins : List (Addr × Obj)} {σ : St} {H : Hp} {s : Shared} {Q : VK} {k k' : Bool} (I : Inv X pins σ H s) (q : Q (.bl k) H) (e : k = k') : EP X pins σ Q (.bool k') s := by
  subst e
  exact ⟨.bl k, H, I, rfl, q⟩
theorem op_eq : OpR X (compareOp .Eq) rEq := by
  intro pins s σ H x y v u Q I rx ry h
  obtain ⟨hs, q⟩ := h
  cases x with
  | non =>
    cases rx
    cases y with
    | non => cases ry; exact PySem.EqNone.eq_none_none (fin_bl I q (by simp))
    | bl j => cases ry; exact PySem.EqNone.eq_none_bool (fin_bl I q (by simp))
    | int j => obtain ⟨t', rfl⟩ := ry; exact PySem.EqNone.eq_none_int (fin_bl I q (by simp))
    | str j => obtain ⟨t', rfl⟩ := ry; exact PySem.EqNone.eq_none_str (fin_bl I q (by simp))
    | _ => exact absurd (show false = true from hs) Bool.false_ne_true
  | bl i =>
    cases rx
    cases y with
    | non => cases ry; exact PySem.EqNone.eq_bool_none (fin_bl I q (by simp))
    | bl j => cases ry; exact eq_bool (fin_bl I q dec_bl)
    | str j => obtain ⟨t', rfl⟩ := ry; exact PySem.EqMixed.eq_bool_str (fin_bl I q (by simp))
    | _ => exact absurd (show false = true from hs) Bool.false_ne_true
  | int i =>
    obtain ⟨t, rfl⟩ := rx
    cases y with
    | non => cases ry; exact PySem.EqNone.eq_int_none (fin_bl I q (by simp))
    | int j => obtain ⟨t', rfl⟩ := ry; exact eq_int (fin_bl I q dec_int)
    | str j => obtain ⟨t', rfl⟩ := ry; exact PySem.EqMixed.eq_int_str (fin_bl I q (by simp))
    | _ => exact absurd (show false = true from hs) Bool.false_ne_true
  | str i =>
    obtain ⟨t, rfl⟩ := rx
    cases y with
    | non => cases ry; exact PySem.EqNone.eq_str_none (fin_bl I q (by simp))
    | bl j => cases ry; exact PySem.EqMixed.eq_str_bool (fin_bl I q (by simp))
    | int j => obtain ⟨t', rfl⟩ := ry; exact PySem.EqMixed.eq_str_int (fin_bl I q (by simp))
    | str j => obtain ⟨t', rfl⟩ := ry; exact eq_str (fin_bl I q dec_str)
    | _ => exact absurd (show false = true from hs) Bool.false_ne_true
  | byt i =>
    obtain ⟨t, rfl⟩ := rx
    cases y with
    | byt j => obtain ⟨t', rfl⟩ := ry; exact PySem.W.eq_bytes (fin_bl I q dec_byt)
    | _ => exact absurd (show false = true from hs) Bool.false_ne_true
  | _ => cases y <;> exact absurd (show false = true from hs) Bool.false_ne_true
theorem op_lt : OpR X (compareOp .Lt) (rI0 fun i j => .bl (decide (i < j))) := opB0 fun _ _ _ _ _ _ _ q => lt_int q
theorem op_gt : OpR X (compareOp .Gt) (rI0 fun i j => .bl (decide (j < i))) := opB0 fun _ _ _ _ _ _ _ q => gt_int q
theorem op_ge : OpR X (compareOp .GtE) (rI0 fun i j => .bl (decide (j ≤ i))) := opB0 fun _ _ _ _ _ _ _ q => ge_int q
theorem OpR.or {f : Value → Value → Sem Value} {r r' : R2} (h : OpR X f r) (h' : OpR X f r') : OpR X f (fun x y H Q => r x y H Q ∨ r' x y H Q) := by
  intro pins s σ H x y v u Q I rx ry q
  rcases q with q | q
  · exact h pins s σ H x y v u Q I rx ry q
  · exact h' pins s σ H x y v u Q I rx ry q
theorem nomark (b : Expr) {op : CmpOp} (h : op ≠ .In := by decide) (h2 : op ≠ .NotIn := by decide) : behindInMarks op b = false := by
  have e1 : (op == CmpOp.In) = false := by cases op <;> first | rfl | exact absurd rfl h
  have e2 : (op == CmpOp.NotIn) = false := by cases op <;> first | rfl | exact absurd rfl h2
  cases b <;> simp [behindInMarks, e1, e2]
theorem pe_cmpR {op : CmpOp} {r : R2} (ho : OpR X (compareOp op) r) (ha : PE X a ta) (hb : PE X b tb) (hm : behindInMarks op b = false) : PE X (.Compare a [op] [b] pos) (tOp r ta tb) := by
  intro pins s σ H Q I h
  exact wpAny_Compare1 (binT ha hb I h fun v u s2 x y H2 I2 rx ry q => ho pins s2 σ H2 x y v u Q I2 rx ry q) hm
def tTest (t : TE) : TT := fun σ H Q => t σ H fun x H' => ∃ k, x = .bl k ∧ Q k H'
theorem pt_cmpR {op : CmpOp} {r : R2} (ho : OpR X (compareOp op) r) (ha : PE X a ta) (hb : PE X b tb) (hm : behindInMarks op b = false) : PT X (.Compare a [op] [b] pos) (tTest (tOp r ta tb)) := by
  intro pins s σ H Q I h
  refine wpAny_isTrue_Compare1 (thn (ha pins s σ H _ I h) fun v s1 ⟨x, H1, I1, r1, q1⟩ => thn (hb pins s1 σ H1 _ I1 q1) fun u s2 ⟨y, H2, I2, r2, q2⟩ =>
    thn (ho pins s2 σ H2 x y v u _ I2 r1 r2 q2) fun c s3 ⟨z, H3, I3, r3, k, e, q3⟩ => ?_) hm
  subst e
  cases r3
  exact wpAny_truthy_bool ⟨H3, I3, q3⟩
def TruV (K : PySem.W.Frag) (x : V) (H : Hp) (k : Bool) : Prop :=
  match x with
  | .non => k = false
  | .bl b => k = b
  | .int i => k = (i != 0)
  | .str y => y.length ≤ sizeLine ∧ k = ((y.length : Int) != 0)
  | .byt y => y.size ≤ sizeLine ∧ k = ((y.size : Int) != 0)
  | .ref p => (∃ xs, SqL K H p xs ∧ k = !xs.isEmpty) ∨ (∃ xs, SqT K H p xs ∧ k = !xs.isEmpty) ∨ ∃ kvs, H p = some (.dK kvs) ∧ k = !kvs.isEmpty
  | _ => False
theorem isEmpty_kv {κ : Type} {kvs : List (κ × V)} {vs : List (κ × Value)} (r : KV kvs vs) : (!vs.isEmpty) = !kvs.isEmpty := by
  cases r <;> rfl
theorem isEmpty_of {xs : List V} {its : List Value} (r : Vals xs its) : (!its.toArray.isEmpty) = !xs.isEmpty := by
  cases r <;> simp
theorem line63 : (sizeLine : Nat) < 2 ^ 63 := by rw [sizeLine_eq]; decide
theorem tru_ok : TruR X (fun x H Q => ∃ k, TruV X.K x H k ∧ Q k H) := by
  intro pins s σ H x v Q I rx h
  obtain ⟨k, e, q⟩ := h
  have hl := line63
  have hs : sizeLine = 16777216 := sizeLine_eq
  cases x with
  | non =>
    cases rx
    have e' : k = false := e
    subst e'
    exact truthy_none ⟨H, I, q⟩
  | bl b =>
    cases rx
    have e' : k = b := e
    subst e'
    exact wpAny_truthy_bool ⟨H, I, q⟩
  | int i =>
    obtain ⟨t, rfl⟩ := rx
    have e' : k = (i != 0) := e
    subst e'
    exact PySem.P.truthy_int ⟨H, I, q⟩
  | str y =>
    obtain ⟨t, rfl⟩ := rx
    obtain ⟨hy, e'⟩ : y.length ≤ sizeLine ∧ k = ((y.length : Int) != 0) := e
    subst e'
    exact PySem.P.truthy_str (by omega) ⟨H, I.tok _, q⟩
  | byt y =>
    obtain ⟨t, rfl⟩ := rx
    obtain ⟨hy, e'⟩ : y.size ≤ sizeLine ∧ k = ((y.size : Int) != 0) := e
    subst e'
    exact PySem.W.truthy_bytes (by omega) ⟨H, I.tok _, q⟩
  | ref p =>
    cases rx
    have e' : (∃ xs, SqL X.K H p xs ∧ k = !xs.isEmpty) ∨ (∃ xs, SqT X.K H p xs ∧ k = !xs.isEmpty) ∨ ∃ kvs, H p = some (.dK kvs) ∧ k = !kvs.isEmpty := e
    rcases e' with ⟨xs, hx, e'⟩ | ⟨xs, hx, e'⟩ | ⟨kvs, hx, e'⟩
    · subst e'
      obtain ⟨its, r, pl, hz⟩ := I.list hx
      have hlen := r.length
      exact wpAny_truthy_list pl.isList (by simp only [List.size_toArray]; omega) ⟨H, I.tok _, by rw [isEmpty_of r]; exact q⟩
    · subst e'
      obtain ⟨its, r, pl, hz⟩ := I.tuple hx
      have hlen := r.length
      exact truthy_tuple pl (by simp only [List.size_toArray]; omega) ⟨H, I.tok _, by rw [isEmpty_of r]; exact q⟩
    · subst e'
      obtain ⟨hz, hS, vs, r, m⟩ : kvs.length ≤ sizeLine ∧ (p == sysModules) = false ∧ ∃ vs, KV kvs vs ∧ s.heap.DictOf (mixKind X.prog X.w) p vs := I.hok p _ hx
      have hlen : kvs.length = vs.length := Paired.length r
      exact wpAny_truthy_dict hS m (by omega) ⟨H, I.tok _, by rw [isEmpty_kv r]; exact q⟩
  | _ => exact (show False from e).elim
theorem pt_truth (ha : PE X a ta) (he : ∀ whole, isTrue a X.env whole = (do let v ← whole; standAt a.pos; holding [v] (truthy v))) :
    PT X a (fun σ H Q => ta σ H fun x H' => ∃ k, TruV X.K x H' k ∧ Q k H') := by
  intro pins s σ H Q I h
  exact isTrue_plain (thn (ha pins s σ H _ I h) fun v s1 ⟨x, H1, I1, r1, q1⟩ => tru_ok pins s1 σ H1 x v Q I1 r1 q1) (he _)
theorem vals1 {x : V} {us : List Value} (r : Vals [x] us) : ∃ u, us = [u] ∧ RelV x u := by
  cases r with
  | cons r1 r2 => cases r2; exact ⟨_, rfl, r1⟩
theorem vals2 {x y : V} {us : List Value} (r : Vals [x, y] us) : ∃ u w', us = [u, w'] ∧ RelV x u ∧ RelV y w' := by
  cases r with
  | cons r1 r2 =>
    cases r2 with
    | cons r3 r4 => cases r4; exact ⟨_, _, rfl, r1, r3⟩
theorem call_max2 (hc : X.calm = true) : CallR X (.builtin "max") (fun xs H Q => ∃ i j, xs = [.int i, .int j] ∧ Q (.int (if j > i then j else i)) H) := by
  intro pins s σ H xs us Q I r h
  obtain ⟨i, j, rfl, q⟩ := h
  obtain ⟨u, w', rfl, ⟨t, rfl⟩, ⟨t', rfl⟩⟩ := vals2 r
  refine max_two_ints (I.ok.hd hc) fun h' tk k => ⟨_, H, I.kept k, ?_, q⟩
  by_cases hj : j > i
  · rw [if_pos hj, if_pos hj]; exact ⟨_, rfl⟩
  · rw [if_neg hj, if_neg hj]; exact ⟨_, rfl⟩
theorem call_min2 (hc : X.calm = true) : CallR X (.builtin "min") (fun xs H Q => ∃ i j, xs = [.int i, .int j] ∧ Q (.int (if j < i then j else i)) H) := by
  intro pins s σ H xs us Q I r h
  obtain ⟨i, j, rfl, q⟩ := h
  obtain ⟨u, w', rfl, ⟨t, rfl⟩, ⟨t', rfl⟩⟩ := vals2 r
  refine min_two_ints (I.ok.hd hc) fun h' tk k => ⟨_, H, I.kept k, ?_, q⟩
  by_cases hj : j < i
  · rw [if_pos hj, if_pos hj]; exact ⟨_, rfl⟩
  · rw [if_neg hj, if_neg hj]; exact ⟨_, rfl⟩
theorem call_int1 : CallR X (.type "int") (fun xs H Q => (∃ i, xs = [.int i] ∧ Q (.int i) H) ∨ ∃ k, xs = [.bl k] ∧ Q (.int (if k then 1 else 0)) H) := by
  intro pins s σ H xs us Q I r h
  rcases h with ⟨i, rfl, q⟩ | ⟨k, rfl, q⟩
  · obtain ⟨u, rfl, t, rfl⟩ := vals1 r
    exact call_int_int ⟨.int i, H, I, ⟨_, rfl⟩, q⟩
  · obtain ⟨u, rfl, r1⟩ := vals1 r
    cases r1
    exact call_int_bool ⟨.int (if k then 1 else 0), H, I.tok _, ⟨_, rfl⟩, q⟩
end
end L2
namespace L2
open PySem PySem.Spec PyProof.Rows
structure ObjM (h : Heap) (x dx C : Addr) (mA : Str → Option Value) : Prop where
  obj : h.get? x = some (PySem.W.instObj C dx)
  ns : h.Ns1 dx mA
  ne : dx ≠ x
theorem lookIn_ns {h : Heap} {dx : Addr} {mA : Str → Option Value} (n : h.Ns1 dx mA) : ∃ od, h.get? dx = some od ∧ ∀ name, PySem.W.lookIn name od = some (mA name) := by
  obtain ⟨o, es, ep, ho, hd, hk, _, hm⟩ := n
  refine ⟨o, ho, fun name => ?_⟩
  have e := hm name
  unfold nsFind findBy at e
  rw [← Array.find?_toList] at e
  unfold PySem.W.lookIn
  rw [hd]
  dsimp only
  split
  · rename_i y q
    rw [q] at e
    exact congrArg some e
  · rename_i q
    rw [q] at e
    have a : es.toList.any (·.refKey) = false := by
      rw [List.any_eq_false]
      intro y hy
      obtain ⟨z, t, hkey⟩ := hk y (Array.mem_toList_iff.mp hy)
      simp [DictEntry.refKey, hkey]
    have a' : ¬ es.toList.any (·.refKey) = true := by rw [a]; exact Bool.false_ne_true
    rw [if_neg a']
    exact congrArg some e
theorem ObjM.look {h : Heap} {x dx C : Addr} {mA : Str → Option Value} (I : ObjM h x dx C mA) : ∃ od, PySem.W.InstAt h x (PySem.W.instObj C dx) C (some od) ∧ ∀ name, PySem.W.lookIn name od = some (mA name) :=
  let ⟨od, ho, hl⟩ := lookIn_ns I.ns
  ⟨od, ⟨I.obj, rfl, rfl, ho⟩, hl⟩
section
variable {prog : Program} {w : World} {A : Around} {E : Value → Shared → Prop} {s : Shared} {K : PySem.W.Frag} {x dx C f : Addr} {mA : Str → Option Value} {name : Str} {v : Value}
end
theorem RelO.some_of {v : V} {o : Option Value} (r : RelO (some v) o) : ∃ u, o = some u ∧ RelV v u := by
  cases o with
  | none => exact (show False from r).elim
  | some u => exact ⟨u, rfl, r⟩
section
variable {P : Program} {w : World} {H H' : Hp} {h h' : Heap} {a C dx : Addr} {fs fs' : List (Str × V)}
theorem ins_get (hok : HOk P w H h) (e : H a = some (.ins C dx fs)) : ∃ mA, ObjM h a dx C mA ∧ (∀ f, RelO (fs.lookup f) (mA f)) ∧ PySem.Within mA (fs.map (·.1)) ∧ fs.length ≤ 1000 ∧ H dx = some (.own a) := by
  obtain ⟨d, z, ne, ob, mA, n, r, q⟩ := (show ObjOk P w H h a (.ins C dx fs) from hok a _ e)
  exact ⟨mA, ⟨ob, n, ne⟩, r, q, z, d⟩
end
structure Cls (K : PySem.W.Frag) (C : Addr) : Prop where
  pg : PySem.W.plainGet K C Str.empty = true
  hd : PySem.W.hasDictIn K C = true
  po : PySem.W.plainOver K C = true
  sa : PySem.W.findIn K (.ref C) "__setattr__" = some (some (.builtin "object.__setattr__"))
theorem Cls.get {K : PySem.W.Frag} {C : Addr} (c : Cls K C) (f : Str) : PySem.W.plainGet K C f = true := c.pg
section
variable {X : Cx} {pins : List (Addr × Obj)} {σ : St} {H : Hp} {s : Shared} {a C dx : Addr} {fs : List (Str × V)} {f : Str} {v : V} {A : Around} {E : Value → Shared → Prop}
end
section
variable {X : Cx} {o e value : Expr} {f : Str} {pos pos' tpos : Pos} {ta tv : TE}
end
section
variable {X : Cx} {pins : List (Addr × Obj)} {σ : St} {H : Hp} {s : Shared} {A : Around} {E : Value → Shared → Prop} {Q : Value → Shared → Prop} {c : Value} {b : Bool}
inductive TyOf (K : PySem.W.Frag) (H : Hp) : V → Value → Prop where
  | non : TyOf K H .non (.type "NoneType")
  | bl (x : Bool) : TyOf K H (.bl x) (.type "bool")
  | int (i : Int) : TyOf K H (.int i) (.type "int")
  | str (x : Str) : TyOf K H (.str x) (.type "str")
  | flt (x : UInt64) : TyOf K H (.flt x) (.type "float")
  | lst {a : Addr} {xs : List V} (e : H a = some (.lst xs)) : TyOf K H (.ref a) (.type "list")
  | frz {a : Addr} {o : Obj} {xs : List V} (e : H a = some (.frz o (.lst xs))) : TyOf K H (.ref a) (.type "list")
  | tup {a : Addr} {xs : List V} (e : H a = some (.tup xs)) : TyOf K H (.ref a) (.type "tuple")
  | dK {a : Addr} {kvs : List (Key × V)} (e : H a = some (.dK kvs)) : TyOf K H (.ref a) (.type "dict")
  | dT {a : Addr} {kvs : List (List Key × V)} (e : H a = some (.dT kvs)) : TyOf K H (.ref a) (.type "dict")
  | ins {a C dx : Addr} {fs : List (Str × V)} (e : H a = some (.ins C dx fs)) (cl : Cls K C) (ha : PySem.W.findIn K (.ref C) "__class__" = some (some (.builtin "object.__class__")))
      (hn : PySem.W.specialIn K (.builtin "object.__class__") "__get__" = some (some (.builtin "getset_descriptor.__get__"))) (htk : PySem.W.takesIn K (.builtin "object.__class__") = some true)
      (hm : PySem.W.mroIn K C (.type "object") = some true) : TyOf K H (.ref a) (.ref C)
theorem isinst_ok {x : V} {u t : Value} (I : Inv X pins σ H s) (rx : RelV x u) (ty : TyOf X.K H x t) (e : PySem.W.kitOne X.K t c = some b) (h : ∀ tk, Q (.bool b) { s with toks := tk }) :
    wpAny (model X.prog X.w) A (call (.builtin "isinstance") [u, c]) Q E s := by
  cases ty with
  | non => cases (show u = Value.none from rx); exact PySem.W.kia_one PySem.W.kitx_none I.kIn True.intro e (fun z => nomatch z) h
  | bl y => cases (show u = Value.bool y from rx); exact PySem.W.kia_one PySem.W.kitx_bool I.kIn True.intro e (fun z => nomatch z) h
  | int i => obtain ⟨t, q⟩ := (show ∃ t, u = Value.int i t from rx); cases q; exact PySem.W.kia_one PySem.W.kitx_int I.kIn True.intro e (fun z => nomatch z) h
  | str y => obtain ⟨t, q⟩ := (show ∃ t, u = Value.str y t from rx); cases q; exact PySem.W.kia_one PySem.W.kitx_str I.kIn True.intro e (fun z => nomatch z) h
  | flt y => obtain ⟨t, q⟩ := (show ∃ t, u = Value.float y t from rx); cases q; exact PySem.W.kia_one PySem.W.kitx_float I.kIn True.intro e (fun z => nomatch z) h
  | @lst a xs ea =>
    cases (show u = Value.ref a from rx)
    obtain ⟨_, _, n, _, h1⟩ := (show ObjOk X.prog X.w H s.heap a (.lst xs) from I.hok a _ ea)
    exact PySem.W.kia_one PySem.W.kitx_list I.kIn ⟨_, h1, rfl⟩ e (fun z => nomatch z) h
  | @frz a ob xs ea =>
    cases (show u = Value.ref a from rx)
    obtain ⟨_, _, _, n, _, h1⟩ := (show ObjOk X.prog X.w H s.heap a (.frz ob (.lst xs)) from I.hok a _ ea)
    exact PySem.W.kia_one PySem.W.kitx_list I.kIn ⟨_, h1, rfl⟩ e (fun z => nomatch z) h
  | @tup a xs ea =>
    cases (show u = Value.ref a from rx)
    obtain ⟨_, _, _, p⟩ := (show ObjOk X.prog X.w H s.heap a (.tup xs) from I.hok a _ ea)
    obtain ⟨o, h1, h2, _⟩ := p
    exact PySem.W.kia_one PySem.W.kitx_tuple I.kIn ⟨o, h1, h2⟩ e (fun z => nomatch z) h
  | @dK a kvs ea =>
    cases (show u = Value.ref a from rx)
    obtain ⟨_, _, vs, _, p⟩ := (show ObjOk X.prog X.w H s.heap a (.dK kvs) from I.hok a _ ea)
    obtain ⟨o, es, ep, h1, h2, _⟩ := p
    exact PySem.W.kia_one PySem.W.kitx_dict I.kIn ⟨o, h1, h2.1⟩ e (fun z => nomatch z) h
  | @dT a kvs ea =>
    cases (show u = Value.ref a from rx)
    obtain ⟨_, _, xs, _, o, es, ep, h1, h2, _⟩ := (show ObjOk X.prog X.w H s.heap a (.dT kvs) from I.hok a _ ea)
    exact PySem.W.kia_one PySem.W.kitx_dict I.kIn ⟨o, h1, h2.1⟩ e (fun z => nomatch z) h
  | @ins a C dx fs ea cl ha hn htk hm =>
    cases (show u = Value.ref a from rx)
    obtain ⟨mA, O, _⟩ := ins_get I.hok ea
    obtain ⟨od, J, _⟩ := O.look
    exact PySem.W.kia_one (PySem.W.kitx_own (cl.get _) cl.hd ha hn htk hm) I.kIn J e (fun z => nomatch z) h
end
end L2
namespace L2
open PySem PySem.Spec PyProof.Rows
structure Room (k : Nat) (A : Around) : Prop where
  hd : A.handled = none
  dp : A.depth + 3 * k + 5 < recursionLimit
  un : A.units + 16 * k + 200 < cLine
theorem Room.mono {j k : Nat} {A : Around} (r : Room k A) (h : j ≤ k) : Room j A := ⟨r.hd, by have := r.dp; omega, by have := r.un; omega⟩
theorem Room.deeper {k : Nat} {A : Around} (r : Room (k + 1) A) (env : Env) : Room k (A.deeper env) :=
  ⟨r.hd, by have := r.dp; show A.depth + 1 + 3 * k + 5 < _; omega, by have := r.un; show A.units + 3 + 16 * k + 200 < _; omega⟩
theorem Room.depth {k : Nat} {A : Around} (r : Room k A) : A.depth < recursionLimit := by have := r.dp; omega
theorem Room.units {k : Nat} {A : Around} (r : Room k A) : A.units + 64 < cLine := by have := r.un; omega
def tNil : TA := fun _ H Q => Q [] H
def tCons (ta : TE) (tr : TA) : TA := fun σ H Q => ta σ H fun x H1 => tr σ H1 fun xs H2 => Q (x :: xs) H2
section
variable {X : Cx} {e : Expr} {es : List Expr} {te : TE} {t : TA} {pos : Pos}
theorem pa_nil : PA X [] tNil := fun _ _ _ _ H Q I h => Calls.spliced_nil ⟨[], H, I, .nil, h⟩
theorem pa_cons (ha : PE X e te) (hr : PA X es t) (hs : starEach (e :: es) X.env = (false, eval e X.env) :: starEach es X.env := by rfl) : PA X (e :: es) (tCons te t) := by
  intro pos pins s σ H Q I h
  rw [hs]
  show wpAny _ _ (spliced ((false, eval e X.env) :: backTo pos (starEach es X.env))) _ _ s
  refine Calls.spliced_cons (thn (ha pins s σ H _ I h) fun u s1 ⟨x, H1, I1, r1, q1⟩ => ?_)
  exact thn (hr pos pins s1 σ H1 _ I1 q1) fun us s2 ⟨xs, H2, I2, r2, q2⟩ => ⟨x :: xs, H2, I2, .cons r1 r2, q2⟩
def tTup (t : TA) : TE := fun σ H Q => t σ H fun xs H1 => xs.length ≤ sizeLine ∧ ∀ p, H1 p = none → Q (.ref p) (upd H1 p (.tup xs))
def tLst (t : TA) : TE := fun σ H Q => t σ H fun xs H1 => xs.length ≤ sizeLine ∧ ∀ p, H1 p = none → Q (.ref p) (upd H1 p (.lst xs))
theorem pe_tup {x1} (h : PA X es t) : PE X (.Tuple es x1 pos) (tTup t) := by
  intro pins s σ H Q I hq
  refine wpAny_Tuple_spliced (thn (h pos pins s σ H _ I hq) fun us s1 ⟨xs, H1, I1, r, z, q⟩ => ⟨by rw [← r.length]; exact z, ?_⟩)
  have hf : H1 s1.heap.objs.size = none := I1.hok.fresh (Nat.le_refl _)
  refine ⟨.ref s1.heap.objs.size, upd H1 s1.heap.objs.size (.tup xs), I1.laid (t' := s1.toks) (fun b u e => Heap.get?_push_of_some _ e) (Nat.le_refl _) ?_, rfl, q _ hf⟩
  exact ⟨z, us, r, ⟨_, Heap.get?_push_size _ rfl, rfl, _, rfl⟩⟩
theorem pe_lst (h : PA X es t) : PE X (.List es pos) (tLst t) := by
  intro pins s σ H Q I hq
  refine wpAny_List_spliced (thn (h pos pins s σ H _ I hq) fun us s1 ⟨xs, H1, I1, r, z, q⟩ => ⟨by rw [← r.length]; exact z, ?_⟩)
  have hf : H1 s1.heap.objs.size = none := I1.hok.fresh (Nat.le_refl _)
  refine ⟨.ref s1.heap.objs.size, upd H1 s1.heap.objs.size (.lst xs), I1.laid (t' := s1.toks) (fun b u e => Heap.get?_push_of_some _ e) (Nat.le_refl _) ?_, rfl, q _ hf⟩
  exact ⟨z, us, 0, r, Heap.get?_push_size _ rfl⟩
end
abbrev Sp := List V → Hp → VK → XK → Prop
abbrev CXT := List Env → Hp → Shared → XK → Value → Shared → Prop
structure Env0 (P : Program) (w : World) (K : PySem.W.Frag) (mg : Str → Option Value) (base : Heap) (A : Around) (outer : List Env) (s : Shared) (H : Hp) : Prop where
  frames : A.frames = some outer
  mod : Mod K mg base
  bs : ∀ b o, base.get? b = some o → s.heap.get? b = some o ∧ H b = none
  bsz : base.objs.size ≤ s.heap.objs.size
  funs : s.heap.FunFrames base outer
  frf : ∀ b ∈ frs outer, H b = none
  hok : HOk P w H s.heap
  bare : AllBare s.gens
def CE (outer : List Env) (P : Program) (w : World) (H : Hp) (s : Shared) (Q : VK) (u : Value) (s' : Shared) : Prop :=
  ∃ v H', s'.os = s.os ∧ AllBare s'.gens ∧ Un (frs outer) [] H H' s.heap s'.heap ∧ HOk P w H' s'.heap ∧ RelV v u ∧ Q v H'
def CR (CX : CXT) (outer : List Env) (P : Program) (w : World) (H : Hp) (s : Shared) (Q : VK) (E : XK) (r : Result) (s' : Shared) : Prop :=
  match r with
  | .ok (.ret u) => CE outer P w H s Q u s'
  | .ok _ => False
  | .error e => CX outer H s E e s'
structure FnOk (P : Program) (w : World) (K : PySem.W.Frag) (mg : Str → Option Value) (base : Heap) (CX : CXT) (k : Nat) (f : Addr) (fd : FuncData) (ps : List Str) (sp : Sp) : Prop where
  len : ∀ vs H Q E, sp vs H Q E → vs.length = ps.length
  run : ∀ (A : Around) (outer : List Env) (s : Shared) (H : Hp) (args : Args) (us : List Value) (vs : List V) (Q : VK) (E : XK), Room k A → Env0 P w K mg base A outer s H → BindsTo s fd args (ps.zip us) → Vals vs us → sp vs H Q E →
    codeAny (model P w) A (.call (.ref f) args) (CR CX outer P w H s Q E) s
section
variable {X : Cx} {pins : List (Addr × Obj)} {σ : St} {H : Hp} {s s' : Shared}
theorem Inv.env0 (I : Inv X pins σ H s) : Env0 X.prog X.w X.K X.mg X.base X.A X.stack s H :=
  ⟨I.ok.frames, I.ok.mod, I.bs, Nat.le_trans I.ok.bsz I.sz, I.stack, I.stkFree, I.hok, I.bare⟩
theorem Inv.after {Q : VK} {u : Value} (I : Inv X pins σ H s) (h : CE X.stack X.prog X.w H s Q u s') : EP X pins σ Q u s' := by
  obtain ⟨v, H', os, bare, un, hok, r, q⟩ := h
  obtain ⟨hh, g, d, t, os'⟩ := s'
  obtain rfl : os' = s.os := os
  exact ⟨v, H', I.call (h' := hh) (g' := g) (d' := d) (t' := t) (ch := []) un hok bare (fun b z => absurd z (by simp)), r, q⟩
end
def tCall (sp : Sp) (dvs : List V) (E : XK) (t : TA) : TE := fun σ H Q => t σ H fun vs H1 => sp (vs ++ dvs) H1 Q E
def Binds (K : PySem.W.Frag) (fd : FuncData) (ps : List Str) (ds : List Value) : Prop :=
  ∀ (s : Shared) (us : List Value), K.In s.heap → (us ++ ds).length = ps.length → BindsTo s fd ⟨us, []⟩ (ps.zip (us ++ ds))
theorem Binds.all {K : PySem.W.Frag} {fd : FuncData} {ps : List Str} (h : ∀ us : List Value, us.length = ps.length → bindArgs fd ⟨us, []⟩ = pure (ps.zip us)) : Binds K fd ps [] := fun s us _ hl => by
  rw [List.append_nil] at hl ⊢
  exact .of_eq (h us hl)
def Passes (CX : CXT) (X : Cx) (E : XK) : Prop := ∀ (pins : List (Addr × Obj)) (σ : St) (H : Hp) (s : Shared) (e : Value) (s' : Shared), Inv X pins σ H s → CX X.stack H s E e s' → X.xe e s'
section
variable {X : Cx} {CX : CXT} {k : Nat} {f C : Addr} {fd : FuncData} {ps : List Str} {sp : Sp} {dvs : List V} {ds : List Value} {E : XK} {x m : Str} {p pos apos : Pos} {e o : Expr} {es : List Expr} {ta : TE} {t : TA}
theorem run_fn {pins : List (Addr × Obj)} {σ : St} {H : Hp} {s : Shared} {Q : VK} {us : List Value} {vs : List V} (F : FnOk X.prog X.w X.K X.mg X.base CX k f fd ps sp) (hr : Room k X.A) (hb : Binds X.K fd ps ds) (hd : Vals dvs ds) (hx : Passes CX X E)
    (I : Inv X pins σ H s) (r : Vals vs us) (h : sp (vs ++ dvs) H Q E) : wpAny (model X.prog X.w) X.A (call (.ref f) us) (EP X pins σ Q) X.xe s := by
  have r2 : Vals (vs ++ dvs) (us ++ ds) := r.append hd
  have hl : (us ++ ds).length = ps.length := by rw [← r2.length]; exact F.len _ _ _ _ h
  refine wpAny_call (codeAny_mono (F.run X.A X.stack s H ⟨us, []⟩ (us ++ ds) (vs ++ dvs) Q E hr I.env0 (hb s us I.kIn hl) r2 h) fun r s' hq => ?_)
  cases r with
  | error e => exact hx pins σ H s e s' I hq
  | ok fl =>
    cases fl with
    | ret u => exact I.after hq
    | next => exact False.elim hq
    | brk => exact False.elim hq
    | cont => exact False.elim hq
theorem pe_call (F : FnOk X.prog X.w X.K X.mg X.base CX k f fd ps sp) (hr : Room k X.A) (hg : Gl X x) (hm : X.mg x = some (.ref f)) (hk : PySem.W.keepIn X.K (.ref f) = true) (hb : Binds X.K fd ps ds) (hd : Vals dvs ds) (hx : Passes CX X E)
    (ha : PA X (e :: es) t) (hdb : (x == ("__debug__" : Str)) = false := by decide) (he : starEach (e :: es) X.env = (false, eval e X.env) :: starEach es X.env := by rfl) (hpl : (backTo pos (starEach es X.env)).any (·.1) = false := by rfl) :
    PE X (.Call (.Name x p) (e :: es) [] pos) (tCall sp dvs E t) := by
  intro pins s σ H Q I h
  refine wpAny_Call_Name_kw (ld_glob I hg hm ?_ hdb)
  refine PySem.W.callWith_K (h₀ := X.base) I.ok.mod.kin hk (thn (ha pos pins s σ H _ I h) fun us s1 ⟨vs, H1, I1, r, q⟩ => ⟨I1.kIn, ?_⟩) he hpl
  exact run_fn F hr hb hd hx I1 r q
end
section
variable {X : Cx} {CX : CXT} {k : Nat} {f C : Addr} {fd : FuncData} {ps ks : List Str} {sp : Sp} {E : XK} {x m : Str} {p pos apos kpos : Pos} {e o : Expr} {es : List Expr} {kws : List Keyword} {te ta : TE} {t tk : TA} {nm : Option Str}
variable {g : List Value → List Value → List Value} {gV : List V → List V → List V}
end
structure FnScope (N P : List Str) (sc : Scope) : Prop where
  kind : sc.kind = .function
  co : sc.isCoroutine = false
  gen : sc.isGenerator = false
  nd : N.Nodup
  pre : N.take P.length = P
  par : ∀ x ∈ P, sc.names.lookup x = some .local ∨ sc.names.lookup x = some .cell
  nofree : ∀ y ∈ sc.names, y.2 ≠ .free
theorem bindL_out {kindOf : Str → Option NameKind} {x : Str} : ∀ {binds : List (Str × Value)} {m : Str → Option Value}, (∀ v, (x, v) ∉ binds) → bindL kindOf binds m x = m x
  | [], _, _ => rfl
  | (n, v) :: r, m, h => by
    unfold bindL
    rw [bindL_out fun w hw => h w (List.mem_cons_of_mem _ hw)]
    split
    · have : x ≠ n := by rintro rfl; exact h v List.mem_cons_self
      simp [this]
    · rfl
theorem bindC_out {kindOf : Str → Option NameKind} {x : Str} : ∀ {binds : List (Str × Value)} {m : Str → Option Value}, (∀ v, (x, v) ∉ binds) → bindC kindOf binds m x = m x
  | [], _, _ => rfl
  | (n, v) :: r, m, h => by
    unfold bindC
    rw [bindC_out fun w hw => h w (List.mem_cons_of_mem _ hw)]
    split
    · rfl
    · have : x ≠ n := by rintro rfl; exact h v List.mem_cons_self
      simp [this]
theorem bindL_get {kindOf : Str → Option NameKind} {x : Str} {v : Value} : ∀ {P : List Str} {vs : List Value} {i : Nat} {m : Str → Option Value}, P.Nodup → P[i]? = some x → vs[i]? = some v → kindOf x = some .local →
    bindL kindOf (P.zip vs) m x = some v
  | [], _, _, _, _, h, _, _ => by simp at h
  | _ :: _, [], _, _, _, _, h, _ => by simp at h
  | p :: P, w :: vs, 0, m, nd, h1, h2, hk => by
    simp at h1 h2; subst h1; subst h2
    show bindL kindOf ((p, w) :: P.zip vs) m p = _
    unfold bindL
    rw [bindL_out fun v hv => (List.nodup_cons.mp nd).1 (List.of_mem_zip hv).1, if_pos hk]
    simp
  | p :: P, w :: vs, i + 1, m, nd, h1, h2, hk => by
    show bindL kindOf ((p, w) :: P.zip vs) m x = _
    unfold bindL
    exact bindL_get (i := i) (List.nodup_cons.mp nd).2 (by simpa using h1) (by simpa using h2) hk
theorem bindC_get {kindOf : Str → Option NameKind} {x : Str} {v : Value} : ∀ {P : List Str} {vs : List Value} {i : Nat} {m : Str → Option Value}, P.Nodup → P[i]? = some x → vs[i]? = some v → kindOf x ≠ some .local →
    bindC kindOf (P.zip vs) m x = some v
  | [], _, _, _, _, h, _, _ => by simp at h
  | _ :: _, [], _, _, _, _, h, _ => by simp at h
  | p :: P, w :: vs, 0, m, nd, h1, h2, hk => by
    simp at h1 h2; subst h1; subst h2
    show bindC kindOf ((p, w) :: P.zip vs) m p = _
    unfold bindC
    rw [bindC_out fun v hv => (List.nodup_cons.mp nd).1 (List.of_mem_zip hv).1, if_neg hk]
    simp
  | p :: P, w :: vs, i + 1, m, nd, h1, h2, hk => by
    show bindC kindOf ((p, w) :: P.zip vs) m x = _
    unfold bindC
    exact bindC_get (i := i) (List.nodup_cons.mp nd).2 (by simpa using h1) (by simpa using h2) hk
def start (N : List Str) (vs : List V) : St := vs.map some ++ List.replicate (N.length - vs.length) none
def cxOf (CX : CXT) (P : Program) (w : World) (K : PySem.W.Frag) (mg : Str → Option Value) (base : Heap) (N : List Str) (qual : Str) (scope : Scope) (f : Addr) (cd : Value) (A : Around) (outer : List Env) (s : Shared) (H : Hp) (E : XK) : Cx where
  prog := P
  w := w
  K := K
  mg := mg
  base := base
  A := A.deeper (envOfC qual scope s.heap.objs.size f cd)
  N := N
  s₀ := s
  H₀ := H
  env := envOfC qual scope s.heap.objs.size f cd
  outer := outer
  stack := envOfC qual scope s.heap.objs.size f cd :: outer
  ex := []
  calm := true
  fn := fun _ => true
  pn := []
  xe := fun e s' => wpAny (model P w) (A.deeper (envOfC qual scope s.heap.objs.size f cd)) (leaving (envOfC qual scope s.heap.objs.size f cd) e) (fun _ s'' => CX outer H s E e s'') (fun e' s'' => CX outer H s E e' s'') s'
theorem cell_has {sc : Scope} {n : Nat} {x : Str} (h : sc.names.lookup x = some .cell) : ∃ c, (cellsFrom n sc.names []).lookup x = some c := by
  have q := PySem.W.cellsFrom_some sc.names n [] (.inl h)
  exact Option.isSome_iff_exists.mp q
theorem inv_start {CX : CXT} {P : Program} {w : World} {K : PySem.W.Frag} {mg : Str → Option Value} {base : Heap} {N ps : List Str} {qual : Str} {scope : Scope} {f : Addr} {cd : Value} {A : Around} {outer : List Env} {s s1 : Shared} {H : Hp} {E : XK} {us : List Value} {vs : List V}
    (S : FnScope N ps scope) (hd : A.handled = none) (e0 : Env0 P w K mg base A outer s H) (hl : vs.length = ps.length) (r : Vals vs us)
    (x : InCallC s s.heap.objs.size (bindL (envOfC qual scope s.heap.objs.size f cd).kindOf (ps.zip us) fun _ => none) (cellsFrom (s.heap.objs.size + 1) scope.names []) (bindC (envOfC qual scope s.heap.objs.size f cd).kindOf (ps.zip us) fun _ => none) s1) :
    Inv (cxOf CX P w K mg base N qual scope f cd A outer s H E) [] (start N vs) H s1 := by
  have hpl : ps.length ≤ N.length := by have := congrArg List.length S.pre; rw [List.length_take] at this; omega
  obtain ⟨h1, tk, rfl, hk⟩ := x.done
  have noA : ∀ b : Addr, b ∉ (cxOf CX P w K mg base N qual scope f cd A outer s H E).ex := fun b z => absurd (show b ∈ ([] : List Addr) from z) (by simp)
  refine ⟨⟨e0.mod, S.kind, rfl, rfl, Nat.le_refl _, fun y z c h1 h2 => ?_, fun y hy => ?_, fun y c _ h => ?_, fun _ => hd, Around.frames_deeper e0.frames, .inr ⟨rfl, rfl⟩, fun b z => absurd z (noA b), e0.bs, e0.bsz, fun b _ _ => noA b, fun b z => absurd z (noA b), e0.funs, e0.frf⟩,
    rfl, e0.bare, Un.kept hk, ⟨_, x.toInCall.ns, fun i y v h1 h2 h3 => ?_⟩, fun y c h => ⟨_, x.cell y c h⟩, e0.hok.fresh (Nat.le_refl _), fun y c h => ?_, fun p hp => absurd (show p ∈ ([] : List (Addr × Obj)) from hp) (by simp), e0.hok.kept hk, ?_⟩
  · exact name_of_addr x.apart (PySem.mem_of_lookup h1) (PySem.mem_of_lookup h2)
  · have hy : scope.names.lookup y = some .cell ∨ scope.names.lookup y = some .free := hy
    rcases hy with hy | hy
    · exact cell_has hy
    · exact absurd rfl (S.nofree _ (PySem.mem_of_lookup hy))
  · exact Nat.le_of_lt (x.above y c (PySem.mem_of_lookup h))
  · have hi : i < vs.length := by
      unfold start at h2
      by_cases hi : i < vs.length
      · exact hi
      · rw [List.getElem?_append_right (by simpa using hi)] at h2
        rw [List.getElem?_replicate] at h2
        split at h2 <;> cases h2
    have ha : vs[i]? = some v := by
      unfold start at h2
      rw [List.getElem?_append_left (by simpa using hi), List.getElem?_map] at h2
      cases e : vs[i]? with
      | none => rw [e] at h2; cases h2
      | some a => rw [e] at h2; cases h2; rfl
    obtain ⟨u, hu, rv⟩ := r.get ha
    have hp : ps[i]? = some y := by
      rw [← S.pre, List.getElem?_take_of_lt (by omega)]; exact h1
    have ndP : ps.Nodup := by rw [← S.pre]; exact S.nd.sublist (List.take_sublist _ _)
    refine ⟨u, rv, ?_⟩
    rcases S.par y (List.mem_of_getElem? hp) with k | k
    · exact .inl ⟨k, bindL_get ndP hp hu k⟩
    · obtain ⟨c, e⟩ := cell_has (n := s.heap.objs.size + 1) k
      refine .inr ⟨.inl k, c, e, ?_⟩
      have q := x.cell y c e
      rw [bindC_get ndP hp hu (by show scope.names.lookup y ≠ _; rw [k]; decide)] at q
      exact q
  · exact e0.hok.fresh (Nat.le_of_lt (x.above y c (PySem.mem_of_lookup h)))
  · unfold start
    show _ = N.length
    rw [List.length_append, List.length_map, List.length_replicate]
    omega
theorem fn_of {CX : CXT} {P : Program} {w : World} {K : PySem.W.Frag} {mg : Str → Option Value} {base : Heap} {k : Nat} {f : Addr} {name qual : Str} {params : Arguments} {body : List Stmt} {scope : Scope} {dV kV doc pm cdv ct oc : Value} {an od : Option Addr}
    {osl : Array (Option Value)} {N ps : List Str} {sp : Sp} (lk : K.lookup f = some ⟨oc, od, .func (PySem.W.fnOf name qual params body scope dV kV doc pm an cdv ct), osl⟩) (hcd : PySem.W.codeIn K cdv qual = true) (S : FnScope N ps scope)
    (len : ∀ vs H Q E, sp vs H Q E → vs.length = ps.length)
    (hbody : ∀ (A : Around) (outer : List Env) (s : Shared) (H : Hp) (vs : List V) (Q : VK) (E : XK), Room k (A.deeper (envOfC qual scope s.heap.objs.size f cdv)) → sp vs H Q E →
      ∃ t, PSs (cxOf CX P w K mg base N qual scope f cdv A outer s H E) body t ∧ t { nx := fun _ H' => Q .non H', rt := Q } (start N vs) H) :
    FnOk P w K mg base CX (k + 1) f (PySem.W.fnOf name qual params body scope dV kV doc pm an cdv ct) ps sp := by
  refine ⟨len, fun A outer s H args us vs Q E hr e0 hb r hsp => ?_⟩
  have hl := len _ _ _ _ hsp
  have KX : K.In s.heap := e0.mod.kin.keeps fun b o e => (e0.bs b o e).1
  have lim : s.heap.NoLimit := e0.mod.nolimit.keeps fun b o e => (e0.bs b o e).1
  have hkind : ∀ y ∈ ps.zip us, scope.names.lookup y.1 = some .local ∨ (scope.names.lookup y.1 = some .cell ∧ ((cellsFrom (s.heap.objs.size + 1) scope.names []).lookup y.1).isSome = true) := fun ⟨n, v⟩ hy => by
    rcases S.par n (List.of_mem_zip hy).1 with q | q
    · exact .inl q
    · exact .inr ⟨q, PySem.W.cellsFrom_some _ _ _ (.inl q)⟩
  refine codeAny_call_function hr.depth (KX _ _ lk) rfl S.co S.gen rfl (PySem.W.codeRec_of KX hcd) (hb _ _ _ _ ?_)
  refine wpAny_newFunctionEnv_cells S.kind hkind fun env he s1 x => ?_
  subst he
  refine ⟨lim.keeps x.toInCall.keep, codeAny_func ?_⟩
  obtain ⟨t, ht, hq⟩ := hbody A outer s H vs Q E (hr.deeper _) hsp
  have I : Inv (cxOf CX P w K mg base N qual scope f cdv A outer s H E) [] (start N vs) H s1 := inv_start S hr.hd e0 hl r x
  refine wpAny_mono (ht [] s1 (start N vs) H _ I hq) (fun fl s' hs => ?_) fun e s' hs => hs
  have fin : ∀ {σ' : St} {H' : Hp} {v : V} {u : Value}, Inv (cxOf CX P w K mg base N qual scope f cdv A outer s H E) [] σ' H' s' → RelV v u → Q v H' → CE outer P w H s Q u s' :=
    fun {σ' H' v u} J rv q => ⟨v, H', J.os, J.bare, J.base, J.hok, rv, q⟩
  cases fl with
  | ret u =>
    obtain ⟨v, σ', H', J, rv, q⟩ := hs
    exact fin J rv q
  | next =>
    obtain ⟨σ', H', J, q⟩ := hs
    exact fin (v := V.non) (u := Value.none) J rfl q
  | brk =>
    obtain ⟨_, _, _, q⟩ := hs
    exact False.elim q
  | cont =>
    obtain ⟨_, _, _, q⟩ := hs
    exact False.elim q
end L2
namespace L2
open PySem PySem.Spec PyProof.Rows
section
variable {X : Cx} {x : Str} {p pos : Pos} {e : Expr} {es : List Expr} {t : TA} {id T : String} {r : List V → Hp → VK → Prop}
def tCB (r : List V → Hp → VK → Prop) (t : TA) : TE := fun σ H Q => t σ H fun vs H1 => r vs H1 Q
theorem pe_callB (hc : CallR X (.builtin id) r) (hg : Gl X x) (hm : X.mg x = none) (hv : bootBuiltins x = some (.builtin id)) (ha : PA X (e :: es) t) (hn : x ≠ "__name__" := by decide) (hdb : (x == ("__debug__" : Str)) = false := by decide)
    (he : starEach (e :: es) X.env = (false, eval e X.env) :: starEach es X.env := by rfl) (hpl : (backTo pos (starEach es X.env)).any (·.1) = false := by rfl) : PE X (.Call (.Name x p) (e :: es) [] pos) (tCB r t) := by
  intro pins s σ H Q I h
  refine wpAny_Call_Name_kw (ld_blt I hg hm hv ?_ hn hdb)
  exact PyProof.Rows.callWith_builtin1 (thn (ha pos pins s σ H _ I h) fun us s1 ⟨vs, H1, I1, r1, q1⟩ => hc pins s1 σ H1 vs us Q I1 r1 q1) he hpl
theorem pe_callTy (hc : CallR X (.type T) r) (hg : Gl X x) (hm : X.mg x = none) (hv : bootBuiltins x = some (.type T)) (ha : PA X (e :: es) t) (hn : x ≠ "__name__" := by decide) (hdb : (x == ("__debug__" : Str)) = false := by decide)
    (he : starEach (e :: es) X.env = (false, eval e X.env) :: starEach es X.env := by rfl) (hpl : (backTo pos (starEach es X.env)).any (·.1) = false := by rfl) : PE X (.Call (.Name x p) (e :: es) [] pos) (tCB r t) := by
  intro pins s σ H Q I h
  refine wpAny_Call_Name_kw (ld_blt I hg hm hv ?_ hn hdb)
  exact PyProof.Rows.callWith_type1 (thn (ha pos pins s σ H _ I h) fun us s1 ⟨vs, H1, I1, r1, q1⟩ => hc pins s1 σ H1 vs us Q I1 r1 q1) he hpl
end
end L2
namespace HT
open PySem PyProof.Rows
section
open PySem.SeqAt
open PySem.AutoSeq1 (wpAny_loadPart')
open PySem.MeetsSeq PySem.MeetsSeq2 PySem.MeetsSeq3
end
section
variable {prog : Program} {w : World} {A : Around} {E : Value → Shared → Prop} {s : Shared}
def sIx (n d : Nat) : Option Int → Nat
  | none => d
  | some v => if v < 0 then (v + (n : Int)).toNat else min v.toNat n
theorem sIx_none (n d : Nat) : sIx n d none = d := rfl
theorem sIx_nat (n d k : Nat) : sIx n d (some (k : Int)) = min k n := by
  show (if (k : Int) < 0 then ((k : Int) + (n : Int)).toNat else min (k : Int).toNat n) = min k n
  rw [if_neg (by omega), Int.toNat_natCast]
end
end HT
namespace L2
open PySem PySem.Spec PyProof.Rows
abbrev TO := St → Hp → (Option Int → Hp → Prop) → Prop
def PO (X : Cx) (e : Option Expr) (t : TO) : Prop :=
  ∀ (pins : List (Addr × Obj)) (s : Shared) (σ : St) (H : Hp) (Q : Option Int → Hp → Prop), Inv X pins σ H s → t σ H Q →
    wpAny (model X.prog X.w) X.A (evalPart e X.env) (fun u s' => ∃ o H', Inv X pins σ H' s' ∧ IsPart u o ∧ Q o H') X.xe s
def tNoPart : TO := fun _ H Q => Q none H
def tPart (t : TE) : TO := fun σ H Q => t σ H fun x H1 => ∃ i, x = .int i ∧ Q (some i) H1
theorem intsAre_of {ns : List Int} : ∀ {us : List Value}, Vals (ns.map V.int) us → IntsAre us ns := by
  induction ns with
  | nil => intro us r; rw [List.map_nil] at r; cases r; exact .nil
  | cons n ns ih =>
    intro us r
    rw [List.map_cons] at r
    cases r with
    | cons r1 r2 =>
      obtain ⟨t, e⟩ := r1
      subst e
      exact .cons n t (ih r2)
section
variable {X : Cx} {e : Expr} {te : TE} {lo hi : Option Expr} {tl th : TO} {pos p2 : Pos}
theorem po_none : PO X none tNoPart := by
  intro pins s σ H Q I h
  rw [evalPart_none]
  exact wpAny_pure ⟨none, H, I, .none, h⟩
theorem po_some (h : PE X e te) : PO X (some e) (tPart te) := by
  intro pins s σ H Q I hw
  rw [evalPart_some]
  refine thn (h pins s σ H _ I hw) fun u s1 ⟨x, H1, I1, r1, q1⟩ => ?_
  obtain ⟨i, rfl, q⟩ := q1
  obtain ⟨t, rfl⟩ := r1
  exact ⟨some i, H1, I1, .int i t, q⟩
def SlR (X : Cx) (r : V → Option Int → Option Int → Hp → VK → Prop) : Prop :=
  ∀ (pins : List (Addr × Obj)) (s : Shared) (σ : St) (H : Hp) (x : V) (v vl vu : Value) (lo hi : Option Int) (sl : Addr) (Q : VK), Inv X pins σ H s → RelV x v → s.heap.IsSliceOf sl vl vu .none → IsPart vl lo → IsPart vu hi → r x lo hi H Q →
    ∃ T id, typeLookup (.type T) "__getitem__" = pure (some (.builtin id)) ∧ s.TypeIs v T ∧ wpAny (model X.prog X.w) X.A (getItem v (.ref sl)) (EP X pins σ Q) X.xe s
def tSl (r : V → Option Int → Option Int → Hp → VK → Prop) (te : TE) (tl th : TO) : TE := fun σ H Q => te σ H fun x H1 => tl σ H1 fun l H2 => th σ H2 fun u H3 => r x l u H3 Q
theorem pe_slice {r : V → Option Int → Option Int → Hp → VK → Prop} (hr : SlR X r) (he : PE X e te) (hl : PO X lo tl) (hu : PO X hi th) : PE X (.Subscript e (.Slice lo hi none p2) pos) (tSl r te tl th) := by
  intro pins s σ H Q I h
  refine Subscript_ (thn (he pins s σ H _ I h) fun v s1 ⟨x, H1, I1, r1, q1⟩ => ?_)
  refine wpAny_Slice (thn (hl pins s1 σ H1 _ I1 q1) fun vl s2 ⟨l, H2, I2, pl, q2⟩ => thn (hu pins s2 σ H2 _ I2 q2) fun vu s3 ⟨u, H3, I3, pu, q3⟩ => ?_)
  rw [evalPart_none]
  refine wpAny_pure ?_
  have I4 : Inv X pins σ H3 { s3 with heap := s3.heap.push { cls := .type "slice", data := .fields #[vl, vu, .none] } } := I3.kept (t' := s3.toks) fun b ob q => Heap.get?_push_of_some _ q
  obtain ⟨T, id, hT, ht, hg⟩ := hr pins { s3 with heap := s3.heap.push { cls := .type "slice", data := .fields #[vl, vu, .none] } } σ H3 x v vl vu l u s3.heap.objs.size Q I4 r1 (Heap.IsSliceOf.new ..) pl pu q3
  show wpAny (model X.prog X.w) X.A (subscriptTail e (.Slice lo hi none p2) v (.ref s3.heap.objs.size)) (EP X pins σ Q) X.xe { s3 with heap := s3.heap.push { cls := .type "slice", data := .fields #[vl, vu, .none] } }
  exact tail_any (ops := [.ref s3.heap.objs.size, v]) ht hT hg (by with_unfolding_all rfl)
def cutV (xs : List V) (lo hi : Option Int) : List V := (xs.drop (HT.sIx xs.length 0 lo)).take (HT.sIx xs.length xs.length hi - HT.sIx xs.length 0 lo)
theorem cutV_length (xs : List V) (lo hi : Option Int) : (cutV xs lo hi).length ≤ xs.length := by
  unfold cutV
  rw [List.length_take, List.length_drop]
  omega
end
end L2
namespace L2
open PySem PySem.Spec PyProof.Rows
def ixN (n : Nat) (i : Int) : Option Nat := if 0 ≤ i then (if i < n then some i.toNat else none) else if -(n : Int) ≤ i then some (i + n).toNat else none
def atI {α : Type} (xs : List α) (i : Int) : Option α := (ixN xs.length i).bind fun j => xs[j]?
theorem ixN_seq {n : Nat} {i : Int} {j : Nat} (h : ixN n i = some j) : seqIndex? i n = some j ∧ j < n ∧ -(n : Int) ≤ i ∧ i < n := by
  unfold ixN at h
  by_cases h0 : 0 ≤ i
  · rw [if_pos h0] at h
    by_cases h1 : i < n
    · rw [if_pos h1] at h
      have e : i.toNat = j := Option.some.inj h
      exact ⟨by rw [seqIndex_of h0 h1, e], by omega, by omega, h1⟩
    · rw [if_neg h1] at h; cases h
  · rw [if_neg h0] at h
    by_cases h1 : -(n : Int) ≤ i
    · rw [if_pos h1] at h
      have e : (i + n).toNat = j := Option.some.inj h
      exact ⟨by rw [seqIndex_neg (by omega) h1, e], by omega, h1, by omega⟩
    · rw [if_neg h1] at h; cases h
theorem atI_get {α : Type} {xs : List α} {i : Int} {v : α} (h : atI xs i = some v) : ∃ j, seqIndex? i xs.length = some j ∧ xs[j]? = some v ∧ j < xs.length ∧ -(xs.length : Int) ≤ i ∧ i < xs.length := by
  unfold atI at h
  cases e : ixN xs.length i with
  | none => rw [e] at h; cases h
  | some j =>
    rw [e] at h
    obtain ⟨h1, h2, h3, h4⟩ := ixN_seq e
    exact ⟨j, h1, h, h2, h3, h4⟩
theorem atI_nat {α : Type} {xs : List α} {j : Nat} {v : α} (h : xs[j]? = some v) : atI xs (j : Int) = some v := by
  have hj : j < xs.length := (List.getElem?_eq_some_iff.mp h).1
  have e : ixN xs.length (j : Int) = some j := by
    unfold ixN
    rw [if_pos (by omega), if_pos (by omega)]; simp
  unfold atI; rw [e]; exact h
def PlainIx (b : Expr) : Prop := ∀ o i, subscripted b false o i = operate [o, i] (getItem o i)
def IxR (X : Cx) (r : R2) : Prop :=
  ∀ (value slice : Expr) (pins : List (Addr × Obj)) (s : Shared) (σ : St) (H : Hp) (x y : V) (v u : Value) (Q : VK), Inv X pins σ H s → RelV x v → RelV y u → r x y H Q →
    subscripted slice false v u = operate [v, u] (getItem v u) → wpAny (model X.prog X.w) X.A (subscriptTail value slice v u) (EP X pins σ Q) X.xe s
def MtR (X : Cx) (id : String) (r : V → List V → Hp → VK → Prop) : Prop :=
  ∀ (pins : List (Addr × Obj)) (s : Shared) (σ : St) (H : Hp) (x : V) (xs : List V) (v : Value) (us : List Value) (Q : VK), Inv X pins σ H s → RelV x v → Vals xs us → r x xs H Q →
    wpAny (model X.prog X.w) X.A (call (.builtin id) (v :: us)) (EP X pins σ Q) X.xe s
section
variable {X : Cx} {a b : Expr} {ta tb : TE} {pos : Pos}
theorem IxR.or {r r' : R2} (h : IxR X r) (h' : IxR X r') : IxR X (fun x y H Q => r x y H Q ∨ r' x y H Q) := by
  intro value slice pins s σ H x y v u Q I rx ry q hs
  rcases q with q | q
  · exact h value slice pins s σ H x y v u Q I rx ry q hs
  · exact h' value slice pins s σ H x y v u Q I rx ry q hs
theorem pe_ix {r : R2} (hr : IxR X r) (ha : PE X a ta) (hb : PE X b tb) (hs : PlainIx b) : PE X (.Subscript a b pos) (tOp r ta tb) := by
  intro pins s σ H Q I h
  exact Subscript_ (binT ha hb I h fun v u s2 x y H2 I2 rx ry q => hr a b pins s2 σ H2 x y v u Q I2 rx ry q (hs _ _))
def rIxL (K : PySem.W.Frag) : R2 := fun x y H Q => ∃ p xs i v, x = .ref p ∧ y = .int i ∧ SqL K H p xs ∧ atI xs i = some v ∧ Q v H
def rIxT (K : PySem.W.Frag) : R2 := fun x y H Q => ∃ p xs i v, x = .ref p ∧ y = .int i ∧ SqT K H p xs ∧ atI xs i = some v ∧ Q v H
theorem ix_list : IxR X (rIxL X.K) := by
  intro value slice pins s σ H x y v u Q I rx ry h hs
  obtain ⟨p, xs, i, z, rfl, rfl, hq, he, q⟩ := h
  cases rx
  obtain ⟨t, rfl⟩ := ry
  obtain ⟨its, r, pl, hz⟩ := I.list hq
  obtain ⟨j, h1, h2, h3, h4, h5⟩ := atI_get he
  obtain ⟨w, ew, rw'⟩ := r.get h2
  have hl := r.length
  have hn := line63
  have fin : EP X pins σ Q w s := ⟨z, H, I, rw', q⟩
  by_cases h0 : 0 ≤ i
  · have hj : i.toNat = j := by
      rw [seqIndex_of h0 h5] at h1
      exact Option.some.inj h1
    exact item_listR pl.isList h0 (by omega) (by rw [hj]; simpa using ew) fin hs
  · have hj : (i + (its.toArray.size : Int)).toNat = j := by
      rw [seqIndex_neg (by omega) h4] at h1
      rw [List.size_toArray, ← hl]
      exact Option.some.inj h1
    exact subscriptTail_builtinR (x := w) pl.isList.typeIs slot_list_getitem.lookup
      (wpAny_getItem_list_neg (Q := fun r s' => r = w ∧ EP X pins σ Q r s') pl.isList (by omega) (by rw [List.size_toArray] <;> omega) (by omega) (by rw [hj]; simpa using ew) ⟨rfl, fin⟩) hs
theorem ix_tup : IxR X (rIxT X.K) := by
  intro value slice pins s σ H x y v u Q I rx ry h hs
  obtain ⟨p, xs, i, z, rfl, rfl, hq, he, q⟩ := h
  cases rx
  obtain ⟨t, rfl⟩ := ry
  obtain ⟨its, r, pl, hz⟩ := I.tuple hq
  obtain ⟨j, h1, h2, h3, h4, h5⟩ := atI_get he
  obtain ⟨w, ew, rw'⟩ := r.get h2
  have hl := r.length
  have hn := line63
  have fin : EP X pins σ Q w s := ⟨z, H, I, rw', q⟩
  exact subscriptTail_builtinR (x := w) pl.typeIs slot_tuple_getitem.lookup
    (getItem_tuple (j := j) (Q := fun r s' => r = w ∧ EP X pins σ Q r s') pl (by omega) (by omega) (by rw [List.size_toArray, ← hl]; exact h1) (by simpa using ew) ⟨rfl, fin⟩) hs
theorem slice_bounds (lo hi : Option Int) (n : Nat) : (sliceBounds lo hi none n).1 = ((HT.sIx n 0 lo : Nat) : Int) ∧ (sliceBounds lo hi none n).2.1 = ((HT.sIx n n hi : Nat) : Int) ∧ (sliceBounds lo hi none n).2.2 = 1 := by
  refine ⟨?_, ?_, rfl⟩
  · cases lo with
    | none => simp [sliceBounds, HT.sIx]
    | some i =>
      simp only [sliceBounds, HT.sIx, Option.getD_none, show (1 : Int) > 0 by decide, if_true]
      by_cases h : i < 0
      · simp only [h, if_true] <;> omega
      · simp only [h, if_false] <;> omega
  · cases hi with
    | none => simp [sliceBounds, HT.sIx]
    | some i =>
      simp only [sliceBounds, HT.sIx, Option.getD_none, show (1 : Int) > 0 by decide, if_true]
      by_cases h : i < 0
      · simp only [h, if_true] <;> omega
      · simp only [h, if_false] <;> omega
theorem slicePick_cut (its : List Value) (lo hi : Option Int) : slicePick its.toArray lo hi none = ((its.drop (HT.sIx its.length 0 lo)).take (HT.sIx its.length its.length hi - HT.sIx its.length 0 lo)).toArray := by
  obtain ⟨h1, h2, h3⟩ := slice_bounds lo hi its.toArray.size
  unfold slicePick
  rw [h1, h2, h3]
  simp only [sliceRange_one, pick_run, List.size_toArray] <;> rfl
def rSlL (K : PySem.W.Frag) : V → Option Int → Option Int → Hp → VK → Prop := fun x lo hi H Q => ∃ a xs, x = .ref a ∧ SqL K H a xs ∧ ∀ p, H p = none → Q (.ref p) (upd H p (.lst (cutV xs lo hi)))
theorem sl_list : SlR X (rSlL X.K) := by
  intro pins s σ H x v vl vu lo hi sl Q I rx hs pl pu h
  obtain ⟨a, xs, rfl, hx, q⟩ := h
  cases rx
  obtain ⟨its, r, ht, hz⟩ := I.list hx
  have hlen := r.length
  refine ⟨"list", _, slot_list_getitem.lookup, ht.isList.typeIs, ?_⟩
  refine wpAny_getItem_list_slice ht.isList hs pl pu .none (by simp) ?_ (by rw [List.size_toArray] <;> omega)
  rw [slicePick_cut, ← hlen]
  refine ⟨.ref s.heap.objs.size, _, I.laid (t' := s.toks) (o := .lst (cutV xs lo hi)) (fun b ob q => Heap.get?_push_of_some _ q) (Nat.le_refl _) ?_, rfl, q _ (I.hok.fresh (Nat.le_refl _))⟩
  exact ⟨Nat.le_trans (cutV_length xs lo hi) hz, _, 0, (r.drop (HT.sIx xs.length 0 lo)).take (HT.sIx xs.length xs.length hi - HT.sIx xs.length 0 lo), Heap.get?_push_size _ rfl⟩
theorem call_len_seq : CallR X (.builtin "len") (fun xs H Q => ∃ p ys, xs = [.ref p] ∧ (SqL X.K H p ys ∨ SqT X.K H p ys) ∧ Q (.int ys.length) H) := by
  intro pins s σ H xs us Q I r h
  obtain ⟨p, ys, rfl, hq, q⟩ := h
  obtain ⟨u, rfl, rx⟩ := vals1 r
  cases rx
  have hn := line63
  rcases hq with hq | hq
  · obtain ⟨its, r', pl, hz⟩ := I.list hq
    have hlen := r'.length
    exact Calls.call_len_list pl.isList (by simp only [List.size_toArray] <;> omega) ⟨.int ys.length, H, I.tok _, ⟨s.toks + 1, by rw [List.size_toArray, hlen]⟩, q⟩
  · obtain ⟨its, r', pl, hz⟩ := I.tuple hq
    have hlen := r'.length
    exact len_tuple pl (by simp only [List.size_toArray] <;> omega) ⟨.int ys.length, H, I.tok _, ⟨s.toks + 1, by rw [List.size_toArray, hlen]⟩, q⟩
theorem CallR.or {f : Value} {r r' : List V → Hp → VK → Prop} (h : CallR X f r) (h' : CallR X f r') : CallR X f (fun xs H Q => r xs H Q ∨ r' xs H Q) := by
  intro pins s σ H xs us Q I rs q
  rcases q with q | q
  · exact h pins s σ H xs us Q I rs q
  · exact h' pins s σ H xs us Q I rs q
theorem call_list_of : CallR X (.type "list") (fun xs H Q => ∃ p ys, xs = [.ref p] ∧ (SqL X.K H p ys ∨ SqT X.K H p ys) ∧ ∀ l, H l = none → Q (.ref l) (upd H l (.lst ys))) := by
  intro pins s σ H xs us Q I r h
  obtain ⟨p, ys, rfl, hq, q⟩ := h
  obtain ⟨u, rfl, rx⟩ := vals1 r
  cases rx
  have fin : ∀ (its : List Value), Vals ys its → ys.length ≤ sizeLine → ∀ (h' : Heap) (c' : Nat), (∀ b o', s.heap.get? b = some o' → h'.get? b = some o') →
      h'.get? s.heap.objs.size = some { cls := .type "list", dict := none, data := .seq its.toArray c', slots := #[] } → EP X pins σ Q (.ref s.heap.objs.size) { s with heap := h' } := fun its r' hz h' c' kp e =>
    ⟨.ref s.heap.objs.size, _, I.laid (t' := s.toks) kp (Nat.le_refl _) (show ObjOk X.prog X.w _ h' _ (.lst ys) from ⟨hz, its, c', r', e⟩), rfl, q _ (I.hok.fresh (Nat.le_refl _))⟩
  rcases hq with hq | hq
  · obtain ⟨its, r', pl, hz⟩ := I.list hq
    have hlen := r'.length
    obtain ⟨o, ho, hc, n, hd⟩ := pl.isList
    exact call_list_seq p (.inl rfl) ho hc hd (fun h' c' kp e => fin its r' hz h' c' kp e) (by simp only [List.size_toArray] <;> omega)
  · obtain ⟨its, r', pl, hz⟩ := I.tuple hq
    have hlen := r'.length
    obtain ⟨o, ho, hc, n, hd⟩ := pl
    exact call_list_seq p (.inr rfl) ho hc hd (fun h' c' kp e => fin its r' hz h' c' kp e) (by simp only [List.size_toArray] <;> omega)
def tyV (K : PySem.W.Frag) (T : String) (x : V) (H : Hp) : Prop := match x with
  | .str _ => T = "str"
  | .int _ => T = "int"
  | .ref p => (T = "list" ∧ ∃ xs, SqL K H p xs) ∨ (T = "tuple" ∧ ∃ o, K.lookup p = some o ∧ o.cls = .type "tuple" ∧ o.dict = none) ∨
      (T = "dict" ∧ ((∃ kvs, H p = some (.dK kvs)) ∨ ∃ kvs, H p = some (.dT kvs))) ∨ (T = "set" ∧ ∃ S n, H p = some (.set S n))
  | _ => False
theorem tyV_is {pins : List (Addr × Obj)} {σ : St} {H : Hp} {s : Shared} {T : String} {x : V} {v : Value} (I : Inv X pins σ H s) (r : RelV x v) (ty : tyV X.K T x H) :
    s.TypeIs v T ∧ ∀ a, v = .ref a → ∃ ob, s.heap.get? a = some ob ∧ ob.dict = none := by
  cases x with
  | str z =>
    obtain ⟨t, rfl⟩ := r
    cases (show T = "str" from ty)
    exact ⟨typeIs_str s z t, fun _ e => nomatch e⟩
  | int i =>
    obtain ⟨t, rfl⟩ := r
    cases (show T = "int" from ty)
    exact ⟨typeIs_int s i t, fun _ e => nomatch e⟩
  | ref p =>
    cases r
    rcases ty with ⟨rfl, xs, hq⟩ | ⟨rfl, o, hk, hc, hd⟩ | ⟨rfl, hk⟩ | ⟨rfl, S, n, hk⟩
    · obtain ⟨its, _, pl, _⟩ := I.list hq
      refine ⟨pl.isList.typeIs, fun a e => ?_⟩
      cases e
      obtain ⟨o, n, e, c, hd, _⟩ := pl
      exact ⟨o, e, hd⟩
    · refine ⟨⟨o, I.kIn p o hk, hc⟩, fun a e => ?_⟩
      cases e
      exact ⟨o, I.kIn _ o hk, hd⟩
    · have z : ∃ o, s.heap.get? p = some o ∧ o.ExactDict := by
        rcases hk with ⟨kvs, hk⟩ | ⟨kvs, hk⟩
        · obtain ⟨_, _, _, _, o, _, _, e, ex, _⟩ := I.hok p _ hk
          exact ⟨o, e, ex⟩
        · obtain ⟨_, _, _, _, o, _, _, e, ex, _⟩ := I.hok p _ hk
          exact ⟨o, e, ex⟩
      obtain ⟨o, e, ex⟩ := z
      refine ⟨⟨o, e, ex.1⟩, fun a e2 => ?_⟩
      cases e2
      exact ⟨o, e, ex.2.1⟩
    · obtain ⟨o, _, _, _, e, ex, _⟩ := I.hok p _ hk
      refine ⟨⟨o, e, ex.1⟩, fun a e2 => ?_⟩
      cases e2
      exact ⟨o, e, ex.2.1⟩
  | _ => exact False.elim ty
def tBM (K : PySem.W.Frag) (T : String) (r : V → List V → Hp → VK → Prop) (to : TE) (t : TA) : TE := fun σ H Q => to σ H fun x H1 => tyV K T x H1 ∧ t σ H1 fun xs H2 => r x xs H2 Q
variable {o e : Expr} {es : List Expr} {to : TE} {t : TA} {name : Str} {apos cpos : Pos} {T id : String} {r : V → List V → Hp → VK → Prop}
theorem pe_bm (pa : PlainAttrs T) (slot : Slot T name id) (hty : typeOf (.builtin id) = pure (.type "method_descriptor")) (hm : MtR X id r) (ho : PE X o to) (ha : PA X (e :: es) t)
    (hbase : attributeBase o name X.env (eval o X.env) = eval o X.env := by rfl)
    (hfew : ((backTo cpos (starEach (e :: es) X.env)).all (fun x => !x.1) && (backToKw cpos (keywordEach [] X.env)).all (fun x => x.1.isSome)
      && decide ((e :: es).length + ([] : List Keyword).length + (if ([] : List Keyword).isEmpty then 0 else 1) < 30)) = true := by rfl)
    (hline : (apos.endLine == cpos.line) = true := by rfl) (hs : starEach (e :: es) X.env = (false, eval e X.env) :: starEach es X.env := by rfl) (hplain : (backTo cpos (starEach es X.env)).any (·.1) = false := by rfl) :
    PE X (.Call (.Attribute o name apos) (e :: es) [] cpos) (tBM X.K T r to t) := by
  intro pins s σ H Q I h
  refine wpAny_Call_method_late hbase hfew hline rfl (thn (ho pins s σ H _ I h) fun v s1 ⟨x, H1, I1, r1, ty, q1⟩ => ?_)
  obtain ⟨h1, h2⟩ := tyV_is I1 r1 ty
  refine ⟨T, id, pa, slot, hty, h1, h2, ?_⟩
  have hA := ha cpos pins s1 σ H1 _ I1 q1
  rw [hs] at hA ⊢
  refine Calls.callWith_builtin (by show (false || (backTo cpos (starEach es X.env)).any (·.1)) = false; rw [hplain] <;> rfl) (Calls.evalArgs_plain ?_)
  exact thn hA fun us s2 ⟨vs, H2, I2, r2, q2⟩ => hm pins s2 σ H2 x vs v us Q I2 r1 r2 q2
end
end L2
namespace L2
open PySem PySem.Spec PyProof.Rows
def MtM (X : Cx) (id : String) (r : V → List V → Hp → VK → Prop) : Prop :=
  ∀ (pins : List (Addr × Obj)) (s : Shared) (σ : St) (H : Hp) (x : V) (xs : List V) (v : Value) (us : List Value) (Q : VK), Inv X pins σ H s → RelV x v → Vals xs us → r x xs H Q →
    wpAny (model X.prog X.w) X.A (call (.builtin id) (v :: us)) (EP X pins σ Q) X.xe s
theorem Vals.one : ∀ {x : V} {us : List Value}, Vals [x] us → ∃ u, us = [u] ∧ RelV x u
  | _, _, .cons r .nil => ⟨_, rfl, r⟩
section
variable {X : Cx} {pins : List (Addr × Obj)} {σ : St} {H : Hp} {s : Shared} {l b : Addr} {xs ys zs : List V}
theorem Inv.lset {its its' : List Value} {n : Nat} {f : Array Value → Array Value} {t' : Nat} (I : Inv X pins σ H s) (hH : H l = some (.lst xs))
    (e : s.heap.get? l = some { cls := .type "list", data := .seq its.toArray n }) (hf : f its.toArray = its'.toArray) (hv : Vals ys its') (hz : ys.length ≤ sizeLine) :
    Inv X pins σ (upd H l (.lst ys)) { s with heap := s.heap.update l (Obj.mapSeq f), toks := t' } := by
  have q := PySem.IsL.update e f
  rw [hf] at q
  refine I.write (x := l) (e := l) (by rw [hH]; exact trivial) (.inl rfl) (fun b' u hb hu => (Heap.get?_update_other s.heap (Obj.mapSeq f) (Ne.symm hb)).trans hu) ⟨_, q⟩ ?_
  exact ⟨hz, its', _, hv, q⟩
theorem Inv.lnew {its : List Value} {t' : Nat} (I : Inv X pins σ H s) (hv : Vals ys its) (hz : ys.length ≤ sizeLine) :
    Inv X pins σ (upd H s.heap.objs.size (.lst ys)) { s with heap := s.heap.push { cls := .type "list", data := .seq its.toArray }, toks := t' } :=
  I.laid (fun _ _ q => Heap.get?_push_of_some _ q) (Nat.le_refl _) ⟨hz, its, 0, hv, Heap.get?_push_size _ rfl⟩
theorem Inv.fresh (I : Inv X pins σ H s) : H s.heap.objs.size = none := I.hok.fresh (Nat.le_refl _)
theorem Inv.lstM (I : Inv X pins σ H s) (hH : H l = some (.lst xs)) : xs.length ≤ sizeLine ∧ ∃ (its : List Value) (n : Nat), Vals xs its ∧ xs.length = its.length ∧ s.heap.get? l = some { cls := .type "list", data := .seq its.toArray n } := by
  obtain ⟨z, its, n, r, e⟩ := I.hok l _ hH
  exact ⟨z, its, n, r, r.length, e⟩
end
section
variable {X : Cx}
def rAppend : V → List V → Hp → VK → Prop := fun x vs H Q => ∃ l xs y, x = .ref l ∧ vs = [y] ∧ H l = some (.lst xs) ∧ xs.length < sizeLine ∧ Q .non (upd H l (.lst (xs ++ [y])))
theorem mt_append : MtM X "list.append" rAppend := by
  intro pins s σ H x vs v us Q I rx rv h
  obtain ⟨l, xs, y, rfl, rfl, hH, hz, q⟩ := h
  cases rx
  obtain ⟨u, rfl, ru⟩ := rv.one
  obtain ⟨z, its, n, r, hl, e⟩ := I.lstM hH
  refine call_meets F.slot_list_append ⟨_, e, rfl⟩ F.entry_list_append (F.args_list_append_2 _ _) (PySem.list_append l its.toArray n u (by rw [List.size_toArray]; omega)) ⟨e, ?_⟩
  refine ⟨.non, _, I.lset (its' := its ++ [u]) hH e (by simp) (r.append (.cons ru .nil)) ?_, rfl, q⟩
  rw [List.length_append, List.length_singleton]
  omega
def rCat : R2 := fun x y H Q => ∃ l b xs zs, x = .ref l ∧ y = .ref b ∧ H l = some (.lst xs) ∧ H b = some (.lst zs) ∧ xs.length + zs.length ≤ sizeLine ∧ ∀ p, H p = none → Q (.ref p) (upd H p (.lst (xs ++ zs)))
theorem op_cat : OpR X (binaryOp .Add) rCat := by
  intro pins s σ H x y v u Q I rx ry h
  obtain ⟨l, b, xs, zs, rfl, rfl, hH, hB, hz, q⟩ := h
  cases rx
  cases ry
  obtain ⟨z, its, n, r, hl, e⟩ := I.lstM hH
  obtain ⟨z2, its2, n2, r2, hl2, e2⟩ := I.lstM hB
  refine PySem.P.add_list e e2 ?_ (by rw [List.size_toArray, List.size_toArray]; omega)
  have ea : its.toArray ++ its2.toArray = (its ++ its2).toArray := by simp
  rw [ea]
  exact ⟨.ref _, _, I.lnew (t' := s.toks) (r.append r2) (by rw [List.length_append]; omega), rfl, q _ I.fresh⟩
end
section
variable {prog : Program} {w : World} {A : Around} {E : Value → Shared → Prop} {s : Shared}
end
section
variable {X : Cx}
end
end L2
namespace L2
open PySem PySem.Spec PyProof.Rows
section
variable {κ : Type} [DecidableEq κ]
def valV (kvs : List (κ × V)) (k : κ) : Option V := (kvs.find? fun kv => decide (kv.1 = k)).map (·.2)
theorem valV_pos {p : κ × V} {r : List (κ × V)} {k : κ} (e : p.1 = k) : valV (p :: r) k = some p.2 := by simp [valV, List.find?_cons, e]
theorem valV_neg {p : κ × V} {r : List (κ × V)} {k : κ} (e : ¬ p.1 = k) : valV (p :: r) k = valV r k := by simp [valV, List.find?_cons, e]
theorem KV.val {kvs : List (κ × V)} {vs : List (κ × Value)} (r : KV kvs vs) (k : κ) : RelO (valV kvs k) (valueAt vs k) := by
  unfold KV at r
  induction r with
  | nil => exact True.intro
  | @cons p q ps qs h t ih =>
    obtain ⟨h1, h2⟩ := h
    by_cases e : p.1 = k
    · have e' : q.1 = k := h1.symm.trans e
      have b : valueAt (q :: qs) k = some q.2 := by simp [valueAt, List.find?_cons, e']
      rw [valV_pos e, b]; exact h2
    · have e' : ¬ q.1 = k := fun z => e (h1.trans z)
      have b : valueAt (q :: qs) k = valueAt qs k := by simp [valueAt, List.find?_cons, e']
      rw [valV_neg e, b]; exact ih
theorem KV.length {kvs : List (κ × V)} {vs : List (κ × Value)} (r : KV kvs vs) : kvs.length = vs.length := Paired.length r
end
theorem kV_is {P : Program} {w : World} {k : Key} {u : Value} (r : RelV (kV k) u) : (mixKind P w).is k u = true := by
  cases k with
  | inl i => obtain ⟨t, e⟩ := (show ∃ t, u = Value.int i t from r); subst e; exact mixKind_int P w i t
  | inr x => obtain ⟨t, e⟩ := (show ∃ t, u = Value.str x t from r); subst e; exact mixKind_str P w x t
theorem items_are {P : Program} {w : World} : ∀ {ks : List Key} {us : List Value}, Vals (ks.map kV) us → ItemsAre (mixKind P w) ks us
  | [], _, r => by rw [List.map_nil] at r; cases r; exact .nil
  | k :: ks, _, r => by
    rw [List.map_cons] at r
    cases r with
    | cons h t => exact .cons (kV_is h) (items_are t)
abbrev KT (H : Hp) : List (List Key × V) → List (List Key × Addr × Value) → Prop := Paired fun p q => p.1 = q.1 ∧ H q.2.1 = some (.tup (p.1.map kV)) ∧ RelV p.2 q.2.2
theorem KT.val {H : Hp} {kvs : List (List Key × V)} {xs : List (List Key × Addr × Value)} (r : KT H kvs xs) (k : List Key) : RelO (valV kvs k) ((atKey xs k).map (·.2)) := by
  induction r with
  | nil => exact True.intro
  | @cons p q ps qs h t ih =>
    obtain ⟨h1, _, h2⟩ := h
    by_cases e : p.1 = k
    · have e' : q.1 = k := h1.symm.trans e
      have b : atKey (q :: qs) k = some q.2 := by simp [atKey, List.find?_cons, e']
      rw [valV_pos e, b]; exact h2
    · have e' : ¬ q.1 = k := fun z => e (h1.trans z)
      have b : atKey (q :: qs) k = atKey qs k := by simp [atKey, List.find?_cons, e']
      rw [valV_neg e, b]; exact ih
section
variable {P : Program} {w : World} {H : Hp} {h : Heap} {a : Addr}
theorem rd_of {u : HO} (ok : HOk P w H h) (e : Rd H a u) : ObjOk P w H h a u := e.ok ok
theorem dk_rd {kvs : List (Key × V)} (ok : HOk P w H h) (e : Rd H a (.dK kvs)) : kvs.length ≤ sizeLine ∧ (a == sysModules) = false ∧ ∃ vs, KV kvs vs ∧ h.DictOf (mixKind P w) a vs :=
  show ObjOk P w H h a (.dK kvs) from rd_of ok e
theorem dk_of {kvs : List (Key × V)} (ok : HOk P w H h) (e : H a = some (.dK kvs)) : kvs.length ≤ sizeLine ∧ (a == sysModules) = false ∧ ∃ vs, KV kvs vs ∧ h.DictOf (mixKind P w) a vs := dk_rd ok (.inl e)
theorem key_of {ks : List Key} (ok : HOk P w H h) (e : H a = some (.tup (ks.map kV))) : (tupleKind (mixKind P w)).is h ks a := by
  obtain ⟨_, its, r, o, h1, h2, n, h3⟩ := (show ObjOk P w H h a (.tup (ks.map kV)) from ok a _ e)
  exact ⟨o, its.toArray, n, h1, h2, h3, by simpa using items_are r⟩
theorem dt_rd {kvs : List (List Key × V)} (ok : HOk P w H h) (e : Rd H a (.dT kvs)) : kvs.length ≤ sizeLine ∧ (a == sysModules) = false ∧
    ∃ xs, KT H kvs xs ∧ h.DictOfH (tupleKind (mixKind P w)) a xs := by
  obtain ⟨z, y, xs, r, o, es, ep, h1, h2, h3, h4, h5⟩ := (show ObjOk P w H h a (.dT kvs) from rd_of ok e)
  refine ⟨z, y, xs, r, o, es, ep, h1, h2, h3, h4, fun x hx => ?_, h5⟩
  have all : ∀ {l : List (List Key × V)} {m : List (List Key × Addr × Value)}, KT H l m → ∀ x ∈ m, (tupleKind (mixKind P w)).is h x.1 x.2.1 := by
    intro l m q
    induction q with
    | nil => intro x hx; exact nomatch hx
    | @cons p q ps qs hq t ih =>
      intro x hx
      rcases List.mem_cons.mp hx with e | hx
      · subst e
        exact key_of ok (by rw [← hq.1]; exact hq.2.1)
      · exact ih x hx
  exact all r x hx
end
def DGet (H : Hp) (a : Addr) (y : V) (r : Option V) : Prop :=
  (∃ kvs k, Rd H a (.dK kvs) ∧ y = kV k ∧ r = valV kvs k) ∨ ∃ kvs k b, Rd H a (.dT kvs) ∧ y = .ref b ∧ H b = some (.tup (k.map kV)) ∧ r = valV kvs k
section
variable {X : Cx} {pins : List (Addr × Obj)} {σ : St} {H : Hp} {s : Shared} {a : Addr} {y v : V} {u r : Value} {o : Option V} {A : Around} {E : Value → Shared → Prop}
theorem d_getItem {Q : Value → Shared → Prop} (hu : A.units + 1 < cLine) (I : Inv X pins σ H s) (g : DGet H a y (some v)) (ry : RelV y u) (h : ∀ w' s', Inv X pins σ H s' → RelV v w' → Q w' s') :
    wpAny (model X.prog X.w) A (getItem (.ref a) u) Q E s := by
  rcases g with ⟨kvs, k, e, ey, l⟩ | ⟨kvs, k, b, e, ey, eb, l⟩
  · subst ey
    obtain ⟨z, hd, vs, rel, dd⟩ := dk_rd I.hok e
    obtain ⟨w', hw, rw'⟩ := RelO.some_of (v := v) (o := valueAt vs k) (by rw [l]; exact rel.val k)
    exact wpAny_getItem_of (kV_is ry) dd.mapOf hw (h w' _ (I.tok _) rw')
  · subst ey
    cases (show u = Value.ref b from ry)
    obtain ⟨z, hd, xs, rel, dd⟩ := dt_rd I.hok e
    obtain ⟨w', hw, rw'⟩ := RelO.some_of (v := v) (o := (atKey xs k).map (·.2)) (by rw [l]; exact rel.val k)
    obtain ⟨p, hp, hp2⟩ := Option.map_eq_some_iff.mp hw
    refine wpAny_getItem_heap (tupleKind_room_in1 hu) (key_of I.hok eb) dd hp ?_
    rw [hp2]
    exact h w' _ (I.tok _) rw'
end
section
variable {X : Cx} {pins : List (Addr × Obj)} {σ : St} {H : Hp} {s : Shared} {a : Addr} {kvs : List (Key × V)} {k : Key} {u : Value} {A : Around} {E : Value → Shared → Prop}
theorem d_len {Q : Value → Shared → Prop} (I : Inv X pins σ H s) (e : Rd H a (.dK kvs)) (h : ∀ t s', Inv X pins σ H s' → Q (.int kvs.length t) s') : wpAny (model X.prog X.w) A (call (.builtin "len") [.ref a]) Q E s := by
  obtain ⟨z, hd, vs, rel, dd⟩ := dk_rd I.hok e
  refine call_len_dict hd dd (by rw [← rel.length]; rw [sizeLine_eq] at z; omega) ?_
  rw [← rel.length]
  exact h _ _ (I.tok _)
end
theorem dict_typeIs {X : Cx} {pins : List (Addr × Obj)} {σ : St} {H : Hp} {s : Shared} {a : Addr} {y : V} {o : Option V} (I : Inv X pins σ H s) (g : DGet H a y o) : s.TypeIs (.ref a) "dict" := by
  rcases g with ⟨kvs, k, e, _, _⟩ | ⟨kvs, k, b, e, _, _, _⟩
  · obtain ⟨_, _, vs, _, dd⟩ := dk_rd I.hok e
    exact dd.typeIs
  · obtain ⟨_, _, xs, _, dd⟩ := dt_rd I.hok e
    exact dd.typeIs
section
variable {X : Cx} {o i e value : Expr} {pos pos' tpos : Pos} {td ty tv : TE}
end
section
variable {X : Cx} {pos : Pos}
end
section
variable {X : Cx} {pins : List (Addr × Obj)} {σ : St} {H : Hp} {s : Shared} {a : Addr} {y d : V} {u r : Value} {o : Option V} {A : Around} {E : Value → Shared → Prop}
end
section
variable {X : Cx} {o e f : Expr} {apos cpos : Pos} {td ty tx : TE}
end
section
variable {X : Cx} {pins : List (Addr × Obj)} {σ : St} {H : Hp} {s : Shared} {a : Addr} {kvs : List (Key × V)} {A : Around} {E : Value → Shared → Prop}
end
section
variable {X : Cx} {pins : List (Addr × Obj)} {σ : St} {H : Hp} {s : Shared} {a : Addr} {y : V} {u : Value} {A : Around} {E : Value → Shared → Prop}
end
end L2
namespace Att
open PySem PySem.W PySem.Calls PyProof.Rows
theorem ints_of_wellAll {P : Params} {h : Heap} : ∀ (ns : List Int) (vs : List Value), WellAll P h vs (ns.map WData.int) → IntsAre vs ns := by
  intro ns
  induction ns with
  | nil =>
    intro vs w
    rw [List.map_nil] at w
    cases w
    exact .nil
  | cons n ns ih =>
    intro vs w
    rw [List.map_cons] at w
    cases w with
    | cons a b =>
      cases a
      exact .cons _ _ (ih _ b)
theorem script_of {l : OpenLaw} {n : Nat} (hn : l.most = some n) {P : Params} {h : Heap} {args : List WData} {vals : List Value}
    (hpre : l.row.toRowW.claim.pre args = true) (hwl : WellAll P h vals args) :
    ∃ a vs ns, vals = [Value.ref a] ∧ args = [WData.list (ns.map WData.int)] ∧ h.get? a = some { cls := .type "list", data := .seq vs.toArray } ∧ IntsAre vs ns ∧ ns.length ≤ n := by
  have hsh : WShape.hasAll [] args [.list .int] = true := (pre_splitW hpre).1
  have hc : l.pre.holds [] { args := args } = true := (pre_splitW hpre).2
  obtain ⟨d, r, rfl, h1, h2⟩ := hasAllW_cons hsh
  obtain rfl := hasAllW_nil h2
  obtain ⟨xs, rfl, h3⟩ := hasW_list h1
  obtain ⟨ns, rfl⟩ := items_int h3
  have hlen : ns.length ≤ n := by
    unfold OpenLaw.pre at hc
    have h4 : (WTm.not (.lt (.lit (.int (n : Int))) (.len (.arg 0)))).holds [] { args := [.list (ns.map .int)] } = true := by
      have h4 := (holds_andW hc).1
      rw [hn] at h4
      exact h4
    have h5 := condW_of h4 (w_not (w_lt w_lit (w_len_list (w_arg rfl))))
    rw [List.length_map] at h5
    refine Nat.le_of_not_lt fun q => ?_
    have q' : (n : Int) < ((ns.length : Nat) : Int) := by omega
    first
      | (rw [decide_eq_true q'] at h5; exact absurd h5 (by decide))
      | (simp at h5; omega)
  cases hwl with
  | cons w1 w2 =>
    cases w2
    cases w1 with
    | list ho hall => exact ⟨_, _, ns, rfl, rfl, ho, ints_of_wellAll ns _ hall, hlen⟩
theorem post_true (l : OpenLaw) (args : List WData) : l.row.toRowW.claim.post args (.bool true) args = true :=
  postW_of (r := l.row.toRowW) (X := (true == true))
    (show WShape.has [] (.bool true) .bool = true by first | rfl | decide | simp [WShape.has, WShape.arms, WShape.armsAll])
    (show (WTm.eq .res (.lit (.bool true))).value [] { args := args, res := some (.bool true), after := args } = some (.bool (true == true)) from w_eq_bool (w_res rfl) w_lit) rfl
theorem attach_call {l : OpenLaw} {n : Nat} {q : Program} {loose : List Str} {XP : (Str → Option Value) → Heap → Prop} {YP : World → Heap → Prop} {d : DefRec}
    (hn : l.most = some n) (hdf : d.params.defaults = [])
    (call : ∀ (w : World) (s₀ s₁ : Shared) (mg mb : Str → Option Value) (fa : Addr) (o : Obj) (pm cd doc : Value) (a : Addr) (vs : List Value) (ns : List Int),
      Ground q loose [] XP w s₀ mg mb s₁.heap → YP w s₁.heap →
      s₁.heap.get? fa = some o → o.data = .func (docDef d.name d.params d.body d.scope pm cd doc) → s₁.heap.CodeRec cd d.name → mg d.name = some (.ref fa) →
      s₁.heap.get? a = some { cls := .type "list", data := .seq vs.toArray } → IntsAre vs ns → ns.length ≤ n → s₁.gens = #[] →
      codeAny (model l.prog w) callerA (.call (.ref fa) ⟨[.ref a], []⟩) (fun r s' => r = .ok (.ret (.bool true)) ∧ OldK s₁.heap s'.heap ∧ s'.os = s₁.os ∧ AllBare s'.gens) s₁) :
    WalkO q loose XP YP l.row.toRowW d [] (fun f vs => PySem.call f vs) := by
  intro w s₀ s₁ mg mb G Y fa o pm cd doc dV kV ho hd hcd hD hmg hg args vals as hpre hlay hrd hwl hlo
  obtain rfl : dV = .none := Dflts.none hD hdf
  obtain rfl : kV = .none := Dflts.noKw hD
  obtain ⟨a, vs, ns, rfl, rfl, hobj, hints, hlen⟩ := script_of hn hpre hwl
  refine enter_call (codeAny_mono (call w s₀ s₁ mg mb fa o pm cd doc a vs ns G Y ho (fd_plain hd) hcd hmg hobj hints hlen hg) fun r s' hq => ?_)
  obtain ⟨rfl, h2, h3, h4⟩ := hq
  exact ⟨.inl ⟨.bool true, .bool true, [], rfl, fun _ => rfl, .bool true, post_true l _, fun _ => ⟨List.Pairwise.nil, fun _ hm => (nomatch hm)⟩⟩, h2, h3, h4⟩
section
variable {prog : Program} {w : World} {A : Around} {E : Value → Shared → Prop} {s : Shared} {K : Frag}
end
end Att
namespace L2
open PySem PySem.Spec PyProof.Rows
theorem vals_ints : ∀ {vs : List Value} {ns : List Int}, IntsAre vs ns → Vals (ns.map V.int) vs
  | _, _, .nil => .nil
  | _, _, .cons n t h => .cons ⟨t, rfl⟩ (vals_ints h)
def Only (H : Hp) : Prop := ∀ b, H b = none ∨ ∃ o xs, H b = some (.frz o (.lst xs))
theorem law_call {P : Program} {w : World} {K : PySem.W.Frag} {mg mb : Str → Option Value} {CX : CXT} {k : Nat} {fa a : Addr} {fd : FuncData} {x : Str} {sp : Sp} {s₁ : Shared} {vs : List Value} {ns : List Int}
    (KX : K.In s₁.heap) (hns : s₁.heap.Ns mainGlobals mg) (hb : s₁.heap.Ns builtinsNs mb) (hbb : ∀ x : Str, x ≠ "__name__" → mb x = bootBuiltins x) (hlim : s₁.heap.NoLimit) (hg : s₁.gens = #[])
    (ha : s₁.heap.get? a = some { cls := .type "list", data := .seq vs.toArray }) (hi : IntsAre vs ns) (hl : ns.length ≤ sizeLine) (hr : Room k callerA)
    (F : ∀ base : Heap, K.In base → base.Ns mainGlobals mg → FnOk P w K mg base CX k fa fd [x] sp) (hbind : ∀ (s : Shared) (u : Value), BindsTo s fd ⟨[u], []⟩ [(x, u)])
    (hsp : ∀ H : Hp, Only H → SqL K H a (ns.map V.int) → sp [.ref a] H (fun v _ => v = .bl true) fun _ _ _ => False)
    (hCX : ∀ H e s', CX [] H s₁ (fun _ _ _ => False) e s' → False) :
    codeAny (model P w) callerA (.call (.ref fa) ⟨[.ref a], []⟩) (fun r s' => r = .ok (.ret (.bool true)) ∧ OldK s₁.heap s'.heap ∧ s'.os = s₁.os ∧ AllBare s'.gens) s₁ := by
  have rv := vals_ints hi
  have lenV := hi.length
  -- from an abstract heap in which nothing but the script may be tracked
  have core : ∀ H : Hp, Only H → SqL K H a (ns.map V.int) → HOk P w H s₁.heap → (∀ b, H b ≠ none → b = a) → (H a ≠ none → K.lookup a = none) →
      codeAny (model P w) callerA (.call (.ref fa) ⟨[.ref a], []⟩) (fun r s' => r = .ok (.ret (.bool true)) ∧ OldK s₁.heap s'.heap ∧ s'.os = s₁.os ∧ AllBare s'.gens) s₁ := by
    intro H hO hS hok hA hK
    have base_of : ∀ {b : Addr} {o : Obj}, s₁.heap.get? b = some o → H b = none → (hidT s₁.heap H).get? b = some o := fun e n => hidT_get e n
    have noA : ∀ {b : Addr} {o : Obj} {es : Array DictEntry} {ep : Nat}, s₁.heap.get? b = some o → o.data = .dict es ep → H b = none := fun {b o es ep} e d => by
      cases q : H b with
      | none => rfl
      | some u =>
        have e' : b = a := hA b (by rw [q]; simp)
        subst e'
        rw [ha] at e; cases e
        have d' : Data.seq vs.toArray _ = Data.dict es ep := d
        cases d'
    have nsK : ∀ {b : Addr} {m : Str → Option Value}, s₁.heap.Ns b m → (hidT s₁.heap H).Ns b m := fun {b m} ⟨o, es, ep, e, d, r⟩ => ⟨o, es, ep, base_of e (noA e d), d, r⟩
    have hKb : K.In (hidT s₁.heap H) := fun b o e => base_of (KX b o e) (by
      cases q : H b with
      | none => rfl
      | some u =>
        have e' : b = a := hA b (by rw [q]; simp)
        subst e'
        rw [hK (by rw [q]; simp)] at e; cases e)
    have hM : Mod K mg (hidT s₁.heap H) := ⟨hKb, nsK hns, ⟨mb, nsK hb, hbb⟩, let ⟨mc, h1, h2⟩ := hlim; ⟨mc, nsK h1, h2⟩⟩
    have e0 : Env0 P w K mg (hidT s₁.heap H) callerA [] s₁ H := ⟨rfl, hM, fun b o e => of_hidT e, Nat.le_of_eq (hidT_size _ _), trivial, fun b hb => absurd (show b ∈ ([] : List Addr) from hb) (by simp), hok, .of_eq hg⟩
    refine codeAny_mono ((F _ hKb (nsK hns)).run callerA [] s₁ H ⟨[.ref a], []⟩ [.ref a] [.ref a] _ _ hr e0 (hbind s₁ (.ref a)) (.cons rfl .nil) (hsp H hO hS)) fun r s' h => ?_
    cases r with
    | error e => exact (hCX H e s' h).elim
    | ok fl =>
      cases fl with
      | next => exact False.elim h
      | brk => exact False.elim h
      | cont => exact False.elim h
      | ret u =>
        obtain ⟨v, H', os, bare, un, hok', r', q⟩ := h
        have q' : v = .bl true := q
        subst q'
        obtain rfl : u = Value.bool true := r'
        refine ⟨rfl, OldK.of_keep fun b o e => ?_, os, bare⟩
        cases q : H b with
        | none => exact un.keep b o e q (by intro z; exact absurd (show b ∈ ([] : List Addr) from z) (by simp)) (by simp)
        | some u =>
          rcases hO b with z | ⟨ob, xs, z⟩
          · rw [q] at z; cases z
          · have z2 := un.frzs b ob _ z
            obtain ⟨e1, _⟩ := hok b _ z
            obtain ⟨e2, _⟩ := hok' b _ z2
            rw [e] at e1; cases e1
            exact e2
  cases hk : K.lookup a with
  | some o =>
    -- the script is one of the module's own objects
    have e := KX a o hk
    rw [ha] at e
    cases e
    refine core (fun _ => none) (fun _ => .inl rfl) (.inr ⟨_, vs.toArray, _, hk, rfl, rfl, rfl, by rw [List.size_toArray, lenV]; exact hl, by simpa using rv⟩) (fun b u z => by have z' : (none : Option HO) = some u := z; cases z') (fun b z => absurd rfl z) fun z => absurd rfl z
  | none =>
    refine core (fun b => if b = a then some (.frz { cls := .type "list", data := .seq vs.toArray } (.lst (ns.map V.int))) else none) (fun b => ?_) (.inl (.inr ⟨{ cls := .type "list", data := .seq vs.toArray }, if_pos rfl⟩)) (fun b u z => ?_) (fun b z => ?_) fun _ => hk
    · by_cases hb : b = a
      · exact .inr ⟨_, _, if_pos hb⟩
      · exact .inl (if_neg hb)
    · by_cases hb : b = a
      · have z' := (if_pos hb).symm.trans z
        cases z'
        subst hb
        exact ⟨ha, by rw [List.length_map]; exact hl, vs, _, rv, ha⟩
      · have z' := (if_neg hb).symm.trans z
        cases z'
    · by_cases hb : b = a
      · exact hb
      · exact absurd (if_neg hb) z
end L2
namespace L2
open PySem PySem.Spec PyProof.Rows
theorem walk_of {l : PySem.W.OpenLaw} {n k : Nat} {q : Program} {loose : List Str} {XP : (Str → Option Value) → Heap → Prop} {YP : World → Heap → Prop} {d : DefRec} {K : Params → PySem.W.Frag} {CX : World → CXT} {sp : World → Sp} {x : Str}
    (hn : l.most = some n) (hn2 : n ≤ sizeLine) (hdf : d.params.defaults = []) (hr : Room k callerA)
    (hY : ∀ (w : World) (h : Heap), YP w h → (K w.params).In h)
    (F : ∀ (w : World) (mg : Str → Option Value) (fa : Addr) (h : Heap), (K w.params).In h → h.Ns mainGlobals mg → mg d.name = some (.ref fa) →
      ∃ fd : FuncData, (∀ (s : Shared) (u : Value), BindsTo s fd ⟨[u], []⟩ [(x, u)]) ∧
        ∀ base : Heap, (K w.params).In base → base.Ns mainGlobals mg → FnOk l.prog w (K w.params) mg base (CX w) k fa fd [x] (sp w))
    (hsp : ∀ (w : World) (H : Hp) (a : Addr) (ns : List Int), ns.length ≤ n → Only H → SqL (K w.params) H a (ns.map V.int) → sp w [.ref a] H (fun v _ => v = .bl true) fun _ _ _ => False)
    (hCX : ∀ (w : World) (H : Hp) (s : Shared) (e : Value) (s' : Shared), CX w [] H s (fun _ _ _ => False) e s' → False) :
    PySem.W.WalkO q loose XP YP l.row.toRowW d [] (fun f vs => PySem.call f vs) := by
  refine Att.attach_call hn hdf fun w s₀ s₁ mg mb fa o pm cd doc a vs ns G Y ho hd hcd hmg hobj hints hlen hg => ?_
  have KX := hY w _ Y
  obtain ⟨fd, hb, hF⟩ := F w mg fa _ KX G.T.g hmg
  exact law_call KX G.T.g G.T.b G.T.builtins G.T.nolimit hg hobj hints (Nat.le_trans hlen hn2) hr hF hb (fun H hO hS => hsp w H a ns hlen hO hS) fun H e s' => hCX w H s₁ e s'
end L2
namespace L2
open PySem PySem.Spec PyProof.Rows
def defArgs (s : Stmt) : Arguments := match s with
  | .FunctionDef _ a _ _ _ _ _ _ _ _ => a
  | _ => { posonlyargs := [], args := [], vararg := none, kwonlyargs := [], kw_defaults := [], kwarg := none, defaults := [] }
def defBody (s : Stmt) : List Stmt := match s with
  | .FunctionDef _ _ b _ _ _ _ _ _ _ => b
  | _ => []
def defScope (s : Stmt) : Scope := match s with
  | .FunctionDef _ _ _ _ _ _ sc _ _ _ => sc
  | _ => { kind := .function, names := [], isGenerator := false, isCoroutine := false }
abbrev CX0 : CXT := fun _ _ _ _ _ _ => False
abbrev E0 : XK := fun _ _ _ => False
theorem pass0 {X : Cx} : Passes CX0 X E0 := fun _ _ _ _ _ _ _ h => h.elim
structure Fun (K : PySem.W.Frag) (x qual : Str) (st : Stmt) (f : Addr) (fd : FuncData) : Prop where
  ex : ∃ (oc : Value) (od : Option Addr) (kV doc pm : Value) (an : Option Addr) (cdv ct : Value) (osl : Array (Option Value)),
    fd = PySem.W.fnOf x qual (defArgs st) (defBody st) (defScope st) .none kV doc pm an cdv ct ∧ K.lookup f = some ⟨oc, od, .func fd, osl⟩ ∧ PySem.W.codeIn K cdv qual = true
  kp : PySem.W.keepIn K (.ref f) = true
section
variable {P : Program} {w : World} {K : PySem.W.Frag} {mg : Str → Option Value} {base : Heap}
theorem Fun.ok {x qual : Str} {st : Stmt} {f : Addr} {fd : FuncData} {N ps : List Str} {k : Nat} {sp : Sp} (F : Fun K x qual st f fd) (S : FnScope N ps (defScope st)) (len : ∀ vs H Q E, sp vs H Q E → vs.length = ps.length)
    (hbody : ∀ (cdv : Value) (A : Around) (outer : List Env) (s : Shared) (H : Hp) (vs : List V) (Q : VK) (E : XK), Room k (A.deeper (envOfC qual (defScope st) s.heap.objs.size f cdv)) → sp vs H Q E →
      ∃ t, PSs (cxOf CX0 P w K mg base N qual (defScope st) f cdv A outer s H E).nox (defBody st) t ∧ t { nx := fun _ H' => Q .non H', rt := Q } (start N vs) H) : FnOk P w K mg base CX0 (k + 1) f fd ps sp := by
  obtain ⟨oc, od, kV, doc, pm, an, cdv, ct, osl, rfl, lk, hcd⟩ := F.ex
  refine fn_of lk hcd S len fun A outer s H vs Q E hr hsp => ?_
  obtain ⟨t, h, q⟩ := hbody cdv A outer s H vs Q E hr hsp
  exact ⟨t, h.nox, q⟩
theorem Fun.binds {x qual : Str} {st : Stmt} {f : Addr} {fd : FuncData} {ps : List Str} (F : Fun K x qual st f fd)
    (h : ∀ (kV doc pm : Value) (an : Option Addr) (cdv ct : Value) (us : List Value), us.length = ps.length → bindArgs (PySem.W.fnOf x qual (defArgs st) (defBody st) (defScope st) .none kV doc pm an cdv ct) ⟨us, []⟩ = pure (ps.zip us)) : Binds K fd ps [] := by
  obtain ⟨oc, od, kV, doc, pm, an, cdv, ct, osl, rfl, lk, hcd⟩ := F.ex
  exact .all (h kV doc pm an cdv ct)
theorem fun_mk {x qual : Str} {st : Stmt} {f : Addr} {oc : Value} {od an : Option Addr} {osl : Array (Option Value)} {kV doc pm cdv ct : Value} (l : K.lookup f = some ⟨oc, od, .func (PySem.W.fnOf x qual (defArgs st) (defBody st) (defScope st) .none kV doc pm an cdv ct), osl⟩)
    (c : PySem.W.codeIn K cdv qual = true) (k : PySem.W.keepIn K (.ref f) = true) : Fun K x qual st f (PySem.W.fnOf x qual (defArgs st) (defBody st) (defScope st) .none kV doc pm an cdv ct) := ⟨⟨oc, od, kV, doc, pm, an, cdv, ct, osl, rfl, l, c⟩, k⟩
end
section
variable {X : Cx}
theorem pv (i : Nat) {x : Str} {pos : Pos} (hN : X.N[i]? = some x := by rfl) (hv : Vis X.env.scope x := by first | exact Or.inl rfl | exact Or.inr (Or.inl rfl) | exact Or.inr (Or.inr rfl)) (hd : (x == ("__debug__" : Str)) = false := by decide)
    (hcd : (x == ("__classdict__" : Str)) = false := by decide) : PE X (.Name x pos) (tVar i) := pe_var hN hv hd hcd
end
theorem iteF {A B : Prop} (h : B) : if false = true then A else B := by
  rw [if_neg Bool.false_ne_true]
  exact h
theorem iteT {A B : Prop} (h : A) : if true = true then A else B := by
  rw [if_pos rfl]
  exact h
def Same (H H' : Hp) : Prop := ∀ b o, H b = some o → H' b = some o
theorem Same.refl (H : Hp) : Same H H := fun _ _ h => h
theorem Same.trans {H H1 H2 : Hp} (a : Same H H1) (b : Same H1 H2) : Same H H2 := fun c o h => b c o (a c o h)
theorem Same.free {H H' : Hp} (e : Same H H') {l : Addr} (h : H' l = Option.none) : H l = Option.none := by
  cases q : H l with
  | none => rfl
  | some o =>
    rw [e l o q] at h
    cases h
theorem Same.seq {K : PySem.W.Frag} {H H' : Hp} {a : Addr} {xs : List V} (e : Same H H') (h : SqL K H a xs) : SqL K H' a xs := by
  rcases h with (h | ⟨o, h⟩) | h
  · exact .inl (.inl (e _ _ h))
  · exact .inl (.inr ⟨o, e _ _ h⟩)
  · exact .inr h
end L2
namespace L2
open PySem PySem.Spec PyProof.Rows
section
variable {X : Cx}
theorem call_lenD : CallR X (.builtin "len") (fun xs H Q => ∃ a kvs, xs = [V.ref a] ∧ H a = some (.dK kvs) ∧ Q (.int kvs.length) H) := by
  intro pins s σ H xs us Q I r h
  obtain ⟨a, kvs, rfl, ha, q⟩ := h
  obtain ⟨u, rfl, ru⟩ := vals1 r
  cases ru
  exact d_len I (.inl ha) fun t s' I' => ⟨.int kvs.length, H, I', ⟨t, rfl⟩, q⟩
end
section
variable {κ : Type} [DecidableEq κ]
theorem nd_snoc : ∀ {l : List κ} {k : κ}, l.Nodup → ¬ k ∈ l → (l ++ [k]).Nodup
  | [], k, _, _ => by simp
  | a :: r, k, h, hk => by
    obtain ⟨h1, h2⟩ := List.nodup_cons.mp h
    show (a :: (r ++ [k])).Nodup
    refine List.nodup_cons.mpr ⟨fun m => ?_, nd_snoc h2 fun m => hk (List.mem_cons.mpr (Or.inr m))⟩
    rcases List.mem_append.mp m with q | q
    · exact h1 q
    · exact hk (List.mem_cons.mpr (Or.inl (List.mem_singleton.mp q).symm))
end
end L2
namespace L2
open PySem PySem.Spec PyProof.Rows
def clGo (cells : List (Str × Addr)) : List (Str × NameKind) → List (Str × Addr) → List (Str × Addr)
  | [], acc => acc
  | (n, k) :: r, acc => clGo cells r (if k == .free then (n, (cells.lookup n).getD 0) :: acc else acc)
theorem closure_go {env : Env} : ∀ (names : List (Str × NameKind)) (acc : List (Str × Addr)), (∀ n, (n, NameKind.free) ∈ names → ∃ c, env.cells.lookup n = some c) →
    (forIn names acc fun (x : Str × NameKind) (r : List (Str × Addr)) => (if x.2 == .free then (cellOf env x.1 >>= fun c => pure (ForInStep.yield ((x.1, c) :: r))) else pure (ForInStep.yield r) : Sem (ForInStep (List (Str × Addr))))) = pure (clGo env.cells names acc)
  | [], acc, _ => rfl
  | (n, k) :: r, acc, h => by
    rw [List.forIn_cons]
    have hr : ∀ n, (n, NameKind.free) ∈ r → ∃ c, env.cells.lookup n = some c := fun n hn => h n (List.mem_cons_of_mem _ hn)
    cases hk : k == NameKind.free with
    | false =>
      simp only [hk, Bool.false_eq_true, if_false, pure_bind]
      rw [closure_go r acc hr]
      show _ = pure (clGo env.cells r (if k == NameKind.free then _ else acc))
      rw [hk]; rfl
    | true =>
      have e : k = .free := by simpa using hk
      subst e
      obtain ⟨c, hc⟩ := h n List.mem_cons_self
      have e2 : cellOf env n = pure c := by unfold cellOf; rw [hc]
      simp only [hk, if_true, e2, pure_bind]
      rw [closure_go r _ hr]
      show _ = pure (clGo env.cells r (if NameKind.free == NameKind.free then (n, (env.cells.lookup n).getD 0) :: acc else acc))
      rw [hc]; rfl
theorem closure_of {scope : Scope} {env : Env} (h : ∀ n, (n, NameKind.free) ∈ scope.names → ∃ c, env.cells.lookup n = some c) : closureFor scope env = pure (clGo env.cells scope.names []) := by
  have e := closure_go (env := env) scope.names [] h
  unfold closureFor
  rw [← bind_pure (pure (clGo env.cells scope.names []) : Sem _), ← e]
theorem clGo_lookup {cells : List (Str × Addr)} {x : Str} {c : Addr} : ∀ (names : List (Str × NameKind)) (acc : List (Str × Addr)), (∀ n, (n, NameKind.free) ∈ names → ∃ c, cells.lookup n = some c) →
    (clGo cells names acc).lookup x = some c → cells.lookup x = some c ∨ acc.lookup x = some c
  | [], acc, _, h => .inr h
  | (n, k) :: r, acc, hf, h => by
    have hr : ∀ n, (n, NameKind.free) ∈ r → ∃ c, cells.lookup n = some c := fun n hn => hf n (List.mem_cons_of_mem _ hn)
    unfold clGo at h
    rcases clGo_lookup r _ hr h with z | z
    · exact .inl z
    · cases hk : k == NameKind.free with
      | false => rw [hk] at z; exact .inr z
      | true =>
        have e : k = .free := by simpa using hk
        subst e
        obtain ⟨d, hd⟩ := hf n List.mem_cons_self
        rw [hk, if_pos rfl, hd] at z
        by_cases hx : x = n
        · subst hx
          rw [List.lookup_cons, beq_self_eq_true] at z
          exact .inl (by rw [hd]; exact z)
        · rw [List.lookup_cons, beq_false_of_ne hx] at z
          exact .inr z
theorem clGo_has {cells : List (Str × Addr)} {x : Str} : ∀ (names : List (Str × NameKind)) (acc : List (Str × Addr)), ((x, NameKind.free) ∈ names ∨ ∃ c, acc.lookup x = some c) → ∃ c, (clGo cells names acc).lookup x = some c
  | [], acc, h => h.elim (fun z => nomatch z) fun z => z
  | (n, k) :: r, acc, h => by
    unfold clGo
    refine clGo_has r _ ?_
    rcases h with z | ⟨c, z⟩
    · rcases List.mem_cons.mp z with e | z
      · have e1 : n = x := (Prod.mk.inj e).1.symm
        have e2 : k = .free := (Prod.mk.inj e).2.symm
        subst e1 e2
        exact .inr ⟨_, by rw [if_pos (by rfl), List.lookup_cons, beq_self_eq_true]⟩
      · exact .inl z
    · refine .inr ?_
      split
      · rw [List.lookup_cons]
        cases x == n
        · exact ⟨c, z⟩
        · exact ⟨_, rfl⟩
      · exact ⟨c, z⟩
theorem relabel_back {env : Env} {x : Str} {k : NameKind} : ∀ {names : List (Str × NameKind)},
    (names.map fun (n, k) => if (k == NameKind.free && env.scope.kind == .function && env.kindOf n == some .cell) then (n, NameKind.cell) else (n, k)).lookup x = some k →
      ∃ k0, names.lookup x = some k0 ∧ (k = k0 ∨ (k0 = .free ∧ k = .cell))
  | [], h => by simp at h
  | (n, k1) :: r, h => by
    have ih := @relabel_back env x k r
    have h : List.lookup x ((if (k1 == NameKind.free && env.scope.kind == .function && env.kindOf n == some .cell) = true then (n, NameKind.cell) else (n, k1)) :: r.map fun (n, k) => if (k == NameKind.free && env.scope.kind == .function && env.kindOf n == some .cell) then (n, NameKind.cell) else (n, k)) = some k := h
    by_cases hc : (k1 == NameKind.free && env.scope.kind == .function && env.kindOf n == some .cell) = true
    · rw [if_pos hc, List.lookup_cons] at h
      rw [List.lookup_cons]
      have e : k1 = .free := by
        rw [Bool.and_eq_true, Bool.and_eq_true] at hc
        simpa using hc.1.1
      cases hx : x == n with
      | true => rw [hx] at h; exact ⟨k1, rfl, .inr ⟨e, (Option.some.inj h).symm⟩⟩
      | false => rw [hx] at h; exact ih h
    · rw [if_neg hc, List.lookup_cons] at h
      rw [List.lookup_cons]
      cases hx : x == n with
      | true => rw [hx] at h; exact ⟨k1, rfl, .inl (Option.some.inj h).symm⟩
      | false => rw [hx] at h; exact ih h
theorem relabel_fwd {env : Env} {x : Str} : ∀ {names : List (Str × NameKind)}, names.lookup x = some .free →
    (names.map fun (n, k) => if (k == NameKind.free && env.scope.kind == .function && env.kindOf n == some .cell) then (n, NameKind.cell) else (n, k)).lookup x = some .free ∨
    (names.map fun (n, k) => if (k == NameKind.free && env.scope.kind == .function && env.kindOf n == some .cell) then (n, NameKind.cell) else (n, k)).lookup x = some .cell
  | [], h => by simp at h
  | (n, k1) :: r, h => by
    have ih := @relabel_fwd env x r
    show List.lookup x ((if (k1 == NameKind.free && env.scope.kind == .function && env.kindOf n == some .cell) = true then (n, NameKind.cell) else (n, k1)) :: r.map fun (n, k) => if (k == NameKind.free && env.scope.kind == .function && env.kindOf n == some .cell) then (n, NameKind.cell) else (n, k)) = some .free ∨
      List.lookup x ((if (k1 == NameKind.free && env.scope.kind == .function && env.kindOf n == some .cell) = true then (n, NameKind.cell) else (n, k1)) :: r.map fun (n, k) => if (k == NameKind.free && env.scope.kind == .function && env.kindOf n == some .cell) then (n, NameKind.cell) else (n, k)) = some .cell
    rw [List.lookup_cons] at h
    by_cases hc : (k1 == NameKind.free && env.scope.kind == .function && env.kindOf n == some .cell) = true
    · rw [if_pos hc, List.lookup_cons]
      cases hx : x == n with
      | true => exact .inr rfl
      | false => rw [hx] at h; exact ih h
    · rw [if_neg hc, List.lookup_cons]
      cases hx : x == n with
      | true => rw [hx] at h; exact .inl h
      | false => rw [hx] at h; exact ih h
theorem mem_of_lookup {x : Str} {k : NameKind} : ∀ {names : List (Str × NameKind)}, names.lookup x = some k → (x, k) ∈ names
  | [], h => by simp at h
  | (n, k1) :: r, h => by
    rw [List.lookup_cons] at h
    cases hx : x == n with
    | true =>
      rw [hx] at h
      have e : x = n := by simpa using hx
      rw [e, Option.some.inj h]; exact List.mem_cons_self
    | false => rw [hx] at h; exact List.mem_cons_of_mem _ (mem_of_lookup h)
def cxC (X : Cx) (N : List Str) (scope : Scope) (s : Shared) (H : Hp) (fp : List Addr) : Cx where
  prog := X.prog
  w := X.w
  K := X.K
  mg := X.mg
  base := X.base
  A := X.A
  N := N
  s₀ := s
  H₀ := H
  env := compEnvC scope (clGo X.env.cells scope.names []) s.heap.objs.size X.env
  outer := X.stack
  stack := X.stack
  ex := fp
  fn := fun _ => false
  calm := X.calm
  pn := []
  xe := fun _ _ => False
def Caps (X : Cx) (scope : Scope) : List Nat → List Str → Prop
  | [], [] => True
  | j :: js, y :: ys => X.N[j]? = some y ∧ (X.env.kindOf y = some .cell ∨ X.env.kindOf y = some .free) ∧ scope.names.lookup y = some .free ∧ Caps X scope js ys
  | _, _ => False
def capV (σ : St) (js : List Nat) : St := js.map fun j => (σ[j]?).join
theorem Caps.len {X : Cx} {scope : Scope} : ∀ {js : List Nat} {ys : List Str}, Caps X scope js ys → js.length = ys.length
  | [], [], _ => rfl
  | _ :: _, _ :: _, h => by rw [List.length_cons, List.length_cons, Caps.len h.2.2.2]
  | [], _ :: _, h => h.elim
  | _ :: _, [], h => h.elim
theorem Caps.get {X : Cx} {scope : Scope} {σ : St} {y : Str} {v : V} : ∀ {js : List Nat} {ys : List Str} {i : Nat}, Caps X scope js ys → ys[i]? = some y → (capV σ js)[i]? = some (some v) →
    ∃ j : Nat, X.N[j]? = some y ∧ σ[j]? = some (some v) ∧ (X.env.kindOf y = some .cell ∨ X.env.kindOf y = some .free) ∧ scope.names.lookup y = some .free
  | [], [], i, _, e, _ => by simp at e
  | j :: js, z :: ys, 0, h, e, q => by
    simp only [List.getElem?_cons_zero, Option.some.injEq] at e
    subst e
    refine ⟨j, h.1, ?_, h.2.1, h.2.2.1⟩
    have q' : (σ[j]?).join = some v := by simpa [capV] using q
    cases hj : σ[j]? with
    | none => rw [hj] at q'; simp at q'
    | some o => rw [hj] at q'; rw [← q']; rfl
  | j :: js, z :: ys, i + 1, h, e, q => Caps.get (i := i) h.2.2.2 (by simpa using e) (by simpa [capV] using q)
  | [], _ :: _, _, h, _, _ => h.elim
  | _ :: _, [], _, h, _, _ => h.elim
section
variable {X : Cx} {pins : List (Addr × Obj)} {σ : St} {H : Hp} {s s' : Shared} {scope : Scope} {fp : List Addr}
theorem cxC_ok {N : List Str} (I : Inv X pins σ H s) (hf : ∀ b ∈ fp, FpOk X pins H b) (hlt : ∀ b ∈ fp, b < s.heap.objs.size) (hkind : scope.kind = .function) (hcell : ∀ y ∈ scope.names, y.2 ≠ .cell)
    (hfr : ∀ n, (n, NameKind.free) ∈ scope.names → ∃ c, X.env.cells.lookup n = some c) : (cxC X N scope s H fp).Ok where
  mod := I.mod
  kind := hkind
  glob := I.ok.glob
  blt := I.ok.blt
  above := Nat.le_refl _
  inj := fun x y c h1 h2 => I.ok.inj x y c ((clGo_lookup _ _ hfr h1).resolve_right (by simp)) ((clGo_lookup _ _ hfr h2).resolve_right (by simp))
  has := fun x hx => by
    refine clGo_has _ _ (.inl ?_)
    have key : ∀ k, (k = NameKind.cell ∨ k = NameKind.free) → (relabel scope X.env).names.lookup x = some k → (x, NameKind.free) ∈ scope.names := fun k hk e => by
      obtain ⟨k0, e0, z⟩ := relabel_back e
      rcases z with z | ⟨z, _⟩
      · subst z
        rcases hk with hk | hk
        · subst hk; exact absurd rfl (hcell _ (mem_of_lookup e0))
        · subst hk; exact mem_of_lookup e0
      · subst z; exact mem_of_lookup e0
    rcases hx with hx | hx
    · exact key _ (.inl rfl) hx
    · exact key _ (.inr rfl) hx
  cab := fun x c h => by cases h
  hd := I.ok.hd
  frames := I.ok.frames
  stk := .inl rfl
  exf := fun b hb => ⟨Nat.ne_of_lt (hlt b hb), fun x c e => (hf b hb).2.2.2.2.1 x c ((clGo_lookup _ _ hfr e).resolve_right (by simp))⟩
  bs := I.bs
  bsz := Nat.le_trans I.ok.bsz I.sz
  noex := fun b o e hb => by
    rcases (hf b hb).2.2.2.1 with z | z
    · exact I.ok.noex b o e z
    · exact absurd (Nat.lt_of_lt_of_le (Heap.lt_size e) (Nat.le_trans I.ok.bsz z)) (Nat.lt_irrefl _)
  exfs := fun b hb hs => by
    rcases List.mem_cons.mp (I.stkSub b hs) with z | z
    · exact (hf b hb).2.1 z
    · exact (hf b hb).2.2.1 z
  funs := I.stack
  frf := I.stkFree
theorem cxC_inv {own ys : List Str} {js : List Nat} {h1 : Heap} {tk : Nat} {m : Str → Option Value} (I : Inv X pins σ H s) (hf : ∀ b ∈ fp, FpOk X pins H b) (hlt : ∀ b ∈ fp, b < s.heap.objs.size) (hkind : scope.kind = .function)
    (hcell : ∀ y ∈ scope.names, y.2 ≠ .cell) (hfr : ∀ n, (n, NameKind.free) ∈ scope.names → ∃ c, X.env.cells.lookup n = some c) (hc : Caps X scope js ys)
    (hn : h1.Ns s.heap.objs.size m) (hk : ∀ b o, s.heap.get? b = some o → h1.get? b = some o) :
    Inv (cxC X (own ++ ys) scope s H fp) [] (List.replicate own.length none ++ capV σ js) H { s with heap := h1, toks := tk } := by
  have hcl : ∀ x c, (clGo X.env.cells scope.names []).lookup x = some c → X.env.cells.lookup x = some c := fun x c e => (clGo_lookup _ _ hfr e).resolve_right (by simp)
  refine ⟨cxC_ok I hf hlt hkind hcell hfr, rfl, I.bare, Un.kept hk, ⟨m, hn, fun i x v e1 e2 e3 => ?_⟩, fun x c e => ?_, I.fresh, fun x c e => I.freeC x c (hcl x c e), (fun p hp => nomatch hp), I.hok.kept hk, ?_⟩
  · have e1' : (own ++ ys)[i]? = some x := e1
    by_cases hi : i < own.length
    · rw [List.getElem?_append_left (by simpa using hi)] at e2
      rw [List.getElem?_replicate] at e2
      split at e2
      · cases Option.some.inj e2
      · cases e2
    · have hi' : own.length ≤ i := Nat.le_of_not_lt hi
      rw [List.getElem?_append_right hi'] at e1'
      rw [List.getElem?_append_right (by simpa using hi'), List.length_replicate] at e2
      obtain ⟨j, q1, q2, q3, q4⟩ := hc.get e1' e2
      obtain ⟨m0, _, hl⟩ := I.loc
      obtain ⟨u, r, l⟩ := hl j x v q1 q2 (by
        rcases q3 with q3 | q3
        · exact .inr (.inl q3)
        · exact .inr (.inr q3))
      refine ⟨u, r, .inr ⟨?_, ?_⟩⟩
      · rcases relabel_fwd (env := X.env) q4 with z | z
        · exact .inr z
        · exact .inl z
      · rcases l with ⟨k, _⟩ | ⟨_, c, hc1, hc2⟩
        · rcases q3 with q3 | q3 <;> rw [k] at q3 <;> cases Option.some.inj q3
        · obtain ⟨d, hd⟩ := clGo_has (cells := X.env.cells) (x := x) scope.names [] (.inl (mem_of_lookup q4))
          have hd' := hcl x d hd
          rw [hc1] at hd'
          cases Option.some.inj hd'
          obtain ⟨o, ho, hod⟩ := hc2
          exact ⟨c, hd, o, hk c o ho, hod⟩
  · obtain ⟨v, o, ho, hod⟩ := I.cell x c (hcl x c e)
    exact ⟨v, o, hk c o ho, hod⟩
  · show (List.replicate own.length none ++ capV σ js).length = (own ++ ys).length
    rw [List.length_append, List.length_append, List.length_replicate, capV, List.length_map, hc.len]
theorem cxC_back {N : List Str} {σ' : St} {H' : Hp} (I : Inv X pins σ H s) (hf : ∀ b ∈ fp, FpOk X pins H b) (J : Inv (cxC X N scope s H fp) [] σ' H' s') : Inv X pins σ H' s' :=
  I.call' (ch := fp) J.os J.base J.hok J.bare fun b hb => ⟨(hf b hb).2.2.2.1, (hf b hb).2.1, (hf b hb).2.2.2.2.1, (hf b hb).2.2.2.2.2⟩
end
section
variable {prog : Program} {w : World} {A : Around} {R : Result → Shared → Prop} {s : Shared}
theorem compLoop_any {elt target iter : Expr} {ifs : List Expr} {scope : Scope} {pos : Pos} {it acc : Value} {env : Env} (I : Nat → Shared → Prop)
    (turn : ∀ n s, I n s → wpAny (model prog w) A (pyNext it) (fun r s₁ => match r with
      | none => R (.ok .next) s₁
      | some v => wpAny (model prog w) A (letOwnedTupleGo target it v) (fun _ s₁' => wpAny (model prog w) A (assign target env v) (fun _ s₂ =>
          wpAny (model prog w) A (forIn ifs true fun c r => if r = true then do let ok ← isTrue c env (eval c env); pure (ForInStep.yield ok) else pure (ForInStep.yield r)) (fun ok s₃ =>
            if ok = true then wpAny (model prog w) A (eval elt env) (fun x s₄ =>
              wpAny (model prog w) A (call (.builtin "list.append") [acc, x]) (fun _ s₅ => ∃ m, m < n ∧ I m s₅) (fun _ _ => False) s₄) (fun _ _ => False) s₃
            else ∃ m, m < n ∧ I m s₃) (fun _ _ => False) s₂) (fun _ _ => False) s₁') (fun _ _ => False) s₁) (fun _ _ => False) s)
    (n : Nat) (h : I n s) :
    codeAny (model prog w) A (.compLoop (.ListComp elt [⟨target, iter, ifs, 0⟩] scope pos) 0 it acc env) R s := by
  refine codeAny_loop rfl I (fun n s hI => ?_) n h
  show wpAny _ A ((compTurn (.ListComp elt [⟨target, iter, ifs, 0⟩] scope pos) 0 it acc env).onRaise (fun x => do noteFrame x env; theTreesLotGoes x)) _ _ s
  refine wpAny_noted ?_
  rw [compTurn_list]
  refine wpAny_bind (wpAny_standAt (wpAny_bind (wpAny_mono (turn n s hI) (fun r s₁ h₁ => ?_) fun _ _ h' => h'.elim)))
  cases r with
  | none => exact wpAny_pure h₁
  | some v =>
    refine wpAny_bind (wpAny_mono h₁ (fun _ s₁' h₁' => ?_) fun _ _ h' => h'.elim)
    refine wpAny_bind (wpAny_mono h₁' (fun _ s₂ h₂ => wpAny_bind (wpAny_mono h₂ (fun ok s₃ h₃ => ?_) fun _ _ h' => h'.elim)) fun _ _ h' => h'.elim)
    cases ok with
    | false => exact wpAny_pure ⟨rfl, h₃⟩
    | true =>
      exact wpAny_bind (wpAny_bind (wpAny_mono h₃ (fun x s₄ h₄ => wpAny_bind (wpAny_mono h₄ (fun _ s₅ h₅ => wpAny_pure (wpAny_pure ⟨rfl, h₅⟩)) fun _ _ h' => h'.elim)) fun _ _ h' => h'.elim))
end
def PIfs (X : Cx) (ifs : List Expr) (t : TT) : Prop :=
  ∀ (pins : List (Addr × Obj)) (s : Shared) (σ : St) (H : Hp) (Q : Bool → Hp → Prop), Inv X pins σ H s → t σ H Q →
    wpAny (model X.prog X.w) X.A (forIn ifs true fun c r => if r = true then do let ok ← isTrue c X.env (eval c X.env); pure (ForInStep.yield ok) else pure (ForInStep.yield r)) (TP X pins σ Q) X.xe s
def tYes : TT := fun _ H Q => Q true H
theorem pifs_nil {X : Cx} : PIfs X [] tYes := fun _ _ _ H _ I h => wpAny_tests_nil ⟨H, I, h⟩
def tComp (own : Nat) (js : List Nat) (wi : TI) (g : TG) (tt : TT) (te : TE) : TE := fun σ H Q => wi σ H fun J H1 => ∀ acc, H1 acc = none →
  ∃ W : Nat → Nat → List V → St → Hp → Prop, (∃ m, W 0 m [] (List.replicate own none ++ capV σ js) (upd H1 acc (.lst []))) ∧ ∀ i m ys σ' H', W i m ys σ' H' → H' acc = some (.lst ys) ∧
    ((J.stop i H' ∧ Q (.ref acc) H') ∨ (J.go i H' ∧ ∀ x H2, J.yld i H' x H2 → g x σ' H2 fun σ2 H3 => tt σ2 H3 fun b H4 =>
      if b = true then te σ2 H4 fun y H5 => H5 acc = some (.lst ys) ∧ ys.length < sizeLine ∧ ∃ m', m' < m ∧ W (i + 1) m' (ys ++ [y]) σ2 (upd H5 acc (.lst (ys ++ [y]))) else ∃ m', m' < m ∧ W (i + 1) m' ys σ2 H4))
section
variable {X : Cx}
theorem comp_run {elt tg iter : Expr} {ifs : List Expr} {scope : Scope} {pos : Pos} {own ys : List Str} {js : List Nat} {wi : TI} {g : TG} {tt : TT} {te : TE} {pins : List (Addr × Obj)} {s : Shared} {σ : St} {H : Hp} {Q : VK}
    {use : Option (Value → Sem Unit)} {Q' : Value → Shared → Prop} {p : Pos} (hcalm : X.calm = true)
    (hi : PI X tg iter wi) (hkind : scope.kind = .function) (hcell : ∀ y ∈ scope.names, y.2 ≠ .cell) (hnames : ∀ y ∈ scope.names, y.2 = .local → scope.names.lookup y.1 = some .local)
    (hfr : ∀ n, (n, NameKind.free) ∈ scope.names → ∃ c, X.env.cells.lookup n = some c) (hc : Caps X scope js ys)
    (hg : ∀ s0 H0 fp, PG (cxC X (own ++ ys) scope s0 H0 fp) tg g) (ht : ∀ s0 H0 fp, PIfs (cxC X (own ++ ys) scope s0 H0 fp) ifs tt) (he : ∀ s0 H0 fp, PE (cxC X (own ++ ys) scope s0 H0 fp) elt te)
    (I : Inv X pins σ H s) (h : tComp own.length js wi g tt te σ H Q)
    (hu : ∀ (D C : Addr) (H' : Hp) (s' : Shared), Inv X pins σ H' s' → Q (.ref D) H' → FpOk X pins H' C → (∃ m, s'.heap.Ns C m) → compPost (model X.prog X.w) X.A X.xe use Q' (.ref D) C (.ok .next) s')
    (hs : ∀ x, foldedSetIterable iter X.env x = pure x) :
    wpAny (model X.prog X.w) X.A (comprehension (.ListComp elt [⟨tg, iter, ifs, 0⟩] scope pos) scope X.env p (newList []) false (eval iter X.env) use) Q' X.xe s := by
  refine wpAny_comprehension_free (g := ⟨tg, iter, ifs, 0⟩) (gs := []) rfl hs (closure_of hfr) hkind hnames (thn (hi pins s σ H _ I h) fun v s1 h1 => thn h1 fun itv s2 h2 => ?_)
  obtain ⟨it, fp, tn, J, H2, e, I2, T, st2, f2, q⟩ := h2
  subst e
  refine wpAny_newObj_type (wpAny_newFunctionEnv hcell (by intro y hy; simp at hy) (fun h₁ hns₁ hsb₁ => ?_) hkind)
  dsimp only at hns₁ hsb₁ ⊢
  have nD : H2 s2.heap.objs.size = none := I2.fresh
  have I3 : Inv X pins σ (upd H2 s2.heap.objs.size (.lst [])) { s2 with heap := s2.heap.push { cls := .type "list", data := .seq ([] : List Value).toArray }, toks := s2.toks } := I2.lnew (its := []) .nil (Nat.zero_le _)
  have hlt2 : ∀ b ∈ fp, b < s2.heap.objs.size := fun b hb => let ⟨o, e, _⟩ := T.obj _ _ st2 b hb; Heap.lt_size e
  obtain ⟨W, ⟨m0, w0⟩, turn⟩ := q _ nD
  generalize hs3 : ({ s2 with heap := s2.heap.push { cls := .type "list", data := .seq ([] : List Value).toArray }, toks := s2.toks } : Shared) = s3 at I3
  have hh3 : s2.heap.push { cls := .type "list", dict := none, data := .seq ([] : List Value).toArray } = s3.heap := by rw [← hs3]
  have hsz3 : s3.heap.objs.size = s2.heap.objs.size + 1 := by rw [← hh3, Heap.size_push]
  have hlt3 : ∀ b ∈ fp, b < s3.heap.objs.size := fun b hb => by rw [hsz3]; exact Nat.lt_succ_of_lt (hlt2 b hb)
  have f3 : ∀ b ∈ fp, FpOk X pins (upd H2 s2.heap.objs.size (.lst [])) b := fun b hb => ⟨by rw [upd_ne (Nat.ne_of_lt (hlt2 b hb))]; exact (f2 b hb).1, (f2 b hb).2⟩
  have fC : FpOk X pins (upd H2 s2.heap.objs.size (.lst [])) s3.heap.objs.size := I3.fpOk (Nat.le_refl _) I3.fresh
  rw [hh3] at hns₁ hsb₁ ⊢
  have hk3 : ∀ b o, s3.heap.get? b = some o → h₁.get? b = some o := fun b o e => hsb₁.extBut b o (Nat.ne_of_lt (Heap.lt_size e)) (Heap.get?_push_of_some _ e)
  have es4 : ({ s2 with heap := h₁, toks := s2.toks + ([] : List (Str × Value)).length } : Shared) = { s3 with heap := h₁, toks := s2.toks + ([] : List (Str × Value)).length } := by rw [← hs3]
  have I4 := cxC_inv (own := own) (h1 := h₁) (tk := s2.toks + ([] : List (Str × Value)).length) I3 f3 hlt3 hkind hcell hfr hc hns₁ hk3
  have st4 : tn 0 h₁ := T.keep _ _ _ st2 fun b hb o e => hk3 b o (by rw [← hh3]; exact Heap.get?_push_of_some _ e)
  have stat : ∀ {H' : Hp}, (∀ b ∈ fp, H' b = none) → ∀ b ∈ fp, FpOk (cxC X (own ++ ys) scope s3 (upd H2 s2.heap.objs.size (.lst [])) fp) [] H' b := fun hn b hb =>
    ⟨hn b hb, Nat.ne_of_lt (hlt3 b hb), (cxC_ok (N := own ++ ys) I3 f3 hlt3 hkind hcell hfr).exfs b hb, .inl hb, fun x c e => ((cxC_ok (N := own ++ ys) I3 f3 hlt3 hkind hcell hfr).exf b hb).2 x c e, fun p hp => nomatch hp⟩
  have loop : ∀ s4 : Shared, s4 = { s3 with heap := h₁, toks := s2.toks + ([] : List (Str × Value)).length } →
      codeAny (model X.prog X.w) X.A (.compLoop (.ListComp elt [⟨tg, iter, ifs, 0⟩] scope pos) 0 (.ref it) (.ref s2.heap.objs.size) (compEnvC scope (clGo X.env.cells scope.names []) s3.heap.objs.size X.env))
        (compPost (model X.prog X.w) X.A X.xe use Q' (.ref s2.heap.objs.size) s3.heap.objs.size) s4 := by
    rintro s4 rfl
    refine compLoop_any (fun n s' => ∃ i ys' σ' H', Inv (cxC X (own ++ ys) scope s3 (upd H2 s2.heap.objs.size (.lst [])) fp) [] σ' H' s' ∧ tn i s'.heap ∧ (∀ b ∈ fp, H' b = none) ∧ W i n ys' σ' H') ?_ m0
      ⟨0, [], _, _, I4, st4, fun b hb => (f3 b hb).1, w0⟩
    rintro n s5 ⟨i, ys', σ5, H5, I5, st5, fr5, w5⟩
    obtain ⟨hacc, rest⟩ := turn i n ys' σ5 H5 w5
    rcases rest with ⟨stop, qn⟩ | ⟨go, step⟩
    · refine thn (T.done (cxC X (own ++ ys) scope s3 (upd H2 s2.heap.objs.size (.lst [])) fp) rfl rfl rfl hcalm i [] s5 σ5 H5 _ I5 (stat fr5) st5 stop) fun r s6 ⟨hr, I6⟩ => ?_
      subst hr
      exact hu _ _ H5 s6 (cxC_back I3 f3 I6) qn ⟨I6.free, fC.2⟩ (let ⟨m, hn, _⟩ := I6.loc; ⟨m, hn⟩)
    · refine thn (T.item (cxC X (own ++ ys) scope s3 (upd H2 s2.heap.objs.size (.lst [])) fp) rfl rfl rfl hcalm i [] s5 σ5 H5 _ I5 (stat fr5) st5 go) fun r s6 ⟨u, hr, h6⟩ => ?_
      subst hr
      refine thn h6 fun _ s7 ⟨x, H7, I7, r7, y7, st7, fr7⟩ => ?_
      have I7' := I7.pinned (stat fr7) (T.obj _ _ st7)
      refine thn (hg _ _ _ _ s7 σ5 H7 x u _ I7' r7 (step x H7 y7)) fun _ s8 ⟨σ8, H8, I8, q8⟩ => ?_
      refine thn (ht _ _ _ _ s8 σ8 H8 _ I8 q8) fun ok s9 ⟨H9, I9, q9⟩ => ?_
      have kept : ∀ {s10 : Shared} {σ10 : St} {H10 : Hp}, Inv (cxC X (own ++ ys) scope s3 (upd H2 s2.heap.objs.size (.lst [])) fp) ([] ++ pinsAt fp s7.heap) σ10 H10 s10 →
          Inv (cxC X (own ++ ys) scope s3 (upd H2 s2.heap.objs.size (.lst [])) fp) [] σ10 H10 s10 ∧ tn (i + 1) s10.heap ∧ ∀ b ∈ fp, H10 b = none := fun {s10 σ10 H10} I10 => by
        refine ⟨I10.unpinned, T.keep _ _ _ st7 fun b hb o e => (I10.pin (b, o) (List.mem_append_right _ (List.mem_append_right _ (mem_pinsAt hb e)))).1, fun b hb => ?_⟩
        obtain ⟨o, e, d⟩ := T.obj _ _ st7 b hb
        exact (I10.pin (b, o) (List.mem_append_right _ (List.mem_append_right _ (mem_pinsAt hb e)))).2.1
      cases ok with
      | false =>
        simp only [Bool.false_eq_true, if_false] at q9 ⊢
        obtain ⟨m', hm, w9⟩ := q9
        obtain ⟨k1, k2, k3⟩ := kept I9
        exact ⟨m', hm, i + 1, ys', σ8, H9, k1, k2, k3, w9⟩
      | true =>
        simp only [if_true] at q9 ⊢
        refine thn (he _ _ _ _ s9 σ8 H9 _ I9 q9) fun yv s10 ⟨y, H10, I10, r10, a10, l10, m', hm, w10⟩ => ?_
        refine thn (mt_append (X := cxC X (own ++ ys) scope s3 (upd H2 s2.heap.objs.size (.lst [])) fp) _ s10 σ8 H10 (.ref s2.heap.objs.size) [y] (.ref s2.heap.objs.size) [yv] (fun v H' => v = .non ∧ H' = upd H10 s2.heap.objs.size (.lst (ys' ++ [y]))) I10 rfl (.cons r10 .nil) ⟨_, _, _, rfl, rfl, a10, l10, rfl, rfl⟩) fun _ s11 ⟨_, H11, I11, _, _, e11⟩ => ?_
        subst e11
        obtain ⟨k1, k2, k3⟩ := kept I11
        exact ⟨m', hm, i + 1, _, σ8, _, k1, k2, k3, w10⟩
  have fin := codeAny_compStart_list (R := compPost (model X.prog X.w) X.A X.xe use Q' (.ref s2.heap.objs.size) s3.heap.objs.size) (loop _ rfl) (T.self X.A 0 { s3 with heap := h₁, toks := s2.toks + ([] : List (Str × Value)).length } _ _ st4 (loop _ rfl))
  rw [← hs3] at fin ⊢
  exact fin
theorem frees_of {pins : List (Addr × Obj)} {σ : St} {H : Hp} {s : Shared} {scope : Scope} (I : Inv X pins σ H s) (h : (scope.names.all fun y => y.2 != .free || X.env.kindOf y.1 == some .cell || X.env.kindOf y.1 == some .free) = true) :
    ∀ n, (n, NameKind.free) ∈ scope.names → ∃ c, X.env.cells.lookup n = some c := fun n hn => by
  have q := List.all_eq_true.mp h _ hn
  simp only [bne_self_eq_false, Bool.false_or, Bool.or_eq_true, beq_iff_eq] at q
  exact I.ok.has n q
theorem pe_comp {elt tg iter : Expr} {ifs : List Expr} {scope : Scope} {pos : Pos} (own : List Str) {ys : List Str} (js : List Nat) {wi : TI} {g : TG} {tt : TT} {te : TE} (hcalm : X.calm = true)
    (hi : PI X tg iter wi) (hc : Caps X scope js ys)
    (hg : ∀ s0 H0 fp, PG (cxC X (own ++ ys) scope s0 H0 fp) tg g) (ht : ∀ s0 H0 fp, PIfs (cxC X (own ++ ys) scope s0 H0 fp) ifs tt) (he : ∀ s0 H0 fp, PE (cxC X (own ++ ys) scope s0 H0 fp) elt te)
    (hfr : (scope.names.all fun y => y.2 != .free || X.env.kindOf y.1 == some .cell || X.env.kindOf y.1 == some .free) = true := by rfl)
    (hkind : scope.kind = .function := by rfl) (hcell : ∀ y ∈ scope.names, y.2 ≠ .cell := by decide +kernel) (hnames : ∀ y ∈ scope.names, y.2 = .local → scope.names.lookup y.1 = some .local := by decide +kernel)
    (hs : ∀ x, foldedSetIterable iter X.env x = pure x := by intro _; rfl) : PE X (.ListComp elt [⟨tg, iter, ifs, 0⟩] scope pos) (tComp own.length js wi g tt te) := by
  intro pins s σ H Q I h
  rw [eval_ListComp]
  refine comp_run (use := none) hcalm hi hkind hcell hnames (frees_of I hfr) hc hg ht he I h (fun D C H' s' I' q fC ⟨m, hn⟩ => ⟨m, hn, fun h' hs' => ⟨.ref D, H', ?_, rfl, q⟩⟩) hs
  exact I'.turned (t' := s'.toks) (fun b o hb e => (hs'.2 b hb).trans e) fC.1 fC.2.1 fC.2.2.2.1 fC.2.2.2.2.1 fC.2.2.2.2.2
theorem ps_comp {elt tg iter : Expr} {ifs : List Expr} {scope : Scope} {pos spos py : Pos} {i : Nat} {y : Str} (own : List Str) {ys : List Str} (js : List Nat) {wi : TI} {g : TG} {tt : TT} {te : TE} (hcalm : X.calm = true)
    (hN : X.N.Nodup) (hy : X.N[i]? = some y) (hl : X.env.scope.names.lookup y = some .local)
    (hi : PI X tg iter wi) (hc : Caps X scope js ys)
    (hg : ∀ s0 H0 fp, PG (cxC X (own ++ ys) scope s0 H0 fp) tg g) (ht : ∀ s0 H0 fp, PIfs (cxC X (own ++ ys) scope s0 H0 fp) ifs tt) (he : ∀ s0 H0 fp, PE (cxC X (own ++ ys) scope s0 H0 fp) elt te)
    (hfr : (scope.names.all fun y => y.2 != .free || X.env.kindOf y.1 == some .cell || X.env.kindOf y.1 == some .free) = true := by rfl)
    (hsw : swapsWith (.ListComp elt [⟨tg, iter, ifs, 0⟩] scope pos) (some (.Name y py)) spos.line X.env = pure true := by rfl)
    (hkind : scope.kind = .function := by rfl) (hcell : ∀ y ∈ scope.names, y.2 ≠ .cell := by decide +kernel) (hnames : ∀ y ∈ scope.names, y.2 = .local → scope.names.lookup y.1 = some .local := by decide +kernel)
    (hs : ∀ x, foldedSetIterable iter X.env x = pure x := by intro _; rfl) :
    PS X (.Assign [.Name y py] (.ListComp elt [⟨tg, iter, ifs, 0⟩] scope pos) spos) (tAsg (tComp own.length js wi g tt te) (gName i)) := by
  intro pins s σ H D I h
  rw [exec_Assign_Name_used _ _ _ _ hsw]
  refine wpAny_bind (wpAny_standAt (wpAny_bind ?_))
  show wpAny _ X.A (do let _ ← comprehension (.ListComp elt [⟨tg, iter, ifs, 0⟩] scope pos) scope X.env _ (newList []) false (eval iter X.env) (some (assign (.Name y py) X.env))) _ _ s
  refine wpAny_bind (wpAny_mono (comp_run (Q := fun x H1 => gName i x σ H1 D.nx) (Q' := fun _ s' => SP X pins D .next s') (use := some (assign (.Name y py) X.env)) hcalm hi hkind hcell hnames (frees_of I hfr) hc hg ht he I h (fun Dd C H' s' I' q fC ⟨m, hn⟩ => ?_) hs) (fun _ s' hq => wpAny_pure (wpAny_pure hq)) fun _ _ e => e)
  show wpAny _ X.A (assign (.Name y py) X.env (.ref Dd)) _ _ _
  refine wpAny_assign_Name (store_ok2 (v := .ref Dd) I' hN hy (.inl hl) rfl (fun s'' I'' ⟨a, sb, ha⟩ => ?_) (.inr hl))
  have hCa : C ≠ a := by
    rcases ha with z | z
    · rw [z]; exact fC.2.1
    · exact Ne.symm (fC.2.2.2.2.1 _ _ z)
  refine ⟨m, hn.sameBut sb hCa, fun h' hs' => ?_⟩
  exact ⟨_, H', I''.turned (t' := s''.toks) (fun b o hb e => (hs'.2 b hb).trans e) fC.1 fC.2.1 fC.2.2.2.1 fC.2.2.2.2.1 fC.2.2.2.2.2, q⟩
end
end L2
namespace L2
open PySem PySem.Spec PyProof.Rows
mutual
def Rep (K : PySem.W.Frag) (H : Hp) : PyData → V → Prop
  | .none, v => v = .non
  | .bool b, v => v = .bl b
  | .int i, v => v = .int i
  | .str x, v => v = .str x
  | .list ds, v => ∃ a xs, v = .ref a ∧ SqL K H a xs ∧ RepAll K H ds xs
  | .tuple ds, v => ∃ a xs, v = .ref a ∧ SqT K H a xs ∧ RepAll K H ds xs
  | .dict _, _ => False
def RepAll (K : PySem.W.Frag) (H : Hp) : List PyData → List V → Prop
  | [], vs => vs = []
  | d :: ds, vs => ∃ v r, vs = v :: r ∧ Rep K H d v ∧ RepAll K H ds r
end
section
variable {X : Cx} {pins : List (Addr × Obj)} {σ : St} {H : Hp} {s : Shared}
mutual
theorem Rep.reads (I : Inv X pins σ H s) : ∀ (d : PyData) (v : V) (u : Value), Rep X.K H d v → RelV v u → ∃ as, Reads s.heap u d as
  | .none, v, u, h, r => by
    cases (show v = .non by simpa only [Rep] using h)
    cases (show u = Value.none from r); exact ⟨_, .none⟩
  | .bool b, v, u, h, r => by
    cases (show v = .bl b by simpa only [Rep] using h)
    cases (show u = Value.bool b from r); exact ⟨_, .bool b⟩
  | .int i, v, u, h, r => by
    cases (show v = .int i by simpa only [Rep] using h)
    obtain ⟨t, rfl⟩ := (show ∃ t, u = Value.int i t from r); exact ⟨_, .int i t⟩
  | .str x, v, u, h, r => by
    cases (show v = .str x by simpa only [Rep] using h)
    obtain ⟨t, rfl⟩ := (show ∃ t, u = Value.str x t from r); exact ⟨_, .str x t⟩
  | .list ds, v, u, h, r => by
    obtain ⟨a, xs, rfl, hq, ha⟩ := (show ∃ a xs, v = .ref a ∧ SqL X.K H a xs ∧ RepAll X.K H ds xs by simpa only [Rep] using h)
    cases (show u = Value.ref a from r)
    obtain ⟨its, rv, ⟨o, n, e1, e2, _, e3⟩, _⟩ := I.list hq
    obtain ⟨as, ra⟩ := RepAll.reads I ds xs its ha rv
    exact ⟨_, .list e1 e2 e3 (by simpa using ra)⟩
  | .tuple ds, v, u, h, r => by
    obtain ⟨a, xs, rfl, hq, ha⟩ := (show ∃ a xs, v = .ref a ∧ SqT X.K H a xs ∧ RepAll X.K H ds xs by simpa only [Rep] using h)
    cases (show u = Value.ref a from r)
    obtain ⟨its, rv, ⟨o, e1, e2, n, e3⟩, _⟩ := I.tuple hq
    obtain ⟨as, ra⟩ := RepAll.reads I ds xs its ha rv
    exact ⟨_, .tuple e1 e2 e3 (by simpa using ra)⟩
  | .dict _, v, u, h, r => absurd h (by simp only [Rep]; exact fun z => z)
theorem RepAll.reads (I : Inv X pins σ H s) : ∀ (ds : List PyData) (vs : List V) (us : List Value), RepAll X.K H ds vs → Vals vs us → ∃ as, ReadsAll s.heap us ds as
  | [], vs, us, h, r => by
    cases (show vs = [] by simpa only [RepAll] using h)
    cases r; exact ⟨_, .nil⟩
  | d :: ds, vs, us, h, r => by
    obtain ⟨v, rr, rfl, h1, h2⟩ := (show ∃ v r, vs = v :: r ∧ Rep X.K H d v ∧ RepAll X.K H ds r by simpa only [RepAll] using h)
    cases r with
    | cons ru rs =>
      obtain ⟨as, r1⟩ := Rep.reads I d v _ h1 ru
      obtain ⟨bs, r2⟩ := RepAll.reads I ds rr _ h2 rs
      exact ⟨_, .cons r1 r2⟩
end
end
theorem RepAll.cons {K : PySem.W.Frag} {H : Hp} {d : PyData} {v : V} {ds : List PyData} {vs : List V} (h1 : Rep K H d v) (h2 : RepAll K H ds vs) : RepAll K H (d :: ds) (v :: vs) := by
  simp only [RepAll]; exact ⟨v, vs, rfl, h1, h2⟩
theorem RepAll.nil {K : PySem.W.Frag} {H : Hp} : RepAll K H [] [] := by simp only [RepAll]
theorem Rep.int {K : PySem.W.Frag} {H : Hp} (i : Int) : Rep K H (.int i) (.int i) := by simp only [Rep]
theorem Rep.lst {K : PySem.W.Frag} {H : Hp} {a : Addr} {xs : List V} {ds : List PyData} (h : SqL K H a xs) (r : RepAll K H ds xs) : Rep K H (.list ds) (.ref a) := by
  simp only [Rep]; exact ⟨a, xs, rfl, h, r⟩
theorem RepAll.ints {K : PySem.W.Frag} {H : Hp} : ∀ (ns : List Int), RepAll K H (ns.map .int) (ns.map V.int)
  | [] => RepAll.nil
  | n :: ns => RepAll.cons (Rep.int n) (RepAll.ints ns)
section
variable {X : Cx}
structure Fine (d : PyData) : Prop where
  lay : d.canLay0 = true
  dep : d.depth ≤ 60
def rEqD (K : PySem.W.Frag) (neg : Bool) : R2 := fun x y H Q => ∃ dx dy, Rep K H dx x ∧ Rep K H dy y ∧ Fine dx ∧ Fine dy ∧ Q (.bl (if neg then !PyData.eqv dx dy else PyData.eqv dx dy)) H
theorem op_eqD (hu : X.A.units + 64 < cLine) : OpR X (compareOp .Eq) (rEqD X.K false) := by
  intro pins s σ H x y v u Q I rx ry h
  obtain ⟨dx, dy, h1, h2, f1, f2, q⟩ := h
  obtain ⟨as, r1⟩ := Rep.reads I dx x v h1 rx
  obtain ⟨bs, r2⟩ := Rep.reads I dy y u h2 ry
  have := f1.dep
  exact SeqAt.compareEq_reads r1 r2 f1.lay f2.lay (Nat.lt_of_le_of_lt (Nat.add_le_add_left (Nat.le_trans (Nat.min_le_left _ _) (Nat.le_trans f1.dep (by decide))) _) hu) ⟨.bl _, H, I, rfl, q⟩
def rEqG (K : PySem.W.Frag) : R2 := fun x y H Q => rEq x y H Q ∨ rEqD K false x y H Q
theorem op_eqG (hu : X.A.units + 64 < cLine) : OpR X (compareOp .Eq) (rEqG X.K) := op_eq.or (op_eqD hu)
def rAddG : R2 := fun x y H Q => rI0 (fun i j => .int (i + j)) x y H Q ∨ rCat x y H Q
theorem op_addG : OpR X (binaryOp .Add) rAddG := op_add.or op_cat
def rIxD : R2 := fun x y H Q => ∃ a v, x = .ref a ∧ DGet H a y (some v) ∧ Q v H
theorem ix_dict (hu : X.A.units + 64 < cLine) : IxR X rIxD := by
  intro value slice pins s σ H x y v u Q I rx ry h hs
  obtain ⟨a, z, rfl, g, q⟩ := h
  cases rx
  exact tail_any (dict_typeIs I g) PySem.F.slot_dict_getitem.lookup (d_getItem (Nat.lt_of_le_of_lt (by omega) hu) I g ry fun w' s' I' r' => ⟨z, H, I', r', q⟩) hs
def rIxG (K : PySem.W.Frag) : R2 := fun x y H Q => (rIxL K x y H Q ∨ rIxT K x y H Q) ∨ rIxD x y H Q
theorem ix_G (hu : X.A.units + 64 < cLine) : IxR X (rIxG X.K) := (ix_list.or ix_tup).or (ix_dict hu)
def rLen (K : PySem.W.Frag) : List V → Hp → VK → Prop := fun xs H Q => (∃ p ys, xs = [.ref p] ∧ (SqL K H p ys ∨ SqT K H p ys) ∧ Q (.int ys.length) H) ∨ (∃ a kvs, xs = [V.ref a] ∧ H a = some (.dK kvs) ∧ Q (.int kvs.length) H)
theorem call_lenG : CallR X (.builtin "len") (rLen X.K) := call_len_seq.or call_lenD
def rIsi (K : PySem.W.Frag) : List V → Hp → VK → Prop := fun xs H Q => ∃ x T t b, xs = [x, .ty T] ∧ TyOf K H x t ∧ PySem.W.kitOne K t (.type T) = some b ∧ Q (.bl b) H
theorem call_isi : CallR X (.builtin "isinstance") (rIsi X.K) := by
  intro pins s σ H xs us Q I r h
  obtain ⟨x, T, t, b, rfl, ty, e, q⟩ := h
  obtain ⟨u, w', rfl, ru, rw'⟩ := vals2 r
  cases (show w' = Value.type T from rw')
  exact isinst_ok I ru ty e fun tk => ⟨.bl b, H, I.tok tk, rfl, q⟩
theorem Inv.frs {pins : List (Addr × Obj)} {σ : St} {H : Hp} {s : Shared} (I : Inv X pins σ H s) : ∃ m, Fr X.base X.env.locals s.heap m ∧ News X.base X.env.locals s.heap (allNews X.base s.heap X.env.locals) :=
  let ⟨m, F⟩ := I.fr
  ⟨m, F, news_all⟩
def rSorted (K : PySem.W.Frag) : List V → Hp → VK → Prop := fun xs H Q => ∃ (p : Addr) (ns : List Int), xs = [.ref p] ∧ SqL K H p (ns.map V.int) ∧ ns.length < 64 ∧
  ∀ (l : Addr) (ns' : List Int), H l = none → ns'.Perm ns → ns'.Pairwise (· ≤ ·) → Q (.ref l) (upd H l (.lst (ns'.map V.int)))
theorem call_sorted : CallR X (.builtin "sorted") (rSorted X.K) := by
  intro pins s σ H xs us Q I r h
  obtain ⟨p, ns, rfl, hq, h64, q⟩ := h
  obtain ⟨u, rfl, ru⟩ := vals1 r
  cases ru
  obtain ⟨its, rv, pl, hz⟩ := I.list hq
  have hi : IntsAre its ns := intsAre_of rv
  have hl := rv.length
  rw [List.length_map] at hl
  refine sorted_ints pl.isList hi (by omega) fun out ns' a1 a2 a3 => ?_
  obtain ⟨e, he⟩ := sortedAll_at s.heap its out
  have hn : H (s.heap.objs.size + 1) = none := I.hok.fresh (Nat.le_succ _)
  refine ⟨.ref (s.heap.objs.size + 1), _, I.laid (t' := s.toks) (o := .lst (ns'.map V.int)) (fun b o e => sortedAll_old e) (Nat.le_succ _) ⟨?_, out.toList, e, vals_ints a1, by simpa [seqObj] using he⟩, rfl, q _ _ hn a2 a3⟩
  rw [List.length_map, a2.length_eq]
  exact Nat.le_of_lt (Nat.lt_of_lt_of_le h64 (by rw [sizeLine_eq]; decide))
end
end L2
namespace L2
open PySem PySem.Spec PyProof.Rows
section
variable {σ : St} {H : Hp} {Q : VK} {D : Ends} {ta tb te : TE} {t u : TS} {c c' : TT} {tA : TA} {QT : Bool → Hp → Prop} {QA : List V → Hp → Prop}
theorem x_seq (h : t { D with nx := u D } σ H) : tSeq t u D σ H := h
theorem x_asg {g : TG} (h : te σ H fun x H1 => g x σ H1 D.nx) : tAsg te g D σ H := h
theorem x_gname {i : Nat} {v : V} {R : St → Hp → Prop} (h : R (σ.set i (some v)) H) : gName i v σ H R := h
theorem x_var {i : Nat} {v : V} (h : σ[i]? = some (some v)) (k : Q v H) : tVar i σ H Q := ⟨v, h, k⟩
theorem x_c {v : V} (k : Q v H) : tC v σ H Q := k
theorem x_op {r : R2} (h : ta σ H fun x H1 => tb σ H1 fun y H2 => r x y H2 Q) : tOp r ta tb σ H Q := h
theorem x_un {r : V → Hp → VK → Prop} (h : ta σ H fun x H1 => r x H1 Q) : tUn r ta σ H Q := h
theorem x_ret (h : te σ H D.rt) : tRet te D σ H := h
theorem x_drop (h : te σ H fun _ H1 => D.nx σ H1) : tDrop te D σ H := h
theorem x_next (h : D.nx σ H) : tNext D σ H := h
theorem x_ifS (h : c σ H fun b H1 => if b = true then t D σ H1 else u D σ H1) : tIfS c t u D σ H := h
theorem x_if (h : c σ H fun b H1 => if b = true then ta σ H1 Q else tb σ H1 Q) : tIf c ta tb σ H Q := h
theorem x_test (h : te σ H fun x H' => ∃ k, x = .bl k ∧ QT k H') : tTest te σ H QT := h
theorem x_and (h : c σ H fun b H1 => if b = true then c' σ H1 QT else QT false H1) : tAnd c c' σ H QT := h
theorem x_not (h : c σ H fun b H1 => QT (!b) H1) : tNot c σ H QT := h
theorem x_andV (h : ta σ H fun x H1 => ∃ c, x = .bl c ∧ if c = true then tb σ H1 Q else Q (.bl false) H1) : tAndV ta tb σ H Q := h
theorem x_nil (h : QA [] H) : tNil σ H QA := h
theorem x_cons (h : te σ H fun x H1 => tA σ H1 fun xs H2 => QA (x :: xs) H2) : tCons te tA σ H QA := h
theorem x_tup (h : tA σ H fun xs H1 => xs.length ≤ sizeLine ∧ ∀ p, H1 p = none → Q (.ref p) (upd H1 p (.tup xs))) : tTup tA σ H Q := h
theorem x_lst (h : tA σ H fun xs H1 => xs.length ≤ sizeLine ∧ ∀ p, H1 p = none → Q (.ref p) (upd H1 p (.lst xs))) : tLst tA σ H Q := h
theorem x_call {sp : Sp} {dvs : List V} {E : XK} (h : tA σ H fun vs H1 => sp (vs ++ dvs) H1 Q E) : tCall sp dvs E tA σ H Q := h
theorem x_cb {r : List V → Hp → VK → Prop} (h : tA σ H fun vs H1 => r vs H1 Q) : tCB r tA σ H Q := h
theorem x_bm {K : PySem.W.Frag} {T : String} {r : V → List V → Hp → VK → Prop} {to : TE} (h : to σ H fun x H1 => tyV K T x H1 ∧ tA σ H1 fun xs H2 => r x xs H2 Q) : tBM K T r to tA σ H Q := h
theorem x_sl {r : V → Option Int → Option Int → Hp → VK → Prop} {tl th : TO} (h : te σ H fun x H1 => tl σ H1 fun l H2 => th σ H2 fun u H3 => r x l u H3 Q) : tSl r te tl th σ H Q := h
theorem x_nopart {R : Option Int → Hp → Prop} (h : R none H) : tNoPart σ H R := h
theorem x_part {R : Option Int → Hp → Prop} (h : te σ H fun x H1 => ∃ i, x = .int i ∧ R (some i) H1) : tPart te σ H R := h
theorem x_rI0 {g : Int → Int → V} {i j : Int} (h : Q (g i j) H) : rI0 g (.int i) (.int j) H Q := ⟨i, j, rfl, rfl, h⟩
theorem x_rI {C : Int → Int → Prop} {g : Int → Int → V} {i j : Int} (hc : C i j) (h : Q (g i j) H) : rI C g (.int i) (.int j) H Q := ⟨i, j, rfl, rfl, hc, h⟩
theorem x_addI {i j : Int} (h : Q (.int (i + j)) H) : rAddG (.int i) (.int j) H Q := .inl ⟨i, j, rfl, rfl, h⟩
theorem x_eqI {K : PySem.W.Frag} {i j : Int} (h : Q (.bl (decide (V.int i = V.int j))) H) : rEqG K (.int i) (.int j) H Q := .inl ⟨rfl, h⟩
theorem x_ixL {K : PySem.W.Frag} {p : Addr} {xs : List V} {i : Int} {v : V} (h : SqL K H p xs) (e : atI xs i = some v) (k : Q v H) : rIxG K (.ref p) (.int i) H Q := .inl (.inl ⟨p, xs, i, v, rfl, rfl, h, e, k⟩)
theorem x_lenL {K : PySem.W.Frag} {p : Addr} {xs : List V} (h : SqL K H p xs) (k : Q (.int xs.length) H) : rLen K [.ref p] H Q := .inl ⟨p, xs, rfl, .inl h, k⟩
theorem x_append {l : Addr} {xs : List V} {y : V} (h : H l = some (.lst xs)) (hl : xs.length < sizeLine) (k : Q .non (upd H l (.lst (xs ++ [y])))) : rAppend (.ref l) [y] H Q := ⟨l, xs, y, rfl, rfl, h, hl, k⟩
theorem ifd {p A B : Prop} [Decidable p] (h1 : p → A) (h2 : ¬ p → B) : if decide p = true then A else B := by
  by_cases h : p
  · rw [if_pos (decide_eq_true h)]; exact h1 h
  · rw [if_neg (by rw [decide_eq_false h]; decide)]; exact h2 h
theorem ifV {p A B : Prop} {b : Bool} (hb : b = true ↔ p) (h1 : p → A) (h2 : ¬ p → B) : if b = true then A else B := by
  by_cases h : b = true
  · rw [if_pos h]; exact h1 (hb.mp h)
  · rw [if_neg h]; exact h2 fun z => h (hb.mpr z)
theorem eq_int_iff {i j : Int} : (V.int i = V.int j) ↔ i = j := ⟨fun h => by injection h, fun h => by rw [h]⟩
end
end L2
namespace BootT
open PySem
theorem len : bootBuiltins "len" = some (.builtin "len") := by decide +kernel
theorem isinstance : bootBuiltins "isinstance" = some (.builtin "isinstance") := by decide +kernel
theorem sorted : bootBuiltins "sorted" = some (.builtin "sorted") := by decide +kernel
theorem min : bootBuiltins "min" = some (.builtin "min") := by decide +kernel
theorem max : bootBuiltins "max" = some (.builtin "max") := by decide +kernel
theorem int : bootBuiltins "int" = some (.type "int") := by decide +kernel
theorem bool : bootBuiltins "bool" = some (.type "bool") := by decide +kernel
theorem list : bootBuiltins "list" = some (.type "list") := by decide +kernel
end BootT
namespace L2
open PySem PySem.Spec PyProof.Rows
def rMin2 : List V → Hp → VK → Prop := fun xs H Q => ∃ i j, xs = [.int i, .int j] ∧ Q (.int (if j < i then j else i)) H
def rMax2 : List V → Hp → VK → Prop := fun xs H Q => ∃ i j, xs = [.int i, .int j] ∧ Q (.int (if j > i then j else i)) H
def rList (K : PySem.W.Frag) : List V → Hp → VK → Prop := fun xs H Q => ∃ p ys, xs = [.ref p] ∧ (SqL K H p ys ∨ SqT K H p ys) ∧ ∀ l, H l = none → Q (.ref l) (upd H l (.lst ys))
def tTru (K : PySem.W.Frag) (ta : TE) : TT := fun σ H Q => ta σ H fun x H' => ∃ k, TruV K x H' k ∧ Q k H'
theorem x_tru {K : PySem.W.Frag} {ta : TE} {σ : St} {H : Hp} {Q : Bool → Hp → Prop} (h : ta σ H fun x H' => ∃ k, TruV K x H' k ∧ Q k H') : tTru K ta σ H Q := h
section
variable {X : Cx} {a : Expr} {ta : TE}
theorem pt_tru (ha : PE X a ta) (he : ∀ whole, isTrue a X.env whole = (do let v ← whole; standAt a.pos; holding [v] (truthy v))) : PT X a (tTru X.K ta) := pt_truth ha he
end
def Itd (a : Addr) (kvs : List (Key × V)) (o : Obj) : It :=
  ⟨fun i H => i < kvs.length ∧ H a = some (.frz o (.dK kvs)), fun i H x H' => H' = H ∧ ∃ k v, kvs[i]? = some (k, v) ∧ x = kV k, fun i H => kvs.length ≤ i ∧ H a = some (.frz o (.dK kvs))⟩
theorem kV_rel {k : Key} {u : Value} (h : keyIs k u = true) : RelV (kV k) u := by
  rcases keyIs_shape h with ⟨i, t, rfl, rfl⟩ | ⟨x, t, rfl, rfl⟩
  · exact ⟨t, rfl⟩
  · exact ⟨t, rfl⟩
theorem KV.get {kvs : List (Key × V)} {vs : List (Key × Value)} (r : KV kvs vs) {i : Nat} {k : Key} {v : V} (e : kvs[i]? = some (k, v)) : ∃ u, vs[i]? = some (k, u) ∧ RelV v u := by
  unfold KV at r
  induction r generalizing i with
  | nil => simp at e
  | @cons p q ps qs h t ih =>
    cases i with
    | zero =>
      simp at e
      subst e
      obtain ⟨q1, q2⟩ := q
      obtain ⟨h1, h2⟩ := h
      simp only at h1 h2
      subst h1
      exact ⟨q2, rfl, h2⟩
    | succ i =>
      obtain ⟨u, e1, e2⟩ := ih (by simpa using e)
      exact ⟨u, by simpa using e1, e2⟩
theorem turn_dict {P : Program} {w : World} {K : PySem.W.Frag} {tg : Expr} (a it : Addr) (o : Obj) (kvs : List (Key × V)) (vs : List (Key × Value)) (ep : Nat) (rel : KV kvs vs)
    (od : ∀ h : Heap, h.get? a = some o → h.DictAt (mixKind P w) a vs ep) : Turn P w K tg (Itd a kvs o) [it] it (fun i h => h.IsKeyIter it a i vs.length ep) where
  mem := by simp
  obj := fun i h st b hb => by
    have e : b = it := by simpa using hb
    subst e
    obtain ⟨o, e, c, d⟩ := st
    exact ⟨o, e, fun v z => by rw [d] at z; cases z⟩
  keep := fun i h h' st k => st.at fun o e => k it (by simp) o e
  item := by
    intro X hP hw hK hc i pins s σ H E I hf st hg
    subst hP hw hK
    obtain ⟨hlt, hq⟩ := hg
    obtain ⟨e0, _⟩ := (show ObjOk X.prog X.w H s.heap a (.frz o (.dK kvs)) from I.hok a _ hq)
    obtain ⟨⟨k, v⟩, hx⟩ : ∃ p, kvs[i]? = some p := ⟨kvs[i], by simp [hlt]⟩
    obtain ⟨u, hu, ru⟩ := rel.get hx
    obtain ⟨f0, f1, f2, f3, f4, f5⟩ := hf it (by simp)
    refine wpAny_pyNext_dict_item st (od _ e0) hu fun key h' hkey st' sb => ?_
    have I1 : Inv X pins σ H { s with heap := h' } := I.turned (t' := s.toks) (fun b o hb e => (sb.2 b hb).trans e) f0 f1 f3 f4 f5
    obtain ⟨o', e, c, d⟩ := id st'
    exact ⟨key, rfl, go_of (s := { s with heap := h' }) e c d (by decide) ⟨kV k, H, I1, kV_rel hkey, ⟨rfl, k, v, hx, rfl⟩, st', fun b hb => (hf b hb).1⟩⟩
  done := by
    intro X hP hw hK hc i pins s σ H E I hf st hg
    subst hP hw hK
    obtain ⟨hle, hq⟩ := hg
    obtain ⟨e0, _⟩ := (show ObjOk X.prog X.w H s.heap a (.frz o (.dK kvs)) from I.hok a _ hq)
    obtain ⟨f0, f1, f2, f3, f4, f5⟩ := hf it (by simp)
    have hl := rel.length
    exact wpAny_pyNext_dict_end (I.ok.hd hc) st (od _ e0) (by simp; omega) fun h' eb => ⟨rfl, I.turned (t' := s.toks) (fun b o hb e => eb b o hb e) f0 f1 f3 f4 f5⟩
  self := fun _ _ _ _ _ st h => wpAny_pyIter_keyiter st h
def iSeq (K : PySem.W.Frag) (tl : TE) : TI := fun σ H R => tl σ H fun x H1 => ∃ a, x = .ref a ∧ (((∃ xs, SqL K H1 a xs) ∧ R (Itl K a) H1) ∨ ((∃ xs, SqT K H1 a xs) ∧ R (Itt K a) H1) ∨
  ∃ kvs, H1 a = some (.dK kvs) ∧ ∀ o, R (Itd a kvs o) (upd H1 a (.frz o (.dK kvs))))
theorem x_iSeq {K : PySem.W.Frag} {tl : TE} {σ : St} {H : Hp} {R : It → Hp → Prop} (h : tl σ H fun x H1 => ∃ a, x = .ref a ∧ (((∃ xs, SqL K H1 a xs) ∧ R (Itl K a) H1) ∨ ((∃ xs, SqT K H1 a xs) ∧ R (Itt K a) H1) ∨
  ∃ kvs, H1 a = some (.dK kvs) ∧ ∀ o, R (Itd a kvs o) (upd H1 a (.frz o (.dK kvs))))) : iSeq K tl σ H R := h
section
variable {X : Cx} {tg : Expr}
theorem pi_seq {l : Expr} {tl : TE} (hl : PE X l tl) : PI X tg l (iSeq X.K tl) := by
  intro pins s σ H R I h
  refine thn (hl pins s σ H _ I h) fun v s1 ⟨x, H1, I1, r1, q1⟩ => ?_
  obtain ⟨a, e, q1⟩ := q1
  subst e
  cases r1
  rcases q1 with ⟨⟨xs, hq⟩, q⟩ | ⟨⟨xs, hq⟩, q⟩ | ⟨kvs, hq, q⟩
  · obtain ⟨its, rv, p, hz⟩ := I1.list hq
    refine wpAny_pyIter_list p.isList ?_
    refine ⟨s1.heap.objs.size, [s1.heap.objs.size], _, _, H1, rfl, I1.kept (t' := s1.toks) fun b o e => Heap.get?_push_of_some _ e, turn_list a _, ⟨_, Heap.get?_push_size _ rfl, rfl, rfl⟩, fun b hb => ?_, q⟩
    have e : b = s1.heap.objs.size := by simpa using hb
    subst e
    exact I1.fpOk (Nat.le_refl _) (I1.hok.fresh (Nat.le_refl _))
  · obtain ⟨its, rv, p, hz⟩ := I1.tuple hq
    refine wpAny_pyIter_tuple (show s1.heap.IsTuple a its.toArray from p) ?_
    refine ⟨s1.heap.objs.size, [s1.heap.objs.size], _, _, H1, rfl, I1.kept (t' := s1.toks) fun b o e => Heap.get?_push_of_some _ e, turn_tuple a _, ⟨_, Heap.get?_push_size _ rfl, rfl, rfl⟩, fun b hb => ?_, q⟩
    have e : b = s1.heap.objs.size := by simpa using hb
    subst e
    exact I1.fpOk (Nat.le_refl _) (I1.hok.fresh (Nat.le_refl _))
  · obtain ⟨hz, hsys, vs, rel, dd⟩ := dk_of I1.hok hq
    obtain ⟨ep, da⟩ := dd.dictAt
    obtain ⟨ob, es, ho, rr⟩ := id da
    have od : ∀ h : Heap, h.get? a = some ob → h.DictAt (mixKind X.prog X.w) a vs ep := fun h e => ⟨ob, es, e, rr⟩
    have un : Un X.fs [] H1 (upd H1 a (.frz ob (.dK kvs))) s1.heap s1.heap := by
      have hne : ∀ b u, H1 b = some u → u ≠ .dK kvs → b ≠ a := fun b u e n z => by subst z; rw [hq] at e; exact n (Option.some.inj e).symm
      refine ⟨fun b o e _ _ _ => e, fun b o e _ _ _ => ⟨o.slots, e⟩, fun b o e n _ => ?_, fun b o e _ => ⟨o, e⟩, fun b ys e => ?_, fun b o u e => ?_, fun b ps e => ?_⟩
      · rw [upd_ne (fun z => by subst z; rw [hq] at n; cases n)]; exact n
      · rw [upd_ne (hne b _ e (by intro z; cases z))]; exact e
      · rw [upd_ne (hne b _ e (by intro z; cases z))]; exact e
      · exact ⟨#[], by rw [upd_ne (hne b _ e (by intro z; cases z)), e]; simp⟩
    have hok : HOk X.prog X.w (upd H1 a (.frz ob (.dK kvs))) s1.heap := fun b u e => by
      by_cases hb : b = a
      · subst hb
        rw [upd_same] at e
        cases e
        exact ⟨ho, hz, hsys, vs, rel, dd⟩
      · rw [upd_ne hb] at e
        refine (I1.hok b u e).stay (fun c v _ q => q) (fun c q0 => ?_) fun c ys q0 => ?_
        · rw [upd_ne (fun z => by rw [z, hq] at q0; cases q0)]; exact q0
        · rw [upd_ne (fun z => by rw [z, hq] at q0; cases q0)]; exact q0
    have I2 : Inv X pins σ (upd H1 a (.frz ob (.dK kvs))) { s1 with heap := s1.heap, toks := s1.toks } := I1.un un hok
    refine wpAny_pyIter_dict hsys da ?_
    refine ⟨s1.heap.objs.size, [s1.heap.objs.size], _, _, _, rfl, I2.kept (t' := s1.toks) fun b o e => Heap.get?_push_of_some _ e, turn_dict a _ ob kvs vs ep rel od, ⟨_, Heap.get?_push_size _ rfl, rfl, rfl⟩, fun b hb => ?_, q ob⟩
    have e : b = s1.heap.objs.size := by simpa using hb
    subst e
    exact I2.fpOk (Nat.le_refl _) (I2.hok.fresh (Nat.le_refl _))
end
section
variable {K : PySem.W.Frag} {σ : St} {H : Hp} {Q : VK}
structure CNext (n i : Nat) (S : St → Prop) (Pv : List V → Hp → Prop) (m : Nat) (ys : List V) (σ : St) (H : Hp) : Prop where
  m : m = n - i
  le : i ≤ n
  s : S σ
  p : Pv ys H
theorem CNext.mk' {n i : Nat} {S : St → Prop} {Pv : List V → Hp → Prop} {ys : List V} {σ : St} {H : Hp} (hi : i < n) (s : S σ) (p : Pv ys H) : ∃ m', m' < n - i ∧ CNext n (i + 1) S Pv m' ys σ H := ⟨n - (i + 1), by omega, rfl, hi, s, p⟩
theorem comp_by {σ0 : St} {g : TG} {tt : TT} {te : TE} {J : It} {n : Nat} {acc : Addr} {R : Hp → Prop} (Pv : Nat → List V → Hp → Prop) (S : St → Prop) (h0 : Pv 0 [] (upd H acc (.lst []))) (s0 : S σ0)
    (ha : ∀ i ys H, Pv i ys H → H acc = some (.lst ys)) (hst : ∀ ys H, Pv n ys H → J.stop n H ∧ R H) (hgo : ∀ i ys H, i < n → Pv i ys H → J.go i H)
    (hs : ∀ i ys σ' H x H2, i < n → Pv i ys H → S σ' → J.yld i H x H2 → g x σ' H2 fun σ2 H3 => tt σ2 H3 fun b H4 => if b = true then te σ2 H4 fun y H5 => H5 acc = some (.lst ys) ∧ ys.length < sizeLine ∧ ∃ m', m' < n - i ∧ CNext n (i + 1) S (Pv (i + 1)) m' (ys ++ [y]) σ2 (upd H5 acc (.lst (ys ++ [y]))) else ∃ m', m' < n - i ∧ CNext n (i + 1) S (Pv (i + 1)) m' ys σ2 H4) :
    ∃ W : Nat → Nat → List V → St → Hp → Prop, (∃ m, W 0 m [] σ0 (upd H acc (.lst []))) ∧ ∀ i m ys σ' H', W i m ys σ' H' → H' acc = some (.lst ys) ∧
    ((J.stop i H' ∧ R H') ∨ (J.go i H' ∧ ∀ x H2, J.yld i H' x H2 → g x σ' H2 fun σ2 H3 => tt σ2 H3 fun b H4 =>
      if b = true then te σ2 H4 fun y H5 => H5 acc = some (.lst ys) ∧ ys.length < sizeLine ∧ ∃ m', m' < m ∧ W (i + 1) m' (ys ++ [y]) σ2 (upd H5 acc (.lst (ys ++ [y]))) else ∃ m', m' < m ∧ W (i + 1) m' ys σ2 H4)) := by
  refine ⟨fun i m ys σ' H' => CNext n i S (Pv i) m ys σ' H', ⟨n, by simp, Nat.zero_le _, s0, h0⟩, ?_⟩
  rintro i m ys σ' H' ⟨rfl, hi, hS, p⟩
  refine ⟨ha i ys H' p, ?_⟩
  by_cases hlt : i < n
  · exact .inr ⟨hgo i ys H' hlt p, fun x H2 y => hs i ys σ' H' x H2 hlt p hS y⟩
  · have e : i = n := by omega
    subst e
    exact .inl (hst ys H' p)
end
end L2
namespace L2
open PySem PySem.Spec PyProof.Rows
section
variable {σ : St} {H : Hp} {Q : VK} {D : Ends} {ta tb te : TE} {t u : TS} {tA : TA} {QT : Bool → Hp → Prop} {QA : List V → Hp → Prop} {K : PySem.W.Frag}
theorem x_rU {g : Int → V} {i : Int} (h : Q (g i) H) : rU g (.int i) H Q := ⟨i, rfl, h⟩
theorem x_eqB {i j : Bool} (h : Q (.bl (decide (V.bl i = V.bl j))) H) : rEqG K (.bl i) (.bl j) H Q := .inl ⟨rfl, h⟩
theorem x_notN (h : ta σ H fun x H1 => Q (.bl (!decide (x = .non))) H1) : tNotN ta σ H Q := h
theorem x_rng1 {R : It → Hp → Prop} (h : tA σ H fun vs H1 => ∃ j : Int, vs = [.int j] ∧ -(2 ^ 62) ≤ j ∧ j < 2 ^ 62 ∧ R (Itr 0 j.toNat) H1) : iRng1 tA σ H R := h
theorem x_for {wi : TI} {g : TG} {tb : TS} (h : wi σ H fun J H1 => ∃ W : Nat → Nat → St → Hp → Prop, (∃ m, W 0 m σ H1) ∧ ∀ i m σ H, W i m σ H →
  (J.stop i H ∧ D.nx σ H) ∨ (J.go i H ∧ ∃ N : St → Hp → Prop, (∀ σ' H', N σ' H' → ∃ m', m' < m ∧ W (i + 1) m' σ' H') ∧ ∀ x H', J.yld i H x H' → g x σ H' fun σ2 H2 => tb { D with nx := N, ct := N, bk := D.nx } σ2 H2)) : tFor wi g tb D σ H := h
theorem x_comp {own : Nat} {js : List Nat} {wi : TI} {g : TG} {tt : TT} (h : wi σ H fun J H1 => ∀ acc, H1 acc = none →
  ∃ W : Nat → Nat → List V → St → Hp → Prop, (∃ m, W 0 m [] (List.replicate own none ++ capV σ js) (upd H1 acc (.lst []))) ∧ ∀ i m ys σ' H', W i m ys σ' H' → H' acc = some (.lst ys) ∧
    ((J.stop i H' ∧ Q (.ref acc) H') ∨ (J.go i H' ∧ ∀ x H2, J.yld i H' x H2 → g x σ' H2 fun σ2 H3 => tt σ2 H3 fun b H4 =>
      if b = true then te σ2 H4 fun y H5 => H5 acc = some (.lst ys) ∧ ys.length < sizeLine ∧ ∃ m', m' < m ∧ W (i + 1) m' (ys ++ [y]) σ2 (upd H5 acc (.lst (ys ++ [y]))) else ∃ m', m' < m ∧ W (i + 1) m' ys σ2 H4))) : tComp own js wi g tt te σ H Q := h
theorem x_tupG {n : Nat} {ts : TGs} {a : Addr} {xs : List V} {R : St → Hp → Prop} (h : SqT K H a xs) (hn : xs.length = n) (k : ts xs σ H R) : gTup K n ts (.ref a) σ H R := ⟨a, xs, rfl, h, hn, k⟩
theorem x_gcons {g : TG} {gs : TGs} {v : V} {r : List V} {R : St → Hp → Prop} (h : g v σ H fun σ' H' => gs r σ' H' R) : gCons g gs (v :: r) σ H R := ⟨v, r, rfl, h⟩
theorem x_gnil {R : St → Hp → Prop} (h : R σ H) : gNil [] σ H R := ⟨rfl, h⟩
theorem x_cat {l b : Addr} {xs zs : List V} (h : H l = some (.lst xs)) (h' : H b = some (.lst zs)) (hl : xs.length + zs.length ≤ sizeLine) (k : ∀ p, H p = none → Q (.ref p) (upd H p (.lst (xs ++ zs)))) : rAddG (.ref l) (.ref b) H Q := .inr ⟨l, b, xs, zs, rfl, rfl, h, h', hl, k⟩
theorem x_min {i j : Int} (k : Q (.int (if j < i then j else i)) H) : rMin2 [.int i, .int j] H Q := ⟨i, j, rfl, k⟩
theorem x_max {i j : Int} (k : Q (.int (if j > i then j else i)) H) : rMax2 [.int i, .int j] H Q := ⟨i, j, rfl, k⟩
theorem x_isi {x : V} {T : String} {t : Value} {b : Bool} (ty : TyOf K H x t) (e : PySem.W.kitOne K t (.type T) = some b) (k : Q (.bl b) H) : rIsi K [x, .ty T] H Q := ⟨x, T, t, b, rfl, ty, e, k⟩
theorem x_slL {a : Addr} {xs : List V} {lo hi : Option Int} (h : SqL K H a xs) (k : ∀ p, H p = none → Q (.ref p) (upd H p (.lst (cutV xs lo hi)))) : rSlL K (.ref a) lo hi H Q := ⟨a, xs, rfl, h, k⟩
theorem x_list {p : Addr} {ys : List V} (h : SqL K H p ys) (k : ∀ l, H l = none → Q (.ref l) (upd H l (.lst ys))) : rList K [.ref p] H Q := ⟨p, ys, rfl, .inl h, k⟩
theorem x_eqD {x y : V} {dx dy : PyData} (h1 : Rep K H dx x) (h2 : Rep K H dy y) (f1 : Fine dx) (f2 : Fine dy) (k : Q (.bl (PyData.eqv dx dy)) H) : rEqG K x y H Q := .inr ⟨dx, dy, h1, h2, f1, f2, k⟩
end
section
variable {K : PySem.W.Frag}
theorem kit_bb : PySem.W.kitOne K (.type "bool") (.type "bool") = some true := by rfl
end
theorem Same.upd_new {H : Hp} {l : Addr} {o : HO} (h : H l = none) : Same H (upd H l o) := fun b u e => by rw [upd_ne (ne_of_none e h)]; exact e
def SameBut1 (c : Addr) (H H' : Hp) : Prop := ∀ b o, H b = some o → b ≠ c → H' b = some o
theorem SameBut1.same {c : Addr} {H H' : Hp} (e : Same H H') : SameBut1 c H H' := fun b o h _ => e b o h
theorem SameBut1.upd {c : Addr} {H : Hp} {o : HO} : SameBut1 c H (upd H c o) := fun b u e n => by rw [upd_ne n]; exact e
theorem atI_of {α : Type} {xs : List α} {j : Nat} {i : Int} {v : α} (hi : i = (j : Int)) (h : xs[j]? = some v) : atI xs i = some v := by subst hi; exact atI_nat h
theorem small_le {n m : Nat} (h : n ≤ m) (hm : m ≤ 100000 := by decide) : n ≤ sizeLine := Nat.le_trans h (Nat.le_trans hm (by rw [sizeLine_eq]; decide))
theorem small_lt {n m : Nat} (h : n < m) (hm : m ≤ 100000 := by decide) : n < sizeLine := Nat.lt_of_lt_of_le h (Nat.le_trans hm (by rw [sizeLine_eq]; decide))
mutual
def plainD : PyData → Bool
  | .int _ => true
  | .list xs => plainAll xs
  | .tuple xs => plainAll xs
  | _ => false
def plainAll : List PyData → Bool
  | [] => true
  | x :: xs => plainD x && plainAll xs
end
mutual
theorem plain_lay : ∀ d : PyData, plainD d = true → d.canLay0 = true
  | .int _, _ => by simp [PyData.canLay0]
  | .list xs, h => by simp only [plainD] at h; simp only [PyData.canLay0]; exact plainAll_lay xs h
  | .tuple xs, h => by simp only [plainD] at h; simp only [PyData.canLay0]; exact plainAll_lay xs h
  | .none, h => by simp [plainD] at h
  | .bool _, h => by simp [plainD] at h
  | .str _, h => by simp [plainD] at h
  | .dict _, h => by simp [plainD] at h
theorem plainAll_lay : ∀ ds : List PyData, plainAll ds = true → PyData.canLayAll0 ds = true
  | [], _ => by simp [PyData.canLayAll0]
  | d :: ds, h => by
    simp only [plainAll, Bool.and_eq_true] at h
    simp only [PyData.canLayAll0, Bool.and_eq_true]
    exact ⟨plain_lay d h.1, plainAll_lay ds h.2⟩
end
end L2
namespace L2
open PySem PySem.Spec PyProof.Rows
section
variable {σ : St} {H : Hp} {Q : VK} {K : PySem.W.Frag}
end
end L2
namespace L2
open PySem PySem.Spec PyProof.Rows
section
variable {K : PySem.W.Frag} {σ : St} {H : Hp} {Q : VK}
theorem plain_ints : ∀ ns : List Int, plainAll (ns.map .int) = true
  | [] => rfl
  | n :: ns => by simp only [List.map_cons, plainAll, Bool.and_eq_true]; exact ⟨by simp [plainD], plain_ints ns⟩
theorem depth_ints : ∀ ns : List Int, PyData.depthAll (ns.map .int) ≤ 1
  | [] => by simp [PyData.depthAll]
  | n :: ns => by
    have := depth_ints ns
    simp only [List.map_cons, PyData.depthAll]
    have e : (PyData.int n).depth ≤ 1 := by simp [PyData.depth]
    omega
theorem fine_ints (ns : List Int) : Fine (.list (ns.map .int)) := ⟨plain_lay _ (by simp only [plainD]; exact plain_ints ns), by have := depth_ints ns; simp only [PyData.depth]; omega⟩
theorem eqvAll_ints : ∀ ns ms : List Int, PyData.eqvAll (ns.map .int) (ms.map .int) = decide (ns = ms)
  | [], [] => by simp [PyData.eqvAll]
  | [], _ :: _ => by simp [PyData.eqvAll]
  | _ :: _, [] => by simp [PyData.eqvAll]
  | n :: ns, m :: ms => by
    simp only [List.map_cons, PyData.eqvAll, eqvAll_ints ns ms, List.cons.injEq]
    rw [Bool.eq_iff_iff]
    simp [PyData.eqv]
theorem eqv_ints (ns ms : List Int) : PyData.eqv (.list (ns.map .int)) (.list (ms.map .int)) = decide (ns = ms) := by
  simp only [PyData.eqv]; exact eqvAll_ints ns ms
theorem rep_ints {H : Hp} {a : Addr} {ns : List Int} (h : SqL K H a (ns.map V.int)) : Rep K H (.list (ns.map .int)) (.ref a) := .lst h (RepAll.ints ns)
end
end L2
namespace BootT
open PySem
theorem zip : bootBuiltins "zip" = some (.type "zip") := by decide +kernel
theorem set : bootBuiltins "set" = some (.type "set") := by decide +kernel
end BootT
namespace L2
open PySem PySem.Spec PyProof.Rows PySem.SeqAt
section
variable {X : Cx}
def rCount (K : PySem.W.Frag) : V → List V → Hp → VK → Prop := fun x vs H Q => ∃ (l : Addr) (ns : List Int) (k : Int), x = .ref l ∧ vs = [.int k] ∧ SqL K H l (ns.map V.int) ∧ Q (.int (ns.count k : Nat)) H
theorem mt_count : MtM X "list.count" (rCount X.K) := by
  intro pins s σ H x vs v us Q I rx rv h
  obtain ⟨l, ns, k, rfl, rfl, hq, q⟩ := h
  cases rx
  obtain ⟨u, rfl, t, rfl⟩ := rv.one
  obtain ⟨its, r, pl, hz⟩ := I.list hq
  have hi : IntsAre its ns := intsAre_of r
  exact count_list_ints pl.isList hi ⟨.int _, H, I.tok _, ⟨_, rfl⟩, q⟩
def Itr3 (lo c : Int) (n : Nat) : It := ⟨fun i _ => i < n, fun i H x H' => H' = H ∧ x = .int (lo + i * c), fun i _ => n ≤ i⟩
theorem turn_range3 {P : Program} {w : World} {K : PySem.W.Frag} {tg : Expr} (it : Addr) (lo c : Int) (n : Nat) : Turn P w K tg (Itr3 lo c n) [it] it (fun i h => IsRangeIter h it (lo + (i : Nat) * c) ((n : Int) - (i : Nat)) c) where
  mem := by simp
  obj := fun i h st b hb => by
    have e : b = it := by simpa using hb
    subst e
    exact ⟨_, st, fun v z => by
      have z' : Data.fields _ = Data.cell v := z
      cases z'⟩
  keep := fun i h h' st k => k it (by simp) _ st
  item := by
    intro X hP hw hK hc i pins s σ H E I hf st hg
    subst hP hw hK
    obtain ⟨f0, f1, f2, f3, f4, f5⟩ := hf it (by simp)
    have W := Walks.range (prog := X.prog) (w := X.w) (I.ok.hd hc) it lo c n
    refine W.item i s _ _ hg st fun v h' tk hv st' kk => ?_
    obtain ⟨t, rfl⟩ := hv
    have I1 : Inv X pins σ H { s with heap := h', toks := tk } := I.turned (fun b o hb e => kk b o (by simpa using hb) e) f0 f1 f3 f4 f5
    exact ⟨_, rfl, go_of (s := { s with heap := h', toks := tk }) (n := "range_iterator") st' rfl rfl (by decide) ⟨.int (lo + i * c), H, I1, ⟨t, rfl⟩, ⟨rfl, rfl⟩, st', fun b hb => (hf b hb).1⟩⟩
  done := by
    intro X hP hw hK hc i pins s σ H E I hf st hg
    subst hP hw hK
    obtain ⟨f0, f1, f2, f3, f4, f5⟩ := hf it (by simp)
    exact wpAny_pyNext_range_end (I.ok.hd hc) st (by have : n ≤ i := hg; omega) fun h' eb => ⟨rfl, I.turned (t' := s.toks) (fun b o hb e => eb b o hb e) f0 f1 f3 f4 f5⟩
  self := fun _ _ _ _ _ st h => wpAny_pyIter_rangeiter st h
def rng3 (i j c : Int) : Nat := if i < j then ((j - i - 1) / c + 1).toNat else 0
def iRng3 (ta : TA) : TI := fun σ H R => ta σ H fun vs H1 => ∃ i j c : Int, vs = [.int i, .int j, .int c] ∧ (-(2 ^ 40) ≤ i ∧ i < 2 ^ 40 ∧ -(2 ^ 40) ≤ j ∧ j < 2 ^ 40 ∧ 0 < c ∧ c < 2 ^ 20) ∧ R (Itr3 i c (rng3 i j c)) H1
theorem rangeSize3 {i j c : Int} (hc : 0 < c) : Builtin.Range.rangeSize i j c = (rng3 i j c : Int) := by
  unfold Builtin.Range.rangeSize rng3
  rw [if_pos hc]
  split
  · have : 0 ≤ (j - i - 1) / c := Int.ediv_nonneg (by omega) (by omega)
    omega
  · rfl
theorem small3 {i j c : Int} (h : -(2 ^ 40) ≤ i ∧ i < 2 ^ 40 ∧ -(2 ^ 40) ≤ j ∧ j < 2 ^ 40 ∧ 0 < c ∧ c < 2 ^ 20) : Builtin.Range.small i j c = true := by
  have hr := rangeSize3 (i := i) (j := j) h.2.2.2.2.1
  have hb : (rng3 i j c : Int) ≤ 2 ^ 42 := by
    unfold rng3
    split
    · have : (j - i - 1) / c ≤ j - i - 1 := Int.ediv_le_self _ (by omega)
      omega
    · decide
  unfold Builtin.Range.small
  rw [hr, if_pos h.2.2.2.2.1]
  have fit : ∀ x : Int, -(2 ^ 43) ≤ x → x ≤ 2 ^ 43 → Builtin.Range.rangeFitsLong x = true := fun x h1 h2 => by
    unfold Builtin.Range.rangeFitsLong
    simp only [Bool.and_eq_true, decide_eq_true_eq]
    omega
  rw [fit i (by omega) (by omega), fit j (by omega) (by omega), fit c (by omega) (by omega), fit _ (by omega) (by omega), fit (j + (c - 1)) (by omega) (by omega)]
  simp
variable {tg : Expr}
theorem pi_range3 {a b c : Expr} {ta : TA} {p pos : Pos} (hg : Gl X "range") (hm : X.mg "range" = none) (ha : PA X [a, b, c] ta) (hs : starEach [a, b, c] X.env = [(false, eval a X.env), (false, eval b X.env), (false, eval c X.env)] := by rfl) (hs2 : starEach [b, c] X.env = [(false, eval b X.env), (false, eval c X.env)] := by rfl) :
    PI X tg (.Call (.Name "range" p) [a, b, c] [] pos) (iRng3 ta) := by
  intro pins s σ H R I h
  refine Call_ (ld_blt I hg hm boot_range (PyProof.Rows.callWith_type1 (thn (ha pos pins s σ H _ I h) fun us s1 ⟨vs, H1, I1, r1, q1⟩ => ?_) (by rw [hs, hs2]) (by rw [hs2]; rfl)))
  obtain ⟨i, j, c, e, hq, q⟩ := q1
  subst e
  cases r1 with
  | cons r rr =>
    cases rr with
    | cons r' rr =>
      cases rr with
      | cons r'' rr =>
        cases rr
        obtain ⟨t, rfl⟩ := r
        obtain ⟨t', rfl⟩ := r'
        obtain ⟨t'', rfl⟩ := r''
        refine call_range_3 (by omega) ?_ (.inl (PyProof.noPylong_small (by omega)))
        refine wpAny_pyIter_range (IsRange.new ..) (small3 hq) ?_
        have I2 : Inv X pins σ H1 { s1 with heap := s1.heap.push { cls := .type "range", data := .fields #[.int i t, .int j t', .int c t''] }, toks := s1.toks } := I1.kept fun b o e => Heap.get?_push_of_some _ e
        refine ⟨(s1.heap.push { cls := .type "range", data := .fields #[.int i t, .int j t', .int c t''] }).objs.size, [(s1.heap.push { cls := .type "range", data := .fields #[.int i t, .int j t', .int c t''] }).objs.size], _, _, H1, rfl,
          I2.kept (t' := s1.toks) fun b o e => Heap.get?_push_of_some _ e, turn_range3 _ i c (rng3 i j c), ?_, fun b hb => ?_, q⟩
        · have e1 : i + ((0 : Nat) : Int) * c = i := by simp
          have e2 : ((rng3 i j c : Nat) : Int) - ((0 : Nat) : Int) = Builtin.Range.rangeSize i j c := by rw [rangeSize3 hq.2.2.2.2.1]; omega
          show IsRangeIter _ _ (i + ((0 : Nat) : Int) * c) (((rng3 i j c : Nat) : Int) - ((0 : Nat) : Int)) c
          rw [e1, e2]
          exact Heap.get?_push_size _ rfl
        · have e : b = (s1.heap.push { cls := .type "range", data := .fields #[.int i t, .int j t', .int c t''] }).objs.size := by simpa using hb
          subst e
          exact I2.fpOk (Nat.le_refl _) (I2.hok.fresh (Nat.le_refl _))
theorem for_range3 {g : TG} {tb : TS} {D : Ends} {σ : St} {H : Hp} {lo c : Int} {n : Nat} (W : Nat → St → Hp → Prop) (h0 : W 0 σ H) (turn : ∀ i σ H, i < n → W i σ H → g (.int (lo + i * c)) σ H fun σ2 H2 => tb { D with nx := W (i + 1), ct := W (i + 1), bk := D.nx } σ2 H2)
    (last : ∀ σ H, W n σ H → D.nx σ H) : ∃ W' : Nat → Nat → St → Hp → Prop, (∃ m, W' 0 m σ H) ∧ ∀ i m σ H, W' i m σ H →
      ((Itr3 lo c n).stop i H ∧ D.nx σ H) ∨ ((Itr3 lo c n).go i H ∧ ∃ N : St → Hp → Prop, (∀ σ' H', N σ' H' → ∃ m', m' < m ∧ W' (i + 1) m' σ' H') ∧ ∀ x H', (Itr3 lo c n).yld i H x H' → g x σ H' fun σ2 H2 => tb { D with nx := N, ct := N, bk := D.nx } σ2 H2) := by
  refine ⟨fun i m σ H => i ≤ n ∧ m = n - i ∧ W i σ H, ⟨n, by omega, by omega, h0⟩, ?_⟩
  rintro i m σ H ⟨hi, hm, w⟩
  by_cases h : i = n
  · subst h
    exact .inl ⟨Nat.le_refl _, last σ H w⟩
  · refine .inr ⟨show i < n by omega, W (i + 1), fun σ' H' w' => ⟨n - (i + 1), by omega, by omega, rfl, w'⟩, ?_⟩
    rintro x H' ⟨rfl, rfl⟩
    exact turn i σ H' (by omega) w
theorem x_iRng3 {ta : TA} {σ : St} {H : Hp} {R : It → Hp → Prop} (h : ta σ H fun vs H1 => ∃ i j c : Int, vs = [.int i, .int j, .int c] ∧ (-(2 ^ 40) ≤ i ∧ i < 2 ^ 40 ∧ -(2 ^ 40) ≤ j ∧ j < 2 ^ 40 ∧ 0 < c ∧ c < 2 ^ 20) ∧ R (Itr3 i c (rng3 i j c)) H1) : iRng3 ta σ H R := h
theorem x_count {K : PySem.W.Frag} {l : Addr} {ns : List Int} {k : Int} {H : Hp} {Q : VK} (h : SqL K H l (ns.map V.int)) (q : Q (.int (ns.count k : Nat)) H) : rCount K (.ref l) [.int k] H Q := ⟨l, ns, k, rfl, rfl, h, q⟩
end
end L2
namespace L2
def rInt1 : List V → Hp → VK → Prop := fun xs H Q => (∃ i, xs = [.int i] ∧ Q (.int i) H) ∨ ∃ k, xs = [.bl k] ∧ Q (.int (if k then 1 else 0)) H
end L2
namespace L2
open PySem PySem.Spec PyProof.Rows
section
variable {K : PySem.W.Frag} {H : Hp} {Q : VK} {a : Addr} {xs : List V} {ns : List Int} {i i' : Int} {j j' : Nat}
theorem sIx_of {n d : Nat} (h : i = (j : Int)) : HT.sIx n d (some i) = min j n := by subst h; exact HT.sIx_nat n d j
theorem cut_from (h : i = (j : Int)) : cutV xs (some i) none = xs.drop j := by
  unfold cutV
  rw [sIx_of h, HT.sIx_none]
  by_cases e : j ≤ xs.length
  · rw [Nat.min_eq_left e, List.take_of_length_le (by rw [List.length_drop]; omega)]
  · rw [Nat.min_eq_right (by omega), List.drop_of_length_le (Nat.le_refl _), List.drop_of_length_le (by omega)]; simp
theorem cut_to (h : i = (j : Int)) : cutV xs none (some i) = xs.take j := by
  unfold cutV
  rw [sIx_of h, HT.sIx_none, List.drop_zero, Nat.sub_zero]
  by_cases e : j ≤ xs.length
  · rw [Nat.min_eq_left e]
  · rw [Nat.min_eq_right (by omega), List.take_of_length_le (Nat.le_refl _), List.take_of_length_le (by omega)]
theorem cut_mid (h : i = (j : Int)) (h' : i' = (j' : Int)) : cutV xs (some i) (some i') = (xs.drop j).take (j' - j) := by
  unfold cutV
  rw [sIx_of h, sIx_of h']
  by_cases e : j ≤ xs.length
  · rw [Nat.min_eq_left e]
    by_cases e' : j' ≤ xs.length
    · rw [Nat.min_eq_left e']
    · rw [Nat.min_eq_right (by omega), List.take_of_length_le (by rw [List.length_drop]; omega), List.take_of_length_le (by rw [List.length_drop]; omega)]
  · rw [List.drop_of_length_le (show xs.length ≤ min j xs.length by omega), List.drop_of_length_le (show xs.length ≤ j by omega)]; simp
theorem x_slFrom (h : SqL K H a (ns.map V.int)) (e : i = (j : Int)) (k : ∀ p, H p = none → Q (.ref p) (upd H p (.lst ((ns.drop j).map V.int)))) : rSlL K (.ref a) (some i) none H Q :=
  x_slL h fun p hp => by rw [cut_from e, ← List.map_drop]; exact k p hp
theorem x_slTo (h : SqL K H a (ns.map V.int)) (e : i = (j : Int)) (k : ∀ p, H p = none → Q (.ref p) (upd H p (.lst ((ns.take j).map V.int)))) : rSlL K (.ref a) none (some i) H Q :=
  x_slL h fun p hp => by rw [cut_to e, ← List.map_take]; exact k p hp
theorem x_slMid (h : SqL K H a (ns.map V.int)) (e : i = (j : Int)) (e' : i' = (j' : Int)) (k : ∀ p, H p = none → Q (.ref p) (upd H p (.lst (((ns.drop j).take (j' - j)).map V.int)))) : rSlL K (.ref a) (some i) (some i') H Q :=
  x_slL h fun p hp => by rw [cut_mid e e', ← List.map_drop, ← List.map_take]; exact k p hp
theorem x_catI {l b : Addr} {ms : List Int} (h : H l = some (.lst (ns.map V.int))) (h' : H b = some (.lst (ms.map V.int))) (hl : ns.length + ms.length ≤ 100000) (k : ∀ p, H p = none → Q (.ref p) (upd H p (.lst ((ns ++ ms).map V.int)))) : rAddG (.ref l) (.ref b) H Q :=
  x_cat h h' (by rw [List.length_map, List.length_map]; exact small_le hl) fun p hp => by rw [← List.map_append]; exact k p hp
theorem get_int {j : Nat} {v : Int} (h : ns[j]? = some v) : (ns.map V.int)[j]? = some (.int v) := by rw [List.getElem?_map, h]; rfl
theorem x_ixI {v : Int} (h : SqL K H a (ns.map V.int)) (e : i = (j : Int)) (g : ns[j]? = some v) (k : Q (.int v) H) : rIxG K (.ref a) (.int i) H Q := x_ixL h (atI_of e (get_int g)) k
theorem x_lenI (h : SqL K H a (ns.map V.int)) (k : Q (.int ns.length) H) : rLen K [.ref a] H Q := x_lenL h (by rw [List.length_map]; exact k)
theorem atI_neg {α : Type} {xs : List α} {j : Nat} {v : α} (hj : j < xs.length) (h : xs[xs.length - (j + 1)]? = some v) : atI xs (-((j : Int) + 1)) = some v := by
  unfold atI ixN
  rw [if_neg (by omega), if_pos (by omega)]
  have e : (-((j : Int) + 1) + (xs.length : Int)).toNat = xs.length - (j + 1) := by omega
  simpa [e] using h
end
end L2
namespace L2
open PySem PySem.Spec PyProof.Rows
section
variable {K : PySem.W.Frag} {σ : St} {H : Hp} {Q : VK}
theorem comp_rel {σ0 : St} {g : TG} {te : TE} {J : It} {n : Nat} {acc : Addr} {R : Hp → Prop} (E : Nat → V → Hp → Prop) (X : Nat → V → Prop) (S : St → Prop) (ha : H acc = none) (s0 : S σ0) (hn : n ≤ 100000)
    (hgo : ∀ i H', Same H H' → i < n → J.go i H') (hstop : ∀ H', Same H H' → J.stop n H') (hy : ∀ i H' x H2, Same H H' → i < n → J.yld i H' x H2 → H2 = H' ∧ X i x)
    (st : ∀ i y H1 H2 zs, H1 acc = some (.lst zs) → SameBut1 acc H1 H2 → E i y H1 → E i y H2)
    (turn : ∀ (i : Nat) (x : V) (σ' : St) (H' : Hp) (G : V → St → Hp → Prop), i < n → X i x → Same H H' → S σ' → (∀ y σ2 H5, S σ2 → Same H' H5 → E i y H5 → G y σ2 H5) → g x σ' H' fun σ2 H3 => te σ2 H3 fun y H5 => G y σ2 H5)
    (fin : ∀ ys H', ys.length = n → H' acc = some (.lst ys) → Same H H' → (∀ i y, ys[i]? = some y → E i y H') → R H') :
    ∃ W : Nat → Nat → List V → St → Hp → Prop, (∃ m, W 0 m [] σ0 (upd H acc (.lst []))) ∧ ∀ i m ys σ' H', W i m ys σ' H' → H' acc = some (.lst ys) ∧
    ((J.stop i H' ∧ R H') ∨ (J.go i H' ∧ ∀ x H2, J.yld i H' x H2 → g x σ' H2 fun σ2 H3 => tYes σ2 H3 fun b H4 =>
      if b = true then te σ2 H4 fun y H5 => H5 acc = some (.lst ys) ∧ ys.length < sizeLine ∧ ∃ m', m' < m ∧ W (i + 1) m' (ys ++ [y]) σ2 (upd H5 acc (.lst (ys ++ [y]))) else ∃ m', m' < m ∧ W (i + 1) m' ys σ2 H4)) := by
  refine comp_by (n := n) (tt := tYes) (fun i ys H' => ys.length = i ∧ H' acc = some (.lst ys) ∧ Same H H' ∧ ∀ j y, ys[j]? = some y → E j y H') S ⟨rfl, upd_same, Same.upd_new ha, fun j y e => by simp at e⟩ s0 ?_ ?_ ?_ ?_
  · rintro i ys H' ⟨_, h, _⟩; exact h
  · rintro ys H' ⟨e, h, S', hE⟩
    exact ⟨hstop H' S', fin ys H' e h S' hE⟩
  · rintro i ys H' hi ⟨e, h, S', hE⟩
    exact hgo i H' S' hi
  · rintro i ys σ' H' x H2 hi ⟨e, h, S', hE⟩ hσ hyl
    obtain ⟨rfl, hX⟩ := hy i H' x H2 S' hi hyl
    have z := turn i x σ' H2 (fun y σ2 H5 => H5 acc = some (.lst ys) ∧ ys.length < sizeLine ∧ ∃ m', m' < n - i ∧ CNext n (i + 1) S (fun ys H' => ys.length = i + 1 ∧ H' acc = some (.lst ys) ∧ Same H H' ∧ ∀ j y, ys[j]? = some y → E j y H') m' (ys ++ [y]) σ2 (upd H5 acc (.lst (ys ++ [y])))) hi hX S' hσ ?_
    · exact z
    · intro y σ2 H5 h2 S5 hE5
      refine ⟨S5 _ _ h, small_lt (m := 100000) (by omega), CNext.mk' hi h2 ⟨by rw [List.length_append, e]; rfl, upd_same, fun b o q => by rw [upd_ne (ne_of_none q ha)]; exact S5 _ _ (S' _ _ q), fun j v hv => ?_⟩⟩
      have hb : SameBut1 acc H5 (upd H5 acc (.lst (ys ++ [y]))) := SameBut1.upd
      by_cases hj : j < ys.length
      · rw [List.getElem?_append_left hj] at hv
        exact st j v _ _ _ (S5 _ _ h) hb (st j v _ _ _ h (SameBut1.same S5) (hE j v hv))
      · rw [List.getElem?_append_right (by omega)] at hv
        have ej : j = i := by
          by_cases z : j - ys.length = 0
          · omega
          · rw [List.getElem?_eq_none (by simp; omega)] at hv; cases hv
        subst ej
        rw [e, Nat.sub_self] at hv
        have ev : y = v := by simpa using hv
        subst ev
        exact st j y _ _ _ (S5 _ _ h) hb hE5
theorem comp_rng {σ0 : St} {g : TG} {te : TE} {lo : Int} {n : Nat} {acc : Addr} {R : Hp → Prop} (E : Nat → V → Hp → Prop) (S : St → Prop) (ha : H acc = none) (s0 : S σ0) (hn : n ≤ 100000)
    (st : ∀ i y H1 H2 zs, H1 acc = some (.lst zs) → SameBut1 acc H1 H2 → E i y H1 → E i y H2)
    (turn : ∀ (i : Nat) (σ' : St) (H' : Hp) (G : V → St → Hp → Prop), i < n → Same H H' → S σ' → (∀ y σ2 H5, S σ2 → Same H' H5 → E i y H5 → G y σ2 H5) → g (.int (lo + i)) σ' H' fun σ2 H3 => te σ2 H3 fun y H5 => G y σ2 H5)
    (fin : ∀ ys H', ys.length = n → H' acc = some (.lst ys) → Same H H' → (∀ i y, ys[i]? = some y → E i y H') → R H') :
    ∃ W : Nat → Nat → List V → St → Hp → Prop, (∃ m, W 0 m [] σ0 (upd H acc (.lst []))) ∧ ∀ i m ys σ' H', W i m ys σ' H' → H' acc = some (.lst ys) ∧
    (((Itr lo n).stop i H' ∧ R H') ∨ ((Itr lo n).go i H' ∧ ∀ x H2, (Itr lo n).yld i H' x H2 → g x σ' H2 fun σ2 H3 => tYes σ2 H3 fun b H4 =>
      if b = true then te σ2 H4 fun y H5 => H5 acc = some (.lst ys) ∧ ys.length < sizeLine ∧ ∃ m', m' < m ∧ W (i + 1) m' (ys ++ [y]) σ2 (upd H5 acc (.lst (ys ++ [y]))) else ∃ m', m' < m ∧ W (i + 1) m' ys σ2 H4)) :=
  comp_rel E (fun i x => x = .int (lo + i)) S ha s0 hn (fun i H' _ h => h) (fun H' _ => Nat.le_refl n) (fun i H' x H2 _ _ h => h) st (fun i x σ' H' G hi hX S' hσ k => by subst hX; exact turn i σ' H' G hi S' hσ k) fin
theorem comp_lst {σ0 : St} {g : TG} {te : TE} {z acc : Addr} {xs : List V} {R : Hp → Prop} (E : Nat → V → Hp → Prop) (S : St → Prop) (hz : SqL K H z xs) (ha : H acc = none) (s0 : S σ0) (hn : xs.length ≤ 100000)
    (st : ∀ i y H1 H2 zs, H1 acc = some (.lst zs) → SameBut1 acc H1 H2 → E i y H1 → E i y H2)
    (turn : ∀ (i : Nat) (x : V) (σ' : St) (H' : Hp) (G : V → St → Hp → Prop), i < xs.length → xs[i]? = some x → Same H H' → S σ' → (∀ y σ2 H5, S σ2 → Same H' H5 → E i y H5 → G y σ2 H5) → g x σ' H' fun σ2 H3 => te σ2 H3 fun y H5 => G y σ2 H5)
    (fin : ∀ ys H', ys.length = xs.length → H' acc = some (.lst ys) → Same H H' → (∀ i y, ys[i]? = some y → E i y H') → R H') :
    ∃ W : Nat → Nat → List V → St → Hp → Prop, (∃ m, W 0 m [] σ0 (upd H acc (.lst []))) ∧ ∀ i m ys σ' H', W i m ys σ' H' → H' acc = some (.lst ys) ∧
    (((Itl K z).stop i H' ∧ R H') ∨ ((Itl K z).go i H' ∧ ∀ x H2, (Itl K z).yld i H' x H2 → g x σ' H2 fun σ2 H3 => tYes σ2 H3 fun b H4 =>
      if b = true then te σ2 H4 fun y H5 => H5 acc = some (.lst ys) ∧ ys.length < sizeLine ∧ ∃ m', m' < m ∧ W (i + 1) m' (ys ++ [y]) σ2 (upd H5 acc (.lst (ys ++ [y]))) else ∃ m', m' < m ∧ W (i + 1) m' ys σ2 H4)) :=
  comp_rel E (fun i x => xs[i]? = some x) S ha s0 hn (fun i H' S' h => ⟨xs, _, S'.seq hz, List.getElem?_eq_getElem h⟩) (fun H' S' => ⟨xs, S'.seq hz, Nat.le_refl _⟩) (fun i H' x H2 S' _ h => ⟨h.1, h.2 xs (S'.seq hz)⟩) st turn fin
theorem ints_of {ys : List V} {n : Nat} (hl : ys.length = n) (h : ∀ (i : Nat) (y : V), ys[i]? = some y → ∃ z : Int, y = .int z) : ∃ ns : List Int, ys = ns.map V.int ∧ ns.length = n := by
  induction ys generalizing n with
  | nil => exact ⟨[], rfl, hl⟩
  | cons y ys ih =>
    obtain ⟨z, rfl⟩ := h 0 y rfl
    obtain ⟨ns, e, hn⟩ := ih (n := ys.length) rfl fun i y hy => h (i + 1) y (by simpa using hy)
    exact ⟨z :: ns, by rw [e]; rfl, by simp at hl ⊢; omega⟩
end
end L2
namespace Sx
open PySem PySem.W PyProof.Rows
variable {n : Nat} {k : Nat → Int}
def Sat (n : Nat) (k : Nat → Int) {α : Type} : KasT α → (α → Prop) → Prop
  | .ret a, Q => Q a
  | .ask i j f, Q => i < n ∧ j < n ∧ Sat n k (f (decide (k i < k j))) Q
theorem Sat.bind {α β : Type} {f : α → KasT β} {Q : β → Prop} : ∀ {t : KasT α}, Sat n k t (fun a => Sat n k (f a) Q) → Sat n k (t.bind f) Q
  | .ret _, h => h
  | .ask _ _ _, h => ⟨h.1, h.2.1, Sat.bind h.2.2⟩
theorem Sat.mono {α : Type} {Q Q' : α → Prop} (hq : ∀ a, Q a → Q' a) : ∀ {t : KasT α}, Sat n k t Q → Sat n k t Q'
  | .ret _, h => hq _ h
  | .ask _ _ _, h => ⟨h.1, h.2.1, Sat.mono hq h.2.2⟩
def Pm (n : Nat) (p : Array Nat) : Prop := p.toList.Perm (List.range n)
theorem Pm.size {p : Array Nat} (h : Pm n p) : p.size = n := by have := h.length_eq; simpa using this
theorem Pm.lt {p : Array Nat} (h : Pm n p) (hn : 0 < n) (i : Nat) : p.getD i 0 < n := by
  by_cases hi : i < p.size
  · have e : p.getD i 0 = p[i] := by simp [Array.getD, hi]
    rw [e]
    have : p[i] ∈ List.range n := h.mem_iff.mp (by simp)
    simpa using this
  · have e : p.getD i 0 = 0 := by simp [Array.getD, hi]
    omega
def Ky (k : Nat → Int) (p : Array Nat) (i : Nat) : Int := k (p.getD i 0)
theorem Ky.congr {p q : Array Nat} {i j : Nat} (h : p[i]? = q[j]?) : Ky k p i = Ky k q j := by
  unfold Ky
  have e : ∀ (r : Array Nat) (a : Nat), r.getD a 0 = (r[a]?).getD 0 := fun r a => by by_cases h : a < r.size <;> simp [Array.getD, h]
  rw [e, e, h]
theorem Pm.rev {p : Array Nat} (h : Pm n p) (i j : Nat) : Pm n (kas_rev p i j) := (Array.perm_iff_toList_perm.mp (mirror_perm p i j _)).trans h
theorem Pm.bub {p : Array Nat} (h : Pm n p) (i j : Nat) : Pm n (bubble p i j) := (Array.perm_iff_toList_perm.mp (bubble_perm p i j)).trans h
theorem ky_rev {p : Array Nat} {a b : Nat} (hb : b ≤ p.size) (i : Nat) : Ky k (kas_rev p a b) i = if a ≤ i ∧ i < b then Ky k p (a + b - 1 - i) else Ky k p i := by
  have e := getElem?_mirror_all (i := a) hb i
  split
  · rename_i h; rw [if_pos h] at e; exact Ky.congr e
  · rename_i h; rw [if_neg h] at e; exact Ky.congr e
theorem ky_same {p : Array Nat} {a b : Nat} (hb : b ≤ p.size) (h : ∀ i, a ≤ i → i + 1 < b → Ky k p i = Ky k p (i + 1)) (i : Nat) : Ky k (kas_rev p a b) i = Ky k p i := by
  have all : ∀ d i, a ≤ i → i + d < b → Ky k p i = Ky k p (i + d) := fun d => by
    induction d with
    | zero => intro i _ _; rfl
    | succ d ih => intro i h1 h2; rw [ih i h1 (by omega), h (i + d) (by omega) (by omega)]; rfl
  rw [ky_rev hb]
  split
  · rename_i z
    by_cases c : a + b - 1 - i ≤ i
    · have := all (i - (a + b - 1 - i)) (a + b - 1 - i) (by omega) (by omega)
      rw [this]; congr 1; omega
    · have := all (a + b - 1 - i - i) i (by omega) (by omega)
      rw [this]; congr 1; omega
  · rfl
def Up (k : Nat → Int) (p : Array Nat) (m : Nat) : Prop := ∀ i, i + 1 < m → Ky k p i ≤ Ky k p (i + 1)
def Dn (k : Nat → Int) (p : Array Nat) (m : Nat) : Prop := ∀ i, i + 1 < m → Ky k p (i + 1) ≤ Ky k p i
theorem Up.le {p : Array Nat} {m : Nat} (h : Up k p m) {i j : Nat} (hij : i ≤ j) (hj : j < m) : Ky k p i ≤ Ky k p j := by
  induction j with
  | zero => have : i = 0 := by omega
            subst this; exact Int.le_refl _
  | succ j ih =>
    by_cases e : i = j + 1
    · subst e; exact Int.le_refl _
    · exact Int.le_trans (ih (by omega) (by omega)) (h j hj)
theorem Up.one {p : Array Nat} {m : Nat} (hm : m ≤ 1) : Up k p m := fun i hi => absurd hi (by omega)
theorem sat_asc {p : Array Nat} (hp : Pm n p) (hn : 0 < n) : ∀ (f m : Nat), 1 ≤ m → m + f ≤ n → Up k p m → Sat n k (kas_asc p f m) fun m' => m ≤ m' ∧ m' ≤ m + f ∧ Up k p m' ∧ (m' < m + f → Ky k p m' < Ky k p (m' - 1))
  | 0, m, _, _, h => ⟨Nat.le_refl _, Nat.le_refl _, h, fun z => absurd z (by omega)⟩
  | f + 1, m, h1, h2, h => by
    refine ⟨hp.lt hn _, hp.lt hn _, ?_⟩
    by_cases c : k (p.getD m 0) < k (p.getD (m - 1) 0)
    · rw [decide_eq_true c]
      exact ⟨Nat.le_refl _, by omega, h, fun _ => c⟩
    · rw [decide_eq_false c]
      refine Sat.mono (fun m' z => ⟨by omega, by omega, z.2.2.1, fun w => z.2.2.2 (by omega)⟩) (sat_asc hp hn f (m + 1) (by omega) (by omega) fun i hi => ?_)
      by_cases e : i + 1 = m
      · subst e
        have : Ky k p i = k (p.getD (i + 1 - 1) 0) := rfl
        have : Ky k p (i + 1) = k (p.getD (i + 1) 0) := rfl
        omega
      · exact h i (by omega)
structure Fall (n : Nat) (k : Nat → Int) (p : Array Nat) (m q : Nat) : Prop where
  pm : Pm n p
  dn : Dn k p m
  le : q + 1 ≤ m
  eq : ∀ i, m - (q + 1) ≤ i → i + 1 < m → Ky k p i = Ky k p (i + 1)
theorem sat_desc (hn : 0 < n) : ∀ (f : Nat) (p : Array Nat) (m q : Nat), 1 ≤ m → m + f ≤ n → Fall n k p m q → Sat n k (kas_desc f p m q) fun r => m ≤ r.2.1 ∧ r.2.1 ≤ m + f ∧ Fall n k r.1 r.2.1 r.2.2
  | 0, p, m, q, _, _, h => ⟨Nat.le_refl _, Nat.le_refl _, h⟩
  | f + 1, p, m, q, h1, h2, h => by
    refine ⟨h.pm.lt hn _, h.pm.lt hn _, ?_⟩
    by_cases c : k (p.getD m 0) < k (p.getD (m - 1) 0)
    · rw [decide_eq_true c]
      show Sat n k (if q > 0 then _ else _) _
      have hc : Ky k p m ≤ Ky k p (m - 1) := Int.le_of_lt c
      by_cases hq : q > 0
      · rw [if_pos hq]
        have sm : ∀ i, Ky k (kas_rev p (m - (q + 1)) m) i = Ky k p i := ky_same (by rw [h.pm.size]; omega) h.eq
        refine Sat.mono (fun r z => ⟨by omega, by omega, z.2.2⟩) (sat_desc hn f _ (m + 1) 0 (by omega) (by omega) ⟨h.pm.rev _ _, fun i hi => ?_, by omega, fun i h3 h4 => absurd h4 (by omega)⟩)
        rw [sm, sm]
        by_cases e : i + 1 = m
        · subst e; exact hc
        · exact h.dn i (by omega)
      · rw [if_neg hq]
        refine Sat.mono (fun r z => ⟨by omega, by omega, z.2.2⟩) (sat_desc hn f _ (m + 1) 0 (by omega) (by omega) ⟨h.pm, fun i hi => ?_, by omega, fun i h3 h4 => absurd h4 (by omega)⟩)
        by_cases e : i + 1 = m
        · subst e; exact hc
        · exact h.dn i (by omega)
    · rw [decide_eq_false c]
      refine ⟨h.pm.lt hn _, h.pm.lt hn _, ?_⟩
      by_cases d : k (p.getD (m - 1) 0) < k (p.getD m 0)
      · rw [decide_eq_true d]
        exact ⟨Nat.le_refl _, Nat.le_add_right m (f + 1), h⟩
      · rw [decide_eq_false d]
        have he : Ky k p m = Ky k p (m - 1) := by
          have e1 : Ky k p m = k (p.getD m 0) := rfl
          have e2 : Ky k p (m - 1) = k (p.getD (m - 1) 0) := rfl
          omega
        have hle := h.le
        refine Sat.mono (fun r z => ⟨by omega, by omega, z.2.2⟩) (sat_desc hn f p (m + 1) (q + 1) (by omega) (by omega) ⟨h.pm, fun i hi => ?_, by omega, fun i h3 h4 => ?_⟩)
        · by_cases e : i + 1 = m
          · subst e; exact Int.le_of_eq he
          · exact h.dn i (by omega)
        · by_cases e : i + 1 = m
          · subst e; exact he.symm
          · exact h.eq i (by omega) (by omega)
theorem sat_tail {p : Array Nat} {m : Nat} (hn : 0 < n) (hp : Pm n p) (h1 : 1 ≤ m) (hm : m ≤ n) (h : Dn k p m) : Sat n k (kas_tail3 m n p) fun r => Pm n r.2 ∧ 1 ≤ r.1 ∧ r.1 ≤ n ∧ Up k r.2 r.1 := by
  refine Sat.bind (Sat.mono (fun m' z => ⟨hp.rev _ _, by omega, by omega, z.2.2.1⟩) (sat_asc (hp.rev 0 m) hn (n - m) m h1 (by omega) fun i hi => ?_))
  rw [ky_rev (by rw [hp.size]; exact hm), ky_rev (by rw [hp.size]; exact hm), if_pos (by omega), if_pos (by omega)]
  have := h (0 + m - 1 - (i + 1)) (by omega)
  have e : 0 + m - 1 - (i + 1) + 1 = 0 + m - 1 - i := by omega
  rw [e] at this; exact this
theorem sat_descPart {p : Array Nat} {m : Nat} (hn : 0 < n) (hp : Pm n p) (h1 : 1 ≤ m) (hm : m + 1 ≤ n) (h : Dn k p (m + 1)) : Sat n k (kas_descPart m n p) fun r => Pm n r.2 ∧ 1 ≤ r.1 ∧ r.1 ≤ n ∧ Up k r.2 r.1 := by
  refine Sat.bind (Sat.mono ?_ (sat_desc hn (n - (m + 1)) p (m + 1) 0 (by omega) (by omega) ⟨hp, h, by omega, fun i h3 h4 => absurd h4 (by omega)⟩))
  rintro ⟨p', m', q'⟩ ⟨a1, a2, a3⟩
  show Sat n k (if q' > 0 then _ else _) _
  have a1 : m + 1 ≤ m' := a1
  have a2 : m' ≤ m + 1 + (n - (m + 1)) := a2
  have a3 : Fall n k p' m' q' := a3
  by_cases hq : q' > 0
  · rw [if_pos hq]
    refine sat_tail hn (a3.pm.rev _ _) (by omega) (by omega) fun i hi => ?_
    have sm : ∀ i, Ky k (kas_rev p' (m' - (q' + 1)) m') i = Ky k p' i := ky_same (by rw [a3.pm.size]; omega) a3.eq
    rw [sm, sm]; exact a3.dn i hi
  · rw [if_neg hq]
    exact sat_tail hn a3.pm (by omega) (by omega) a3.dn
theorem sat_count {p : Array Nat} (hn : 0 < n) (hp : Pm n p) : Sat n k (kas_count n p) fun r => Pm n r.2 ∧ 1 ≤ r.1 ∧ r.1 ≤ n ∧ Up k r.2 r.1 := by
  refine Sat.bind (Sat.mono ?_ (sat_asc hp hn (n - 1) 1 (Nat.le_refl _) (by omega) (Up.one (Nat.le_refl _))))
  rintro m ⟨a1, a2, a3, a4⟩
  show Sat n k (if (m == n) = true then _ else _) _
  by_cases e : m = n
  · subst e
    rw [if_pos (by simp)]
    exact ⟨hp, a1, Nat.le_refl _, a3⟩
  · rw [if_neg (by simpa using e)]
    have a4 := a4 (by omega)
    by_cases h1 : m > 1
    · rw [if_pos h1]
      refine ⟨hp.lt hn _, hp.lt hn _, ?_⟩
      by_cases c : k (p.getD 0 0) < k (p.getD (m - 1) 0)
      · rw [decide_eq_true c]
        exact ⟨hp, a1, by omega, a3⟩
      · rw [decide_eq_false c]
        have eqs : ∀ i, i + 1 < m → Ky k p i = Ky k p (i + 1) := fun i hi => by
          have b1 := a3.le (Nat.zero_le i) (show i < m by omega)
          have b2 := a3 i hi
          have b3 := a3.le (show i + 1 ≤ m - 1 by omega) (by omega)
          have e1 : Ky k p 0 = k (p.getD 0 0) := rfl
          have e2 : Ky k p (m - 1) = k (p.getD (m - 1) 0) := rfl
          omega
        have sm : ∀ i, Ky k (kas_rev p 0 m) i = Ky k p i := ky_same (by rw [hp.size]; omega) fun i _ hi => eqs i hi
        refine sat_descPart hn (hp.rev _ _) a1 (by omega) fun i hi => ?_
        rw [sm, sm]
        by_cases e3 : i + 1 = m
        · subst e3; exact Int.le_of_lt a4
        · exact Int.le_of_eq (eqs i (by omega)).symm
    · rw [if_neg h1]
      have e1 : m = 1 := by omega
      subst e1
      refine sat_descPart hn hp (Nat.le_refl _) (by omega) fun i hi => ?_
      have e2 : i = 0 := by omega
      subst e2
      exact Int.le_of_lt a4
theorem sat_place {p : Array Nat} {x : Nat} (hn : 0 < n) (hp : Pm n p) (hx : Up k p x) : ∀ (f l r : Nat), r - l ≤ f → l ≤ r → r ≤ x → (∀ i, i < l → Ky k p i ≤ Ky k p x) → (∀ i, r ≤ i → i < x → Ky k p x < Ky k p i) →
    Sat n k (kas_place p x f l r) fun l' => l' ≤ x ∧ (∀ i, i < l' → Ky k p i ≤ Ky k p x) ∧ ∀ i, l' ≤ i → i < x → Ky k p x < Ky k p i
  | 0, l, r, h1, h2, h3, h4, h5 => ⟨by omega, h4, fun i z1 z2 => h5 i (by omega) z2⟩
  | f + 1, l, r, h1, h2, h3, h4, h5 => by
    show Sat n k (if l ≥ r then _ else _) _
    by_cases c : l ≥ r
    · rw [if_pos c]
      exact ⟨by omega, h4, fun i z1 z2 => h5 i (by omega) z2⟩
    · rw [if_neg c]
      refine ⟨hp.lt hn _, hp.lt hn _, ?_⟩
      by_cases d : k (p.getD x 0) < k (p.getD ((l + r) / 2) 0)
      · rw [decide_eq_true d]
        refine sat_place hn hp hx f l ((l + r) / 2) (by omega) (by omega) (by omega) h4 fun i z1 z2 => ?_
        have b := hx.le z1 z2
        have d : Ky k p x < Ky k p ((l + r) / 2) := d
        omega
      · rw [decide_eq_false d]
        refine sat_place hn hp hx f ((l + r) / 2 + 1) r (by omega) (by omega) h3 (fun i z1 => ?_) h5
        have b := hx.le (show i ≤ (l + r) / 2 by omega) (by omega)
        have d : ¬ Ky k p x < Ky k p ((l + r) / 2) := d
        omega
theorem ky_bub {p : Array Nat} {x l : Nat} (hx : x < p.size) (hl : l ≤ x) (i : Nat) : Ky k (bubble p x (x - l)) i = if i = l then Ky k p x else if l < i ∧ i ≤ x then Ky k p (i - 1) else Ky k p i := by
  have e := getElem?_bubble hx (x - l) (by omega) i
  have e2 : x - (x - l) = l := by omega
  rw [e2] at e
  by_cases h1 : i = l
  · rw [if_pos h1] at e ⊢; exact Ky.congr e
  · rw [if_neg h1] at e ⊢
    by_cases h2 : l < i ∧ i ≤ x
    · rw [if_pos h2] at e ⊢; exact Ky.congr e
    · rw [if_neg h2] at e ⊢; exact Ky.congr e
theorem sat_bin (hn : 0 < n) : ∀ (f : Nat) (p : Array Nat) (x : Nat), x + f = n → Pm n p → Up k p x → Sat n k (kas_bin f p x) fun p' => Pm n p' ∧ Up k p' n
  | 0, p, x, h1, hp, h => ⟨hp, by rw [← h1]; exact h⟩
  | f + 1, p, x, h1, hp, h => by
    refine Sat.bind (Sat.mono ?_ (sat_place hn hp h x 0 x (by omega) (Nat.zero_le _) (Nat.le_refl _) (fun i z => absurd z (by omega)) (fun i z1 z2 => absurd z2 (by omega))))
    rintro l ⟨a1, a2, a3⟩
    refine sat_bin hn f _ (x + 1) (by omega) (hp.bub _ _) fun i hi => ?_
    have hs : x < p.size := by rw [hp.size]; omega
    rw [ky_bub hs a1, ky_bub hs a1]
    by_cases c1 : i + 1 < l
    · rw [if_neg (by omega), if_neg (by omega), if_neg (by omega), if_neg (by omega)]
      exact h i (by omega)
    · by_cases c2 : i + 1 = l
      · rw [if_neg (by omega), if_neg (by omega), if_pos c2]
        exact a2 i (by omega)
      · by_cases c3 : i = l
        · rw [if_pos c3, if_neg (by omega), if_pos (by omega)]
          have := a3 i (by omega) (by omega)
          have e : i + 1 - 1 = i := by omega
          rw [e]; omega
        · rw [if_neg c3, if_pos (by omega), if_neg (by omega), if_pos (by omega)]
          have := h (i - 1) (by omega)
          have e : i - 1 + 1 = i + 1 - 1 := by omega
          rw [e] at this; exact this
theorem pm_range : Pm n (List.toArray (List.range n)) := by unfold Pm; simp
theorem sat_sort (hn : 0 < n) : Sat n k (kas_sort n) fun p => Pm n p ∧ Up k p n := by
  refine Sat.bind (Sat.mono ?_ (sat_count hn pm_range))
  rintro ⟨m, p⟩ ⟨a1, a2, a3, a4⟩
  show Sat n k (if m < n then _ else _) _
  have a2 : 1 ≤ m := a2
  have a3 : m ≤ n := a3
  have a4 : Up k p m := a4
  by_cases c : m < n
  · rw [if_pos c]
    have e : max m 1 = m := by omega
    show Sat n k (kas_bin (n - max m 1) p (max m 1)) _
    rw [e]
    exact sat_bin hn (n - m) p m (by omega) a1 a4
  · rw [if_neg c]
    have : m = n := by omega
    subst this
    exact ⟨a1, a4⟩
theorem Sat.ask {cmp : Nat → Nat → (Bool → Shared → Prop) → Shared → Prop} {s : Shared} (hc : ∀ i j C, i < n → j < n → C (decide (k i < k j)) s → cmp i j C s) {α : Type} {Q : α → Prop} {G : α → Shared → Prop} (hG : ∀ a, Q a → G a s) : ∀ {t : KasT α}, Sat n k t Q → t.kasWp cmp G s
  | .ret _, h => hG _ h
  | .ask i j f, h => hc i j _ h.1 h.2.1 (Sat.ask hc hG h.2.2)
end Sx
namespace L2
open PySem PySem.Spec PyProof.Rows PySem.W
theorem ns_one {h : Heap} {a : Addr} {m m' : Str → Option Value} (x : h.Ns a m) (y : h.Ns a m') : m = m' := by
  obtain ⟨o, es, ep, e, d, _, r⟩ := x
  obtain ⟨o', es', ep', e', d', _, r'⟩ := y
  rw [e] at e'; cases e'
  rw [d] at d'; cases d'
  funext n
  rw [← r n, ← r' n]
theorem ObjOk.obj {P : Program} {w : World} {H : Hp} {h : Heap} {a : Addr} {o : HO} (x : ObjOk P w H h a o) : ∃ ob, h.get? a = some ob := by
  cases o with
  | lst xs => obtain ⟨_, _, _, _, e⟩ := x; exact ⟨_, e⟩
  | tup xs => obtain ⟨_, _, _, ob, e, _⟩ := x; exact ⟨_, e⟩
  | dK kvs => obtain ⟨_, _, _, _, ob, _, _, e, _⟩ := x; exact ⟨_, e⟩
  | dT kvs => obtain ⟨_, _, _, _, ob, _, _, e, _⟩ := x; exact ⟨_, e⟩
  | set S n => obtain ⟨ob, _, _, _, e, _⟩ := x; exact ⟨_, e⟩
  | ins C dx fs => obtain ⟨_, _, _, e, _⟩ := x; exact ⟨_, e⟩
  | own y => exact x
  | xd fs => obtain ⟨_, ⟨ob, _, _, e, _⟩, _⟩ := x; exact ⟨_, e⟩
  | rng lo hi => obtain ⟨_, _, _, e⟩ := x; exact ⟨_, e⟩
  | frz ob u => exact ⟨_, x.1⟩
  | tbl ps => exact ⟨_, x⟩
  | met f y => exact ⟨_, x⟩
  | ext φ => exact x.2.1
section
variable {X : Cx} {pins : List (Addr × Obj)} {σ : St} {H : Hp} {s : Shared}
theorem Inv.newsLaid {h' : Heap} {m : Str → Option Value} {t' : Nat} {D : Addr} {ob : Obj} {o : HO} (I : Inv X pins σ H s) (hm : s.heap.Ns X.env.locals m) (F : Fr X.base X.env.locals h' m)
    (N : News X.base X.env.locals h' ((D, ob) :: allNews X.base s.heap X.env.locals)) (hD : ∀ q ∈ allNews X.base s.heap X.env.locals, q.1 < D) (new : ObjOk X.prog X.w (upd H D o) h' D o) : H D = none ∧ Inv X pins σ (upd H D o) { s with heap := h', toks := t' } := by
  have nd := N (D, ob) List.mem_cons_self
  have gD : s.heap.get? D = none := by
    cases q : s.heap.get? D with
    | none => rfl
    | some u => exact absurd (hD (D, u) (mem_allNews nd.2.1 nd.2.2 q)) (Nat.lt_irrefl _)
  have hn : H D = none := by
    cases q : H D with
    | none => rfl
    | some u =>
      obtain ⟨w, e⟩ : ∃ w, s.heap.get? D = some w := (I.hok D u q).obj
      rw [gD] at e; cases e
  have k : ∀ b o, b ≠ X.env.locals → s.heap.get? b = some o → h'.get? b = some o := fun b o h1 e => by
    cases q : X.base.get? b with
    | some u =>
      have z := I.bk b u q
      rw [e] at z
      cases z
      exact F.keep b _ q
    | none => exact (N (b, o) (List.mem_cons_of_mem _ (mem_allNews h1 q e))).1
  have nD : ∀ b o, s.heap.get? b = some o → b ≠ D := fun b o e z => by rw [z, gD] at e; cases e
  have hH : ∀ b u, H b = some u → b ≠ D := fun b u e => ne_of_none e hn
  refine ⟨hn, I.step (g' := s.gens) (d' := s.drawn) (ch := []) (fun _ z => nomatch z) (fun b o h1 _ _ e _ => k b o h1 e) (fun b o h1 _ _ e _ => ⟨o.slots, k b o h1 e⟩) (fun b o _ e n => by rw [upd_ne (nD b o e)]; exact n) (fun b o _ e => ?_)
    (fun b _ e => by rw [upd_ne (hH b _ e)]; exact e) (fun b _ _ e => by rw [upd_ne (hH b _ e)]; exact e) (fun b ps e => ⟨#[], by rw [upd_ne (hH b _ e), e]; simp⟩) (fun m' hm' => by rw [← ns_one hm hm']; exact F.ns) (fun b u e => ?_) I.bare⟩
  · by_cases hb : b = X.env.locals
    · subst hb
      obtain ⟨o', _, _, e', _⟩ := F.ns
      exact ⟨o', e'⟩
    · exact ⟨o, k b o hb e⟩
  · by_cases hb : b = D
    · subst hb
      rw [upd_same] at e
      cases e
      exact new
    · rw [upd_ne hb] at e
      refine (I.hok b u e).stay (fun c v hc q => k c v ?_ q) (fun c q => by rw [upd_ne (hH c _ q)]; exact q) fun c _ q => by rw [upd_ne (hH c _ q)]; exact q
      rintro rfl
      rcases hc with hc | hc
      · rw [← hc, I.free] at e; cases e
      · rw [I.free] at hc; cases hc
end
def lexLt (z w : Int × Int) : Bool := decide (z.1 < w.1) || (z.1 == w.1 && decide (z.2 < w.2))
theorem lexLt_iff {z w : Int × Int} : lexLt z w = true ↔ z.1 < w.1 ∨ (z.1 = w.1 ∧ z.2 < w.2) := by simp [lexLt]
def lexLe (z w : Int × Int) : Prop := z.1 < w.1 ∨ (z.1 = w.1 ∧ z.2 ≤ w.2)
theorem lexLe_of {z w : Int × Int} (h : lexLt w z = false) : lexLe z w := by
  have : ¬ (w.1 < z.1 ∨ (w.1 = z.1 ∧ w.2 < z.2)) := fun q => by rw [lexLt_iff.mpr q] at h; cases h
  unfold lexLe
  omega
def rank (ts : List (Int × Int)) (t : Int × Int) : Int := (ts.countP fun u => lexLt u t : Nat)
theorem count_lt {α : Type} {p q : α → Bool} : ∀ {l : List α} {x : α}, (∀ y ∈ l, p y = true → q y = true) → x ∈ l → p x = false → q x = true → l.countP p < l.countP q
  | y :: l, x, h, hx, h1, h2 => by
    have hl : ∀ y ∈ l, p y = true → q y = true := fun y hy => h y (List.mem_cons_of_mem _ hy)
    have hle : l.countP p ≤ l.countP q := List.countP_mono_left hl
    rw [List.countP_cons, List.countP_cons]
    rcases List.mem_cons.mp hx with e | hx
    · subst e
      rw [h1, h2]
      simp
      omega
    · have hlt := count_lt hl hx h1 h2
      by_cases hp : p y = true
      · rw [if_pos hp, if_pos (h y List.mem_cons_self hp)]; omega
      · rw [if_neg hp]; omega
theorem rank_lt {ts : List (Int × Int)} {t u : Int × Int} (ht : t ∈ ts) (hu : u ∈ ts) : decide (rank ts t < rank ts u) = lexLt t u := by
  rw [Bool.eq_iff_iff, decide_eq_true_iff]
  constructor
  · intro h
    cases q : lexLt t u with
    | true => rfl
    | false =>
      have hle := lexLe_of q
      have : ts.countP (fun w => lexLt w u) ≤ ts.countP (fun w => lexLt w t) := List.countP_mono_left fun w _ hw => by
        rw [lexLt_iff] at hw ⊢
        unfold lexLe at hle
        omega
      unfold rank at h
      omega
  · intro h
    have hlt : ts.countP (fun w => lexLt w t) < ts.countP (fun w => lexLt w u) := count_lt (x := t) (fun w _ hw => by rw [lexLt_iff] at hw h ⊢; omega) ht (by
      cases q : lexLt t t with
      | false => rfl
      | true => rw [lexLt_iff] at q; omega) h
    unfold rank
    omega
abbrev Zt := Int × Int × Addr
def zP (z : Zt) : Int × Int := (z.1, z.2.1)
def refZ (z : Zt) : V := .ref z.2.2
def PairAt (H : Hp) (z : Zt) : Prop := H z.2.2 = some (.tup [.int z.1, .int z.2.1])
section
variable {prog : Program} {w : World} {A : Around} {s : Shared}
theorem lt_pairs {x y : Addr} {a1 a2 b1 b2 : Int} {t1 t2 u1 u2 : Tok} {E : Value → Shared → Prop} {Q : Bool → Shared → Prop} (hx : IsTup s.heap x #[.int a1 t1, .int a2 t2]) (hy : IsTup s.heap y #[.int b1 u1, .int b2 u2]) (h : Q (lexLt (a1, a2) (b1, b2)) s) :
    wpAny (model prog w) A (keyLt' (tuples' true) (.ref x) (.ref y)) Q E s := by
  obtain ⟨ox, ex, cx, nx, dx⟩ := hx
  obtain ⟨oy, ey, cy, ny, dy⟩ := hy
  refine kat_lt ex dx ey dy ?_
  have ez : (#[Value.int a1 t1, Value.int a2 t2].toList.zip #[Value.int b1 u1, Value.int b2 u2].toList) = [(.int a1 t1, .int b1 u1), (.int a2 t2, .int b2 u2)] := rfl
  rw [ez]
  refine kat_cons (SeqAt.EqAt.int_int a1 t1 b1 u1 _ _ _ _ ?_)
  by_cases e : a1 = b1
  · have e1 : (a1 == b1) = true := by simpa using e
    rw [e1]
    refine kat_yes (kat_cons (SeqAt.EqAt.int_int a2 t2 b2 u2 _ _ _ _ ?_))
    by_cases f : a2 = b2
    · have f1 : (a2 == b2) = true := by simpa using f
      rw [f1]
      refine kat_yes (kat_nil ?_)
      have : lexLt (a1, a2) (b1, b2) = false := by
        cases q : lexLt (a1, a2) (b1, b2) with
        | false => rfl
        | true => rw [lexLt_iff] at q; simp only at q; omega
      rw [this] at h
      exact h
    · have f1 : (a2 == b2) = false := by simpa using f
      rw [f1]
      refine kat_no (kat_one _ _ (lt_int ?_))
      have : lexLt (a1, a2) (b1, b2) = decide (a2 < b2) := by
        rw [Bool.eq_iff_iff, lexLt_iff, decide_eq_true_iff]
        simp only
        omega
      rw [this] at h
      exact h
  · have e1 : (a1 == b1) = false := by simpa using e
    rw [e1]
    refine kat_no (oneLt_int ?_)
    have : lexLt (a1, a2) (b1, b2) = decide (a1 < b1) := by
      rw [Bool.eq_iff_iff, lexLt_iff, decide_eq_true_iff]
      simp only
      omega
    rw [this] at h
    exact h
end
end L2
namespace L2
open PySem PySem.Spec PyProof.Rows PySem.W
def rSortedT (K : PySem.W.Frag) : List V → Hp → VK → Prop := fun xs H Q => ∃ (p : Addr) (zs : List Zt), xs = [.ref p] ∧ SqL K H p (zs.map refZ) ∧ (∀ z ∈ zs, PairAt H z) ∧ zs.length < 64 ∧
  ∀ (l : Addr) (zs' : List Zt), H l = none → zs'.Perm zs → zs'.Pairwise (fun z w => lexLe (zP z) (zP w)) → Q (.ref l) (upd H l (.lst (zs'.map refZ)))
theorem refs_of : ∀ {zs : List Zt} {us : List Value}, Vals (zs.map refZ) us → us = zs.map fun z => Value.ref z.2.2
  | [], _, r => by cases r; rfl
  | z :: zs, _, r => by
    rw [List.map_cons] at r
    cases r with
    | cons h t =>
      cases (show _ = Value.ref z.2.2 from h)
      rw [refs_of t]; rfl
theorem vals_refs : ∀ zs : List Zt, Vals (zs.map refZ) (zs.map fun z => Value.ref z.2.2)
  | [] => .nil
  | z :: zs => .cons rfl (vals_refs zs)
theorem firsts_of {h : Heap} : ∀ {zs : List Zt}, (∀ z ∈ zs, ∃ t u, IsTup h z.2.2 #[.int z.1 t, .int z.2.1 u]) → ∃ fs, KatTups h (zs.map fun z => Value.ref z.2.2) fs ∧ fs.length = zs.length ∧ ∀ v ∈ fs, ∃ i t, v = Value.int i t
  | [], _ => ⟨[], .nil, rfl, fun v hv => nomatch hv⟩
  | z :: zs, hz => by
    obtain ⟨fs, h1, h2, h3⟩ := firsts_of (zs := zs) fun y hy => hz y (List.mem_cons_of_mem _ hy)
    obtain ⟨t, u, o, e, c, n, d⟩ := hz z List.mem_cons_self
    refine ⟨.int z.1 t :: fs, KatTups.cons e c d rfl h1, by simp [h2], fun v hv => ?_⟩
    rcases List.mem_cons.mp hv with rfl | hv
    · exact ⟨_, _, rfl⟩
    · exact h3 v hv
theorem getD_range {α : Type} (l : List α) (d : α) : (List.range l.length).map (fun i => l.getD i d) = l := by
  apply List.ext_getElem?
  intro i
  rw [List.getElem?_map]
  by_cases h : i < l.length
  · rw [List.getElem?_range h, List.getElem?_eq_getElem h]; simp [h]
  · rw [List.getElem?_eq_none (by simp; omega), List.getElem?_eq_none (by omega)]; rfl
section
variable {X : Cx}
theorem sorted_short {prog : Program} {w : World} {A : Around} {E : Value → Shared → Prop} {s : Shared} {l : Addr} {vs : List Value} {Q : Value → Shared → Prop} (hl : s.heap.IsList l vs.toArray) (h2 : vs.length < 2)
    (h : Q (.ref (s.heap.objs.size + 1)) { s with heap := sortedAll s.heap vs vs.toArray }) : wpAny (model prog w) A (call (.builtin "sorted") [.ref l]) Q E s := by
  have hz : vs.length ≤ sizeLine := small_le (m := 2) (by omega)
  refine Calls.call_function_entry kind_sorted plain_sorted entry_sorted (args_sorted1 _) (wpAny_bind (m := checkCount "sorted" 1 1 _) (wpAny_pure (wpAny_bind (collect_list hl (wpAny_bind (wpAny_newList ?_ hz)) hz))))
  have e1 : ((s.heap.push (seqObj "list" #[] 0)).update s.heap.objs.size (Obj.mapSeq (· ++ vs.toArray))).objs.size = s.heap.objs.size + 1 := (Heap.size_update ..).trans (size_push' ..)
  have g1 : (((s.heap.push (seqObj "list" #[] 0)).update s.heap.objs.size (Obj.mapSeq (· ++ vs.toArray))).push (seqObj "list" vs.toArray 0)).get? (s.heap.objs.size + 1) = some (seqObj "list" vs.toArray 0) := e1 ▸ Heap.get?_push_size _ rfl
  have e0 : (seqObj "list" vs.toArray 0 : Obj) = { cls := .type "list", data := .seq vs.toArray } := rfl
  have hlt : s.heap.objs.size + 1 < (((s.heap.push (seqObj "list" #[] 0)).update s.heap.objs.size (Obj.mapSeq (· ++ vs.toArray))).push (seqObj "list" vs.toArray 0)).objs.size := Heap.lt_size g1
  show wpAny (model prog w) A.in1 (do let _ ← holding [Value.ref ((s.heap.push (seqObj "list" #[] 0)).update s.heap.objs.size (Obj.mapSeq (· ++ vs.toArray))).objs.size] (call (.builtin "list.sort") [Value.ref ((s.heap.push (seqObj "list" #[] 0)).update s.heap.objs.size (Obj.mapSeq (· ++ vs.toArray))).objs.size]); ret (Value.ref ((s.heap.push (seqObj "list" #[] 0)).update s.heap.objs.size (Obj.mapSeq (· ++ vs.toArray))).objs.size)) _ _ { s with heap := ((s.heap.push (seqObj "list" #[] 0)).update s.heap.objs.size (Obj.mapSeq (· ++ vs.toArray))).push (seqObj "list" vs.toArray 0) }
  rw [e1]
  generalize hh : ((s.heap.push (seqObj "list" #[] 0)).update s.heap.objs.size (Obj.mapSeq (· ++ vs.toArray))).push (seqObj "list" vs.toArray 0) = hp at g1 hlt
  unfold sortedAll at h
  rw [hh] at h
  refine wpAny_bind (wpAny_holding (wpAny_call_entry slot_list_sort ⟨_, g1, rfl⟩ entry_list_sort ?_ (args_list_sort _)))
  rw [list_sort_plain]
  obtain ⟨c1, g2⟩ : ∃ c1, (hp.update (s.heap.objs.size + 1) (Obj.mapSeq fun _ => #[])).get? (s.heap.objs.size + 1) = some (seqObj "list" #[] c1) := ⟨_, get?_update_seq g1 fun _ => #[]⟩
  refine wpAny_bind (listItems_at g1 rfl (wpAny_bind (listUpdate_at g1 rfl (wpAny_bind (seqEpoch_at g2 rfl (wpAny_bind (wpAny_newTuple (wpAny_bind (wpAny_newList (wpAny_holding ?_) (Nat.zero_le _))) hz)))) (by rw [List.size_toArray]; exact hz) (Nat.zero_le _))))
  have g6 : (((hp.update (s.heap.objs.size + 1) (Obj.mapSeq fun _ => #[])).push (seqObj "tuple" vs.toArray 0)).push (seqObj "list" #[] 0)).get? (s.heap.objs.size + 1) = some (seqObj "list" #[] c1) := Heap.get?_push_of_some _ (Heap.get?_push_of_some _ g2)
  have hn : vs.toArray.size < 2 := by rw [List.size_toArray]; exact h2
  show wpAny (model prog w) A.in1.in1 _ _ _ { s with heap := ((hp.update (s.heap.objs.size + 1) (Obj.mapSeq fun _ => #[])).push (seqObj "tuple" vs.toArray 0)).push (seqObj "list" #[] 0) }
  dsimp only
  rw [if_pos hn, if_pos hn]
  refine wpAny_bind (wpAny_pure ?_)
  rw [StateT.run_pure]
  refine wpAny_bind (wpAny_pure ?_)
  dsimp only
  have es : (arrOf (SortSt.mk' general' (vs.toArray.zip vs.toArray) #[] 7 none)).map (·.2) = vs.toArray := by
    show (vs.toArray.zip vs.toArray).map (·.2) = vs.toArray
    apply Array.toList_inj.mp
    simp
    exact List.map_snd_zip (Nat.le_refl _)
  rw [es]
  refine wpAny_bind (seqEpoch_at g6 rfl (wpAny_bind (listUpdate_at g6 rfl ?_ (Nat.zero_le _) (by rw [List.size_toArray]; exact Nat.le_succ_of_le hz))))
  simp only [bne_self_eq_false, Bool.false_eq_true, if_false]
  exact wpAny_pure ⟨_, rfl, wpAny_pure ⟨_, rfl, h⟩⟩
theorem call_sortedT : CallR X (.builtin "sorted") (rSortedT X.K) := by
  intro pins s σ H xs us Q I r h
  obtain ⟨p, zs, rfl, hq, hz, h64, q⟩ := h
  obtain ⟨u, rfl, ru⟩ := vals1 r
  cases ru
  obtain ⟨its, rv, pl, hsz⟩ := I.list hq
  have ei := refs_of rv
  subst ei
  have tup0 : ∀ z ∈ zs, ∃ t u, IsTup s.heap z.2.2 #[.int z.1 t, .int z.2.1 u] := fun z hz' => by
    obtain ⟨ts, r, it, _⟩ := I.tuple (.of (hz z hz'))
    cases r with
    | cons h1 r =>
      cases r with
      | cons h2 r =>
        cases r
        obtain ⟨t, rfl⟩ := h1
        obtain ⟨u, rfl⟩ := h2
        exact ⟨t, u, it⟩
  by_cases h2 : 2 ≤ zs.length
  · obtain ⟨m, F, N⟩ := I.frs
    refine kat_sorted F N pl.isList (by rw [List.length_map]; exact h2) (by rw [List.length_map]; exact h64) fun D e1 h' F' N' hD => ?_
    have kept : ∀ b o, b ≠ X.env.locals → s.heap.get? b = some o → h'.get? b = some o := fun b o h1 e => by
      cases w : X.base.get? b with
      | some u =>
        have z := I.bk b u w
        rw [e] at z
        cases z
        exact F'.keep b _ w
      | none => exact (N' (b, o) (List.mem_cons_of_mem _ (mem_allNews h1 w e))).1
    have tup : ∀ z ∈ zs, ∃ t u, IsTup h' z.2.2 #[.int z.1 t, .int z.2.1 u] := fun z hz' => by
      obtain ⟨t, u, o, e, rest⟩ := tup0 z hz'
      refine ⟨t, u, o, kept _ o (fun w => ?_) e, rest⟩
      have e2 := hz z hz'
      unfold PairAt at e2
      rw [w, I.free] at e2
      cases e2
    obtain ⟨fs, k1, k2, k3⟩ := firsts_of tup
    refine kat_kind (T := .type "int") k1 (by omega) (fun v hv => ?_) rfl ?_
    · obtain ⟨i, t, rfl⟩ := k3 v hv
      exact Looks.now
    have et : (Value.type "int" != Value.type "tuple") = true := by decide
    rw [et, List.length_map]
    have gz : ∀ i, i < zs.length → (zs.map fun z => Value.ref z.2.2).getD i Value.none = Value.ref (zs.getD i (0, 0, 0)).2.2 := fun i hi => by simp [hi]
    have mz : ∀ i, i < zs.length → zs.getD i (0, 0, 0) ∈ zs := fun i hi => by
      have : zs.getD i (0, 0, 0) = zs[i] := by simp [hi]
      rw [this]; exact List.getElem_mem hi
    refine Sx.Sat.ask (n := zs.length) (k := fun i => rank (zs.map zP) (zP (zs.getD i (0, 0, 0)))) (fun i j C hi hj hC => ?_) (fun pr hp => ?_) (Sx.sat_sort (by omega))
    · unfold kas_ask
      rw [gz i hi, gz j hj]
      obtain ⟨t, u, i1⟩ := tup _ (mz i hi)
      obtain ⟨t', u', i2⟩ := tup _ (mz j hj)
      refine lt_pairs (s := { s with heap := h' }) i1 i2 ?_
      rw [rank_lt (List.mem_map_of_mem (mz i hi)) (List.mem_map_of_mem (mz j hj))] at hC
      exact hC
    · obtain ⟨hp1, hp2⟩ := hp
      have plt : ∀ i ∈ pr.toList, i < zs.length := fun i hi => by simpa using hp1.mem_iff.mp hi
      have eo : (pr.toList.map fun i => (zs.map fun z => Value.ref z.2.2).getD i Value.none) = (pr.toList.map fun i => zs.getD i (0, 0, 0)).map fun z => Value.ref z.2.2 := by
        rw [List.map_map]
        exact List.map_congr_left fun i hi => gz i (plt i hi)
      rw [eo]
      have hperm : (pr.toList.map fun i => zs.getD i (0, 0, 0)).Perm zs := by
        have := hp1.map fun i => zs.getD i (0, 0, 0)
        rwa [getD_range] at this
      have hsort : (pr.toList.map fun i => zs.getD i (0, 0, 0)).Pairwise fun z w => lexLe (zP z) (zP w) := by
        rw [List.pairwise_iff_getElem]
        intro i j hi hj hij
        rw [List.length_map] at hi hj
        simp only [List.getElem_map]
        have hsz : pr.size = zs.length := hp1.size
        have hj' : j < zs.length := by rw [← hsz]; simpa using hj
        have hle := hp2.le (Nat.le_of_lt hij) hj'
        unfold Sx.Ky at hle
        have gi : ∀ i (h : i < pr.toList.length), pr.getD i 0 = pr.toList[i] := fun i h => by
          have h' : i < pr.size := by simpa using h
          simp [Array.getD, h']
        rw [gi i hi, gi j hj] at hle
        have hle : rank (zs.map zP) (zP (zs.getD pr.toList[i] (0, 0, 0))) ≤ rank (zs.map zP) (zP (zs.getD pr.toList[j] (0, 0, 0))) := hle
        refine lexLe_of ?_
        cases w : lexLt (zP (zs.getD pr.toList[j] (0, 0, 0))) (zP (zs.getD pr.toList[i] (0, 0, 0))) with
        | false => rfl
        | true =>
          rw [← rank_lt (List.mem_map_of_mem (mz _ (plt _ (List.getElem_mem hj)))) (List.mem_map_of_mem (mz _ (plt _ (List.getElem_mem hi)))), decide_eq_true_iff] at w
          omega
      generalize (pr.toList.map fun i => zs.getD i (0, 0, 0)) = zs' at hperm hsort
      have hlen : zs'.length ≤ sizeLine := small_le (m := 64) (by rw [hperm.length_eq]; omega)
      refine KasFin.intro F' N' (UpdF.head fun q hq => Nat.ne_of_lt (hD q hq)) fun h'' c F'' N'' => ?_
      obtain ⟨hn, I2⟩ := I.newsLaid (t' := s.toks) (o := .lst (zs'.map refZ)) F.ns F'' N'' hD ⟨by rw [List.length_map]; exact hlen, _, c, vals_refs zs', (N'' _ List.mem_cons_self).1⟩
      exact ⟨.ref D, _, I2, rfl, q D zs' hn hperm hsort⟩
  · have hs : (zs.map fun z => Value.ref z.2.2).length < 2 := by rw [List.length_map]; omega
    refine sorted_short pl.isList hs ?_
    obtain ⟨e, he⟩ := sortedAll_at s.heap (zs.map fun z => Value.ref z.2.2) (zs.map fun z => Value.ref z.2.2).toArray
    refine ⟨.ref (s.heap.objs.size + 1), _, I.laid (t' := s.toks) (o := .lst (zs.map refZ)) (fun b o e => sortedAll_old e) (Nat.le_succ _) ⟨by rw [List.length_map]; exact small_le (m := 64) (by omega), _, e, vals_refs zs, by simpa [seqObj] using he⟩, rfl, q _ zs (I.hok.fresh (Nat.le_succ _)) (List.Perm.refl _) ?_⟩
    match zs, h2 with
    | [], _ => exact .nil
    | [z], _ => exact List.pairwise_singleton _ _
    | z :: w :: r, h2 => simp at h2
def rSortedG (K : PySem.W.Frag) : List V → Hp → VK → Prop := fun xs H Q => rSorted K xs H Q ∨ rSortedT K xs H Q
theorem call_sortedG : CallR X (.builtin "sorted") (rSortedG X.K) := call_sorted.or call_sortedT
end
section
variable {X : Cx}
end
end L2
namespace Zl
open PySem PySem.W PyProof.Rows
section
variable {prog : Program} {w : World} {A : Around} {E : Value → Shared → Prop} {s : Shared} {z TI TO i1 i2 l1 l2 : Addr} {xs ys : Array Value} {k : Nat}
abbrev IsOut (h : Heap) (z TI TO T : Addr) (f : Bool) : Prop := h.get? z = some { cls := .type "zip", dict := none, data := .fields #[rawInt T, .bool f, .bool false, .ref TI, .ref TO], slots := #[] }
theorem out_free {T : Addr} {f : Bool} {oT : Obj} {Q : Bool → Shared → Prop} (hz : IsOut s.heap z TI TO T f) (hT : s.heap.get? T = some oT)
    (hQ : ∀ h', IsOut h' z TI TO T true → Heap.SameBut z s.heap h' → Q false { s with heap := h' }) : wpAny (model prog w) A (Builtin.SmallTypes.ownedTupleIsFree (.ref z)) Q E s := by
  unfold Builtin.SmallTypes.ownedTupleIsFree
  refine wpAny_bind (wpAny_field hz rfl (x := rawInt T) rfl ?_)
  unfold rawInt
  dsimp only
  refine wpAny_bind (kdx_alive (a := T) hT ?_)
  simp only [Option.isNone_some, Bool.false_eq_true, if_false]
  refine wpAny_bind (wpAny_field hz rfl (x := .bool f) rfl ?_)
  cases f with
  | true =>
    rw [if_neg (by decide)]
    exact wpAny_pure (hQ s.heap hz ⟨rfl, fun b hb => rfl⟩)
  | false =>
    rw [if_pos (by decide)]
    exact wpAny_bind (wpAny_setField_rec hz (by simp) fun h' hz' hs' => wpAny_pure (hQ h' hz' hs'))
theorem out_item {T : Addr} {f : Bool} {oT : Obj} {x y : Value} {Q : Value → Shared → Prop} (D : ZipApart z TI TO i1 i2 l1 l2) (hz : IsOut s.heap z TI TO T f) (hT : s.heap.get? T = some oT) (hTI : IsPair s.heap TI (.ref i1) (.ref i2))
    (h1 : s.heap.IsListIter i1 l1 k) (h2 : s.heap.IsListIter i2 l2 k) (hl1 : s.heap.IsList l1 xs) (hl2 : s.heap.IsList l2 ys) (hx : xs[k]? = some x) (hy : ys[k]? = some y)
    (hQ : ∀ h', IsOut h' z TI TO T true → h'.IsListIter i1 l1 (k + 1) → h'.IsListIter i2 l2 (k + 1) → IsPair h' s.heap.objs.size x y →
      (∀ c o, c ≠ z → c ≠ i1 → c ≠ i2 → s.heap.get? c = some o → h'.get? c = some o) → Q (.ref s.heap.objs.size) { s with heap := h' }) :
    wpAny (model prog w) A (Builtin.«zip.__next__» ⟨[.ref z], []⟩) (fun fin s' => ∃ v, fin = .done (.ret v) ∧ Q v s') E s := by
  show wpAny _ _ (field (.ref z) 2 >>= _) _ _ _
  refine wpAny_bind (wpAny_field hz rfl (x := .bool false) rfl ?_)
  show wpAny _ _ (field (.ref z) 3 >>= _) _ _ _
  refine wpAny_bind (wpAny_field hz rfl (x := .ref TI) rfl (wpAny_bind (wpAny_seqItems hTI rfl ?_)))
  show wpAny _ _ (Builtin.SmallTypes.ownedTupleIsFree (.ref z) >>= _) _ _ _
  refine wpAny_bind (out_free hz hT fun h₀ z₀ s₀ => ?_)
  simp only [Bool.false_eq_true, if_false]
  refine wpAny_bind ?_
  rw [← Array.forIn_toList]
  simp only [List.forIn_cons, List.forIn_nil]
  refine wpAny_bind (wpAny_bind (wpAny_holding ?_))
  show wpAny _ _ (Builtin.SmallTypes.nextOf (.ref i1) >>= _) _ _ _
  refine wpAny_bind (wpAny_nextOf_list_item (s := { s with heap := h₀ }) (h1.extBut s₀.extBut D.i1z) (hl1.extBut s₀.extBut D.l1z) hx fun h₁ j₁ s₁ => wpAny_pure (wpAny_pure ?_))
  refine wpAny_bind (wpAny_bind (wpAny_holding ?_))
  show wpAny _ _ (Builtin.SmallTypes.nextOf (.ref i2) >>= _) _ _ _
  refine wpAny_bind (wpAny_nextOf_list_item (s := { s with heap := h₁ }) ((h2.extBut s₀.extBut D.i2z).extBut s₁.extBut D.i12.symm) ((hl2.extBut s₀.extBut D.l2z).extBut s₁.extBut D.l2i1) hy fun h₂ j₂ s₂ => wpAny_pure (wpAny_pure (wpAny_pure ?_)))
  have sz : h₂.objs.size = s.heap.objs.size := by rw [s₂.1, s₁.1, s₀.1]
  have zz : IsOut h₂ z TI TO T true := s₂.extBut _ _ D.i2z.symm (s₁.extBut _ _ D.i1z.symm z₀)
  have kp : ∀ c o, c ≠ z → c ≠ i1 → c ≠ i2 → s.heap.get? c = some o → h₂.get? c = some o := fun c o c1 c2 c3 e => s₂.extBut _ _ c3 (s₁.extBut _ _ c2 (s₀.extBut _ _ c1 e))
  refine wpAny_bind (wpAny_newTuple ?_ (by show 2 ≤ sizeLine; exact L2.small_le (m := 2) (Nat.le_refl 2)))
  refine wpAny_pure ⟨_, rfl, ?_⟩
  show Q (.ref h₂.objs.size) { s with heap := h₂.push { cls := .type "tuple", data := .seq #[x, y] } }
  rw [sz]
  refine hQ _ (Heap.get?_push_of_some _ zz) ((Heap.IsListIter.extBut j₁ s₂.extBut D.i12).at fun o e => Heap.get?_push_of_some _ e) (j₂.at fun o e => Heap.get?_push_of_some _ e) (by rw [← sz]; exact Heap.get?_push_size _ rfl) fun c o c1 c2 c3 e => Heap.get?_push_of_some _ (kp c o c1 c2 c3 e)
theorem out_end {T : Addr} {f : Bool} {oT : Obj} {Q : PySem.Fin → Shared → Prop} (hh : A.handled = none) (D : ZipApart z TI TO i1 i2 l1 l2) (hz : IsOut s.heap z TI TO T f) (hT : s.heap.get? T = some oT) (hTI : IsPair s.heap TI (.ref i1) (.ref i2))
    (h1 : s.heap.IsListIter i1 l1 k) (h2 : s.heap.IsListIter i2 l2 k) (hl1 : s.heap.IsList l1 xs) (hl2 : s.heap.IsList l2 ys) (hend : xs[k]? = none ∨ ys[k]? = none)
    (hE : ∀ h' e, (∀ c o, c ≠ z → c ≠ i1 → c ≠ i2 → s.heap.get? c = some o → h'.get? c = some o) → (∃ o, h'.get? e = some o ∧ o.cls = .type "StopIteration") → E (.ref e) { s with heap := h' }) :
    wpAny (model prog w) A (Builtin.«zip.__next__» ⟨[.ref z], []⟩) Q E s := by
  show wpAny _ _ (field (.ref z) 2 >>= _) _ _ _
  refine wpAny_bind (wpAny_field hz rfl (x := .bool false) rfl ?_)
  show wpAny _ _ (field (.ref z) 3 >>= _) _ _ _
  refine wpAny_bind (wpAny_field hz rfl (x := .ref TI) rfl (wpAny_bind (wpAny_seqItems hTI rfl ?_)))
  show wpAny _ _ (Builtin.SmallTypes.ownedTupleIsFree (.ref z) >>= _) _ _ _
  refine wpAny_bind (out_free hz hT fun h₀ z₀ s₀ => ?_)
  simp only [Bool.false_eq_true, if_false]
  refine wpAny_bind ?_
  rw [← Array.forIn_toList]
  simp only [List.forIn_cons, List.forIn_nil]
  refine wpAny_bind (wpAny_bind (wpAny_holding ?_))
  show wpAny _ _ (Builtin.SmallTypes.nextOf (.ref i1) >>= _) _ _ _
  cases hx : xs[k]? with
  | none => exact wpAny_bind (wpAny_nextOf_list_end (s := { s with heap := h₀ }) hh (h1.extBut s₀.extBut D.i1z) (hl1.extBut s₀.extBut D.l1z) hx fun h₁ e s₁ he => hE h₁ e (fun c o c1 c2 c3 q => s₁ _ _ c2 (s₀.extBut _ _ c1 q)) he)
  | some x =>
    have hy : ys[k]? = none := by rcases hend with q | q; rw [hx] at q; cases q; exact q
    refine wpAny_bind (wpAny_nextOf_list_item (s := { s with heap := h₀ }) (h1.extBut s₀.extBut D.i1z) (hl1.extBut s₀.extBut D.l1z) hx fun h₁ j₁ s₁ => wpAny_pure (wpAny_pure ?_))
    refine wpAny_bind (wpAny_bind (wpAny_holding ?_))
    show wpAny _ _ (Builtin.SmallTypes.nextOf (.ref i2) >>= _) _ _ _
    exact wpAny_bind (wpAny_nextOf_list_end (s := { s with heap := h₁ }) hh ((h2.extBut s₀.extBut D.i2z).extBut s₁.extBut D.i12.symm) ((hl2.extBut s₀.extBut D.l2z).extBut s₁.extBut D.l2i1) hy fun h₂ e s₂ he =>
      hE h₂ e (fun c o c1 c2 c3 q => s₂ _ _ c3 (s₁.extBut _ _ c2 (s₀.extBut _ _ c1 q))) he)
structure ZS (h : Heap) (z TI TO i1 i2 l1 l2 S : Addr) (xs ys : Array Value) (k : Nat) : Prop where
  zz : (k = 0 ∧ IsZip h z TI TO .none ∧ ∃ a b, IsPair h TO a b) ∨ ∃ T f oT, IsOut h z TI TO T f ∧ h.get? T = some oT ∧ T ≠ z ∧ T ≠ i1 ∧ T ≠ i2 ∧ T ≠ S
  ti : IsPair h TI (.ref i1) (.ref i2)
  a1 : h.IsListIter i1 l1 k
  a2 : h.IsListIter i2 l2 k
  b1 : h.IsList l1 xs
  b2 : h.IsList l2 ys
structure Off (z TI TO i1 i2 l1 l2 S : Addr) : Prop where
  z : z ≠ S
  ti : TI ≠ S
  to : TO ≠ S
  i1 : i1 ≠ S
  i2 : i2 ≠ S
  l1 : l1 ≠ S
  l2 : l2 ≠ S
theorem ZS.keep {h h' : Heap} {S : Addr} (x : ZS h z TI TO i1 i2 l1 l2 S xs ys k) (O : Off z TI TO i1 i2 l1 l2 S) (hk : ∀ b o, b ≠ S → h.get? b = some o → h'.get? b = some o) : ZS h' z TI TO i1 i2 l1 l2 S xs ys k where
  zz := by
    rcases x.zz with ⟨e, hz, a, b, hp⟩ | ⟨T, f, oT, hz, hT, n1, n2, n3, n4⟩
    · exact .inl ⟨e, hk _ _ O.z hz, a, b, hk _ _ O.to hp⟩
    · exact .inr ⟨T, f, oT, hk _ _ O.z hz, hk _ _ n4 hT, n1, n2, n3, n4⟩
  ti := hk _ _ O.ti x.ti
  a1 := x.a1.at fun o e => hk _ o O.i1 e
  a2 := x.a2.at fun o e => hk _ o O.i2 e
  b1 := x.b1.at fun o e => hk _ o O.l1 e
  b2 := x.b2.at fun o e => hk _ o O.l2 e
theorem ZS.item {S : Addr} {x y : Value} {Q : Option Value → Shared → Prop} (D : ZipApart z TI TO i1 i2 l1 l2) (st : ZS s.heap z TI TO i1 i2 l1 l2 S xs ys k) (hS : S < s.heap.objs.size) (hx : xs[k]? = some x) (hy : ys[k]? = some y)
    (hQ : ∀ h', ZS h' z TI TO i1 i2 l1 l2 S xs ys (k + 1) → IsPair h' s.heap.objs.size x y → (∀ c o, c ≠ z → c ≠ TO → c ≠ i1 → c ≠ i2 → s.heap.get? c = some o → h'.get? c = some o) → Q (some (.ref s.heap.objs.size)) { s with heap := h' }) :
    wpAny (model prog w) A (pyNext (.ref z)) Q E s := by
  have lt1 : i1 < s.heap.objs.size := by obtain ⟨_, e, _⟩ := st.a1; exact Heap.lt_size e
  have lt2 : i2 < s.heap.objs.size := by obtain ⟨_, e, _⟩ := st.a2; exact Heap.lt_size e
  rcases st.zz with ⟨e, hz, a, b, hp⟩ | ⟨T, f, oT, hz, hT, n1, n2, n3, n4⟩
  · refine wpAny_pyNext_zip_item D hz st.ti hp st.a1 st.a2 st.b1 st.b2 hx hy fun h' q1 q2 q3 q4 q5 q6 q7 => ?_
    refine hQ h' ⟨.inr ⟨_, false, _, q1, q5, Nat.ne_of_gt (Heap.lt_size hz), Nat.ne_of_gt lt1, Nat.ne_of_gt lt2, Nat.ne_of_gt hS⟩, q7 _ _ D.TIz D.TITO D.TIi1 D.TIi2 st.ti, q3, q4, st.b1.at fun o e => q7 _ o D.l1z D.l1TO D.l1i1 D.l1i2 e, st.b2.at fun o e => q7 _ o D.l2z D.l2TO D.l2i1 D.l2i2 e⟩ q5 q7
  · have ty : s.TypeIs (.ref z) "zip" := ⟨_, hz, rfl⟩
    unfold pyNext
    refine wpAny_bind (wpAny_attempt (wpAny_callSpecial?_slot (name := Str.ofString "__next__") ty F.slot_zip_next (wpAny_call_entry F.slot_zip_next ty F.entry_zip_next
      (out_item D hz hT st.ti st.a1 st.a2 st.b1 st.b2 hx hy fun h' q1 q3 q4 q5 q7 => wpAny_pure ?_) (F.args_zip_next_1 _))))
    refine hQ h' ⟨.inr ⟨T, true, oT, q1, q7 _ _ n1 n2 n3 hT, n1, n2, n3, n4⟩, q7 _ _ D.TIz D.TIi1 D.TIi2 st.ti, q3, q4, st.b1.at fun o e => q7 _ o D.l1z D.l1i1 D.l1i2 e, st.b2.at fun o e => q7 _ o D.l2z D.l2i1 D.l2i2 e⟩ q5 fun c o c1 _ c3 c4 e => q7 c o c1 c3 c4 e
theorem ZS.done {S : Addr} {Q : Option Value → Shared → Prop} (hh : A.handled = none) (D : ZipApart z TI TO i1 i2 l1 l2) (st : ZS s.heap z TI TO i1 i2 l1 l2 S xs ys k) (hend : xs[k]? = none ∨ ys[k]? = none)
    (hQ : ∀ h', (∀ c o, c ≠ z → c ≠ TO → c ≠ i1 → c ≠ i2 → s.heap.get? c = some o → h'.get? c = some o) → Q none { s with heap := h' }) : wpAny (model prog w) A (pyNext (.ref z)) Q E s := by
  rcases st.zz with ⟨e, hz, a, b, hp⟩ | ⟨T, f, oT, hz, hT, n1, n2, n3, n4⟩
  · exact wpAny_pyNext_zip_end hh D hz st.ti hp st.a1 st.a2 st.b1 st.b2 hend hQ
  · have ty : s.TypeIs (.ref z) "zip" := ⟨_, hz, rfl⟩
    unfold pyNext
    refine wpAny_bind (wpAny_attempt (wpAny_callSpecial?_slot (name := Str.ofString "__next__") ty F.slot_zip_next (wpAny_call_entry F.slot_zip_next ty F.entry_zip_next
      (out_end hh D hz hT st.ti st.a1 st.a2 st.b1 st.b2 hend fun h' e hk he => ?_) (F.args_zip_next_1 _))))
    obtain ⟨o, ho, hc⟩ := he
    exact wpAny_bind (wpAny_isInstance (T := "StopIteration") (b := true) ⟨o, ho, hc⟩ isSubtype_stop (wpAny_pure (hQ _ fun c o c1 _ c3 c4 q => hk c o c1 c3 c4 q)))
structure Made (h : Heap) (lo : Addr) (xs ys : Array Value) (as : List Addr) : Prop where
  up : as.Pairwise (· < ·)
  lo : ∀ a ∈ as, lo < a
  pr : ∀ (j : Nat) (a : Addr), as[j]? = some a → ∃ x y, xs[j]? = some x ∧ ys[j]? = some y ∧ IsPair h a x y
theorem loop {S n : Nat} {R : Result → Shared → Prop} (hh : A.handled = none) (D : ZipApart z TI TO i1 i2 l1 l2) (O : Off z TI TO i1 i2 l1 l2 S) (hn : min xs.size ys.size = n) (hn2 : n ≤ 100000) (res : Value) (lo : Addr) (hlo : z ≤ lo ∧ TO ≤ lo ∧ i1 ≤ lo ∧ i2 ≤ lo ∧ S ≤ lo) {h₀ : Heap}
    (hR : ∀ h' tk acc c as, (∀ b o, b ≠ S → b ≠ z → b ≠ TO → b ≠ i1 → b ≠ i2 → h₀.get? b = some o → h'.get? b = some o) → h'.get? S = some { cls := .type "list", dict := none, data := .seq acc c, slots := #[] } → acc.toList = as.map Value.ref → as.length = n → Made h' lo xs ys as → R (.ok (.ret res)) { s with heap := h', toks := tk }) :
    ∀ (m i : Nat) (h : Heap) (tk c : Nat) (acc : Array Value) (as : List Addr), n - i = m → i ≤ n → ZS h z TI TO i1 i2 l1 l2 S xs ys i → (∀ b o, b ≠ S → b ≠ z → b ≠ TO → b ≠ i1 → b ≠ i2 → h₀.get? b = some o → h.get? b = some o) →
      h.get? S = some { cls := .type "list", dict := none, data := .seq acc c, slots := #[] } → acc.toList = as.map Value.ref → as.length = i → Made h lo xs ys as → lo < h.objs.size →
      codeAny (model prog w) A (.builtin "list.extend.loop" ⟨[.ref S, .ref z, res], []⟩) R { s with heap := h, toks := tk } := by
  intro m
  induction m with
  | zero =>
    intro i h tk c acc as hm hi st kp hS hacc hal hM hlh
    have ei : i = n := by omega
    subst ei
    refine codeAny_builtin PySem.F.entry_extend_loop ?_
    rw [Around.under_plainId PySem.F.plain_extend_loop _]
    show wpAny _ A.in1 (pyNext (.ref z) >>= _) _ _ _
    have hend : xs[i]? = none ∨ ys[i]? = none := by
      by_cases q : xs.size ≤ i
      · exact .inl (Array.getElem?_eq_none q)
      · exact .inr (Array.getElem?_eq_none (by omega))
    refine wpAny_bind (ZS.done (s := { s with heap := h, toks := tk }) (A := A.in1) hh D st hend fun h' he => ?_)
    refine wpAny_pure (hR h' tk acc c as (fun b o b1 b2 b3 b4 b5 e => he b o b2 b3 b4 b5 (kp b o b1 b2 b3 b4 b5 e)) (he S _ (Ne.symm O.z) (Ne.symm O.to) (Ne.symm O.i1) (Ne.symm O.i2) hS) hacc hal ⟨hM.up, hM.lo, fun j a hj => ?_⟩)
    obtain ⟨x, y, q1, q2, q3⟩ := hM.pr j a hj
    have far : ∀ {b : Addr}, b ≤ lo → a ≠ b := fun hb => Nat.ne_of_gt (Nat.lt_of_le_of_lt hb (hM.lo a (List.mem_of_getElem? hj)))
    exact ⟨x, y, q1, q2, he a _ (far hlo.1) (far hlo.2.1) (far hlo.2.2.1) (far hlo.2.2.2.1) q3⟩
  | succ m ih =>
    intro i h tk c acc as hm hi st kp hS hacc hal hM hlh
    have hlt : i < n := by omega
    obtain ⟨x, hx⟩ : ∃ x, xs[i]? = some x := ⟨_, Array.getElem?_eq_getElem (by omega)⟩
    obtain ⟨y, hy⟩ : ∃ y, ys[i]? = some y := ⟨_, Array.getElem?_eq_getElem (by omega)⟩
    refine codeAny_builtin PySem.F.entry_extend_loop ?_
    rw [Around.under_plainId PySem.F.plain_extend_loop _]
    show wpAny _ A.in1 (pyNext (.ref z) >>= _) _ _ _
    refine wpAny_bind (ZS.item (s := { s with heap := h, toks := tk }) (A := A.in1) D st (Heap.lt_size hS) hx hy fun h' st' hp kk => ?_)
    have hS' := kk S _ (Ne.symm O.z) (Ne.symm O.to) (Ne.symm O.i1) (Ne.symm O.i2) hS
    have hsz : acc.size = i := by rw [← Array.length_toList, hacc, List.length_map, hal]
    show wpAny _ A.in1 (updateSeq S (·.push (Value.ref h.objs.size)) >>= _) _ _ _
    refine wpAny_bind (wpAny_updateSeq hS' rfl (wpAny_pure ⟨plainId_quiet PySem.F.plain_extend_loop _, ?_⟩) (by rw [hsz]; exact L2.small_le (m := 100000) (by omega)) (by rw [Array.size_push, hsz]; exact Nat.le_succ_of_le (L2.small_le (m := 100000) (by omega))))
    have oth : ∀ b o, b ≠ S → h'.get? b = some o → (h'.update S (Obj.mapSeq (·.push (Value.ref h.objs.size)))).get? b = some o := fun b o hb e => (Heap.get?_update_other _ _ (Ne.symm hb)).trans e
    have hnS : h.objs.size ≠ S := Nat.ne_of_gt (Heap.lt_size hS)
    refine ih (i + 1) _ tk _ (acc.push (Value.ref h.objs.size)) (as ++ [h.objs.size]) (by omega) hlt (st'.keep O oth) (fun b o b1 b2 b3 b4 b5 e => oth b o b1 (kk b o b2 b3 b4 b5 (kp b o b1 b2 b3 b4 b5 e))) (Heap.get?_update_self _ hS' rfl) (by rw [Array.toList_push, hacc, List.map_append]; rfl) (by rw [List.length_append, hal]; rfl) ⟨?_, fun a ha => ?_, fun j a hj => ?_⟩ ?_
    · refine List.pairwise_append.mpr ⟨hM.up, List.pairwise_singleton _ _, fun a ha b hb => ?_⟩
      rw [List.mem_singleton.mp hb]
      obtain ⟨j, hj⟩ := List.mem_iff_getElem?.mp ha
      obtain ⟨_, _, _, _, q⟩ := hM.pr j a hj
      exact Heap.lt_size q
    · rcases List.mem_append.mp ha with q | q
      · exact hM.lo a q
      · rw [List.mem_singleton.mp q]; exact hlh
    · by_cases q : j < as.length
      · rw [List.getElem?_append_left q] at hj
        obtain ⟨x', y', q1, q2, q3⟩ := hM.pr j a hj
        have far : ∀ {b : Addr}, b ≤ lo → a ≠ b := fun hb => Nat.ne_of_gt (Nat.lt_of_le_of_lt hb (hM.lo a (List.mem_of_getElem? hj)))
        exact ⟨x', y', q1, q2, oth a _ (far hlo.2.2.2.2) (kk a _ (far hlo.1) (far hlo.2.1) (far hlo.2.2.1) (far hlo.2.2.2.1) q3)⟩
      · rw [List.getElem?_append_right (by omega)] at hj
        have ej : j - as.length = 0 := by
          by_cases w : j - as.length = 0
          · exact w
          · rw [List.getElem?_eq_none (by simp; omega)] at hj; cases hj
        rw [ej] at hj
        have ea : h.objs.size = a := by simpa using hj
        have ej' : j = i := by omega
        subst ea ej'
        exact ⟨x, y, hx, hy, oth _ _ hnS hp⟩
    · rw [Heap.size_update]
      exact Nat.lt_of_lt_of_le hlh (Nat.le_of_lt (Heap.lt_size hp))
theorem no_len : typeLookup (.type "zip") "__len__" = pure none := by rw [typeLookup_type, builtinLookup_eq_fast]; kernel_rfl
theorem no_hint : typeLookup (.type "zip") "__length_hint__" = pure none := by rw [typeLookup_type, builtinLookup_eq_fast]; kernel_rfl
theorem hint {Q : Bool → Shared → Prop} (ty : s.TypeIs (.ref z) "zip") (h : Q true s) : wpAny (model prog w) A (Builtin.List.listLengthHint (.ref z)) Q E s := by
  unfold Builtin.List.listLengthHint
  refine wpAny_bind (wpAny_specialOf ty no_len ?_)
  refine wpAny_bind (wpAny_specialOf ty no_hint ?_)
  exact wpAny_pure h
theorem extend {S c₀ n : Nat} {R : Result → Shared → Prop} {va vb : Value} (hh : A.handled = none) (D : ZipApart z TI TO i1 i2 l1 l2) (O : Off z TI TO i1 i2 l1 l2 S) (hn : min xs.size ys.size = n) (hn2 : n ≤ 100000) (res : Value) (hz : IsZip s.heap z TI TO .none) (hTO : IsPair s.heap TO va vb)
    (st : ZS s.heap z TI TO i1 i2 l1 l2 S xs ys 0) (hS : s.heap.get? S = some { cls := .type "list", data := .seq #[] c₀ })
    (hR : ∀ h' tk acc c as, (∀ b o, b ≠ S → b ≠ z → b ≠ TO → b ≠ i1 → b ≠ i2 → s.heap.get? b = some o → h'.get? b = some o) → h'.get? S = some { cls := .type "list", dict := none, data := .seq acc c, slots := #[] } → acc.toList = as.map Value.ref → as.length = n → Made h' (s.heap.objs.size - 1) xs ys as → R (.ok (.ret res)) { s with heap := h', toks := tk }) :
    wpAny (model prog w) A.in1 (Builtin.List.listExtendWith (.ref S) (.ref z) res) (fun fin s' => match fin with | .done f => R (.ok f) s' | .again c' => c'.quiet = true ∧ codeAny (model prog w) A c' R s') (fun e s' => R (.error e) s') s := by
  have ty : s.TypeIs (.ref z) "zip" := ⟨_, hz, rfl⟩
  have lts : ∀ {b : Addr} {o : Obj}, s.heap.get? b = some o → b ≤ s.heap.objs.size - 1 := fun e => Nat.le_sub_one_of_lt (Heap.lt_size e)
  have lt1 : i1 ≤ s.heap.objs.size - 1 := by obtain ⟨_, e, _⟩ := st.a1; exact lts e
  have lt2 : i2 ≤ s.heap.objs.size - 1 := by obtain ⟨_, e, _⟩ := st.a2; exact lts e
  have pos : 0 < s.heap.objs.size := Nat.lt_of_le_of_lt (Nat.zero_le _) (Heap.lt_size hz)
  have key : ∀ (h : Heap) (c₁ tk : Nat), h.objs.size = s.heap.objs.size → (∀ b o, b ≠ S → s.heap.get? b = some o → h.get? b = some o) → h.get? S = some { cls := .type "list", data := .seq #[] c₁ } →
      codeAny (model prog w) A (.builtin "list.extend.loop" ⟨[.ref S, .ref z, res], []⟩) R { s with heap := h, toks := tk } := fun h c₁ tk hsz kp hS₁ =>
    loop (h₀ := s.heap) hh D O hn hn2 res (s.heap.objs.size - 1) ⟨lts hz, lts hTO, lt1, lt2, lts hS⟩ hR n 0 h tk c₁ #[] [] rfl (Nat.zero_le _) (st.keep O kp) (fun b o b1 _ _ _ _ e => kp b o b1 e) hS₁ rfl rfl ⟨List.Pairwise.nil, (fun a ha => nomatch ha), fun j a hj => by simp at hj⟩ (by rw [hsz]; exact Nat.sub_lt pos (by decide))
  unfold Builtin.List.listExtendWith
  refine wpAny_bind (wpAny_typeOf (T := "zip") ty ?_)
  have e1 : Builtin.List.listSameRef (.ref S) (.ref z) = false := by simp [Builtin.List.listSameRef, Ne.symm O.z]
  have e2 : (Value.type "zip" == Value.type "list") = false := by decide
  have e3 : (Value.type "zip" == Value.type "tuple") = false := by decide
  simp only [e1, e2, e3, Bool.or_false, Bool.false_eq_true, if_false]
  refine wpAny_bind (wpAny_pyIter_zip hz (wpAny_bind (wpAny_holding (hint ty ?_))))
  refine wpAny_ite_split (fun _ => wpAny_bind (wpAny_rule (wpAny_bind ?_))) (fun _ => wpAny_pure ⟨plainId_quiet PySem.F.plain_extend_loop _, key _ c₀ _ rfl (fun b o _ e => e) hS⟩)
  show wpAny _ _ (updateSeq S (·.push .none) >>= fun _ => updateSeq S (·.pop)) _ _ _
  have g₂ := Heap.get?_update_self (Obj.mapSeq (·.push Value.none)) hS rfl
  have g₃ := Heap.get?_update_self (Obj.mapSeq (·.pop)) g₂ rfl
  refine wpAny_bind (wpAny_updateSeq hS rfl (wpAny_updateSeq (hz := by seq_fits) g₂ rfl (wpAny_pure ⟨plainId_quiet PySem.F.plain_extend_loop _, key _ _ _ ?_ (fun b o hb e => ?_) g₃⟩)))
  · rw [Heap.size_update, Heap.size_update]
  · exact (Heap.get?_update_other _ _ (Ne.symm hb)).trans ((Heap.get?_update_other _ _ (Ne.symm hb)).trans e)
theorem call_list {n : Nat} {Q : Value → Shared → Prop} {va vb : Value} (hh : A.handled = none) (D : ZipApart z TI TO i1 i2 l1 l2) (hn : min xs.size ys.size = n) (hn2 : n ≤ 100000) (hz : IsZip s.heap z TI TO .none) (hTO : IsPair s.heap TO va vb) (hTI : IsPair s.heap TI (.ref i1) (.ref i2))
    (a1 : s.heap.IsListIter i1 l1 0) (a2 : s.heap.IsListIter i2 l2 0) (b1 : s.heap.IsList l1 xs) (b2 : s.heap.IsList l2 ys)
    (hQ : ∀ h' tk acc c as, (∀ b o, b ≠ z → b ≠ TO → b ≠ i1 → b ≠ i2 → s.heap.get? b = some o → h'.get? b = some o) → h'.get? s.heap.objs.size = some { cls := .type "list", dict := none, data := .seq acc c, slots := #[] } → acc.toList = as.map Value.ref → as.length = n → Made h' s.heap.objs.size xs ys as → Q (.ref s.heap.objs.size) { s with heap := h', toks := tk }) :
    wpAny (model prog w) A (call (.type "list") [.ref z]) Q E s := by
  refine callType_codes (Q₁ := fun obj s₁ => obj = .ref s.heap.objs.size ∧ s₁ = { s with heap := s.heap.push { cls := .type "list", data := .seq #[] } }) PySem.F.called_list (PySem.F.typeCall_list_1 _) PySem.F.entry_list_init (code_list_new _ ⟨rfl, rfl⟩) ?_
  rintro obj s₁ ⟨rfl, rfl⟩
  have hS : (s.heap.push { cls := .type "list", data := .seq #[] }).get? s.heap.objs.size = some { cls := .type "list", data := .seq #[] } := Heap.get?_push_size _ rfl
  refine ⟨⟨_, hS, rfl⟩, PySem.F.args_list_init_2 _ _, ?_⟩
  have ne : ∀ {b : Addr} {o : Obj}, s.heap.get? b = some o → b ≠ s.heap.objs.size := fun e => Nat.ne_of_lt (Heap.lt_size e)
  have O : Off z TI TO i1 i2 l1 l2 s.heap.objs.size := ⟨ne hz, ne hTI, ne hTO, by obtain ⟨_, e, _⟩ := a1; exact ne e, by obtain ⟨_, e, _⟩ := a2; exact ne e, by obtain ⟨_, e, _⟩ := b1; exact ne e, by obtain ⟨_, e, _⟩ := b2; exact ne e⟩
  show wpAny _ _ (do let old ← Builtin.List.listItems (.ref s.heap.objs.size); Builtin.List.listUpdate (.ref s.heap.objs.size) (fun _ => #[]); letGo old.toList.reverse; Builtin.List.listExtendWith (.ref s.heap.objs.size) (.ref z) .none) _ _ _
  refine wpAny_bind (listItems_at hS rfl (wpAny_bind (listUpdate_at hS rfl (wpAny_bind (wpAny_letGo ?_)) (Nat.zero_le _) (Nat.zero_le _))))
  have g₂ := Heap.get?_update_self (Obj.mapSeq (fun _ => (#[] : Array Value))) hS rfl
  have kp : ∀ b o, s.heap.get? b = some o → ((s.heap.push { cls := .type "list", data := .seq #[] }).update s.heap.objs.size (Obj.mapSeq (fun _ => (#[] : Array Value)))).get? b = some o := fun b o e => (Heap.get?_update_other _ _ (Ne.symm (ne e))).trans (Heap.get?_push_of_some _ e)
  have sz : ((s.heap.push { cls := .type "list", data := .seq #[] }).update s.heap.objs.size (Obj.mapSeq (fun _ => (#[] : Array Value)))).objs.size - 1 = s.heap.objs.size := by rw [Heap.size_update, Heap.size_push]; rfl
  refine extend (s := { s with heap := (s.heap.push { cls := .type "list", data := .seq #[] }).update s.heap.objs.size (Obj.mapSeq (fun _ => (#[] : Array Value))) }) (A := A.in1) hh D O hn hn2 .none (kp _ _ hz) (kp _ _ hTO) ⟨.inl ⟨rfl, kp _ _ hz, _, _, kp _ _ hTO⟩, kp _ _ hTI, a1.at fun o e => kp _ o e, a2.at fun o e => kp _ o e, b1.at fun o e => kp _ o e, b2.at fun o e => kp _ o e⟩ g₂ fun h' tk acc c as k1 k2 k3 k4 k5 => ?_
  have k5' : Made h' s.heap.objs.size xs ys as := sz ▸ k5
  exact ⟨rfl, hQ h' tk acc c as (fun b o c1 c2 c3 c4 e => k1 b o (ne e) c1 c2 c3 c4 (kp b o e)) k2 k3 k4 k5'⟩
end
end Zl
namespace L2
open PySem PySem.Spec PyProof.Rows PySem.W
section
variable {X : Cx} {pins : List (Addr × Obj)} {σ : St} {H H' : Hp} {s : Shared}
theorem Inv.grow {h' : Heap} {t' : Nat} (I : Inv X pins σ H s) (k : ∀ b u, s.heap.get? b = some u → h'.get? b = some u) (sub : Same H H') (new : ∀ b, b < s.heap.objs.size → H b = none → H' b = none) (ok : HOk X.prog X.w H' h') : Inv X pins σ H' { s with heap := h', toks := t' } :=
  I.un ⟨fun b o e _ _ _ => k b o e, fun b o e _ _ _ => ⟨o.slots, k b o e⟩, fun b o e n _ => new b (Heap.lt_size e) n, fun b o e _ => ⟨o, k b o e⟩, fun b _ e => sub _ _ e, fun b _ _ e => sub _ _ e, fun b ps e => ⟨#[], by rw [sub _ _ e]; simp⟩⟩ ok
end
def updZ (H : Hp) (zs : List Zt) : Hp := fun b => match zs.find? (fun z => z.2.2 == b) with | some z => some (.tup [.int z.1, .int z.2.1]) | none => H b
theorem updZ_old {H : Hp} {zs : List Zt} {b : Addr} (h : ∀ z ∈ zs, z.2.2 ≠ b) : updZ H zs b = H b := by
  unfold updZ
  rw [List.find?_eq_none.mpr fun z hz => by simpa using h z hz]
theorem updZ_new {H : Hp} : ∀ {zs : List Zt} {z : Zt}, (zs.map fun z => z.2.2).Nodup → z ∈ zs → updZ H zs z.2.2 = some (.tup [.int z.1, .int z.2.1])
  | y :: zs, z, hn, hz => by
    unfold updZ
    rw [List.map_cons, List.nodup_cons] at hn
    rcases List.mem_cons.mp hz with e | hz
    · subst e
      rw [List.find?_cons_of_pos (by simp)]
    · have hne : ¬ (y.2.2 == z.2.2) = true := fun q => hn.1 (by
        have e : y.2.2 = z.2.2 := by simpa using q
        rw [e]; exact List.mem_map_of_mem hz)
      rw [List.find?_cons_of_neg (p := fun w : Zt => w.2.2 == z.2.2) hne]
      exact updZ_new hn.2 hz
def tZipL (K : PySem.W.Frag) (t : TA) : TE := fun σ H Q => t σ H fun vs H1 => ∃ (a b : Addr) (ns ms : List Int), vs = [.ref a, .ref b] ∧ SqL K H1 a (ns.map V.int) ∧ SqL K H1 b (ms.map V.int) ∧ ns.length ≤ 100000 ∧
  ∀ (l : Addr) (zs : List Zt) (H2 : Hp), Same H1 H2 → H1 l = none → H2 l = some (.lst (zs.map refZ)) → (∀ z ∈ zs, PairAt H2 z) → zs.map zP = ns.zip ms → Q (.ref l) H2
theorem ints_at : ∀ {vs : List Value} {ns : List Int} {j : Nat} {v : Value}, IntsAre vs ns → vs[j]? = some v → ∃ i t, ns[j]? = some i ∧ v = .int i t
  | _, _, 0, v, .cons n t r, e => by simp at e; exact ⟨n, t, rfl, e.symm⟩
  | _, _, j + 1, v, .cons n t r, e => ints_at (j := j) r (by simpa using e)
  | _, _, j, v, .nil, e => by simp at e
theorem pairs_of {h : Heap} {lo : Addr} {xs ys : List Value} {ns ms : List Int} (hx : IntsAre xs ns) (hy : IntsAre ys ms) : ∀ {as : List Addr}, (∀ (j : Nat) (a : Addr), as[j]? = some a → ∃ x y, xs.toArray[j]? = some x ∧ ys.toArray[j]? = some y ∧ IsPair h a x y) → as.length = min ns.length ms.length →
    ∃ zs : List Zt, zs.map (fun z => z.2.2) = as ∧ zs.map zP = ns.zip ms ∧ ∀ z ∈ zs, ∃ t u, IsPair h z.2.2 (.int z.1 t) (.int z.2.1 u) := by
  intro as hp hl
  have hlx := hx.length
  have hly := hy.length
  refine ⟨(ns.zip ms).zipWith (fun t a => (t.1, t.2, a)) as, ?_, ?_, fun z hz => ?_⟩
  · apply List.ext_getElem?
    intro j
    rw [List.getElem?_map, List.getElem?_zipWith]
    by_cases hj : j < as.length
    · rw [List.getElem?_eq_getElem hj, List.getElem?_eq_getElem (by rw [List.length_zip]; omega)]; rfl
    · rw [List.getElem?_eq_none (Nat.le_of_not_lt hj)]
      cases (ns.zip ms)[j]? <;> rfl
  · apply List.ext_getElem?
    intro j
    rw [List.getElem?_map, List.getElem?_zipWith]
    by_cases hj : j < as.length
    · rw [List.getElem?_eq_getElem hj, List.getElem?_eq_getElem (by rw [List.length_zip]; omega)]; rfl
    · rw [List.getElem?_eq_none (Nat.le_of_not_lt hj), List.getElem?_eq_none (by rw [List.length_zip]; omega)]; rfl
  · obtain ⟨j, hj⟩ := List.mem_iff_getElem?.mp hz
    rw [List.getElem?_zipWith] at hj
    cases ea : as[j]? with
    | none =>
      rw [ea] at hj
      cases ew : (ns.zip ms)[j]? with
      | none => rw [ew] at hj; cases hj
      | some w => rw [ew] at hj; cases hj
    | some a =>
      obtain ⟨x, y, q1, q2, q3⟩ := hp j a ea
      obtain ⟨i, t, e1, rfl⟩ := ints_at (j := j) hx (by simpa using q1)
      obtain ⟨i', u, e2, rfl⟩ := ints_at (j := j) hy (by simpa using q2)
      have ez : (ns.zip ms)[j]? = some (i, i') := by rw [List.getElem?_zip_eq_some]; exact ⟨e1, e2⟩
      rw [ea, ez] at hj
      have : z = (i, i', a) := (Option.some.inj hj).symm
      subst this
      exact ⟨t, u, q3⟩
section
variable {X : Cx} {x y : Expr} {t : TA} {p1 p2 q1 q2 : Pos}
theorem pe_zipL (hc : X.calm = true) (hgl : Gl X "list") (hml : X.mg "list" = none) (hgz : Gl X "zip") (hmz : X.mg "zip" = none) (ha : PA X [x, y] t)
    (he : starEach [.Call (.Name "zip" p1) [x, y] [] p2] X.env = [(false, eval (.Call (.Name "zip" p1) [x, y] [] p2) X.env)] := by rfl) (he2 : starEach [x, y] X.env = (false, eval x X.env) :: starEach [y] X.env := by rfl) (hpl : (backTo p2 (starEach [y] X.env)).any (·.1) = false := by rfl) :
    PE X (.Call (.Name "list" q1) [.Call (.Name "zip" p1) [x, y] [] p2] [] q2) (tZipL X.K t) := by
  intro pins s σ H Q I h
  refine wpAny_Call_Name_kw (ld_blt I hgl hml BootT.list (PyProof.Rows.callWith_type1 ?_ he rfl))
  rw [he]
  show wpAny _ _ (spliced ((false, eval (.Call (.Name "zip" p1) [x, y] [] p2) X.env) :: backTo q2 (starEach [] X.env))) _ _ s
  refine Calls.spliced_cons (wpAny_Call_Name_kw (ld_blt I hgz hmz BootT.zip (PyProof.Rows.callWith_type1 (thn (ha p2 pins s σ H _ I h) fun us s1 ⟨vs, H1, I1, r1, q⟩ => ?_) he2 hpl)))
  obtain ⟨a, b, ns, ms, rfl, hA, hB, hle, k⟩ := q
  obtain ⟨u, v, rfl, ru, rv⟩ := vals2 r1
  cases ru
  cases rv
  obtain ⟨xs, vx, px, _⟩ := I1.list hA
  obtain ⟨ys, vy, py, _⟩ := I1.list hB
  have ix := intsAre_of vx
  have iy := intsAre_of vy
  have lx := ix.length
  have ly := iy.length
  have al : a < s1.heap.objs.size := by obtain ⟨_, e, _⟩ := px.isList; exact Heap.lt_size e
  have bl : b < s1.heap.objs.size := by obtain ⟨_, e, _⟩ := py.isList; exact Heap.lt_size e
  refine call_zip_2 px.isList py.isList fun h' hz hTI hTO j1 j2 hsz hk => Calls.spliced_nil ?_
  refine Zl.call_list (s := { s1 with heap := h' }) (n := min ns.length ms.length) (I1.ok.hd hc) (zipApart_new al bl) (by rw [List.size_toArray, List.size_toArray, lx, ly]) (by omega) hz hTO hTI j1 j2 (px.isList.at fun o e => hk _ o e) (py.isList.at fun o e => hk _ o e) fun h2 tk acc c as k1 k2 k3 k4 k5 => ?_
  obtain ⟨zs, e1, e2, e3⟩ := pairs_of (lo := 0) ix iy k5.pr k4
  have old : ∀ b o, s1.heap.get? b = some o → h2.get? b = some o := fun b o e => by
    have hb := Heap.lt_size e
    refine k1 b o (Nat.ne_of_lt (Nat.lt_of_lt_of_le hb (Nat.le_add_right _ _))) (Nat.ne_of_lt (Nat.lt_of_lt_of_le hb (Nat.le_add_right _ _))) (Nat.ne_of_lt hb) (Nat.ne_of_lt (Nat.lt_of_lt_of_le hb (Nat.le_add_right _ _))) (hk b o e)
  have up : ∀ z ∈ zs, h'.objs.size < z.2.2 := fun z hz => k5.lo _ (by rw [← e1]; exact List.mem_map_of_mem hz)
  have hs5 : h'.objs.size = s1.heap.objs.size + 5 := hsz
  have nd : (zs.map fun z => z.2.2).Nodup := by rw [e1]; exact k5.up.imp fun q => Nat.ne_of_lt q
  have far : ∀ z ∈ zs, ∀ b : Addr, b < s1.heap.objs.size → z.2.2 ≠ b := fun z hz b hb => Nat.ne_of_gt (Nat.lt_trans (Nat.lt_of_lt_of_le hb (by rw [hs5]; exact Nat.le_add_right _ _)) (up z hz))
  have lf : ∀ b : Addr, b < s1.heap.objs.size → b ≠ h'.objs.size := fun b hb => Nat.ne_of_lt (Nat.lt_of_lt_of_le hb (by rw [hs5]; exact Nat.le_add_right _ _))
  have hold : ∀ b : Addr, b < s1.heap.objs.size → upd (updZ H1 zs) h'.objs.size (.lst (zs.map refZ)) b = H1 b := fun b hb => by rw [upd_ne (lf b hb), updZ_old fun z hz => far z hz b hb]
  have S : Same H1 (upd (updZ H1 zs) h'.objs.size (.lst (zs.map refZ))) := fun b o e => by rw [hold b (I1.hok.lt e)]; exact e
  have hpair : ∀ z ∈ zs, PairAt (upd (updZ H1 zs) h'.objs.size (.lst (zs.map refZ))) z := fun z hz => by
    show upd (updZ H1 zs) h'.objs.size (.lst (zs.map refZ)) z.2.2 = _
    rw [upd_ne (Nat.ne_of_gt (up z hz))]
    exact updZ_new nd hz
  have hlz : zs.length ≤ 100000 := by
    have := congrArg List.length e2
    rw [List.length_map, List.length_zip] at this
    omega
  have I2 : Inv X pins σ (upd (updZ H1 zs) h'.objs.size (.lst (zs.map refZ))) { s1 with heap := h2, toks := tk } := I1.grow old S (fun b hb n => by rw [hold b hb]; exact n) fun b o e => by
    by_cases hb : b < s1.heap.objs.size
    · rw [hold b hb] at e
      exact (I1.hok b o e).stay (fun c v _ q => old c v q) (fun c q => S _ _ q) fun c _ q => S _ _ q
    · by_cases hl : b = h'.objs.size
      · subst hl
        rw [upd_same] at e
        cases e
        refine ⟨by rw [List.length_map]; exact small_le hlz, acc.toList, c, ?_, by rw [Array.toArray_toList]; exact k2⟩
        rw [k3, ← e1, List.map_map]
        exact vals_refs zs
      · rw [upd_ne hl] at e
        unfold updZ at e
        cases w : zs.find? (fun z => z.2.2 == b) with
        | none =>
          rw [w] at e
          have e : H1 b = some o := e
          rw [I1.hok.fresh (Nat.le_of_not_lt hb)] at e
          cases e
        | some z =>
          rw [w] at e
          cases e
          have hz' := List.mem_of_find?_eq_some w
          have eb : z.2.2 = b := by simpa using List.find?_some w
          subst eb
          obtain ⟨t, u, hp⟩ := e3 z hz'
          exact ⟨small_le (m := 2) (Nat.le_refl 2), [.int z.1 t, .int z.2.1 u], .cons ⟨t, rfl⟩ (.cons ⟨u, rfl⟩ .nil), ⟨_, hp, rfl, _, rfl⟩⟩
  exact ⟨.ref h'.objs.size, _, I2, rfl, k _ zs _ S (I1.hok.fresh (by rw [hs5]; exact Nat.le_add_right _ _)) upd_same hpair e2⟩
theorem x_zipL {K : PySem.W.Frag} {t : TA} {σ : St} {H : Hp} {Q : VK} (h : t σ H fun vs H1 => ∃ (a b : Addr) (ns ms : List Int), vs = [.ref a, .ref b] ∧ SqL K H1 a (ns.map V.int) ∧ SqL K H1 b (ms.map V.int) ∧ ns.length ≤ 100000 ∧
  ∀ (l : Addr) (zs : List Zt) (H2 : Hp), Same H1 H2 → H1 l = none → H2 l = some (.lst (zs.map refZ)) → (∀ z ∈ zs, PairAt H2 z) → zs.map zP = ns.zip ms → Q (.ref l) H2) : tZipL K t σ H Q := h
end
end L2
namespace L2
open PySem PySem.Spec PyProof.Rows PySem.W
section
variable {prog : Program} {w : World} {A : Around} {E : Value → Shared → Prop} {s : Shared} {d it : Addr} {ks : List Value} {ep i : Nat}
end
section
variable {X : Cx}
end
end L2
namespace L2
open PySem PySem.Spec PyProof.Rows PySem.W
section
variable {X : Cx} {tg : Expr}
end
end L2
namespace BootT
end BootT
namespace L2
open PySem PySem.Spec PyProof.Rows PySem.W
section
variable {X : Cx}
end
end L2
namespace L2
open PySem PySem.Spec PyProof.Rows PySem.W
namespace Rv
section
variable {prog : Program} {w : World} {A : Around} {E : Value → Shared → Prop} {s : Shared} {I l : Addr}
end
end Rv
section
variable {X : Cx} {x : Expr} {t : TA} {p1 p2 q1 q2 : Pos}
end
end L2
namespace Sw
open PySem
def Rise (xs : Array Nat) : Prop := xs.toList.Pairwise (· < ·)
theorem Rise.lt {xs : Array Nat} (h : Rise xs) {i j a b : Nat} (hij : i < j) (h1 : xs[i]? = some a) (h2 : xs[j]? = some b) : a < b := by
  rw [← Array.getElem?_toList] at h1 h2
  obtain ⟨hi, e1⟩ := List.getElem?_eq_some_iff.mp h1
  obtain ⟨hj, e2⟩ := List.getElem?_eq_some_iff.mp h2
  have := List.pairwise_iff_getElem.mp h i j hi hj hij
  rw [e1, e2] at this; exact this
theorem below_go {xs : Array Nat} {j : Nat} (h : Rise xs) : ∀ (fuel lo hi : Nat), lo ≤ hi → hi ≤ xs.size → hi - lo ≤ fuel → (∀ i a, i < lo → xs[i]? = some a → a < j) → (∀ i a, hi ≤ i → xs[i]? = some a → j ≤ a) →
    (SetTable.below.go xs j fuel lo hi ≤ xs.size ∧ (∀ i a, i < SetTable.below.go xs j fuel lo hi → xs[i]? = some a → a < j) ∧ ∀ i a, SetTable.below.go xs j fuel lo hi ≤ i → xs[i]? = some a → j ≤ a)
  | 0, lo, hi, h1, h2, h3, h4, h5 => by
    have : lo = hi := by omega
    subst this
    exact ⟨h2, h4, h5⟩
  | fuel + 1, lo, hi, h1, h2, h3, h4, h5 => by
    unfold SetTable.below.go
    by_cases c : lo < hi
    · rw [if_pos c]
      have hm : (lo + hi) / 2 < xs.size := by omega
      have em : xs[(lo + hi) / 2]? = some xs[(lo + hi) / 2] := Array.getElem?_eq_getElem hm
      have eg : xs.getD ((lo + hi) / 2) j = xs[(lo + hi) / 2] := by simp [Array.getD, hm]
      simp only [eg]
      by_cases c2 : xs[(lo + hi) / 2] < j
      · rw [if_pos c2]
        refine below_go h fuel _ _ (by omega) h2 (by omega) (fun i a hi' ha => ?_) h5
        by_cases e : i = (lo + hi) / 2
        · subst e; rw [em] at ha; cases ha; exact c2
        · exact Nat.lt_trans (h.lt (show i < (lo + hi) / 2 by omega) ha em) c2
      · rw [if_neg c2]
        refine below_go h fuel _ _ (by omega) (by omega) (by omega) h4 (fun i a hi' ha => ?_)
        by_cases e : i = (lo + hi) / 2
        · subst e; rw [em] at ha; cases ha; omega
        · have := h.lt (show (lo + hi) / 2 < i by omega) em ha; omega
    · rw [if_neg c]
      have : lo = hi := by omega
      subst this
      exact ⟨h2, h4, h5⟩
theorem below_spec {xs : Array Nat} (h : Rise xs) (j : Nat) : SetTable.below xs j ≤ xs.size ∧ (∀ i a, i < SetTable.below xs j → xs[i]? = some a → a < j) ∧ ∀ i a, SetTable.below xs j ≤ i → xs[i]? = some a → j ≤ a :=
  below_go h _ _ _ (Nat.zero_le _) (Nat.le_refl _) (by omega) (fun i a hi => absurd hi (by omega)) fun i a hi ha => by
    have := (Array.getElem?_eq_some_iff.mp ha).1; omega
theorem Rise.insert {xs : Array Nat} (h : Rise xs) {j : Nat} (hj : xs[SetTable.below xs j]? ≠ some j) : Rise (SetTable.insertAt xs (SetTable.below xs j) j) := by
  obtain ⟨h1, h2, h3⟩ := below_spec h j
  generalize SetTable.below xs j = p at h1 h2 h3 hj
  unfold Rise
  rw [SetTable.toList_insertAt]
  have e : xs.toList = xs.toList.take p ++ xs.toList.drop p := (List.take_append_drop _ _).symm
  have hp : (xs.toList.take p ++ xs.toList.drop p).Pairwise (· < ·) := by rw [← e]; exact h
  rw [List.pairwise_append] at hp
  obtain ⟨p1, p2, p3⟩ := hp
  have m1 : ∀ a ∈ xs.toList.take p, a < j := fun a ha => by
    obtain ⟨i, hi⟩ := List.mem_iff_getElem?.mp ha
    rw [List.getElem?_take] at hi
    split at hi
    · exact h2 i a (by assumption) (by rw [← Array.getElem?_toList]; exact hi)
    · cases hi
  have m2 : ∀ a ∈ xs.toList.drop p, j < a := fun a ha => by
    obtain ⟨i, hi⟩ := List.mem_iff_getElem?.mp ha
    rw [List.getElem?_drop, Array.getElem?_toList] at hi
    have q := h3 (p + i) a (by omega) hi
    rcases Nat.lt_or_eq_of_le q with q | q
    · exact q
    · subst q
      cases i with
      | zero => exact absurd hi hj
      | succ i =>
        have e0 : xs[p]? = some (xs[p]'(by have := (Array.getElem?_eq_some_iff.mp hi).1; omega)) := Array.getElem?_eq_getElem _
        have q1 := h3 p _ (Nat.le_refl _) e0
        have q2 := h.lt (show p < p + (i + 1) by omega) e0 hi
        omega
  rw [List.pairwise_append]
  refine ⟨p1, List.pairwise_cons.mpr ⟨m2, p2⟩, fun a ha b hb => ?_⟩
  rcases List.mem_cons.mp hb with rfl | hb
  · exact m1 a ha
  · exact p3 a ha b hb
structure TI (t : SetTable) : Prop where
  rise : Rise t.place
  nod : t.dummies = #[]
theorem has_nil (j : Nat) : SetTable.has #[] j = false := by simp [SetTable.has]
theorem probe_go {t : SetTable} (h : TI t) {hashAt : Nat → Int} {hh : Int} : ∀ (fuel : Nat) (p : SetTable.Probe) {j : Nat} {d : Option Nat}, SetTable.probe.go t hashAt hh fuel p = some (.empty j d) → p.dummy = none → d = none ∧ t.place[SetTable.below t.place j]? ≠ some j
  | 0, p, j, d, e, _ => by simp [SetTable.probe.go] at e
  | fuel + 1, p, j, d, e, hd => by
    unfold SetTable.probe.go at e
    have adv : (t.advance p).dummy = none := by unfold SetTable.advance; split <;> exact hd
    cases hs : t.slot p.j with
    | empty =>
      rw [hs] at e
      simp only [Option.some.injEq, SetTable.Met.empty.injEq] at e
      obtain ⟨rfl, rfl⟩ := e
      refine ⟨hd, fun z => ?_⟩
      unfold SetTable.slot at hs
      simp [z] at hs
    | dummy =>
      unfold SetTable.slot at hs
      rw [h.nod] at hs
      simp only [has_nil] at hs
      split at hs <;> simp at hs
    | live i =>
      rw [hs] at e
      simp only at e
      split at e
      · simp at e
      · exact probe_go h fuel _ e adv
theorem free_slot {t : SetTable} (h : TI t) {hh : Int} {j : Nat} {b : Bool} (e : t.freeSlot hh = some (j, b)) : t.place[SetTable.below t.place j]? ≠ some j := by
  unfold SetTable.freeSlot at e
  split at e
  · rename_i j' d he
    obtain ⟨e1, e2⟩ := probe_go h _ _ he rfl
    subst e1
    simp at e
    rw [← e.1]; exact e2
  · cases e
theorem TI.standIn (t : SetTable) (n : Nat) : TI (t.standIn n) := ⟨by unfold Rise SetTable.standIn; simp only [Array.toList_range]; exact List.pairwise_lt_range, rfl⟩
theorem TI.orStandIn {t : SetTable} (h : TI t) (n : Nat) : TI (t.orStandIn n) := by
  unfold SetTable.orStandIn
  split
  · exact h
  · exact TI.standIn t n
theorem TI.put {t : SetTable} (h : TI t) {j : Nat} (hj : t.place[SetTable.below t.place j]? ≠ some j) : TI (t.put j).1 := by
  refine ⟨h.rise.insert hj, ?_⟩
  show (if SetTable.has t.dummies j then _ else t.dummies) = #[]
  rw [h.nod, has_nil, if_neg (by decide)]
theorem TI.layNew {t : SetTable} (h : TI t) (es : Array (Int × Value)) (hh : Int) (x : Value) : TI (PySem.layNew t es hh x).2.1 := by
  unfold PySem.layNew
  split
  · rename_i slot wd he
    exact (h.put (free_slot h he)).orStandIn _
  · exact TI.standIn t _
theorem TI.relayAll {t : SetTable} (es : Array (Int × Value)) (wanted : Nat) : TI (PySem.relayAll t es wanted).2.1 := by
  unfold PySem.relayAll
  split
  · rename_i t' order he
    dsimp only
    split
    · unfold SetTable.relaid SetTable.laid at he
      simp only [Option.bind_eq_bind, Option.bind_eq_some_iff, Option.pure_def, Option.some.injEq] at he
      obtain ⟨owner, _, he⟩ := he
      have := (Prod.mk.inj he).1
      subst this
      refine ⟨?_, rfl⟩
      show ((List.range _).filterMap _ |>.map _).toArray.toList.Pairwise _
      rw [List.toList_toArray, List.map_filterMap]
      have : (fun x => Option.map (fun y : Nat × Nat => y.1) (Option.map (fun y => (x, y)) (owner.getD x none))) = fun x => Option.map (fun _ => x) (owner.getD x none) := by funext x; cases owner.getD x none <;> rfl
      refine List.Pairwise.filterMap _ (fun a b hab c hc d hd => ?_) List.pairwise_lt_range
      cases ha : owner.getD a none <;> rw [ha] at hc <;> simp at hc
      cases hb : owner.getD b none <;> rw [hb] at hd <;> simp at hd
      omega
    · exact TI.standIn t _
  · exact TI.standIn t _
theorem TI.off {t : SetTable} (h : TI t) : TI { t with plain := false } := ⟨h.rise, h.nod⟩
theorem TI.fresh (a b : Nat) (c : Bool) : TI (SetTable.fresh a b c) := ⟨by simp [Rise, SetTable.fresh], rfl⟩
theorem led_layNew (t : SetTable) (es : Array (Int × Value)) (hh : Int) (x : Value) : (PySem.layNew t es hh x).2.1.led = t.led := by
  unfold PySem.layNew
  split
  · simp only [SetTable.orStandIn]; split <;> rfl
  · rfl
theorem led_relayAll (t : SetTable) (es : Array (Int × Value)) (wanted : Nat) : (PySem.relayAll t es wanted).2.1.led = t.led := by
  unfold PySem.relayAll
  split
  · rename_i t' order he
    dsimp only
    split
    · unfold SetTable.relaid SetTable.laid at he
      simp only [Option.bind_eq_bind, Option.bind_eq_some_iff, Option.pure_def, Option.some.injEq] at he
      obtain ⟨owner, _, he⟩ := he
      have := (Prod.mk.inj he).1
      subst this
      rfl
    · rfl
  · rfl
end Sw
namespace Sw
open PySem PySem.Spec PyProof.Rows
def key (e : Int × Value) : Int := match e.2 with | .int i _ => i | _ => 0
section
variable {prog : Program} {w : World}
def SO (prog : Program) (w : World) (bt : Bool) (h : Heap) (a : Addr) (ks : List Int) : Prop :=
  ∃ o es ep t, h.get? a = some o ∧ o.ExactSet ∧ o.data = .set es ep t ∧ ElemsOf (intKind prog w) es.toList ∧ (∀ e ∈ es.toList, ∃ u, e.2 = .int (key e) u) ∧ es.size < scanBound ∧ t.fits es.size = true ∧ TI t ∧ t.led = !bt ∧ ks = es.toList.map key ∧ ks.Nodup
theorem SO.keep {bt : Bool} {h h' : Heap} {a : Addr} {ks : List Int} (x : SO prog w bt h a ks) (k : ∀ o, h.get? a = some o → h'.get? a = some o) : SO prog w bt h' a ks :=
  let ⟨o, es, ep, t, e, r⟩ := x; ⟨o, es, ep, t, k o e, r⟩
variable {A : Around} {E : Value → Shared → Prop} {s : Shared}
theorem add_tail {g : Bool → Sem Unit} (hg : ∀ (b : Bool) (s₁ : Shared) (Q' : Unit → Shared → Prop), Q' () s₁ → wpAny (model prog w) A (g b) Q' E s₁)
    {a : Addr} {o : Obj} {es : Array (Int × Value)} {ep : Nat} {t : SetTable} (ho : s.heap.get? a = some o) (hd : o.data = .set es ep t)
    {es1 : Array (Int × Value)} {t2 : SetTable} (hb1 : es1.size < scanBound) (hf2 : t2.fits es1.size = true) (ti : TI t2) {wasDummy : Bool} {R : Option Bool → Shared → Prop}
    (h : ∀ h' es2 ep2 t3, Heap.SameBut a s.heap h' → h'.get? a = some { o with data := .set es2 ep2 t3 } → es2.toList.Perm es1.toList → t3.fits es2.size = true → TI t3 → t3.led = t2.led → R (some true) { s with heap := h' }) :
    wpAny (model prog w) A (do
        storeSet a es1 t2
        if (!wasDummy && t2.tooFull) = true then do
            g (relayAll t2 es1 (SetTable.grown es1.size)).2.2
            storeSet a (relayAll t2 es1 (SetTable.grown es1.size)).1 (relayAll t2 es1 (SetTable.grown es1.size)).2.1
            pure (some true)
          else pure (some true)) R E s := by
  refine wpAny_bind (wpAny_storeSet_of ho hd ?_ (fits_of_scanBound hb1))
  have g1 : (s.heap.update a (Obj.putSet es1 t2)).get? a = some { o with data := .set es1 (ep + 1) t2 } := by
    have := Heap.get?_update_self (Obj.putSet es1 t2) ho (by rw [putSet_of es1 t2 hd]; rfl)
    rw [putSet_of es1 t2 hd] at this; exact this
  have b1 := Heap.SameBut.update s.heap a (Obj.putSet es1 t2)
  split
  · have hp := relayAll_perm t2 es1 (SetTable.grown es1.size)
    have hfr := relayAll_fits t2 es1 (SetTable.grown es1.size)
    have tir := TI.relayAll (t := t2) es1 (SetTable.grown es1.size)
    have lr := led_relayAll t2 es1 (SetTable.grown es1.size)
    generalize relayAll t2 es1 (SetTable.grown es1.size) = Rl at hp hfr tir lr ⊢
    obtain ⟨es2, t3, gave2⟩ := Rl
    dsimp only at hp hfr tir lr ⊢
    have hsz : es2.size = es1.size := by rw [← Array.length_toList, hp.length_eq, Array.length_toList]
    refine wpAny_bind (hg _ _ _ (wpAny_bind (wpAny_storeSet_of g1 rfl ?_ (fits_of_scanBound (by rw [hsz]; exact hb1)))))
    have g2 : ((s.heap.update a (Obj.putSet es1 t2)).update a (Obj.putSet es2 t3)).get? a = some { o with data := .set es2 (ep + 1 + 1) t3 } := Heap.get?_update_self (Obj.putSet es2 t3) g1 rfl
    exact wpAny_pure (h _ es2 _ t3 (b1.trans (Heap.SameBut.update _ a _)) g2 hp hfr tir lr)
  · exact wpAny_pure (h _ es1 _ t2 b1 g1 (List.Perm.refl _) hf2 ti rfl)
theorem so_add {bt : Bool} {a : Addr} {ks : List Int} {k : Int} {u : Tok} {Q : Bool → Shared → Prop} (hS : SO prog w bt s.heap a ks) (hroom : ks.length + 1 < scanBound)
    (h : ∀ h' ks' b, Heap.SameBut a s.heap h' → SO prog w bt h' a ks' → (∀ x, x ∈ ks' ↔ x ∈ ks ∨ x = k) → ks'.length ≤ ks.length + 1 → Q b { s with heap := h' }) :
    wpAny (model prog w) A (setAddHashed a (.int k u) ((intKind prog w).hash k)) Q E s := by
  obtain ⟨o, es, ep, t, ho, hex, hd, hel, hin, hb, hf, ti, hled, rfl, hnd⟩ := hS
  have hsc : (Value.int k u).scannable = true := rfl
  have hkey : (intKind prog w).is k (.int k u) = true := intKind_is _ _ _ _
  have hisk : ∀ e ∈ es.toList, ((intKind prog w).is k e.2 = true ↔ key e = k) := fun e he => by
    obtain ⟨v, hv⟩ := hin e he
    rw [hv, KeyKind.is_eq_decide (intKind_is prog w (key e) v) k, decide_eq_true_iff]
    exact eq_comm
  unfold setAddHashed setAddHashedIn
  refine wpAny_holding (wpAny_bind (wpAny_setState_of ho hd hf ?_))
  dsimp only
  rw [byScan_of hsc hb hel]
  simp only [↓reduceIte]
  unfold setAddByScan
  refine wpAny_bind (wpAny_bind (wpAny_rule (wpAny_bind (wpAny_setScan_of hkey ho hd hf hel ?_))))
  cases hr : List.findIdx? (fun e => (intKind prog w).is k e.2) es.toList with
  | some j =>
    dsimp only
    obtain ⟨hj, hpj, _⟩ := List.findIdx?_eq_some_iff_getElem.mp hr
    have hm : k ∈ es.toList.map key := List.mem_map.mpr ⟨es.toList[j], List.getElem_mem hj, (hisk _ (List.getElem_mem hj)).mp hpj⟩
    refine wpAny_pure (wpAny_pure ?_)
    have e : s = { s with heap := s.heap } := by cases s; rfl
    rw [e]
    exact h s.heap _ _ (Heap.SameBut.refl a s.heap) ⟨o, es, ep, t, ho, hex, hd, hel, hin, hb, hf, ti, hled, rfl, hnd⟩ (fun x => ⟨.inl, fun q => q.elim id fun e => e ▸ hm⟩) (Nat.le_succ _)
  | none =>
    dsimp only
    have hnm : k ∉ es.toList.map key := fun hm => by
      obtain ⟨e, he, ek⟩ := List.mem_map.mp hm
      have := List.findIdx?_eq_none_iff.mp hr e he
      rw [(hisk e he).mpr ek] at this; exact Bool.noConfusion this
    have hgw : ∀ (b : Bool) {s₁ : Shared} {Q' : Unit → Shared → Prop}, Q' () s₁ → wpAny (model prog w) A (match b with | true => rule "set.scan.the-table-gave-way" | false => pure ()) Q' E s₁ :=
      fun b s₁ Q' hq => by cases b <;> first | exact wpAny_pure hq | exact wpAny_rule hq
    have hperm := layNew_perm t es ((intKind prog w).hash k) (.int k u)
    have hfits := layNew_fits t es ((intKind prog w).hash k) (.int k u)
    have tin := ti.layNew es ((intKind prog w).hash k) (.int k u)
    have ledn := led_layNew t es ((intKind prog w).hash k) (.int k u)
    generalize layNew t es ((intKind prog w).hash k) (.int k u) = L at hperm hfits tin ledn ⊢
    obtain ⟨es1, t1, wasDummy, gave⟩ := L
    dsimp only at hperm hfits tin ledn ⊢
    rw [Array.toList_push] at hperm
    have hsz1 : es1.size = es.size + 1 := by rw [← Array.length_toList, hperm.length_eq, List.length_append, Array.length_toList]; rfl
    rw [List.length_map, Array.length_toList] at hroom
    have hb1 : es1.size < scanBound := by omega
    refine wpAny_bind (hgw _ ?_)
    have hend : ∀ (h' : Heap) (es2 : Array (Int × Value)) (ep2 : Nat) (t2 t3 : SetTable), t2.led = t1.led → Heap.SameBut a s.heap h' → h'.get? a = some { o with data := .set es2 ep2 t3 } → es2.toList.Perm es1.toList → t3.fits es2.size = true → TI t3 → t3.led = t2.led → Q true { s with heap := h' } := by
      intro h' es2 ep2 t2 t3 l2 sb g2 hp2 hf3 ti3 l3
      have hpp := hp2.trans hperm
      have hpk := hpp.map key
      rw [List.map_append] at hpk
      have ek : [((intKind prog w).hash k, Value.int k u)].map key = [k] := rfl
      rw [ek] at hpk
      have hs2 : es2.size = es.size + 1 := by rw [← Array.length_toList, hp2.length_eq, Array.length_toList]; exact hsz1
      refine h h' (es2.toList.map key) true sb ⟨_, es2, ep2, t3, g2, hex, rfl, (hel.push hkey hsc).perm hpp, fun e he => ?_, by omega, hf3, ti3, by rw [l3, l2, ledn, hled], rfl, ?_⟩ (fun x => ?_) (by rw [List.length_map, List.length_map, Array.length_toList, Array.length_toList]; omega)
      · rcases List.mem_append.mp (hpp.mem_iff.mp he) with he | he
        · exact hin e he
        · rw [List.mem_singleton.mp he]; exact ⟨u, rfl⟩
      · exact hpk.nodup_iff.mpr (L2.nd_snoc hnd hnm)
      · rw [hpk.mem_iff, List.mem_append, List.mem_singleton]
    split
    · refine wpAny_bind ?_
      rw [hashByValue_scannable 8 hsc]
      refine wpAny_pure ?_
      refine add_tail (fun b s₁ Q' hq => by cases b <;> first | exact wpAny_pure hq | exact wpAny_rule hq) ho hd hb1 ?_ ?_ ?_
      · split
        · exact hfits
        · exact SetTable.fits_plain_off hfits
      · split
        · exact tin
        · exact tin.off
      · intro h' es2 ep2 t3 q1 q2 q3 q4 q5 q6
        dsimp only
        refine wpAny_pure (hend h' es2 ep2 _ t3 ?_ q1 q2 q3 q4 q5 q6)
        split <;> rfl
    · refine wpAny_bind (wpAny_pure ?_)
      simp only [↓reduceIte]
      refine add_tail (fun b s₁ Q' hq => by cases b <;> first | exact wpAny_pure hq | exact wpAny_rule hq) ho hd hb1 hfits tin ?_
      intro h' es2 ep2 t3 q1 q2 q3 q4 q5 q6
      dsimp only
      exact wpAny_pure (hend h' es2 ep2 _ t3 rfl q1 q2 q3 q4 q5 q6)
end
end Sw
namespace Sw
open PySem PySem.Spec PyProof.Rows
abbrev bt (w : World) : Bool := w.params.followText "set-order"
section
variable {prog : Program} {w : World} {A : Around} {E : Value → Shared → Prop} {s : Shared}
theorem set_new1 (a : Value) {Q₁ : Value → Shared → Prop} (h : Q₁ (.ref s.heap.objs.size) { s with heap := s.heap.push { cls := .type "set", dict := none, data := .set #[] 0 (.fresh 0 0 (!bt w)) } }) :
    codeAny (model prog w) A (.call (.builtin "set.__new__") ⟨[.type "set", a], []⟩) (wants Q₁ E) s := by
  refine codeAny_of_tree ?_
  show wpAny _ A.in1 (do checkBuiltinCall "set.__new__" ⟨[.type "set", a], []⟩; again (.builtin "set.__new__" ⟨[.type "set", a], []⟩)) _ _ s
  refine wpAny_bind (wpAny_of_eq (F.newCall_set_1 a) (wpAny_pure ⟨plainId_quiet F.plain_set_new _, codeAny_builtin F.entry_set_new ?_⟩))
  rw [Around.under_plainId F.plain_set_new _]
  unfold Builtin.«set.__new__» Builtin.Frozenset.newClass
  have hsub := sub_set_self
  obtain ⟨hp, g, d, tk, os⟩ := s
  dsimp only
  wp_walk
  refine wpAny_askSetting (wpAny_pure ?_)
  dsimp only
  simp only [newObj]
  refine wpAny_bind (wpAny_alloc (wpAny_pure ?_))
  exact wpAny_pure h
theorem so_loop {R : Result → Shared → Prop} {I : Addr} {fp wr : List Addr} {G : Array GenState → Array GenState → Prop} {n : Nat} {P : Nat → Value → Prop} {St : Nat → Shared → Prop} (W : WalksS prog w A.in1 I fp wr G n P St) (S : Addr) (hSf : S ∉ fp) (ns : List Int) (hl : ns.length = n) (hval : ∀ i v, P i v → ∃ k t, ns[i]? = some k ∧ v = .int k t) (hb : n + 1 < scanBound) :
    ∀ (k i : Nat) (s : Shared) (ks : List Int), n - i = k → i ≤ n → St i s → SO prog w (bt w) s.heap S ks → (∀ x, x ∈ ks ↔ x ∈ ns.take i) → ks.length ≤ i →
      (∀ s' ks', Moved (S :: wr) G s s' → SO prog w (bt w) s'.heap S ks' → (∀ x, x ∈ ks' ↔ x ∈ ns) → ks'.length ≤ n → R (.ok (.ret .none)) s') →
      codeAny (model prog w) A (.builtin "set.update.loop" ⟨[.ref S, .ref I], []⟩) R s := by
  have hSw : S ∉ wr := fun h => hSf (W.sub _ h)
  have hsub : ∀ b ∈ wr, b ∈ S :: wr := fun b hb => List.mem_cons_of_mem _ hb
  intro k
  induction k with
  | zero =>
    intro i s ks hk hi hst hS hm0 hle hR
    have hin : i = n := by omega
    subst hin
    refine codeAny_builtin F.entry_set_update_loop ?_
    rw [Around.under_plainId F.plain_set_update_loop _]
    show wpAny _ A.in1 (pyNext (.ref I) >>= _) _ _ s
    refine wpAny_bind (W.done s _ _ hst fun s' hm => ?_)
    show wpAny _ A.in1 (ret Value.none) _ _ s'
    exact wpAny_pure (hR s' ks (hm.mono hsub) (hS.keep fun o e => hm.heap S o hSw e) (fun x => by rw [hm0, ← hl, List.take_length]) hle)
  | succ k ih =>
    intro i s ks hk hi hst hS hm0 hle hR
    have hlt : i < n := by omega
    refine codeAny_builtin F.entry_set_update_loop ?_
    rw [Around.under_plainId F.plain_set_update_loop _]
    show wpAny _ A.in1 (pyNext (.ref I) >>= _) _ _ s
    refine wpAny_bind (W.item i s _ _ hlt hst fun v s' hP hst' hm => ?_)
    obtain ⟨c, t, hc, rfl⟩ := hval i v hP
    show wpAny _ A.in1 (holding [Value.int c t] (setAdd S (.int c t)) >>= _) _ _ s'
    refine wpAny_bind (wpAny_holding ?_)
    unfold setAdd
    refine wpAny_holding ?_
    refine wpAny_bind ((intKind prog w).pyHash (k := c) (intKind_is _ _ _ _) ?_)
    refine so_add (s := { s' with toks := s'.toks + 1 }) (hS.keep fun o e => hm.heap S o hSw e) (by omega) fun h' ks' b hsb hS2 hmem hlen => ?_
    refine wpAny_pure ⟨plainId_quiet F.plain_set_update_loop _, ih (i + 1) _ ks' (by omega) hlt (W.frame _ s' _ _ hst' (Nat.le_succ _) fun b hb o e => ?_) hS2 (fun x => ?_) (by omega) fun s'' ks'' hm'' hS'' hmem'' hlen'' => ?_⟩
    · rw [hsb.2 b (fun h : b = S => hSf (by rw [← h]; exact hb))]; exact e
    · rw [hmem, hm0, List.take_succ, hc, List.mem_append]; simp
    · refine hR s'' ks'' (Moved.trans W.gtrans ((hm.mono hsub).then_heap (Nat.le_succ _) fun b o hb e => ?_) hm'') hS'' hmem'' hlen''
      rw [hsb.2 b (fun h : b = S => hb (by rw [h]; exact List.mem_cons_self))]; exact e
theorem call_set {l : Addr} {items : Array Value} {ns : List Int} {Q : Value → Shared → Prop} (hh : A.handled = none) (hl : s.heap.IsList l items) (hi : IntsAre items.toList ns) (hb : items.size + 1 < scanBound)
    (h : ∀ (h' : Heap) (tk : Nat) (ks : List Int), SO prog w (bt w) h' s.heap.objs.size ks → (∀ x, x ∈ ks ↔ x ∈ ns) → ks.length ≤ items.size → (∀ b o, s.heap.get? b = some o → h'.get? b = some o) → Q (.ref s.heap.objs.size) { s with heap := h', toks := tk }) :
    wpAny (model prog w) A (call (.type "set") [.ref l]) Q E s := by
  obtain ⟨c, tl, hmro⟩ := F.called_set.mro
  have hmade := F.called_set.made
  have hsub := F.called_set.sub
  refine wpAny_call (codeAny_of_tree ?_)
  show wpAny _ _ (callAny (.type "set") _) _ _ _
  refine wpAny_pure ⟨Code.quiet_builtin _ (by decide +kernel), codeAny_builtin F.entry_type_call ?_⟩
  rw [Around.under_plain (weight_type_call_type "set" [.ref l] []) rfl]
  have h1 := F.called_set.notType
  have h2 := F.called_set.canCreate
  have hct := F.typeCall_set_1 (.ref l)
  repeat (any_goals (first | assumption | wp_step))
  refine codeAny_mono (set_new1 (.ref l) (E := E) (Q₁ := fun obj s₁ => obj = .ref s.heap.objs.size ∧ s₁ = { s with heap := s.heap.push { cls := .type "set", dict := none, data := .set #[] 0 (.fresh 0 0 (!bt w)) } }) ⟨rfl, rfl⟩) fun r s₁ hr => ?_
  cases r with
  | error e => exact hr
  | ok fl =>
    cases fl with
    | ret obj =>
      obtain ⟨rfl, rfl⟩ := hr
      have hS : (s.heap.push { cls := .type "set", dict := none, data := .set #[] 0 (.fresh 0 0 (!bt w)) }).get? s.heap.objs.size = some { cls := .type "set", dict := none, data := .set #[] 0 (.fresh 0 0 (!bt w)) } := Heap.get?_push_size _ rfl
      have hT : Shared.TypeIs { s with heap := s.heap.push { cls := .type "set", dict := none, data := .set #[] 0 (.fresh 0 0 (!bt w)) } } (.ref s.heap.objs.size) "set" := ⟨_, hS, rfl⟩
      have hli := F.called_set.init.lookup
      have hbi := F.called_set.init.bind (.ref s.heap.objs.size)
      repeat (any_goals (first | assumption | wp_step))
      refine codeAny_mono (codeAny_call_builtin (R := wants (fun r s₂ => r = .none ∧ ∃ h' tk ks, s₂ = { s with heap := h', toks := tk } ∧ SO prog w (bt w) h' s.heap.objs.size ks ∧ (∀ x, x ∈ ks ↔ x ∈ ns) ∧ ks.length ≤ items.size ∧ (∀ b o, s.heap.get? b = some o → h'.get? b = some o)) E) F.called_set.init.plain F.entry_set_init (check_set_init_1 hT ?_)) fun r₂ s₂ hr₂ => ?_
      · obtain ⟨ol, hol, hcl, nl, hdl⟩ := hl
        obtain ⟨ocls, odict, odata, oslots⟩ := ol
        simp only at hcl hdl
        subst hcl; subst hdl
        have hol' : (s.heap.push { cls := .type "set", dict := none, data := .set #[] 0 (.fresh 0 0 (!bt w)) }).get? l = some { cls := .type "list", dict := odict, data := .seq items nl, slots := oslots } := Heap.get?_push_of_some _ hol
        have hsls := F.sub_list_set
        have hslf := F.sub_list_frozenset
        have hne : (Value.type "list" == Value.type "dict") = false := by decide
        have hl1 : (s.heap.push { cls := .type "set", dict := none, data := .set #[] 0 (.fresh 0 0 (!bt w)) }).IsList l items := ⟨_, hol', rfl, nl, rfl⟩
        unfold Builtin.«set.__init__» noKeywords Builtin.Frozenset.updateFrom
        generalize hPI : pyIter = PI
        wp_walk
        subst hPI
        refine wpAny_pyIter_list hl1 ?_
        refine wpAny_bind (wpAny_runValue ?_)
        have hlS : l < s.heap.objs.size := Heap.lt_size hol
        have hh3 : A.in1.in1.in1.handled = none := by simp [hh]
        have hneI : l ≠ (s.heap.push { cls := .type "set", dict := none, data := .set #[] 0 (.fresh 0 0 (!bt w)) }).objs.size := by
          rw [Heap.size_push]; exact Nat.ne_of_lt (Nat.lt_succ_of_lt hlS)
        have hSf : s.heap.objs.size ∉ [(s.heap.push { cls := .type "set", dict := none, data := .set #[] 0 (.fresh 0 0 (!bt w)) }).objs.size, l] := by
          rw [Heap.size_push]; simp only [List.mem_cons, List.mem_singleton, List.not_mem_nil, or_false, not_or]
          exact ⟨Nat.ne_of_lt (Nat.lt_succ_self _), Nat.ne_of_gt hlS⟩
        have hlen := hi.length
        rw [Array.length_toList] at hlen
        have hval : ∀ (i : Nat) (v : Value), items[i]? = some v → ∃ k t, ns[i]? = some k ∧ v = .int k t := fun i v hv => by
          obtain ⟨t, e⟩ := PyProof.Rows.IntsAre.int_at hi i v (by rw [Array.getElem?_toList]; exact hv)
          have hlt := (Array.getElem?_eq_some_iff.mp hv).1
          have : ns[i]? = some (ns.getD i 0) := by rw [List.getD_eq_getElem?_getD, List.getElem?_eq_getElem (by omega)]; rfl
          exact ⟨_, t, this, e⟩
        refine so_loop ((Walks.list hh3 _ l hneI items).toS) s.heap.objs.size hSf ns hlen.symm hval hb (items.size - 0) 0 _ [] (by omega) (Nat.zero_le _)
          ⟨⟨_, Heap.get?_push_size _ rfl, rfl, rfl⟩, (hl1.push _)⟩ ?hS0 (fun x => by simp) (Nat.le_refl _) ?hR
        case hS0 =>
          have hget : ((s.heap.push { cls := .type "set", dict := none, data := .set #[] 0 (.fresh 0 0 (!bt w)) }).push { cls := .type "list_iterator", data := .fields #[.ref l, .int 0 0] }).get? s.heap.objs.size
              = some { cls := .type "set", dict := none, data := .set #[] 0 (.fresh 0 0 (!bt w)) } := Heap.get?_push_of_some _ hS
          exact ⟨_, #[], 0, _, hget, ⟨rfl, rfl, rfl⟩, rfl, (fun e he => by simp at he), (fun e he => by simp at he), by decide, rfl, TI.fresh _ _ _, rfl, rfl, List.nodup_nil⟩
        case hR =>
          intro s' ks' hm hS' hmem hlen'
          obtain ⟨h', g', d', tk', os'⟩ := s'
          have eg : g' = s.gens := hm.gens
          have ed : d' = s.drawn := hm.drawn
          have eo : os' = s.os := hm.os
          subst eg; subst ed; subst eo
          show wpAny _ _ _ _ _ _
          refine wpAny_pure ?_
          show wpAny _ _ (ret Value.none) _ _ _
          refine wpAny_pure ⟨rfl, h', tk', ks', rfl, hS', hmem, hlen', fun b o e => ?_⟩
          have hb := Heap.lt_size e
          have hb1 : b ≠ s.heap.objs.size := Nat.ne_of_lt hb
          have hb2 : b ≠ (s.heap.push { cls := .type "set", dict := none, data := .set #[] 0 (.fresh 0 0 (!bt w)) }).objs.size := by
            rw [Heap.size_push]; exact Nat.ne_of_lt (Nat.lt_succ_of_lt hb)
          exact hm.heap b o (by simp only [List.mem_cons, List.mem_singleton, List.not_mem_nil, or_false, not_or]; exact ⟨hb1, hb2⟩) (Heap.get?_push_of_some _ (Heap.get?_push_of_some _ e))
      · cases r₂ with
        | error e => exact hr₂
        | ok fl₂ =>
          cases fl₂ with
          | ret r =>
            obtain ⟨rfl, h', tk, ks, rfl, hS', hm', hl', hk'⟩ := hr₂
            repeat (any_goals (first | assumption | wp_step))
            exact h _ _ _ hS' hm' hl' hk'
          | _ => exact hr₂.elim
    | _ => exact hr.elim
end
end Sw
namespace Sw
open PySem PySem.Spec PyProof.Rows
theorem erase_perm {α : Type} {l : List α} {i : Nat} (h : i < l.length) : (l[i] :: l.eraseIdx i).Perm l := by
  rw [List.eraseIdx_eq_take_drop_succ]
  have e : l = l.take i ++ l[i] :: l.drop (i + 1) := by rw [List.getElem_cons_drop, List.take_append_drop]
  conv => rhs; rw [e]
  exact List.perm_middle.symm
theorem pick_perm {α : Type} (next : Nat → Nat) : ∀ (fuel k : Nat) (left : List α) (out : Array α), fuel = left.length → (pickOrder.go next fuel k left out).toList.Perm (out.toList ++ left)
  | 0, k, left, out, h => by
    have : left = [] := List.eq_nil_of_length_eq_zero h.symm
    subst this; simp [pickOrder.go]
  | fuel + 1, k, left, out, h => by
    unfold pickOrder.go
    have hlt : next k % left.length < left.length := Nat.mod_lt _ (by omega)
    rw [List.getElem?_eq_getElem hlt]
    dsimp only
    refine (pick_perm next fuel _ _ _ (by rw [List.length_eraseIdx]; simp [hlt]; omega)).trans ?_
    rw [Array.toList_push, List.append_assoc]
    refine List.Perm.append_left _ ?_
    exact erase_perm hlt
section
variable {prog : Program} {w : World} {A : Around} {E : Value → Shared → Prop} {s : Shared} {it a : Addr} {es : Array (Int × Value)} {ep n : Nat} {t : SetTable}
end
end Sw
namespace Sw
open PySem PySem.Spec PyProof.Rows
section
variable {prog : Program} {w : World} {A : Around} {E : Value → Shared → Prop} {s : Shared} {it a : Addr} {es : Array (Int × Value)} {ep n : Nat} {t : SetTable}
end
end Sw
namespace Sw
open PySem PySem.Spec PyProof.Rows PySem.W
section
variable {prog : Program} {w : World} {A : Around} {E : Value → Shared → Prop} {s : Shared} {a : Addr}
end
end Sw
namespace L2
open PySem PySem.Spec PyProof.Rows PySem.W
section
variable {X : Cx} {x : Expr} {t : TA} {p1 p2 q1 q2 : Pos}
end
end L2
namespace Sw
open PySem
theorem perm_of' {α : Type} [DecidableEq α] {l m : List α} (h1 : l.Nodup) (h2 : m.Nodup) (h : ∀ x, x ∈ l ↔ x ∈ m) : l.Perm m := by
  rw [List.perm_iff_count]
  intro a
  rw [h1.count, h2.count]
  by_cases c : a ∈ l
  · rw [if_pos c, if_pos ((h a).mp c)]
  · rw [if_neg c, if_neg fun q => c ((h a).mpr q)]
theorem nodupN_le {ks ds : List Nat} (hn : ks.Nodup) (h : ∀ x ∈ ks, x ∈ ds) : ks.length ≤ ds.length := by
  induction ks generalizing ds with
  | nil => simp
  | cons a ks ih =>
    obtain ⟨h1, h2⟩ := List.nodup_cons.mp hn
    obtain ⟨l1, l2, rfl⟩ := List.append_of_mem (h a List.mem_cons_self)
    have := ih (ds := l1 ++ l2) h2 fun x hx => by
      have hx' := h x (List.mem_cons_of_mem _ hx)
      rcases List.mem_append.mp hx' with q | q
      · exact List.mem_append_left _ q
      · rcases List.mem_cons.mp q with q | q
        · exact absurd (q ▸ hx) h1
        · exact List.mem_append_right _ q
    simp at this ⊢; omega
abbrev Pb := SetTable.Probe
def adv (M : Nat) (p : Pb) : Pb :=
  if p.more > 0 then { p with j := p.j + 1, more := p.more - 1 } else
    { p with j := (SetTable.leap M p.i p.perturb).1, more := SetTable.runEnd M (SetTable.leap M p.i p.perturb).1 - (SetTable.leap M p.i p.perturb).1, i := (SetTable.leap M p.i p.perturb).1, perturb := (SetTable.leap M p.i p.perturb).2 }
def walk (M : Nat) (p : Pb) : Nat → Pb
  | 0 => p
  | n + 1 => adv M (walk M p n)
theorem walk_add (M : Nat) (p : Pb) (m : Nat) : ∀ n, walk M p (m + n) = walk M (walk M p m) n
  | 0 => rfl
  | n + 1 => by show adv M (walk M p (m + n)) = _; rw [walk_add M p m n]; rfl
theorem walk_succ (M : Nat) (p : Pb) (n : Nat) : walk M (adv M p) n = walk M p (n + 1) := by
  rw [Nat.add_comm n 1, walk_add]; rfl
theorem adv_dummy (M : Nat) (p : Pb) : (adv M p).dummy = p.dummy := by unfold adv; split <;> rfl
theorem walk_dummy (M : Nat) (p : Pb) : ∀ n, (walk M p n).dummy = p.dummy
  | 0 => rfl
  | n + 1 => (adv_dummy M _).trans (walk_dummy M p n)
def rs (M i pt : Nat) : Pb := { j := i, more := SetTable.runEnd M i - i, i := i, perturb := pt, dummy := none }
def start (M : Nat) (h : Int) : Pb := rs M (SetTable.bits h % (M + 1)) (SetTable.bits h)
theorem runEnd_le (M i : Nat) : SetTable.runEnd M i - i ≤ 9 := by unfold SetTable.runEnd; split <;> omega
theorem walk_in {M : Nat} : ∀ (k : Nat) (p : Pb), k ≤ p.more → walk M p k = { p with j := p.j + k, more := p.more - k }
  | 0, p, _ => rfl
  | k + 1, p, h => by
    show adv M (walk M p k) = _
    rw [walk_in k p (by omega)]
    unfold adv
    rw [if_pos (show p.more - k > 0 by omega)]
    show SetTable.Probe.mk _ _ _ _ _ = SetTable.Probe.mk _ _ _ _ _
    congr 1
theorem walk_out {M : Nat} {p : Pb} (hd : p.dummy = none) : walk M p (p.more + 1) = rs M (SetTable.leap M p.i p.perturb).1 (SetTable.leap M p.i p.perturb).2 := by
  show adv M (walk M p p.more) = _
  rw [walk_in _ p (Nat.le_refl _)]
  unfold adv
  rw [if_neg (show ¬ p.more - p.more > 0 by omega)]
  show SetTable.Probe.mk _ _ _ _ p.dummy = SetTable.Probe.mk _ _ _ _ _
  rw [hd]
def lp (M : Nat) : Nat → Nat × Nat → Nat × Nat
  | 0, x => x
  | n + 1, x => SetTable.leap M (lp M n x).1 (lp M n x).2
theorem lp_add (M m : Nat) (x : Nat × Nat) : ∀ n, lp M (m + n) x = lp M n (lp M m x)
  | 0 => rfl
  | n + 1 => by show SetTable.leap M (lp M (m + n) x).1 (lp M (m + n) x).2 = _; rw [lp_add M m x n]; rfl
theorem lp_snd (M : Nat) (x : Nat × Nat) : ∀ n, (lp M n x).2 = x.2 / 32 ^ n
  | 0 => by simp [lp]
  | n + 1 => by
    show (lp M n x).2 / 32 = _
    rw [lp_snd M x n, Nat.div_div_eq_div_mul, Nat.pow_succ]
theorem lp_fst_le {M : Nat} {x : Nat × Nat} (h : x.1 ≤ M) : ∀ n, (lp M n x).1 ≤ M
  | 0 => h
  | n + 1 => Nat.lt_succ_iff.mp (Nat.mod_lt _ (Nat.succ_pos M))
theorem runs (M : Nat) (x : Nat × Nat) : ∀ n, ∃ N, N ≤ 10 * n ∧ walk M (rs M x.1 x.2) N = rs M (lp M n x).1 (lp M n x).2
  | 0 => ⟨0, Nat.le_refl _, rfl⟩
  | n + 1 => by
    obtain ⟨N, h1, h2⟩ := runs M x n
    refine ⟨N + ((rs M (lp M n x).1 (lp M n x).2).more + 1), ?_, ?_⟩
    · have : (rs M (lp M n x).1 (lp M n x).2).more ≤ 9 := runEnd_le _ _
      omega
    · rw [walk_add, h2, walk_out rfl]; rfl
def nx (M i : Nat) : Nat := (i * 5 + 1) % (M + 1)
def it (M : Nat) : Nat → Nat → Nat
  | 0, x => x
  | n + 1, x => it M n (nx M x)
theorem it_add (M : Nat) : ∀ (m n x : Nat), it M (m + n) x = it M n (it M m x)
  | 0, n, x => by rw [Nat.zero_add]; rfl
  | m + 1, n, x => by rw [show m + 1 + n = (m + n) + 1 by omega]; exact it_add M m n (nx M x)
def orbL (M : Nat) : Nat → Nat → List Nat
  | 0, _ => []
  | n + 1, x => x :: orbL M n (nx M x)
theorem mem_orbL {M e : Nat} : ∀ {n x : Nat}, e ∈ orbL M n x → ∃ k, k < n ∧ it M k x = e
  | n + 1, x, h => by
    rcases List.mem_cons.mp h with q | q
    · exact ⟨0, Nat.succ_pos _, q.symm⟩
    · obtain ⟨k, h1, h2⟩ := mem_orbL q
      exact ⟨k + 1, by omega, h2⟩
def Msk (M : Nat) : Prop := M = 7 ∨ M = 31 ∨ M = 127 ∨ M = 511
theorem orb_all {M : Nat} (hM : Msk M) : ((List.range (M + 1)).all fun e => (orbL M (M + 1) 0).contains e) = true ∧ it M (M + 1) 0 = 0 := by
  rcases hM with rfl | rfl | rfl | rfl
  · decide +kernel
  · decide +kernel
  · decide +kernel
  · decide +kernel
theorem orb {M : Nat} (hM : Msk M) {i e : Nat} (hi : i ≤ M) (he : e ≤ M) : ∃ k, k ≤ M ∧ it M k i = e := by
  obtain ⟨h1, h2⟩ := orb_all hM
  have g : ∀ e ≤ M, ∃ k, k < M + 1 ∧ it M k 0 = e := fun e he => by
    have := List.all_eq_true.mp h1 e (List.mem_range.mpr (by omega))
    exact mem_orbL (List.contains_iff_mem.mp this)
  obtain ⟨a, ha, rfl⟩ := g i hi
  obtain ⟨b, hb, rfl⟩ := g e he
  by_cases c : a ≤ b
  · exact ⟨b - a, by omega, by rw [← it_add, show a + (b - a) = b by omega]⟩
  · refine ⟨M + 1 - a + b, by omega, ?_⟩
    rw [← it_add, show a + (M + 1 - a + b) = (M + 1) + b by omega, it_add, h2]
theorem lp_it {M i : Nat} : ∀ n, lp M n (i, 0) = (it M n i, 0)
  | 0 => rfl
  | n + 1 => by
    have := lp_it (M := M) (i := nx M i) n
    rw [show n + 1 = 1 + n by omega, lp_add]
    show lp M n (SetTable.leap M i 0) = _
    have e : SetTable.leap M i 0 = (nx M i, 0) := by unfold SetTable.leap nx; simp
    rw [e, this, show 1 + n = n + 1 by omega]; rfl
theorem cover {M : Nat} (hM : Msk M) {x : Nat × Nat} (hi : x.1 ≤ M) (hp : x.2 < 2 ^ 64) {e : Nat} (he : e ≤ M) : ∃ n, n ≤ 13 + M ∧ (lp M n x).1 = e := by
  have h0 : (lp M 13 x).2 = 0 := by rw [lp_snd]; exact Nat.div_eq_of_lt (Nat.lt_of_lt_of_le hp (by decide))
  obtain ⟨k, hk, hke⟩ := orb hM (lp_fst_le hi 13) he
  refine ⟨13 + k, by omega, ?_⟩
  rw [lp_add, show lp M 13 x = ((lp M 13 x).1, 0) from Prod.ext rfl h0, lp_it]
  exact hke
structure On (M : Nat) (p : Pb) : Prop where
  more : p.more ≤ 9
  nod : p.dummy = none
  pt : p.perturb < 2 ^ 64
theorem bits_lt (h : Int) : SetTable.bits h < 2 ^ 64 := by
  unfold SetTable.bits
  have h1 : h % (2 ^ 64 : Int) < 2 ^ 64 := Int.emod_lt_of_pos _ (by decide)
  have h2 : 0 ≤ h % (2 ^ 64 : Int) := Int.emod_nonneg _ (by decide)
  omega
theorem on_start (M : Nat) (h : Int) : On M (start M h) := ⟨runEnd_le _ _, rfl, bits_lt h⟩
theorem meets {M : Nat} (hM : Msk M) {p : Pb} (h : On M p) {e : Nat} (he : e ≤ M) : ∃ N, N < 10 * SetTable.turns M ∧ (walk M p N).j = e := by
  have hl : (SetTable.leap M p.i p.perturb).1 ≤ M := Nat.lt_succ_iff.mp (Nat.mod_lt _ (Nat.succ_pos M))
  have hp : (SetTable.leap M p.i p.perturb).2 < 2 ^ 64 := Nat.lt_of_le_of_lt (Nat.div_le_self _ _) h.pt
  obtain ⟨n, hn, hne⟩ := cover hM (x := SetTable.leap M p.i p.perturb) hl hp he
  obtain ⟨N, hN, e2⟩ := runs M (SetTable.leap M p.i p.perturb) n
  refine ⟨p.more + 1 + N, ?_, ?_⟩
  · have := h.more; unfold SetTable.turns; omega
  · rw [walk_add, walk_out h.nod, e2]; exact hne
theorem slot_live {t : SetTable} (h : TI t) {i j : Nat} (e : t.place[i]? = some j) : t.slot j = .live i := by
  obtain ⟨h1, h2, h3⟩ := below_spec h.rise j
  have hb : SetTable.below t.place j = i := by
    rcases Nat.lt_trichotomy (SetTable.below t.place j) i with c | c | c
    · have hlt : SetTable.below t.place j < t.place.size := Nat.lt_trans c (Array.getElem?_eq_some_iff.mp e).1
      have e2 : t.place[SetTable.below t.place j]? = some t.place[SetTable.below t.place j] := Array.getElem?_eq_getElem hlt
      have := h3 _ _ (Nat.le_refl _) e2
      have := h.rise.lt c e2 e; omega
    · exact c
    · have := h2 i j c e; omega
  unfold SetTable.slot
  simp only [hb, e, beq_self_eq_true, ↓reduceIte]
theorem slot_empty {t : SetTable} (h : TI t) {j : Nat} (e : j ∉ t.place.toList) : t.slot j = .empty := by
  unfold SetTable.slot
  have h1 : (t.place[SetTable.below t.place j]? == some j) = false := by
    cases hc : t.place[SetTable.below t.place j]? == some j with
    | false => rfl
    | true => exact absurd (Array.mem_toList_iff.mpr (Array.mem_of_getElem? (eq_of_beq hc))) e
  simp only [h1, Bool.false_eq_true, ↓reduceIte, h.nod, has_nil]
theorem mem_place {t : SetTable} {j : Nat} (h : j ∈ t.place.toList) : ∃ i : Nat, t.place[i]? = some j := by
  obtain ⟨i, hi⟩ := List.mem_iff_getElem?.mp h
  exact ⟨i, by rw [← Array.getElem?_toList]; exact hi⟩
theorem go_spec {t : SetTable} (ht : TI t) {hashAt : Nat → Int} {h : Int} : ∀ (fuel : Nat) (p : Pb) (N : Nat), p.dummy = none → N < fuel → (walk t.mask p N).j ∉ t.place.toList →
    ∃ n, n ≤ N ∧ (∀ m, m < n → ∃ i : Nat, t.place[i]? = some (walk t.mask p m).j ∧ hashAt i ≠ h) ∧
      ((SetTable.probe.go t hashAt h fuel p = some (.empty (walk t.mask p n).j none) ∧ (walk t.mask p n).j ∉ t.place.toList) ∨
        ∃ i, SetTable.probe.go t hashAt h fuel p = some (.candidate (walk t.mask p n).j i (walk t.mask p (n + 1))) ∧ t.place[i]? = some (walk t.mask p n).j ∧ hashAt i = h)
  | 0, p, N, _, hN, _ => absurd hN (by omega)
  | fuel + 1, p, N, hd, hN, he => by
    by_cases c : p.j ∈ t.place.toList
    · obtain ⟨i, hi⟩ := mem_place c
      have hN0 : N ≠ 0 := fun e => by subst e; exact he c
      by_cases hh : hashAt i = h
      · refine ⟨0, Nat.zero_le _, fun m hm => absurd hm (by omega), .inr ⟨i, ?_, hi, hh⟩⟩
        show (match t.slot p.j with | .empty => _ | .dummy => _ | .live i => _) = _
        rw [slot_live ht hi]
        simp only [hh, beq_self_eq_true, ↓reduceIte]
        rfl
      · obtain ⟨N', rfl⟩ : ∃ N', N = N' + 1 := ⟨N - 1, by omega⟩
        obtain ⟨n, h1, h2, h3⟩ := go_spec ht (hashAt := hashAt) (h := h) fuel (adv t.mask p) N' ((adv_dummy _ _).trans hd) (by omega) (by rw [walk_succ]; exact he)
        have e : SetTable.probe.go t hashAt h (fuel + 1) p = SetTable.probe.go t hashAt h fuel (adv t.mask p) := by
          show (match t.slot p.j with | .empty => _ | .dummy => _ | .live i => _) = _
          rw [slot_live ht hi]
          have : (hashAt i == h) = false := by simpa using hh
          simp only [this, Bool.false_eq_true, ↓reduceIte]
          rfl
        refine ⟨n + 1, by omega, fun m hm => ?_, ?_⟩
        · cases m with
          | zero => exact ⟨i, hi, hh⟩
          | succ m => rw [← walk_succ]; exact h2 m (by omega)
        · rw [e, ← walk_succ, ← walk_succ]; exact h3
    · refine ⟨0, Nat.zero_le _, fun m hm => absurd hm (by omega), .inl ⟨?_, c⟩⟩
      show (match t.slot p.j with | .empty => _ | .dummy => _ | .live i => _) = _
      rw [slot_empty ht c]
      show some (SetTable.Met.empty p.j p.dummy) = _
      rw [hd]; rfl
def Fnd (M : Nat) (L : Nat → Prop) (h : Int) (j : Nat) : Prop := ∃ n, (walk M (start M h) n).j = j ∧ ∀ m, m < n → L (walk M (start M h) m).j
theorem Fnd.mono {M : Nat} {L L' : Nat → Prop} {h : Int} {j : Nat} (f : Fnd M L h j) (hl : ∀ j, L j → L' j) : Fnd M L' h j := let ⟨n, a, b⟩ := f; ⟨n, a, fun m hm => hl _ (b m hm)⟩
structure TG (t : SetTable) (es : Array (Int × Value)) : Prop where
  ti : TI t
  mask : Msk t.mask
  top : ∀ j ∈ t.place.toList, j ≤ t.mask
  size : t.place.size = es.size
  room : es.size ≤ t.mask
  found : ∀ q ∈ t.place.toList.zip es.toList, Fnd t.mask (· ∈ t.place.toList) q.2.1 q.1
theorem hole {t : SetTable} (h : TI t) (hs : t.place.size ≤ t.mask) : ∃ e, e ≤ t.mask ∧ e ∉ t.place.toList := by
  by_cases c : ∃ e, e ≤ t.mask ∧ e ∉ t.place.toList
  · exact c
  · have := nodupN_le (List.nodup_range (n := t.mask + 1)) (ds := t.place.toList) fun x hx => by
      by_cases cx : x ∈ t.place.toList
      · exact cx
      · exact absurd ⟨x, by have := List.mem_range.mp hx; omega, cx⟩ c
    rw [List.length_range, Array.length_toList] at this
    omega
theorem TG.fits {t : SetTable} {es : Array (Int × Value)} (h : TG t es) : t.fits es.size = true := by
  unfold SetTable.fits SetTable.fill
  have h1 := h.size; have h2 := h.room
  simp only [h.ti.nod, h1, Bool.and_eq_true, beq_iff_eq, decide_eq_true_eq]
  exact ⟨trivial, by simp; omega⟩
theorem TG.fresh (a b : Nat) (c : Bool) : TG (SetTable.fresh a b c) #[] := ⟨TI.fresh a b c, .inl rfl, fun j hj => by simp [SetTable.fresh] at hj, rfl, Nat.zero_le _, fun q hq => by simp [SetTable.fresh] at hq⟩
theorem TG.gave {t : SetTable} {es : Array (Int × Value)} (h : TG t es) : t.gaveWay = false := by
  unfold SetTable.gaveWay
  rcases h.mask with e | e | e | e <;> rw [e] <;> rfl
theorem insertAt_list {α : Type} (xs : Array α) (p : Nat) (x : α) (hp : p ≤ xs.size) : (SetTable.insertAt xs p x).toList = xs.toList.take p ++ x :: xs.toList.drop p := by
  unfold SetTable.insertAt
  simp [Array.toList_extract, List.extract_eq_take_drop]
  exact List.take_of_length_le (by rw [List.length_drop, Array.length_toList]; exact Nat.le_refl _)
theorem zip_ins {α β : Type} {x : α} {y : β} : ∀ (p : Nat) (a : List α) (b : List β), a.length = b.length → p ≤ a.length → (a.take p ++ x :: a.drop p).zip (b.take p ++ y :: b.drop p) = (a.zip b).take p ++ (x, y) :: (a.zip b).drop p
  | 0, a, b, _, _ => rfl
  | p + 1, [], b, _, hp => absurd hp (by simp)
  | p + 1, a :: as, [], h, _ => absurd h (by simp)
  | p + 1, a :: as, b :: bs, h, hp => by
    show (a, b) :: ((as.take p ++ x :: as.drop p).zip (bs.take p ++ y :: bs.drop p)) = _
    rw [zip_ins p as bs (by simpa using h) (by simpa using hp)]; rfl
theorem mem_ins {α : Type} {x z : α} {p : Nat} {l : List α} : z ∈ l.take p ++ x :: l.drop p ↔ z = x ∨ z ∈ l := by
  rw [List.mem_append, List.mem_cons]
  conv => rhs; rw [← List.take_append_drop p l, List.mem_append]
  constructor
  · rintro (h | h | h)
    · exact .inr (.inl h)
    · exact .inl h
    · exact .inr (.inr h)
  · rintro (h | h | h)
    · exact .inr (.inl h)
    · exact .inl h
    · exact .inr (.inr h)
theorem ins_perm {α : Type} {x : α} {p : Nat} {l : List α} : (l.take p ++ x :: l.drop p).Perm (x :: l) := by
  refine List.perm_middle.trans ?_
  rw [List.take_append_drop]
theorem TG.put {t : SetTable} {es : Array (Int × Value)} (g : TG t es) (hr : es.size + 1 ≤ t.mask) {j : Nat} (hj : j ≤ t.mask) (hn : j ∉ t.place.toList) {h : Int} {v : Value} (f : Fnd t.mask (· ∈ t.place.toList) h j) :
    TG (t.put j).1 (SetTable.insertAt es (t.put j).2 (h, v)) ∧ (SetTable.insertAt es (t.put j).2 (h, v)).toList.Perm ((h, v) :: es.toList) := by
  have hne : t.place[SetTable.below t.place j]? ≠ some j := fun e => hn (Array.mem_toList_iff.mpr (Array.mem_of_getElem? e))
  obtain ⟨hb, _, _⟩ := below_spec g.ti.rise j
  have hpl : (t.put j).1.place.toList = t.place.toList.take (SetTable.below t.place j) ++ j :: t.place.toList.drop (SetTable.below t.place j) := insertAt_list _ _ _ hb
  have hel : (SetTable.insertAt es (t.put j).2 (h, v)).toList = es.toList.take (SetTable.below t.place j) ++ (h, v) :: es.toList.drop (SetTable.below t.place j) := insertAt_list _ _ _ (by rw [← g.size]; exact hb)
  have hlen : (SetTable.insertAt es (t.put j).2 (h, v)).size = es.size + 1 := by
    rw [← Array.length_toList, hel, ins_perm.length_eq]; simp
  refine ⟨⟨g.ti.put hne, g.mask, fun i hi => ?_, ?_, by rw [hlen]; exact hr, fun q hq => ?_⟩, by rw [hel]; exact ins_perm⟩
  · rw [hpl, mem_ins] at hi
    rcases hi with rfl | hi
    · exact hj
    · exact g.top i hi
  · rw [hlen, ← g.size, ← Array.length_toList, hpl, ins_perm.length_eq]; simp
  · rw [hpl, hel, zip_ins _ _ _ (by rw [Array.length_toList, Array.length_toList, g.size]) (by rw [Array.length_toList]; exact hb), mem_ins] at hq
    have mono : ∀ i, i ∈ t.place.toList → i ∈ (t.put j).1.place.toList := fun i hi => by rw [hpl, mem_ins]; exact .inr hi
    rcases hq with rfl | hq
    · exact f.mono mono
    · exact (g.found q hq).mono mono
def Tk (o : Array (Option Nat)) (j : Nat) : Prop := ∃ k, o[j]? = some (some k)
structure OW (M : Nat) (o : Array (Option Nat)) (hs : List Int) : Prop where
  size : o.size = M + 1
  has : ∀ j k : Nat, o[j]? = some (some k) → ∃ h, hs[k]? = some h ∧ Fnd M (Tk o) h j
  inj : ∀ j j' k : Nat, o[j]? = some (some k) → o[j']? = some (some k) → j = j'
  all : ∀ k : Nat, k < hs.length → ∃ j : Nat, o[j]? = some (some k)
theorem runEnd_le2 {M i : Nat} (h : i ≤ M) : SetTable.runEnd M i ≤ M ∧ i ≤ SetTable.runEnd M i := by unfold SetTable.runEnd; split <;> omega
theorem free_spec {M : Nat} {o : Array (Option Nat)} (hsz : o.size = M + 1) {e : Nat} (he : o[e]? = some none) : ∀ (fuel i pt n : Nat), i ≤ M → n < fuel → (lp M n (i, pt)).1 = e →
    ∃ j N, SetTable.layClean.free M o fuel i pt = some j ∧ o[j]? = some none ∧ (walk M (rs M i pt) N).j = j ∧ ∀ m, m < N → Tk o (walk M (rs M i pt) m).j
  | 0, i, pt, n, _, hn, _ => absurd hn (by omega)
  | fuel + 1, i, pt, n, hi, hn, hle => by
    obtain ⟨r1, r2⟩ := runEnd_le2 hi
    have inrun : ∀ k, k ≤ SetTable.runEnd M i - i → (walk M (rs M i pt) k).j = i + k := fun k hk => by rw [walk_in k (rs M i pt) hk]; rfl
    have at_ : ∀ k, k ≤ SetTable.runEnd M i - i → ∃ x, o[i + k]? = some x ∧ o.getD (i + k) (some 0) = x := fun k hk => by
      have hlt : i + k < o.size := by omega
      exact ⟨o[i + k], Array.getElem?_eq_getElem hlt, by simp [Array.getD, hlt]⟩
    unfold SetTable.layClean.free
    cases hf : (List.range (SetTable.runEnd M i + 1 - i)).find? fun k => (o.getD (i + k) (some 0)).isNone with
    | some k =>
      obtain ⟨h1, h2, h3⟩ := List.find?_range_eq_some.mp hf
      have hk : k ≤ SetTable.runEnd M i - i := by have := List.mem_range.mp h2; omega
      refine ⟨i + k, k, rfl, ?_, inrun k hk, fun m hm => ?_⟩
      · obtain ⟨x, e1, e2⟩ := at_ k hk
        rw [e2] at h1
        cases x with
        | none => exact e1
        | some y => simp at h1
      · obtain ⟨x, e1, e2⟩ := at_ m (by omega)
        have := h3 m hm
        rw [e2] at this
        rw [inrun m (by omega)]
        cases x with
        | none => simp at this
        | some y => exact ⟨y, e1⟩
    | none =>
      have hall := List.find?_eq_none.mp hf
      have tk : ∀ k, k ≤ SetTable.runEnd M i - i → Tk o (i + k) := fun k hk => by
        obtain ⟨x, e1, e2⟩ := at_ k hk
        have := hall k (List.mem_range.mpr (by omega))
        rw [e2] at this
        cases x with
        | none => simp at this
        | some y => exact ⟨y, e1⟩
      cases n with
      | zero =>
        have hie : i = e := hle
        subst hie
        obtain ⟨y, e1⟩ := tk 0 (Nat.zero_le _)
        rw [Nat.add_zero, he] at e1; cases e1
      | succ n =>
        have hl : (lp M n ((SetTable.leap M i pt).1, (SetTable.leap M i pt).2)).1 = e := by
          rw [show n + 1 = 1 + n by omega, lp_add] at hle; exact hle
        obtain ⟨j, N, a1, a2, a3, a4⟩ := free_spec hsz he fuel (SetTable.leap M i pt).1 (SetTable.leap M i pt).2 n (Nat.lt_succ_iff.mp (Nat.mod_lt _ (Nat.succ_pos M))) (by omega) hl
        have hout : walk M (rs M i pt) (SetTable.runEnd M i - i + 1) = rs M (SetTable.leap M i pt).1 (SetTable.leap M i pt).2 := walk_out (p := rs M i pt) rfl
        refine ⟨j, (SetTable.runEnd M i - i + 1) + N, a1, a2, ?_, fun m hm => ?_⟩
        · rw [walk_add, hout]; exact a3
        · by_cases c : m ≤ SetTable.runEnd M i - i
          · rw [inrun m c]; exact tk m c
          · obtain ⟨m', rfl⟩ : ∃ m', m = (SetTable.runEnd M i - i + 1) + m' := ⟨m - (SetTable.runEnd M i - i + 1), by omega⟩
            rw [walk_add, hout]; exact a4 m' (by omega)
theorem OW.hole {M : Nat} {o : Array (Option Nat)} {hs : List Int} (w : OW M o hs) (hl : hs.length ≤ M) : ∃ e : Nat, e ≤ M ∧ o[e]? = some none := by
  by_cases c : ∃ e : Nat, e ≤ M ∧ o[e]? = some none
  · exact c
  · exfalso
    have full : ∀ e : Nat, e ≤ M → ∃ k : Nat, o[e]? = some (some k) := fun e he => by
      have hlt : e < o.size := by rw [w.size]; omega
      have h1 : o[e]? = some o[e] := Array.getElem?_eq_getElem hlt
      cases hx : o[e] with
      | none => rw [hx] at h1; exact absurd ⟨e, he, h1⟩ c
      | some k => rw [hx] at h1; exact ⟨k, h1⟩
    have hn : ((List.range (M + 1)).map fun e => ((o[e]?).getD none).getD 0).Nodup := by
      refine List.pairwise_map.mpr (List.Pairwise.imp_of_mem (R := (· < ·)) (fun {a b} ha hb hab e => ?_) List.pairwise_lt_range)
      obtain ⟨k, ek⟩ := full a (by have := List.mem_range.mp ha; omega)
      obtain ⟨k', ek'⟩ := full b (by have := List.mem_range.mp hb; omega)
      rw [ek, ek'] at e
      have : k = k' := e
      subst this
      have := w.inj a b k ek ek'; omega
    have := nodupN_le hn (ds := List.range hs.length) fun x hx => by
      obtain ⟨e, he, rfl⟩ := List.mem_map.mp hx
      obtain ⟨k, ek⟩ := full e (by have := List.mem_range.mp he; omega)
      obtain ⟨h, hh, _⟩ := w.has e k ek
      rw [ek]
      exact List.mem_range.mpr (List.getElem?_eq_some_iff.mp hh).1
    simp at this; omega
theorem OW.step {M : Nat} (hM : Msk M) {o : Array (Option Nat)} {hs : List Int} (w : OW M o hs) (hl : hs.length ≤ M) (h : Int) :
    ∃ j, SetTable.layClean.free M o (SetTable.turns M) (SetTable.bits h % (M + 1)) (SetTable.bits h) = some j ∧ OW M (o.setIfInBounds j (some hs.length)) (hs ++ [h]) := by
  obtain ⟨e, he1, he2⟩ := w.hole hl
  have hi : SetTable.bits h % (M + 1) ≤ M := Nat.lt_succ_iff.mp (Nat.mod_lt _ (Nat.succ_pos M))
  obtain ⟨n, hn, hne⟩ := cover hM (x := (SetTable.bits h % (M + 1), SetTable.bits h)) hi (bits_lt h) he1
  obtain ⟨j, N, a1, a2, a3, a4⟩ := free_spec w.size he2 (SetTable.turns M) _ (SetTable.bits h) n hi (by unfold SetTable.turns; omega) hne
  refine ⟨j, a1, ?_⟩
  have hj : j < o.size := (Array.getElem?_eq_some_iff.mp a2).1
  have gs : ∀ i : Nat, (o.setIfInBounds j (some hs.length))[i]? = if j = i then some (some hs.length) else o[i]? := fun i => by
    rw [Array.getElem?_setIfInBounds]
    by_cases c : j = i
    · subst c; simp [hj]
    · simp [c]
  have mono : ∀ i, Tk o i → Tk (o.setIfInBounds j (some hs.length)) i := fun i ⟨k, e⟩ => by
    by_cases c : j = i
    · subst c; rw [a2] at e; cases e
    · exact ⟨k, by rw [gs, if_neg c]; exact e⟩
  refine ⟨by rw [Array.size_setIfInBounds]; exact w.size, fun i k hk => ?_, fun i i' k h1 h2 => ?_, fun k hk => ?_⟩
  · rw [gs] at hk
    by_cases c : j = i
    · subst c
      rw [if_pos rfl] at hk
      cases hk
      exact ⟨h, by simp, N, a3, fun m hm => mono _ (a4 m hm)⟩
    · rw [if_neg c] at hk
      obtain ⟨x, h1, h2⟩ := w.has i k hk
      exact ⟨x, by rw [List.getElem?_append_left (List.getElem?_eq_some_iff.mp h1).1]; exact h1, h2.mono mono⟩
  · rw [gs] at h1 h2
    have old : ∀ i k : Nat, o[i]? = some (some k) → k < hs.length := fun i k hk => by
      obtain ⟨x, h1, _⟩ := w.has i k hk
      exact (List.getElem?_eq_some_iff.mp h1).1
    by_cases c : j = i <;> by_cases c' : j = i'
    · omega
    · rw [if_pos c] at h1; rw [if_neg c'] at h2
      cases h1; have := old _ _ h2; omega
    · rw [if_neg c] at h1; rw [if_pos c'] at h2
      cases h2; have := old _ _ h1; omega
    · rw [if_neg c] at h1; rw [if_neg c'] at h2
      exact w.inj _ _ _ h1 h2
  · rw [List.length_append, List.length_singleton] at hk
    by_cases c : k = hs.length
    · subst c; exact ⟨j, by rw [gs, if_pos rfl]⟩
    · obtain ⟨i, hi⟩ := w.all k (by omega)
      refine ⟨i, ?_⟩
      rw [gs, if_neg fun c => by subst c; rw [a2] at hi; cases hi]; exact hi
theorem OW.nil (M : Nat) : OW M (Array.replicate (M + 1) none) [] := by
  have no : ∀ j k : Nat, (Array.replicate (M + 1) (none : Option Nat))[j]? ≠ some (some k) := fun j k e => by
    have := Array.mem_of_getElem? e
    simp at this
  exact ⟨by simp, fun j k e => absurd e (no j k), fun j _ k e => absurd e (no j k), fun k hk => absurd hk (by simp)⟩
theorem layClean_ok {M : Nat} (hM : Msk M) (hashes : Array Int) (hl : hashes.size ≤ M) : ∃ o, SetTable.layClean M hashes = some o ∧ OW M o hashes.toList := by
  unfold SetTable.layClean
  rw [← Array.foldl_toList]
  have key : ∀ (l done : List Int) (o : Array (Option Nat)), OW M o done → done.length + l.length ≤ M →
      ∃ o', l.foldl (fun acc h => do
        let (owner, k) ← acc
        let j ← SetTable.layClean.free M owner (SetTable.turns M) (SetTable.bits h % (M + 1)) (SetTable.bits h)
        pure (owner.setIfInBounds j (some k), k + 1)) (some (o, done.length)) = some (o', (done ++ l).length) ∧ OW M o' (done ++ l) := by
    intro l
    induction l with
    | nil => intro done o w _; exact ⟨o, by simp, by simpa using w⟩
    | cons h l ih =>
      intro done o w hl
      rw [List.length_cons] at hl
      obtain ⟨j, e, w'⟩ := w.step hM (by omega) h
      obtain ⟨o', e', w''⟩ := ih (done ++ [h]) _ w' (by simp; omega)
      refine ⟨o', ?_, by simpa using w''⟩
      rw [List.foldl_cons]
      show List.foldl _ (Option.bind (some (o, done.length)) _) l = _
      rw [Option.bind_some]
      show List.foldl _ (Option.bind (SetTable.layClean.free M o (SetTable.turns M) (SetTable.bits h % (M + 1)) (SetTable.bits h)) _) l = _
      rw [e, Option.bind_some]
      rw [List.length_append, List.length_singleton] at e'
      rw [show done ++ h :: l = done ++ [h] ++ l by simp]
      exact e'
  obtain ⟨o, e, w⟩ := key hashes.toList [] _ (OW.nil M) (by simp; exact hl)
  refine ⟨o, ?_, by simpa using w⟩
  rw [show (some (Array.replicate (M + 1) (none : Option Nat), 0)) = some (Array.replicate (M + 1) none, ([] : List Int).length) from rfl, e]
  rfl
def liveOf (M : Nat) (o : Array (Option Nat)) : List (Nat × Nat) := (List.range (M + 1)).filterMap fun j => (o.getD j none).map (j, ·)
theorem mem_liveOf {M : Nat} {o : Array (Option Nat)} (hs : o.size = M + 1) {q : Nat × Nat} : q ∈ liveOf M o ↔ o[q.1]? = some (some q.2) := by
  unfold liveOf
  rw [List.mem_filterMap]
  constructor
  · rintro ⟨j, hj, e⟩
    have hlt : j < o.size := by have := List.mem_range.mp hj; omega
    have e1 : o.getD j none = o[j] := by simp [Array.getD, hlt]
    rw [e1] at e
    cases hx : o[j] with
    | none => rw [hx] at e; cases e
    | some k =>
      rw [hx] at e; cases e
      show o[j]? = some (some k)
      rw [Array.getElem?_eq_getElem hlt, hx]
  · intro e
    have hlt := (Array.getElem?_eq_some_iff.mp e).1
    refine ⟨q.1, List.mem_range.mpr (by omega), ?_⟩
    have e1 : o.getD q.1 none = o[q.1] := by simp [Array.getD, hlt]
    rw [e1, (Array.getElem?_eq_some_iff.mp e).2]; rfl
theorem liveOf_lt (M : Nat) (o : Array (Option Nat)) : (liveOf M o).Pairwise fun a b => a.1 < b.1 := by
  unfold liveOf
  refine List.Pairwise.filterMap _ (fun a b hab c hc d hd => ?_) List.pairwise_lt_range
  cases ha : o.getD a none <;> rw [ha] at hc <;> simp at hc
  cases hb : o.getD b none <;> rw [hb] at hd <;> simp at hd
  subst hc; subst hd; exact hab
theorem filterMap_all {α : Type} {es : Array α} {d : α} : ∀ {L : List Nat}, (∀ k ∈ L, k < es.size) → L.filterMap (es[·]?) = L.map fun k => (es[k]?).getD d
  | [], _ => rfl
  | k :: L, h => by
    have hk := h k List.mem_cons_self
    rw [List.filterMap_cons, Array.getElem?_eq_getElem hk, List.map_cons, filterMap_all fun k hk => h k (List.mem_cons_of_mem _ hk), Array.getElem?_eq_getElem hk]; rfl
theorem laid_ok {M : Nat} (hM : Msk M) (f m : Nat) (led plain : Bool) (es : Array (Int × Value)) (hl : es.size ≤ M) :
    ∃ t order, SetTable.laid M f m led plain (es.map (·.1)) = some (t, order) ∧ (order.filterMap (es[·]?)).toList.Perm es.toList ∧ TG t (order.filterMap (es[·]?)) ∧ t.led = led ∧ t.plain = plain ∧ t.mask = M := by
  obtain ⟨o, e, w⟩ := layClean_ok hM (es.map (·.1)) (by simpa using hl)
  have hml := @mem_liveOf M o w.size
  refine ⟨{ mask := M, place := ((liveOf M o).map (·.1)).toArray, dummies := #[], finger := f, led := led, moves := m, plain := plain }, ((liveOf M o).map (·.2)).toArray, ?_, ?_⟩
  · unfold SetTable.laid
    rw [e]; rfl
  have hlt : ∀ k ∈ (liveOf M o).map (·.2), k < es.size := fun k hk => by
    obtain ⟨q, hq, rfl⟩ := List.mem_map.mp hk
    obtain ⟨h, hh, _⟩ := w.has _ _ (hml.mp hq)
    have := (List.getElem?_eq_some_iff.mp hh).1
    simpa using this
  have hes : (((liveOf M o).map (·.2)).toArray.filterMap (es[·]?)).toList = ((liveOf M o).map (·.2)).map fun k => (es[k]?).getD (0, .none) := by
    rw [Array.toList_filterMap, List.toList_toArray, filterMap_all hlt]
  have hnd : ((liveOf M o).map (·.2)).Nodup := by
    refine List.pairwise_map.mpr (List.Pairwise.imp_of_mem (fun {a b} ha hb hab c => ?_) (liveOf_lt M o))
    have h1 := hml.mp ha
    have h2 := hml.mp hb
    rw [← c] at h2
    have := w.inj _ _ _ h1 h2; omega
  have hp : ((liveOf M o).map (·.2)).Perm (List.range es.size) := perm_of' hnd List.nodup_range fun k => ⟨fun hk => List.mem_range.mpr (hlt k hk), fun hk => by
    obtain ⟨j, hj⟩ := w.all k (by have := List.mem_range.mp hk; simpa using this)
    exact List.mem_map.mpr ⟨(j, k), hml.mpr hj, rfl⟩⟩
  have hall : (List.range es.size).map (fun k => (es[k]?).getD (0, .none)) = es.toList := by
    refine List.ext_getElem (by simp) fun i h1 h2 => ?_
    have hi : i < es.size := by simpa using h1
    simp [hi]
  have hperm : (((liveOf M o).map (·.2)).toArray.filterMap (es[·]?)).toList.Perm es.toList := by
    rw [hes]; exact (hp.map _).trans (by rw [hall])
  refine ⟨hperm, ⟨⟨?_, rfl⟩, hM, fun j hj => ?_, ?_, ?_, fun q hq => ?_⟩, rfl, rfl, rfl⟩
  · show (((liveOf M o).map (·.1)).toArray.toList).Pairwise (· < ·)
    rw [List.toList_toArray]
    exact List.pairwise_map.mpr (liveOf_lt M o)
  · have hj' : j ∈ (liveOf M o).map (·.1) := by simpa using hj
    obtain ⟨q, hq, rfl⟩ := List.mem_map.mp hj'
    have := (Array.getElem?_eq_some_iff.mp (hml.mp hq)).1
    show q.1 ≤ M
    have := w.size; omega
  · rw [← Array.length_toList (xs := Array.filterMap _ _), hes]; simp
  · rw [← Array.length_toList, hperm.length_eq, Array.length_toList]; exact hl
  · rw [hes] at hq
    have hz : ((liveOf M o).map (·.1)).toArray.toList.zip (((liveOf M o).map (·.2)).map fun k => (es[k]?).getD (0, .none)) = (liveOf M o).map fun q => (q.1, (es[q.2]?).getD (0, .none)) := by
      rw [List.toList_toArray, List.map_map, List.zip_map', ]; rfl
    have hq' : q ∈ (liveOf M o).map fun q => (q.1, (es[q.2]?).getD (0, .none)) := hz ▸ hq
    obtain ⟨r, hr, rfl⟩ := List.mem_map.mp hq'
    obtain ⟨h, hh, hf⟩ := w.has _ _ (hml.mp hr)
    have hk := hlt r.2 (List.mem_map.mpr ⟨r, hr, rfl⟩)
    have eh : h = ((es[r.2]?).getD (0, .none)).1 := by
      rw [Array.toList_map, List.getElem?_map, Array.getElem?_toList, Array.getElem?_eq_getElem hk] at hh
      rw [Array.getElem?_eq_getElem hk]
      exact (Option.some.inj hh).symm
    rw [eh] at hf
    refine hf.mono fun j hj => ?_
    obtain ⟨k, hk⟩ := hj
    show j ∈ ((liveOf M o).map (·.1)).toArray.toList
    rw [List.toList_toArray]
    exact List.mem_map.mpr ⟨(j, k), hml.mpr hk, rfl⟩
end Sw
namespace Sw
open PySem PySem.Spec PyProof.Rows
section
variable {prog : Program} {w : World} {A : Around} {E : Value → Shared → Prop} {s : Shared}
abbrev hT (prog : Program) (w : World) (k : List Int) : Int := tupleKeyHash (intKind prog w) k
def KE (prog : Program) (w : World) (h : Heap) (e : Int × Value) (k : List Int) : Prop := ∃ b, e.2 = .ref b ∧ IsTupleKey (intKind prog w) h k b ∧ e.1 = hT prog w k
theorem IsTupleKey.keep {h h' : Heap} {k : List Int} {b : Addr} (x : IsTupleKey (intKind prog w) h k b) (kp : ∀ o, h.get? b = some o → h'.get? b = some o) : IsTupleKey (intKind prog w) h' k b :=
  let ⟨o, it, n, e, r⟩ := x; ⟨o, it, n, kp o e, r⟩
theorem items_ints {k : List Int} {vs : List Value} (h : ItemsAre (intKind prog w) k vs) : ∀ v ∈ vs, ∃ i t, v = .int i t := by
  induction h with
  | nil => intro v hv; simp at hv
  | cons h1 _ ih =>
    intro v hv
    rcases List.mem_cons.mp hv with rfl | hv
    · obtain ⟨t, rfl⟩ := Value.isInt_shape h1; exact ⟨_, t, rfl⟩
    · exact ih v hv
theorem hashByValue_tuple {k : List Int} {a : Addr} {Q : Bool → Shared → Prop} (hk : IsTupleKey (intKind prog w) s.heap k a) (h : Q true s) : wpAny (model prog w) A (hashByValue 8 (.ref a)) Q E s := by
  have hT := hk.typeIs
  obtain ⟨o, items, n, ho, _, hd, hi⟩ := hk
  unfold hashByValue
  refine wpAny_bind (wpAny_specialOf hT F.slot_tuple_hash.lookup ?_)
  show wpAny _ _ (seqItems? (.ref a) >>= _) _ _ s
  refine wpAny_bind (wpAny_seqItems ho hd ?_)
  refine wpAny_bind ?_
  show wpAny _ _ (forIn items _ _) _ _ s
  rw [← Array.forIn_toList]
  refine wpAny_forIn_list _ (fun rest r s' => r.1 = none ∧ s' = s ∧ ∀ v ∈ rest, ∃ i t, v = .int i t) _ ?_ ?_ _ _ ⟨rfl, rfl, items_ints hi⟩
  · rintro v rest r s' ⟨hr, rfl, hall⟩
    obtain ⟨i, t, rfl⟩ := hall v List.mem_cons_self
    refine wpAny_bind (m := hashByValue 7 (.int i t)) (wpAny_pure ?_)
    simp only [Bool.not_true, Bool.false_eq_true, if_false]
    exact wpAny_pure ⟨rfl, rfl, fun u hu' => hall u (List.mem_cons_of_mem _ hu')⟩
  · rintro ⟨r1, r2⟩ s' ⟨hr, rfl, _⟩
    simp only at hr
    subst hr
    exact wpAny_pure h
theorem ofAClass_tuple {k : List Int} {a : Addr} {Q : Bool → Shared → Prop} (hk : IsTupleKey (intKind prog w) s.heap k a) (h : Q false s) : wpAny (model prog w) A (ofAClassStatement 8 (.ref a)) Q E s := by
  have hT := hk.typeIs
  obtain ⟨o, items, n, ho, _, hd, hi⟩ := hk
  unfold ofAClassStatement
  refine wpAny_bind (wpAny_typeOf hT ?_)
  dsimp only
  refine wpAny_bind (wpAny_pure ?_)
  simp only [Bool.not_true, Bool.false_eq_true, if_false]
  refine wpAny_bind (wpAny_seqItems ho hd ?_)
  refine wpAny_bind ?_
  show wpAny _ _ (forIn items _ _) _ _ s
  rw [← Array.forIn_toList]
  refine wpAny_forIn_list _ (fun rest r s' => r.1 = none ∧ s' = s ∧ ∀ v ∈ rest, ∃ i t, v = .int i t) _ ?_ ?_ _ _ ⟨rfl, rfl, items_ints hi⟩
  · rintro v rest r s' ⟨hr, rfl, hall⟩
    obtain ⟨i, t, rfl⟩ := hall v List.mem_cons_self
    refine wpAny_bind (m := ofAClassStatement 7 (.int i t)) (wpAny_pure ?_)
    simp only [Bool.false_eq_true, if_false]
    exact wpAny_pure ⟨rfl, rfl, fun u hu' => hall u (List.mem_cons_of_mem _ hu')⟩
  · rintro ⟨r1, r2⟩ s' ⟨hr, rfl, _⟩
    simp only at hr
    subst hr
    exact wpAny_pure h
theorem unseen {k : List Int} {b : Addr} (hb : IsTupleKey (intKind prog w) s.heap k b) {l : List Value} (hl : ∀ v ∈ l, ∃ c k', v = .ref c ∧ IsTupleKey (intKind prog w) s.heap k' c) {Q : Bool → Shared → Prop} (h : Q false s) : wpAny (model prog w) A (searchCouldBeSeen (.ref b) l) Q E s := by
  unfold searchCouldBeSeen
  refine wpAny_bind ?_
  refine wpAny_forIn_list _ (fun rest r s' => r.1 = none ∧ s' = s ∧ ∀ v ∈ rest, ∃ c k', v = .ref c ∧ IsTupleKey (intKind prog w) s.heap k' c) _ ?_ ?_ _ _ ⟨rfl, rfl, hl⟩
  · rintro v rest r s' ⟨hr, rfl, hall⟩
    obtain ⟨c, k', rfl, hc⟩ := hall v List.mem_cons_self
    have hrest : ∀ v ∈ rest, ∃ c k', v = .ref c ∧ IsTupleKey (intKind prog w) s'.heap k' c := fun u hu' => hall u (List.mem_cons_of_mem _ hu')
    dsimp only
    refine wpAny_ite_split (fun _ => wpAny_pure ⟨rfl, rfl, hrest⟩) fun _ => ?_
    refine wpAny_bind (wpAny_eqIsQuiet_tuple hb ?_)
    simp only [Bool.not_true, Bool.false_eq_true, if_false]
    refine wpAny_bind (wpAny_eqIsQuiet_tuple hc ?_)
    simp only [Bool.not_true, Bool.false_eq_true, if_false]
    refine wpAny_bind (ofAClass_tuple hb ?_)
    simp only [Bool.false_eq_true, if_false]
    refine wpAny_bind (ofAClass_tuple hc ?_)
    simp only [Bool.false_eq_true, if_false]
    exact wpAny_pure ⟨rfl, rfl, hrest⟩
  · rintro ⟨r1, r2⟩ s' ⟨hr, rfl, _⟩
    simp only at hr
    subst hr
    exact wpAny_pure h
def gH (es : Array (Int × Value)) : Nat → Int := fun i => (es[i]?.map (·.1)).getD 0
theorem probe_of {t : SetTable} {g F : Nat → Int} {h : Int} {p : Pb} (hF : ∀ i, F i = g i) : t.probe F h p = SetTable.probe.go t g h (10 * SetTable.turns t.mask) p := by rw [show F = g from funext hF]; rfl
theorem place_zip {t : SetTable} {es : Array (Int × Value)} (g : TG t es) {i j : Nat} (e : t.place[i]? = some j) : ∃ x, es[i]? = some x ∧ (j, x) ∈ t.place.toList.zip es.toList := by
  have hi : i < es.size := by rw [← g.size]; exact (Array.getElem?_eq_some_iff.mp e).1
  refine ⟨es[i], Array.getElem?_eq_getElem hi, List.mem_iff_getElem?.mpr ⟨i, ?_⟩⟩
  rw [List.getElem?_zip_eq_some]
  exact ⟨by rw [Array.getElem?_toList]; exact e, by rw [Array.getElem?_toList]; exact Array.getElem?_eq_getElem hi⟩
theorem zip_place {t : SetTable} {es : Array (Int × Value)} {j : Nat} {x : Int × Value} (h : (j, x) ∈ t.place.toList.zip es.toList) : ∃ i : Nat, t.place[i]? = some j ∧ es[i]? = some x := by
  obtain ⟨i, hi⟩ := List.mem_iff_getElem?.mp h
  rw [List.getElem?_zip_eq_some] at hi
  exact ⟨i, by rw [← Array.getElem?_toList]; exact hi.1, by rw [← Array.getElem?_toList]; exact hi.2⟩
theorem ke_zip {t : SetTable} {es : Array (Int × Value)} (g : TG t es) {x : Int × Value} (h : x ∈ es.toList) : ∃ j, (j, x) ∈ t.place.toList.zip es.toList := by
  obtain ⟨i, hi⟩ := List.mem_iff_getElem?.mp h
  have hlt : i < t.place.size := by rw [g.size]; exact (List.getElem?_eq_some_iff.mp hi).1
  refine ⟨t.place[i], List.mem_iff_getElem?.mpr ⟨i, ?_⟩⟩
  rw [List.getElem?_zip_eq_some]
  exact ⟨by rw [Array.getElem?_toList]; exact Array.getElem?_eq_getElem hlt, hi⟩
theorem search_from {a b : Addr} {o : Obj} {es : Array (Int × Value)} {ep : Nat} {t : SetTable} (ho : s.heap.get? a = some o) (hd : o.data = .set es ep t) (g : TG t es) (hes : ∀ e ∈ es.toList, ∃ k, KE prog w s.heap e k)
    (hu : A.units < cLine) {k : List Int} (hb : IsTupleKey (intKind prog w) s.heap k b) {adding : Bool} {N : Nat} (hN : N < 10 * SetTable.turns t.mask) (hNe : (walk t.mask (start t.mask (hT prog w k)) N).j ∉ t.place.toList) {Q : SetFound → Shared → Prop}
    (h1 : (∃ e ∈ es.toList, KE prog w s.heap e k) → ∀ i : Option Nat, (adding = false → i.isSome = true) → Q (.there i) s)
    (h2 : (¬ ∃ e ∈ es.toList, KE prog w s.heap e k) → ∀ j, j ∉ t.place.toList → Fnd t.mask (· ∈ t.place.toList) (hT prog w k) j → Q (.free j false) s) :
    ∀ (fuel n : Nat) (stand : Option Pb), stand.getD (t.probeStart (hT prog w k)) = walk t.mask (start t.mask (hT prog w k)) n → n ≤ N → N - n < fuel →
      (∀ m, m < n → ∃ (i : Nat) (e : Int × Value), t.place[i]? = some (walk t.mask (start t.mask (hT prog w k)) m).j ∧ es[i]? = some e ∧ ¬ KE prog w s.heap e k) →
      wpAny (model prog w) A (setSearchFrom a (.ref b) (hT prog w k) adding fuel stand) Q E s
  | 0, n, _, _, _, hf, _ => absurd hf (by omega)
  | fuel + 1, n, stand, hst, hn, hf, hpast => by
    have wa : ∀ m, walk t.mask (walk t.mask (start t.mask (hT prog w k)) n) m = walk t.mask (start t.mask (hT prog w k)) (n + m) := fun m => (walk_add _ _ _ _).symm
    obtain ⟨n', hn', hskip, hcase⟩ := go_spec g.ti (hashAt := gH es) (h := hT prog w k) (10 * SetTable.turns t.mask) (walk t.mask (start t.mask (hT prog w k)) n) (N - n) (walk_dummy _ _ _) (by omega) (by rw [wa, show n + (N - n) = N by omega]; exact hNe)
    simp only [wa] at hskip hcase
    have past : ∀ m, m < n + n' → ∃ (i : Nat) (e : Int × Value), t.place[i]? = some (walk t.mask (start t.mask (hT prog w k)) m).j ∧ es[i]? = some e ∧ ¬ KE prog w s.heap e k := fun m hm => by
      by_cases c : m < n
      · exact hpast m c
      · obtain ⟨m', rfl⟩ : ∃ m', m = n + m' := ⟨m - n, by omega⟩
        obtain ⟨i, hi, hh⟩ := hskip m' (by omega)
        obtain ⟨e, he, _⟩ := place_zip g hi
        refine ⟨i, e, hi, he, fun ⟨_, _, _, q⟩ => hh ?_⟩
        show (es[i]?.map (·.1)).getD 0 = _
        rw [he]; exact q
    unfold setSearchFrom
    refine wpAny_bind (wpAny_setState_of ho hd g.fits ?_)
    dsimp only
    rw [hst, g.gave]
    simp only [Bool.false_eq_true, if_false]
    rw [probe_of (g := gH es)]
    rotate_left
    · exact fun i => rfl
    rcases hcase with ⟨hgo, hempty⟩ | ⟨i, hgo, hi, hh⟩
    · rw [hgo]
      dsimp only
      refine wpAny_pure (h2 ?_ _ hempty ⟨n + n', rfl, fun m hm => ?_⟩)
      · rintro ⟨e, he, hk⟩
        obtain ⟨j, hj⟩ := ke_zip g he
        obtain ⟨m, hm, hall⟩ := g.found _ hj
        have eh : e.1 = hT prog w k := let ⟨_, _, _, q⟩ := hk; q
        simp only [eh] at hm hall
        obtain ⟨i', hi', hi2⟩ := zip_place hj
        by_cases c : m < n + n'
        · obtain ⟨i2, e2, p1, p2, p3⟩ := past m c
          rw [hm] at p1
          have : i2 = i' := by
            have a1 := slot_live g.ti p1
            have a2 := slot_live g.ti hi'
            rw [a1] at a2; injection a2
          subst this
          rw [hi2] at p2; cases p2
          exact p3 hk
        · by_cases c2 : m = n + n'
          · subst c2
            rw [hm] at hempty
            exact hempty (Array.mem_toList_iff.mpr (Array.mem_of_getElem? hi'))
          · exact hempty (hall _ (by omega))
      · obtain ⟨i, _, p1, _⟩ := past m hm
        exact Array.mem_toList_iff.mpr (Array.mem_of_getElem? p1)
    · rw [hgo]
      dsimp only
      obtain ⟨e, he, hz⟩ := place_zip g hi
      have hem : e ∈ es.toList := by rw [Array.mem_toList_iff]; exact Array.mem_of_getElem? he
      obtain ⟨k', hk'⟩ := hes e hem
      obtain ⟨c, hc1, hc2, hc3⟩ := hk'
      obtain ⟨e1, e2⟩ := e
      simp only at hc1 hc3
      subst hc1
      have go : wpAny (model prog w) A (do
          let some (_, y) := es[i]? | unsupported "internal:set-entry"
          let equal ← holding [y] (eqBool y (.ref b))
          let (es', _, t') ← setState a
          if adding && equal then return .there none
          let some same := t'.sameMemory t.moves t.mask | unsupported "set.changed-during-lookup:is-the-new-block-at-the-old-address"
          let still ← match (if same then t'.slot (walk t.mask (start t.mask (hT prog w k)) (n + n')).j else .empty) with
            | .live i' => match es'[i']? with
              | some (_, y') => do pure (if ← isSame y' y then some i' else none)
              | none => pure none
            | _ => pure none
          match still with
          | none => rule "set.search.anew"; setSearchFrom a (.ref b) (hT prog w k) adding fuel none
          | some i' => if equal then return .there (some i') else setSearchFrom a (.ref b) (hT prog w k) adding fuel (some (walk t.mask (start t.mask (hT prog w k)) (n + (n' + 1))))) Q E s := by
        rw [he]
        dsimp only
        refine wpAny_bind (wpAny_holding (wpAny_eqBool_tuple hu hc2 hb ?_))
        refine wpAny_bind (wpAny_setState_of ho hd g.fits ?_)
        dsimp only
        have hke : KE prog w s.heap (e1, .ref c) k ↔ k' = k := ⟨fun ⟨c', q1, q2, _⟩ => by cases q1; exact hc2.inj q2, fun q => q ▸ ⟨c, rfl, hc2, hc3⟩⟩
        refine wpAny_ite_split (fun hab => ?_) fun hab => ?_
        · have : adding = true ∧ k' = k := by simpa using hab
          exact wpAny_pure (h1 ⟨_, hem, hke.mpr this.2⟩ none fun q => by rw [this.1] at q; cases q)
        · have hsm : t.sameMemory t.moves t.mask = some true := by unfold SetTable.sameMemory; rw [if_pos (by simp)]
          rw [hsm]
          dsimp only
          simp only [if_true]
          rw [slot_live g.ti hi]
          dsimp only
          rw [he]
          dsimp only
          refine wpAny_bind (wpAny_isSame_ref_self (wpAny_bind (wpAny_pure ?_)))
          simp only [if_true]
          refine wpAny_ite_split (fun q => ?_) fun q => ?_
          · exact wpAny_pure (h1 ⟨_, hem, hke.mpr (by simpa using q)⟩ (some i) fun _ => rfl)
          · have hlt : n + n' < N := by
              by_cases cc : n + n' = N
              · exfalso; rw [cc] at hi; exact hNe (Array.mem_toList_iff.mpr (Array.mem_of_getElem? hi))
              · omega
            refine search_from ho hd g hes hu hb hN hNe h1 h2 fuel (n + (n' + 1)) _ rfl ?_ ?_ fun m hm => ?_
            · omega
            · omega
            · by_cases cc : m < n + n'
              · exact past m cc
              · obtain rfl : m = n + n' := by omega
                exact ⟨i, _, hi, he, fun q' => q (by simpa using hke.mp q')⟩
      cases hled : t.led with
      | true =>
        simp only [Bool.not_true, Bool.false_eq_true, if_false]
        exact go
      | false =>
        simp only [Bool.not_false, if_true]
        refine wpAny_bind (unseen hb (fun v hv => ?_) ?_)
        · obtain ⟨e', he', rfl⟩ := List.mem_map.mp hv
          rw [Array.toList_filter] at he'
          obtain ⟨k2, c2, r1, r2, _⟩ := hes e' (List.mem_filter.mp he').1
          exact ⟨c2, k2, r1, r2⟩
        · simp only [Bool.false_eq_true, if_false]
          exact go
theorem search_ok {a b : Addr} {o : Obj} {es : Array (Int × Value)} {ep : Nat} {t : SetTable} (ho : s.heap.get? a = some o) (hd : o.data = .set es ep t) (g : TG t es) (hes : ∀ e ∈ es.toList, ∃ k, KE prog w s.heap e k)
    (hu : A.units < cLine) {k : List Int} (hb : IsTupleKey (intKind prog w) s.heap k b) {adding : Bool} {Q : SetFound → Shared → Prop}
    (h1 : (∃ e ∈ es.toList, KE prog w s.heap e k) → ∀ i : Option Nat, (adding = false → i.isSome = true) → Q (.there i) s)
    (h2 : (¬ ∃ e ∈ es.toList, KE prog w s.heap e k) → ∀ j, j ∉ t.place.toList → Fnd t.mask (· ∈ t.place.toList) (hT prog w k) j → Q (.free j false) s) :
    wpAny (model prog w) A (setSearch a (.ref b) (hT prog w k) adding) Q E s := by
  obtain ⟨e, he1, he2⟩ := hole g.ti (by rw [g.size]; exact g.room)
  obtain ⟨N, hN, hNe⟩ := meets g.mask (on_start t.mask (hT prog w k)) he1
  unfold setSearch
  refine search_from ho hd g hes hu hb hN (by rw [hNe]; exact he2) h1 h2 100000 0 none rfl (Nat.zero_le _) ?_ fun m hm => absurd hm (by omega)
  unfold SetTable.turns at hN
  rcases g.mask with c | c | c | c <;> rw [c] at hN <;> omega
end
end Sw
namespace Sw
open PySem PySem.Spec PyProof.Rows
theorem adv_le {M : Nat} {p : Pb} (h : p.j + p.more ≤ M) : (adv M p).j + (adv M p).more ≤ M := by
  unfold adv; split
  · show p.j + 1 + (p.more - 1) ≤ M; omega
  · have hl : (SetTable.leap M p.i p.perturb).1 ≤ M := Nat.lt_succ_iff.mp (Nat.mod_lt _ (Nat.succ_pos M))
    have := runEnd_le2 hl
    show (SetTable.leap M p.i p.perturb).1 + (SetTable.runEnd M (SetTable.leap M p.i p.perturb).1 - (SetTable.leap M p.i p.perturb).1) ≤ M; omega
theorem walk_le {M : Nat} {p : Pb} (h : p.j + p.more ≤ M) : ∀ n, (walk M p n).j + (walk M p n).more ≤ M
  | 0 => h
  | n + 1 => adv_le (walk_le h n)
theorem start_le (M : Nat) (h : Int) : (start M h).j + (start M h).more ≤ M := by
  have hl : SetTable.bits h % (M + 1) ≤ M := Nat.lt_succ_iff.mp (Nat.mod_lt _ (Nat.succ_pos M))
  have := runEnd_le2 hl
  show SetTable.bits h % (M + 1) + (SetTable.runEnd M (SetTable.bits h % (M + 1)) - SetTable.bits h % (M + 1)) ≤ M; omega
theorem Fnd.le {M : Nat} {L : Nat → Prop} {h : Int} {j : Nat} (f : Fnd M L h j) : j ≤ M := by
  obtain ⟨n, rfl, _⟩ := f
  have := walk_le (start_le M h) n; omega
section
variable {prog : Program} {w : World}
def ST (prog : Program) (w : World) (bt : Bool) (h0 h : Heap) (a : Addr) (ks : List (List Int)) : Prop :=
  ∃ o es ep t, h.get? a = some o ∧ o.ExactSet ∧ o.data = .set es ep t ∧ TG t es ∧ es.size * 5 < t.mask * 3 ∧ t.led = !bt ∧ t.plain = true ∧ (∀ e ∈ es.toList, ∃ k, KE prog w h0 e k) ∧ (∀ k, k ∈ ks ↔ ∃ e ∈ es.toList, KE prog w h0 e k) ∧ ks.length = es.size ∧ ks.Nodup
theorem ST.keep {bt : Bool} {h0 h h' : Heap} {a : Addr} {ks : List (List Int)} (x : ST prog w bt h0 h a ks) (k : ∀ o, h.get? a = some o → h'.get? a = some o) : ST prog w bt h0 h' a ks :=
  let ⟨o, es, ep, t, e, r⟩ := x; ⟨o, es, ep, t, k o e, r⟩
def Ext (h0 h : Heap) : Prop := ∀ b o, h0.get? b = some o → h.get? b = some o
theorem Ext.key {h0 h : Heap} (x : Ext h0 h) {k : List Int} {b : Addr} (y : IsTupleKey (intKind prog w) h0 k b) : IsTupleKey (intKind prog w) h k b := IsTupleKey.keep y fun o e => x b o e
theorem Ext.ke {h0 h : Heap} (x : Ext h0 h) {k : List Int} {e : Int × Value} (y : KE prog w h0 e k) : KE prog w h e k := let ⟨b, e1, e2, e3⟩ := y; ⟨b, e1, x.key e2, e3⟩
theorem KE.inj {h : Heap} {e : Int × Value} {k k' : List Int} (x : KE prog w h e k) (y : KE prog w h e k') : k = k' := by
  obtain ⟨b, e1, e2, _⟩ := x
  obtain ⟨b', e1', e2', _⟩ := y
  rw [e1] at e1'; cases e1'
  exact e2.inj e2'
variable {A : Around} {E : Value → Shared → Prop} {s : Shared}
theorem grow_msk {M n : Nat} (hM : Msk M) (h1 : n * 5 < M * 3) (h2 : (n + 1) * 5 ≥ M * 3) (h3 : n + 1 ≤ 306) : Msk (SetTable.sizeAbove (SetTable.grown (n + 1)) - 1) ∧ (n + 1) * 5 < (SetTable.sizeAbove (SetTable.grown (n + 1)) - 1) * 3 ∧ SetTable.sizeAbove (SetTable.grown (n + 1)) ≤ 512 := by
  rcases hM with rfl | rfl | rfl | rfl
  · obtain rfl : n = 4 := by omega
    exact ⟨.inr (.inl (by decide +kernel)), by decide +kernel, by decide +kernel⟩
  · obtain rfl : n = 18 := by omega
    exact ⟨.inr (.inr (.inl (by decide +kernel))), by decide +kernel, by decide +kernel⟩
  · obtain rfl : n = 76 := by omega
    exact ⟨.inr (.inr (.inr (by decide +kernel))), by decide +kernel, by decide +kernel⟩
  · omega
theorem st_add {bt : Bool} {h0 : Heap} {a b : Addr} {ks : List (List Int)} {k : List Int} {Q : Bool → Shared → Prop} (hu : A.units < cLine) (hS : ST prog w bt h0 s.heap a ks) (hx : Ext h0 s.heap) (ha0 : h0.get? a = none) (hb : IsTupleKey (intKind prog w) h0 k b) (hroom : ks.length + 1 ≤ 306)
    (h : ∀ h' ks' b, Heap.SameBut a s.heap h' → ST prog w bt h0 h' a ks' → (∀ x, x ∈ ks' ↔ x ∈ ks ∨ x = k) → ks'.length ≤ ks.length + 1 → Q b { s with heap := h' }) :
    wpAny (model prog w) A (setAddHashed a (.ref b) (hT prog w k)) Q E s := by
  obtain ⟨o, es, ep, t, ho, hex, hd, g, hrm, hled, hpl, hes, hmem, hlen, hnd⟩ := hS
  have hbh := hx.key hb
  have hes' : ∀ e ∈ es.toList, ∃ k, KE prog w s.heap e k := fun e he => let ⟨k, q⟩ := hes e he; ⟨k, hx.ke q⟩
  have hiff : (∃ e ∈ es.toList, KE prog w s.heap e k) ↔ k ∈ ks := by
    rw [hmem]
    constructor
    · rintro ⟨e, he, q⟩
      obtain ⟨k', q'⟩ := hes e he
      have := (hx.ke q').inj q
      subst this; exact ⟨e, he, q'⟩
    · rintro ⟨e, he, q⟩; exact ⟨e, he, hx.ke q⟩
  unfold setAddHashed setAddHashedIn
  refine wpAny_holding (wpAny_bind (wpAny_setState_of ho hd g.fits ?_))
  dsimp only
  rw [show byScan (.ref b) es = false from rfl]
  simp only [Bool.false_eq_true, if_false]
  refine wpAny_bind (search_ok ho hd g hes' hu hbh (fun hin i _ => ?_) fun hnin j hj hf => ?_)
  · dsimp only
    refine wpAny_pure ?_
    have e : s = { s with heap := s.heap } := by cases s; rfl
    rw [e]
    exact h s.heap ks _ (Heap.SameBut.refl a s.heap) ⟨o, es, ep, t, ho, hex, hd, g, hrm, hled, hpl, hes, hmem, hlen, hnd⟩ (fun x => ⟨.inl, fun q => q.elim id fun e => e ▸ hiff.mp hin⟩) (Nat.le_succ _)
  · have hnk : k ∉ ks := fun q => hnin (hiff.mpr q)
    have hr1 : es.size + 1 ≤ t.mask := by
      rcases g.mask with c | c | c | c <;> rw [c] at hrm ⊢ <;> omega
    obtain ⟨g', hp'⟩ := g.put hr1 hf.le hj (h := hT prog w k) (v := .ref b) hf
    dsimp only
    refine wpAny_bind (wpAny_setState_of ho hd g.fits ?_)
    dsimp only
    have hpl' : (t.put j).1.plain = true := hpl
    rw [hpl']
    simp only [if_true]
    refine wpAny_bind (hashByValue_tuple hbh ?_)
    simp only [if_true]
    have hsz' : (SetTable.insertAt es (t.put j).2 (hT prog w k, .ref b)).size = es.size + 1 := by rw [← Array.length_toList, hp'.length_eq]; simp
    have hle : es.size ≤ 306 := by omega
    refine wpAny_bind (wpAny_storeSet_of ho hd ?_ (fits_of_scanBound (by rw [hsz']; unfold scanBound; omega)))
    generalize hes1 : SetTable.insertAt es (t.put j).2 (hT prog w k, .ref b) = es1 at *
    generalize ht1 : (t.put j).1 = t1 at *
    have hm1 : t1.mask = t.mask := by rw [← ht1]; rfl
    have hled1 : t1.led = !bt := by rw [← ht1]; exact hled
    have g1 : (s.heap.update a (Obj.putSet es1 t1)).get? a = some { o with data := .set es1 (ep + 1) t1 } := by
      have := Heap.get?_update_self (Obj.putSet es1 t1) ho (by rw [putSet_of es1 t1 hd]; rfl)
      rw [putSet_of es1 t1 hd] at this; exact this
    have b1 := Heap.SameBut.update s.heap a (Obj.putSet es1 t1)
    have hke : KE prog w h0 (hT prog w k, .ref b) k := ⟨b, rfl, hb, rfl⟩
    have fin : ∀ (h' : Heap) (es2 : Array (Int × Value)) (ep2 : Nat) (t2 : SetTable), Heap.SameBut a s.heap h' → h'.get? a = some { o with data := .set es2 ep2 t2 } → es2.toList.Perm es1.toList → TG t2 es2 → es2.size * 5 < t2.mask * 3 → t2.led = !bt → t2.plain = true → Q true { s with heap := h' } := by
      intro h' es2 ep2 t2 hsb gg hp2 g2 hr2 hl2 hpl2
      have hp3 := hp2.trans hp'
      refine h h' (k :: ks) true hsb ⟨_, es2, ep2, t2, gg, hex, rfl, g2, hr2, hl2, hpl2, fun e he => ?_, fun x => ?_, ?_, List.nodup_cons.mpr ⟨hnk, hnd⟩⟩ (fun x => by rw [List.mem_cons]; exact Or.comm) (by simp)
      · rcases List.mem_cons.mp (hp3.mem_iff.mp he) with rfl | q
        · exact ⟨k, hke⟩
        · exact hes e q
      · rw [List.mem_cons, hmem]
        constructor
        · rintro (rfl | ⟨e, he, q⟩)
          · exact ⟨_, hp3.mem_iff.mpr List.mem_cons_self, hke⟩
          · exact ⟨e, hp3.mem_iff.mpr (List.mem_cons_of_mem _ he), q⟩
        · rintro ⟨e, he, q⟩
          rcases List.mem_cons.mp (hp3.mem_iff.mp he) with rfl | q2
          · exact .inl (q.inj hke)
          · exact .inr ⟨e, q2, q⟩
      · rw [← Array.length_toList, hp3.length_eq, List.length_cons, List.length_cons, hlen, Array.length_toList]
    simp only [Bool.not_false, Bool.true_and]
    have hfill : t1.fill = es.size + 1 := by unfold SetTable.fill; rw [g'.ti.nod, g'.size, hsz']; rfl
    refine wpAny_ite_split (fun htf => ?_) fun htf => ?_
    · have htf' : (es.size + 1) * 5 ≥ t.mask * 3 := by
        have : decide (t1.fill * 5 ≥ t1.mask * 3) = true := htf
        rw [hfill, hm1] at this; exact of_decide_eq_true this
      obtain ⟨m1, m2, m3⟩ := grow_msk g.mask hrm htf' (by omega)
      unfold setRelay
      refine wpAny_bind ?_
      refine wpAny_bind (wpAny_setState_of (s := { s with heap := s.heap.update a (Obj.putSet es1 t1) }) g1 rfl g'.fits ?_)
      dsimp only
      refine wpAny_ite_split (fun hbig => absurd hbig (Nat.not_lt.mpr (Nat.le_trans m3 (L2.small_le (m := 512) (by omega))))) fun _ => ?_
      obtain ⟨t2, order, e2, p2, g2, l2, pl2, mk2⟩ := laid_ok m1 t1.finger (t1.movedTo (SetTable.sizeAbove (SetTable.grown (es.size + 1)) - 1)) t1.led t1.plain es1 (by rw [hsz']; omega)
      have e3 : t1.relaid (es1.map (·.1)) (SetTable.grown (es.size + 1)) = some (t2, order) := e2
      rw [e3]
      refine wpAny_bind ?_
      have hs2 : (order.filterMap (es1[·]?)).size = es1.size := by rw [← Array.length_toList, p2.length_eq, Array.length_toList]
      show wpAny _ _ (if ((order.filterMap (es1[·]?)).size != es1.size) = true then _ else pure (order.filterMap (es1[·]?), t2)) _ _ _
      rw [if_neg (by rw [hs2]; simp)]
      refine wpAny_pure ?_
      dsimp only
      refine wpAny_storeSet_of (s := { s with heap := s.heap.update a (Obj.putSet es1 t1) }) g1 rfl ?_ (fits_of_scanBound (by rw [hs2, hsz']; unfold scanBound; omega))
      have g4 : ((s.heap.update a (Obj.putSet es1 t1)).update a (Obj.putSet (order.filterMap (es1[·]?)) t2)).get? a = some { o with data := .set (order.filterMap (es1[·]?)) (ep + 1 + 1) t2 } := Heap.get?_update_self (Obj.putSet _ t2) g1 rfl
      refine wpAny_pure ?_
      exact fin _ _ _ t2 (b1.trans (Heap.SameBut.update _ a _)) g4 p2 g2 (by rw [hs2, hsz', mk2]; exact m2) (by rw [l2]; exact hled1) (by rw [pl2]; exact hpl')
    · have htf' : ¬ (es.size + 1) * 5 ≥ t.mask * 3 := fun c => htf (by
        show decide (t1.fill * 5 ≥ t1.mask * 3) = true
        rw [hfill, hm1]; exact decide_eq_true c)
      refine wpAny_pure ?_
      exact fin _ _ _ t1 b1 g1 (List.Perm.refl _) g' (by rw [hsz', hm1]; omega) hled1 hpl'
end
end Sw
namespace Sw
open PySem PySem.Spec PyProof.Rows
section
variable {prog : Program} {w : World} {A : Around} {E : Value → Shared → Prop} {s : Shared}
theorem st_loop {R : Result → Shared → Prop} {I : Addr} {fp wr : List Addr} {G : Array GenState → Array GenState → Prop} {n : Nat} {P : Nat → Value → Prop} {St : Nat → Shared → Prop} (W : WalksS prog w A.in1 I fp wr G n P St) (S : Addr) (hSf : S ∉ fp) (ns : List (List Int)) (hl : ns.length = n) {h0 : Heap} (hS0 : h0.get? S = none) (hI0 : ∀ b ∈ wr, h0.get? b = none) (hval : ∀ i v, P i v → ∃ k b, ns[i]? = some k ∧ v = .ref b ∧ IsTupleKey (intKind prog w) h0 k b) (hb : n + 1 ≤ 306) (hu : A.units + 1 < cLine) :
    ∀ (k i : Nat) (s : Shared) (ks : List (List Int)), n - i = k → i ≤ n → St i s → Ext h0 s.heap → ST prog w (bt w) h0 s.heap S ks → (∀ x, x ∈ ks ↔ x ∈ ns.take i) → ks.length ≤ i →
      (∀ s' ks', Moved (S :: wr) G s s' → ST prog w (bt w) h0 s'.heap S ks' → (∀ x, x ∈ ks' ↔ x ∈ ns) → ks'.length ≤ n → R (.ok (.ret .none)) s') →
      codeAny (model prog w) A (.builtin "set.update.loop" ⟨[.ref S, .ref I], []⟩) R s := by
  have hSw : S ∉ wr := fun h => hSf (W.sub _ h)
  have hsub : ∀ b ∈ wr, b ∈ S :: wr := fun b hb => List.mem_cons_of_mem _ hb
  intro k
  induction k with
  | zero =>
    intro i s ks hk hi hst hx hS hm0 hle hR
    have hin : i = n := by omega
    subst hin
    refine codeAny_builtin F.entry_set_update_loop ?_
    rw [Around.under_plainId F.plain_set_update_loop _]
    show wpAny _ A.in1 (pyNext (.ref I) >>= _) _ _ s
    refine wpAny_bind (W.done s _ _ hst fun s' hm => ?_)
    show wpAny _ A.in1 (ret Value.none) _ _ s'
    exact wpAny_pure (hR s' ks (hm.mono hsub) (hS.keep fun o e => hm.heap S o hSw e) (fun x => by rw [hm0, ← hl, List.take_length]) hle)
  | succ k ih =>
    intro i s ks hk hi hst hx hS hm0 hle hR
    have hlt : i < n := by omega
    refine codeAny_builtin F.entry_set_update_loop ?_
    rw [Around.under_plainId F.plain_set_update_loop _]
    show wpAny _ A.in1 (pyNext (.ref I) >>= _) _ _ s
    refine wpAny_bind (W.item i s _ _ hlt hst fun v s' hP hst' hm => ?_)
    obtain ⟨c, t, hc, rfl, hkey⟩ := hval i v hP
    have hx' : Ext h0 s'.heap := fun b o e => hm.heap b o (fun hbw => by rw [hI0 b hbw] at e; cases e) (hx b o e)
    show wpAny _ A.in1 (holding [Value.ref t] (setAdd S (.ref t)) >>= _) _ _ s'
    refine wpAny_bind (wpAny_holding ?_)
    unfold setAdd
    refine wpAny_holding ?_
    refine wpAny_bind (wpAny_pyHash_tuple (A := A.in1) (show A.units + 1 < cLine from hu) (hx'.key hkey) ?_)
    refine st_add (s := { s' with toks := s'.toks + (c.length + 1) }) (show A.units + 1 < cLine from hu) (hS.keep fun o e => hm.heap S o hSw e) hx' hS0 hkey (by omega) fun h' ks' b hsb hS2 hmem hlen => ?_
    have hx2 : Ext h0 h' := fun b o e => by
      rw [hsb.2 b (fun h : b = S => by rw [h, hS0] at e; cases e)]; exact hx' b o e
    refine wpAny_pure ⟨plainId_quiet F.plain_set_update_loop _, ih (i + 1) _ ks' (by omega) hlt (W.frame _ s' _ _ hst' (by show s'.toks ≤ s'.toks + (c.length + 1); omega) fun b hb o e => ?_) hx2 hS2 (fun x => ?_) (by omega) fun s'' ks'' hm'' hS'' hmem'' hlen'' => ?_⟩
    · rw [hsb.2 b (fun h : b = S => hSf (by rw [← h]; exact hb))]; exact e
    · rw [hmem, hm0, List.take_succ, hc, List.mem_append]; simp
    · refine hR s'' ks'' (Moved.trans W.gtrans ((hm.mono hsub).then_heap (by show s'.toks ≤ s'.toks + (c.length + 1); omega) fun b o hb e => ?_) hm'') hS'' hmem'' hlen''
      rw [hsb.2 b (fun h : b = S => hb (by rw [h]; exact List.mem_cons_self))]; exact e
theorem call_setT {l : Addr} {items : Array Value} {ns : List (List Int)} {Q : Value → Shared → Prop} (hh : A.handled = none) (hu : A.units + 8 < cLine) (hl : s.heap.IsList l items) (hi : ns.length = items.size ∧ ∀ (i : Nat) (v : Value), items[i]? = some v → ∃ k b, ns[i]? = some k ∧ v = .ref b ∧ IsTupleKey (intKind prog w) s.heap k b) (hb : items.size + 1 ≤ 306)
    (h : ∀ (h' : Heap) (tk : Nat) (ks : List (List Int)), ST prog w (bt w) s.heap h' s.heap.objs.size ks → (∀ x, x ∈ ks ↔ x ∈ ns) → ks.length ≤ items.size → (∀ b o, s.heap.get? b = some o → h'.get? b = some o) → Q (.ref s.heap.objs.size) { s with heap := h', toks := tk }) :
    wpAny (model prog w) A (call (.type "set") [.ref l]) Q E s := by
  obtain ⟨c, tl, hmro⟩ := F.called_set.mro
  have hmade := F.called_set.made
  have hsub := F.called_set.sub
  refine wpAny_call (codeAny_of_tree ?_)
  show wpAny _ _ (callAny (.type "set") _) _ _ _
  refine wpAny_pure ⟨Code.quiet_builtin _ (by decide +kernel), codeAny_builtin F.entry_type_call ?_⟩
  rw [Around.under_plain (weight_type_call_type "set" [.ref l] []) rfl]
  have h1 := F.called_set.notType
  have h2 := F.called_set.canCreate
  have hct := F.typeCall_set_1 (.ref l)
  repeat (any_goals (first | assumption | wp_step))
  refine codeAny_mono (set_new1 (.ref l) (E := E) (Q₁ := fun obj s₁ => obj = .ref s.heap.objs.size ∧ s₁ = { s with heap := s.heap.push { cls := .type "set", dict := none, data := .set #[] 0 (.fresh 0 0 (!bt w)) } }) ⟨rfl, rfl⟩) fun r s₁ hr => ?_
  cases r with
  | error e => exact hr
  | ok fl =>
    cases fl with
    | ret obj =>
      obtain ⟨rfl, rfl⟩ := hr
      have hS : (s.heap.push { cls := .type "set", dict := none, data := .set #[] 0 (.fresh 0 0 (!bt w)) }).get? s.heap.objs.size = some { cls := .type "set", dict := none, data := .set #[] 0 (.fresh 0 0 (!bt w)) } := Heap.get?_push_size _ rfl
      have hT : Shared.TypeIs { s with heap := s.heap.push { cls := .type "set", dict := none, data := .set #[] 0 (.fresh 0 0 (!bt w)) } } (.ref s.heap.objs.size) "set" := ⟨_, hS, rfl⟩
      have hli := F.called_set.init.lookup
      have hbi := F.called_set.init.bind (.ref s.heap.objs.size)
      repeat (any_goals (first | assumption | wp_step))
      refine codeAny_mono (codeAny_call_builtin (R := wants (fun r s₂ => r = .none ∧ ∃ h' tk ks, s₂ = { s with heap := h', toks := tk } ∧ ST prog w (bt w) s.heap h' s.heap.objs.size ks ∧ (∀ x, x ∈ ks ↔ x ∈ ns) ∧ ks.length ≤ items.size ∧ (∀ b o, s.heap.get? b = some o → h'.get? b = some o)) E) F.called_set.init.plain F.entry_set_init (check_set_init_1 hT ?_)) fun r₂ s₂ hr₂ => ?_
      · obtain ⟨ol, hol, hcl, nl, hdl⟩ := hl
        obtain ⟨ocls, odict, odata, oslots⟩ := ol
        simp only at hcl hdl
        subst hcl; subst hdl
        have hol' : (s.heap.push { cls := .type "set", dict := none, data := .set #[] 0 (.fresh 0 0 (!bt w)) }).get? l = some { cls := .type "list", dict := odict, data := .seq items nl, slots := oslots } := Heap.get?_push_of_some _ hol
        have hsls := F.sub_list_set
        have hslf := F.sub_list_frozenset
        have hne : (Value.type "list" == Value.type "dict") = false := by decide
        have hl1 : (s.heap.push { cls := .type "set", dict := none, data := .set #[] 0 (.fresh 0 0 (!bt w)) }).IsList l items := ⟨_, hol', rfl, nl, rfl⟩
        unfold Builtin.«set.__init__» noKeywords Builtin.Frozenset.updateFrom
        generalize hPI : pyIter = PI
        wp_walk
        subst hPI
        refine wpAny_pyIter_list hl1 ?_
        refine wpAny_bind (wpAny_runValue ?_)
        have hlS : l < s.heap.objs.size := Heap.lt_size hol
        have hh3 : A.in1.in1.in1.handled = none := by simp [hh]
        have hneI : l ≠ (s.heap.push { cls := .type "set", dict := none, data := .set #[] 0 (.fresh 0 0 (!bt w)) }).objs.size := by
          rw [Heap.size_push]; exact Nat.ne_of_lt (Nat.lt_succ_of_lt hlS)
        have hSf : s.heap.objs.size ∉ [(s.heap.push { cls := .type "set", dict := none, data := .set #[] 0 (.fresh 0 0 (!bt w)) }).objs.size, l] := by
          rw [Heap.size_push]; simp only [List.mem_cons, List.mem_singleton, List.not_mem_nil, or_false, not_or]
          exact ⟨Nat.ne_of_lt (Nat.lt_succ_self _), Nat.ne_of_gt hlS⟩
        have hnone : s.heap.get? s.heap.objs.size = none := Heap.get?_none_of_le (Nat.le_refl _)
        have hnoI : ∀ b ∈ [(s.heap.push { cls := .type "set", dict := none, data := .set #[] 0 (.fresh 0 0 (!bt w)) }).objs.size], s.heap.get? b = none := fun b hb => by
          rw [List.mem_singleton.mp hb, Heap.size_push]; exact Heap.get?_none_of_le (Nat.le_succ _)
        refine st_loop ((Walks.list hh3 _ l hneI items).toS) s.heap.objs.size hSf ns hi.1 hnone hnoI hi.2 hb (by show A.units + 1 + 1 + 1 < cLine; omega) (items.size - 0) 0 _ [] (by omega) (Nat.zero_le _)
          ⟨⟨_, Heap.get?_push_size _ rfl, rfl, rfl⟩, (hl1.push _)⟩ (fun b o e => Heap.get?_push_of_some _ (Heap.get?_push_of_some _ e)) ?hS0 (fun x => by simp) (Nat.le_refl _) ?hR
        case hS0 =>
          have hget : ((s.heap.push { cls := .type "set", dict := none, data := .set #[] 0 (.fresh 0 0 (!bt w)) }).push { cls := .type "list_iterator", data := .fields #[.ref l, .int 0 0] }).get? s.heap.objs.size
              = some { cls := .type "set", dict := none, data := .set #[] 0 (.fresh 0 0 (!bt w)) } := Heap.get?_push_of_some _ hS
          exact ⟨_, #[], 0, _, hget, ⟨rfl, rfl, rfl⟩, rfl, TG.fresh _ _ _, (by show 0 * 5 < 7 * 3; decide), rfl, rfl, (fun e he => by simp at he), (fun k => by simp), rfl, List.nodup_nil⟩
        case hR =>
          intro s' ks' hm hS' hmem hlen'
          obtain ⟨h', g', d', tk', os'⟩ := s'
          have eg : g' = s.gens := hm.gens
          have ed : d' = s.drawn := hm.drawn
          have eo : os' = s.os := hm.os
          subst eg; subst ed; subst eo
          show wpAny _ _ _ _ _ _
          refine wpAny_pure ?_
          show wpAny _ _ (ret Value.none) _ _ _
          refine wpAny_pure ⟨rfl, h', tk', ks', rfl, hS', hmem, hlen', fun b o e => ?_⟩
          have hb := Heap.lt_size e
          have hb1 : b ≠ s.heap.objs.size := Nat.ne_of_lt hb
          have hb2 : b ≠ (s.heap.push { cls := .type "set", dict := none, data := .set #[] 0 (.fresh 0 0 (!bt w)) }).objs.size := by
            rw [Heap.size_push]; exact Nat.ne_of_lt (Nat.lt_succ_of_lt hb)
          exact hm.heap b o (by simp only [List.mem_cons, List.mem_singleton, List.not_mem_nil, or_false, not_or]; exact ⟨hb1, hb2⟩) (Heap.get?_push_of_some _ (Heap.get?_push_of_some _ e))
      · cases r₂ with
        | error e => exact hr₂
        | ok fl₂ =>
          cases fl₂ with
          | ret r =>
            obtain ⟨rfl, h', tk, ks, rfl, hS', hm', hl', hk'⟩ := hr₂
            repeat (any_goals (first | assumption | wp_step))
            exact h _ _ _ hS' hm' hl' hk'
          | _ => exact hr₂.elim
    | _ => exact hr.elim
end
end Sw
namespace Sw
open PySem PySem.Spec PyProof.Rows
theorem sub_set_frozen : isSubtype (.type "set") (.type "frozenset") = pure false := by rw [isSubtype_type]; kernel_rfl
theorem entry_set_eq : entryFor table "set.__eq__" = some Builtin.«frozenset.__eq__» :=
  entryFor_alias (id' := "frozenset.__eq__") (by kernel_rfl) rfl (by decide +kernel) (by kernel_rfl)
theorem entry_set_len : entryFor table "set.__len__" = some Builtin.«frozenset.__len__» :=
  entryFor_alias (id' := "frozenset.__len__") (by kernel_rfl) rfl (by decide +kernel) (by kernel_rfl)
section
variable {prog : Program} {w : World} {A : Around} {E : Value → Shared → Prop} {s : Shared}
theorem find_ok {b' : Bool} {h0 : Heap} {a b : Addr} {ks : List (List Int)} {k : List Int} {Q : Option Nat → Shared → Prop} (hu : A.units < cLine) (hS : ST prog w b' h0 s.heap a ks) (hx : Ext h0 s.heap) (hb : IsTupleKey (intKind prog w) s.heap k b)
    (h : ∀ r : Option Nat, r.isSome = decide (k ∈ ks) → Q r s) : wpAny (model prog w) A (setFind a (.ref b) (hT prog w k)) Q E s := by
  obtain ⟨o, es, ep, t, ho, hex, hd, g, hrm, hled, hpl, hes, hmem, hlen, hnd⟩ := hS
  have hes' : ∀ e ∈ es.toList, ∃ k, KE prog w s.heap e k := fun e he => let ⟨k, q⟩ := hes e he; ⟨k, hx.ke q⟩
  have hiff : (∃ e ∈ es.toList, KE prog w s.heap e k) ↔ k ∈ ks := by
    rw [hmem]
    constructor
    · rintro ⟨e, he, q⟩
      obtain ⟨k', q'⟩ := hes e he
      have := (hx.ke q').inj q
      subst this; exact ⟨e, he, q'⟩
    · rintro ⟨e, he, q⟩; exact ⟨e, he, hx.ke q⟩
  unfold setFind setFindIn
  refine wpAny_bind (wpAny_setState_of ho hd g.fits ?_)
  dsimp only
  rw [show byScan (.ref b) es = false from rfl]
  simp only [Bool.false_eq_true, if_false]
  refine wpAny_bind (search_ok ho hd g hes' hu hb (fun hin i hi => ?_) fun hnin j hj hf => ?_)
  · exact wpAny_pure (h i (by rw [hi rfl, decide_eq_true (hiff.mp hin)]))
  · exact wpAny_pure (h none (by rw [decide_eq_false fun q => hnin (hiff.mpr q)]; rfl))
theorem walk_ok {a : Addr} {o : Obj} {es : Array (Int × Value)} {ep : Nat} {t : SetTable} (ho : s.heap.get? a = some o) (hd : o.data = .set es ep t) (hf : t.fits es.size = true) (hled : t.led = !bt w) (hpl : t.plain = true) {Q : Array (Int × Value) → Shared → Prop}
    (h : ∀ L : Array (Int × Value), L.toList.Perm es.toList → Q L s) : wpAny (model prog w) A (setWalk a) Q E s := by
  unfold setWalk
  refine wpAny_bind (wpAny_setState_of ho hd hf ?_)
  dsimp only
  refine wpAny_bind ?_
  unfold setsByText
  refine wpAny_bind (wpAny_askSetting (wpAny_pure ?_))
  cases hbt : bt w with
  | true =>
    have b1' : (({ program := (model prog w).prog, params := (model prog w).w.params } : Setting).params.followText "set-order") = true := hbt
    rw [b1']
    simp only [↓reduceIte]
    refine wpAny_bind (wpAny_askSetting (wpAny_pure (h _ ?_)))
    unfold pickOrder
    have := pick_perm ((model prog w).w.params.setOrder a ep) es.size 0 es.toList #[] (by simp)
    simpa using this
  | false =>
    have b1' : (({ program := (model prog w).prog, params := (model prog w).w.params } : Setting).params.followText "set-order") = false := hbt
    rw [b1']
    simp only [Bool.false_eq_true, ↓reduceIte]
    refine wpAny_ite_split (fun hd => absurd (show (!t.plain && decide (es.size > 1)) = true from hd) (by rw [hpl]; simp)) (fun _ => wpAny_bind ?_)
    show wpAny _ _ (if (!t.led && decide (es.size > 1)) = true then _ else _) _ _ _
    rw [if_neg (by rw [hled, hbt]; simp)]
    exact wpAny_pure (wpAny_pure (h es (List.Perm.refl _)))
theorem unquiet {k : List Int} {b : Addr} (hb : IsTupleKey (intKind prog w) s.heap k b) {Q : Bool → Shared → Prop} (h : Q false s) : wpAny (model prog w) A (Builtin.Frozenset.quietEq (.ref b)) Q E s := by
  unfold Builtin.Frozenset.quietEq
  refine wpAny_bind (wpAny_specialOf hb.typeIs F.slot_tuple_eq.lookup (wpAny_pure ?_))
  rw [show (some (Value.builtin "tuple.__eq__") == some (Value.builtin "object.__eq__")) = false by decide +kernel]
  exact h
theorem unseen_walk {h1 h2 : Heap} {b2 : Bool} {a1 a2 : Addr} {ks1 ks2 : List (List Int)} {o : Obj} {es : Array (Int × Value)} {ep : Nat} {t : SetTable} (ho : s.heap.get? a1 = some o) (hd : o.data = .set es ep t) (hf : t.fits es.size = true) (hled : t.led = !bt w) (hpl : t.plain = true)
    (hes : ∀ e ∈ es.toList, ∃ k, KE prog w s.heap e k) (S2 : ST prog w b2 h2 s.heap a2 ks2) (x2 : Ext h2 s.heap) {Q : List (Int × Value) → Shared → Prop}
    (h : ∀ L : List (Int × Value), L.Perm es.toList → Q L s) : wpAny (model prog w) A (Builtin.Frozenset.walkUnseen a1 a2) Q E s := by
  obtain ⟨o2, es2, ep2, t2, ho2, hex2, hd2, g2, _, _, _, hes2, _⟩ := S2
  unfold Builtin.Frozenset.walkUnseen
  refine wpAny_bind (wpAny_setEntries_of ho hd hf ?_)
  refine wpAny_bind (wpAny_setEntries_of ho2 hd2 g2.fits ?_)
  have hall : ∀ e ∈ es.toList ++ es2.toList, ∃ k b, e.2 = .ref b ∧ IsTupleKey (intKind prog w) s.heap k b := fun e he => by
    rcases List.mem_append.mp he with q | q
    · obtain ⟨k, b, q1, q2, _⟩ := hes e q; exact ⟨k, b, q1, q2⟩
    · obtain ⟨k, q⟩ := hes2 e q
      obtain ⟨b, q1, q2, _⟩ := x2.ke q; exact ⟨k, b, q1, q2⟩
  refine wpAny_bind ?_
  cases hl : es.toList ++ es2.toList with
  | nil =>
    rw [List.forIn_nil]
    refine wpAny_pure (wpAny_pure (h _ (List.Perm.refl _)))
  | cons e L =>
    rw [hl] at hall
    obtain ⟨k, b, e1, e2⟩ := hall e List.mem_cons_self
    obtain ⟨eh, ev⟩ := e
    simp only at e1
    subst e1
    rw [List.forIn_cons]
    refine wpAny_bind ?_
    dsimp only
    refine wpAny_bind (unquiet e2 ?_)
    simp only [Bool.not_false, if_true]
    unfold Builtin.Frozenset.walk
    refine wpAny_bind (wpAny_bind (walk_ok ho hd hf hled hpl fun L hL => wpAny_pure ?_))
    exact wpAny_pure (wpAny_pure (wpAny_pure (h _ hL)))
theorem subset_ok {id : String} {h1 h2 : Heap} {b2 : Bool} {a1 a2 : Addr} {ks1 ks2 : List (List Int)} (hu : A.units < cLine) (S1 : ST prog w (bt w) h1 s.heap a1 ks1) (x1 : Ext h1 s.heap) (S2 : ST prog w b2 h2 s.heap a2 ks2) (x2 : Ext h2 s.heap) (hle : ks1.length ≤ ks2.length) {Q : Bool → Shared → Prop}
    (h : Q (decide (∀ k ∈ ks1, k ∈ ks2)) s) : wpAny (model prog w) A (Builtin.Frozenset.subsetOf id a1 a2) Q E s := by
  have S2' := S2
  obtain ⟨o, es, ep, t, ho, hex, hd, g, hrm, hled, hpl, hes, hmem, hlen, hnd⟩ := S1
  obtain ⟨o2, es2, ep2, t2, ho2, hex2, hd2, g2, _, _, _, hes2, _, hlen2, _⟩ := S2
  have hes' : ∀ e ∈ es.toList, ∃ k, KE prog w s.heap e k := fun e he => let ⟨k, q⟩ := hes e he; ⟨k, x1.ke q⟩
  have hmem' : ∀ k, k ∈ ks1 ↔ ∃ e ∈ es.toList, KE prog w s.heap e k := fun k => by
    rw [hmem]
    constructor
    · rintro ⟨e, he, q⟩; exact ⟨e, he, x1.ke q⟩
    · rintro ⟨e, he, q⟩
      obtain ⟨k', q'⟩ := hes e he
      have := (x1.ke q').inj q
      subst this; exact ⟨e, he, q'⟩
  unfold Builtin.Frozenset.subsetOf Builtin.Frozenset.sizeOf
  refine wpAny_bind (wpAny_bind (wpAny_setEntries_of ho hd g.fits (wpAny_pure ?_)))
  refine wpAny_bind (wpAny_bind (wpAny_setEntries_of ho2 hd2 g2.fits (wpAny_pure ?_)))
  rw [if_neg (by omega)]
  refine wpAny_bind (wpAny_setEpoch_of ho hd g.fits ?_)
  refine wpAny_bind (unseen_walk (h1 := h1) (ks1 := ks1) ho hd g.fits hled hpl hes' S2' x2 fun L hL => ?_)
  refine wpAny_bind ?_
  refine wpAny_forIn_list _ (fun rest r s' => r.1 = none ∧ s' = s ∧ (∀ e ∈ rest, e ∈ es.toList) ∧ ∀ e ∈ L, e ∉ rest → ∀ k, KE prog w s.heap e k → k ∈ ks2) _ ?_ ?_ _ _ ⟨rfl, rfl, fun e he => hL.mem_iff.mp he, fun e he hn => absurd he hn⟩
  · rintro ⟨eh, ev⟩ rest r s' ⟨hr, rfl, hin, hpast⟩
    have he := hin _ List.mem_cons_self
    obtain ⟨k, hk⟩ := hes' _ he
    have hk0 := hk
    obtain ⟨b, q1, q2, q3⟩ := hk0
    simp only at q1 q3
    subst q1; subst q3
    dsimp only
    refine wpAny_bind (wpAny_holding (find_ok hu S2' x2 q2 fun r hr => ?_))
    by_cases c : k ∈ ks2
    · rw [decide_eq_true c] at hr
      obtain ⟨i, rfl⟩ := Option.isSome_iff_exists.mp hr
      simp only [Option.isNone_some, Bool.false_eq_true, if_false]
      unfold Builtin.Frozenset.unchanged
      refine wpAny_bind (wpAny_bind (wpAny_setEpoch_of ho hd g.fits ?_))
      simp only [bne_self_eq_false, Bool.false_eq_true, if_false]
      refine wpAny_pure (wpAny_pure ⟨rfl, rfl, fun e he => hin e (List.mem_cons_of_mem _ he), fun e heL hn k' hk' => ?_⟩)
      by_cases c2 : e = (hT prog w k, .ref b)
      · subst c2
        rw [← hk.inj hk']; exact c
      · exact hpast e heL (fun q => by rcases List.mem_cons.mp q with q | q; exact c2 q; exact hn q) k' hk'
    · rw [decide_eq_false c] at hr
      cases r with
      | some i => cases hr
      | none =>
        simp only [Option.isNone_none, if_true]
        have hf : decide (∀ k ∈ ks1, k ∈ ks2) = false := decide_eq_false fun q => c (q k ((hmem' k).mpr ⟨_, he, hk⟩))
        rw [hf] at h
        exact wpAny_pure (wpAny_pure h)
  · rintro ⟨r1, r2⟩ s' ⟨hr, rfl, _, hpast⟩
    simp only at hr
    subst hr
    have ht : decide (∀ k ∈ ks1, k ∈ ks2) = true := decide_eq_true fun k hk => by
      obtain ⟨e, he, q⟩ := (hmem' k).mp hk
      exact hpast e (hL.mem_iff.mpr he) (by simp) k q
    rw [ht] at h
    exact wpAny_pure h
theorem eq_set {h1 h2 : Heap} {b2 : Bool} {a1 a2 : Addr} {ks1 ks2 : List (List Int)} (hu : A.units + 1 < cLine) (S1 : ST prog w (bt w) h1 s.heap a1 ks1) (x1 : Ext h1 s.heap) (S2 : ST prog w b2 h2 s.heap a2 ks2) (x2 : Ext h2 s.heap) {Q : Value → Shared → Prop}
    (h : Q (.bool (decide (ks1.length = ks2.length ∧ ∀ k ∈ ks1, k ∈ ks2))) s) : wpAny (model prog w) A (compareOp .Eq (.ref a1) (.ref a2)) Q E s := by
  have T1 : s.TypeIs (.ref a1) "set" := let ⟨o, _, _, _, e, c, _⟩ := S1; ⟨o, e, c.1⟩
  have T2 : s.TypeIs (.ref a2) "set" := let ⟨o, _, _, _, e, c, _⟩ := S2; ⟨o, e, c.1⟩
  show wpAny _ _ (richCompare .Eq (.ref a1) (.ref a2)) _ _ _
  refine wpAny_richCompare_same_room T1 T2 F.slot_set_eq (wpAny_call_entry F.slot_set_eq T1 entry_set_eq ?_ (F.args_set_eq_2 _ _)) (by omega)
  have S1' := S1
  have S2' := S2
  obtain ⟨o, es, ep, t, ho, hex, hd, g, hrm, hled, hpl, hes, hmem, hlen, hnd⟩ := S1
  obtain ⟨o2, es2, ep2, t2, ho2, hex2, hd2, g2, _, _, _, hes2, _, hlen2, _⟩ := S2
  show wpAny _ A.in1 (Builtin.Frozenset.slot1 "__eq__" ⟨[.ref a1, .ref a2], []⟩ >>= _) _ _ s
  refine wpAny_bind (m := Builtin.Frozenset.slot1 "__eq__" _) (wpAny_pure ?_)
  dsimp only
  refine wpAny_bind ?_
  unfold Builtin.Frozenset.isAnySet
  refine wpAny_bind (wpAny_isInstance (b := true) T2 sub_set_self ?_)
  refine wpAny_pure ?_
  simp only [Bool.not_true, Bool.false_eq_true, if_false]
  refine wpAny_bind (m := Builtin.Frozenset.addrOf (.ref a1)) (wpAny_pure ?_)
  refine wpAny_bind (m := Builtin.Frozenset.addrOf (.ref a2)) (wpAny_pure ?_)
  unfold Builtin.Frozenset.sizeOf
  refine wpAny_bind (wpAny_bind (wpAny_setEntries_of ho hd g.fits (wpAny_pure ?_)))
  refine wpAny_bind (wpAny_bind (wpAny_setEntries_of ho2 hd2 g2.fits (wpAny_pure ?_)))
  have fin : ∀ b : Bool, b = decide (ks1.length = ks2.length ∧ ∀ k ∈ ks1, k ∈ ks2) → wpAny (model prog w) A.in1 (ret (.bool b)) (fun r s' => ∃ v, r = .done (.ret v) ∧ v ≠ .notImplemented ∧ Q v s') E s := fun b hb => by
    subst hb
    exact wpAny_pure ⟨_, rfl, (fun e => nomatch e), h⟩
  refine wpAny_bind ?_
  refine wpAny_ite_split (fun hne => ?_) fun hne => ?_
  · refine wpAny_pure (fin false (Eq.symm (decide_eq_false fun q => ?_)))
    have : es.size ≠ es2.size := by simpa using hne
    omega
  · have heq : es.size = es2.size := by simpa using hne
    refine wpAny_bind (wpAny_bind (wpAny_isInstance (b := false) T1 sub_set_frozen ?_))
    refine wpAny_pure ?_
    simp only [Bool.false_eq_true, if_false]
    refine subset_ok (by show A.units + 1 < cLine; exact hu) S1' x1 S2' x2 (by omega) (fin _ ?_)
    have hl : ks1.length = ks2.length := by omega
    simp only [hl, true_and]
theorem len_set {a : Addr} {o : Obj} {es : Array (Int × Value)} {ep : Nat} {t : SetTable} (ho : s.heap.get? a = some o) (hex : o.ExactSet) (hd : o.data = .set es ep t) (hf : t.fits es.size = true) (hz : es.size ≤ sizeLine) {Q : Value → Shared → Prop}
    (h : ∀ tk tk' : Nat, Q (.int es.size tk) { s with toks := tk' }) : wpAny (model prog w) A (call (.builtin "len") [.ref a]) Q E s := by
  have hT : s.TypeIs (.ref a) "set" := ⟨o, ho, hex.1⟩
  have hfit : (es.size : Int) < 2 ^ 63 := by rw [sizeLine_eq] at hz; omega
  refine Calls.call_function_entry kind_len plain_len entry_len (args_len1 _) ?_
  unfold Builtin.«len»
  refine wpAny_bind (m := oneArg "len" _) (wpAny_pure ?_)
  refine wpAny_bind (m := callSpecial? (.ref a) (Str.ofString "__len__")) (wpAny_callSpecial?_slot (name := Str.ofString "__len__") hT F.slot_set_len (wpAny_call_entry F.slot_set_len hT entry_set_len ?_ (F.args_set_len_1 _)))
  show wpAny _ _ (Builtin.Frozenset.slot0 "__len__" _ >>= _) _ _ s
  refine wpAny_bind (m := Builtin.Frozenset.slot0 "__len__" _) (wpAny_pure ?_)
  unfold Builtin.Frozenset.sizeOf
  refine wpAny_bind (wpAny_bind (wpAny_setEntries_of ho hd hf (wpAny_pure (wpAny_ret_mkInt ?_))))
  show wpAny _ _ _ _ _ { s with toks := s.toks + 1 }
  refine wpAny_bind (wpAny_holding (wpAny_pure (wpAny_bind (wpAny_letGo ?_))))
  show wpAny _ _ (if ((es.size : Nat) : Int) < 0 then _ else _) _ _ _
  rw [if_neg (by omega)]
  show wpAny _ _ (if ((es.size : Nat) : Int) ≥ 2 ^ 63 then _ else _) _ _ _
  rw [if_neg (by omega)]
  exact wpAny_bind (wpAny_mkInt (wpAny_pure ⟨_, rfl, h _ _⟩))
end
end Sw
namespace L2
open PySem PySem.Spec PyProof.Rows PySem.W
theorem nodup_le' {α : Type} {ks ds : List α} (hn : ks.Nodup) (h : ∀ x ∈ ks, x ∈ ds) : ks.length ≤ ds.length := by
  induction ks generalizing ds with
  | nil => simp
  | cons a ks ih =>
    obtain ⟨h1, h2⟩ := List.nodup_cons.mp hn
    obtain ⟨l1, l2, rfl⟩ := List.append_of_mem (h a List.mem_cons_self)
    have := ih (ds := l1 ++ l2) h2 fun x hx => by
      have hx' := h x (List.mem_cons_of_mem _ hx)
      rcases List.mem_append.mp hx' with q | q
      · exact List.mem_append_left _ q
      · rcases List.mem_cons.mp q with q | q
        · exact absurd (q ▸ hx) h1
        · exact List.mem_append_right _ q
    simp at this ⊢; omega
theorem same_set {α : Type} [DecidableEq α] {ks ds : List α} (h1 : ks.Nodup) (h2 : ds.Nodup) : (ks.length = ds.length ∧ ∀ k ∈ ks, k ∈ ds) ↔ ∀ k, k ∈ ks ↔ k ∈ ds := by
  constructor
  · rintro ⟨hl, hs⟩ k
    refine ⟨hs k, fun hk => ?_⟩
    by_cases c : k ∈ ks
    · exact c
    · have := nodup_le' (List.nodup_cons.mpr ⟨c, h1⟩) (ds := ds) fun x hx => by
        rcases List.mem_cons.mp hx with rfl | hx
        · exact hk
        · exact hs x hx
      simp at this; omega
  · intro h
    exact ⟨Nat.le_antisymm (nodup_le' h1 fun x hx => (h x).mp hx) (nodup_le' h2 fun x hx => (h x).mpr hx), fun k hk => (h k).mp hk⟩
def kZ (p : Int × Int) : List Int := [p.1, p.2]
def toP (k : List Int) : Int × Int := (k.getD 0 0, k.getD 1 0)
theorem toP_kZ (p : Int × Int) : toP (kZ p) = p := rfl
theorem toP_nodup {ks : List (List Int)} (h : ks.Nodup) (hk : ∀ k ∈ ks, ∃ p, k = kZ p) : (ks.map toP).Nodup := by
  refine List.pairwise_map.mpr (List.Pairwise.imp_of_mem (fun {a b} ha hb hab c => ?_) h)
  obtain ⟨p, rfl⟩ := hk a ha
  obtain ⟨q, rfl⟩ := hk b hb
  rw [toP_kZ, toP_kZ] at c
  exact hab (by rw [c])
theorem mem_toP {ks : List (List Int)} {l : List (Int × Int)} (h : ∀ k, k ∈ ks ↔ k ∈ l.map kZ) (p : Int × Int) : p ∈ ks.map toP ↔ p ∈ l := by
  constructor
  · intro hp
    obtain ⟨k, hk, rfl⟩ := List.mem_map.mp hp
    obtain ⟨q, hq, rfl⟩ := List.mem_map.mp ((h k).mp hk)
    exact hq
  · intro hp
    exact List.mem_map.mpr ⟨kZ p, (h _).mpr (List.mem_map.mpr ⟨p, hp, rfl⟩), rfl⟩
section
variable {X : Cx} {pins : List (Addr × Obj)} {σ : St} {H : Hp} {s : Shared}
theorem tup_key (I : Inv X pins σ H s) {z : Zt} (h : PairAt H z) : IsTupleKey (intKind X.prog X.w) s.heap (kZ (zP z)) z.2.2 := by
  obtain ⟨its, rv, pl, hz⟩ := I.tuple (SqT.of (K := X.K) h)
  obtain ⟨u, u', rfl, r1, r2⟩ := vals2 rv
  obtain ⟨t1, rfl⟩ := r1
  obtain ⟨t2, rfl⟩ := r2
  obtain ⟨o, e, c, n, d⟩ := pl
  exact ⟨o, _, n, e, c, d, .cons (intKind_is _ _ _ _) (.cons (intKind_is _ _ _ _) .nil)⟩
theorem tup_keys (I : Inv X pins σ H s) {a : Addr} {zs : List Zt} (ha : H a = some (.lst (zs.map refZ))) (hz : ∀ z ∈ zs, PairAt H z) :
    ∃ items : Array Value, s.heap.IsList a items ∧ ((zs.map zP).map kZ).length = items.size ∧ items.size = zs.length ∧ ∀ (i : Nat) (v : Value), items[i]? = some v → ∃ k b, ((zs.map zP).map kZ)[i]? = some k ∧ v = .ref b ∧ IsTupleKey (intKind X.prog X.w) s.heap k b := by
  obtain ⟨its, rv, pl, hl⟩ := I.list (SqL.of (K := X.K) ha)
  have hlen : its.length = zs.length := by have := rv.length; simpa using this.symm
  refine ⟨its.toArray, pl.isList, by simp [hlen], by simp [hlen], fun i v hv => ?_⟩
  have hv' : its[i]? = some v := by simpa using hv
  have hi : i < zs.length := by rw [← hlen]; exact (List.getElem?_eq_some_iff.mp hv').1
  have r : RelV (refZ zs[i]) v := by
    obtain ⟨u, hu, r⟩ := Vals.get rv (i := i) (x := refZ zs[i]) (by rw [List.getElem?_map, List.getElem?_eq_getElem hi]; rfl)
    rw [hv'] at hu
    cases hu; exact r
  have ev : v = .ref zs[i].2.2 := r
  exact ⟨kZ (zP zs[i]), zs[i].2.2, by rw [List.getElem?_map, List.getElem?_map, List.getElem?_eq_getElem hi]; rfl, ev, tup_key I (hz _ (List.getElem_mem hi))⟩
end
def tLenSet (K : PySem.W.Frag) (t : TA) : TE := fun σ H Q => t σ H fun vs H1 => ∃ a : Addr, vs = [.ref a] ∧
  ((∃ ns : List Int, SqL K H1 a (ns.map V.int) ∧ ns.length ≤ 4000 ∧ ∀ ks : List Int, ks.Nodup → (∀ x, x ∈ ks ↔ x ∈ ns) → Q (.int ks.length) H1) ∨
    ∃ zs : List Zt, H1 a = some (.lst (zs.map refZ)) ∧ (∀ z ∈ zs, PairAt H1 z) ∧ zs.length ≤ 300 ∧ ∀ ks : List (Int × Int), ks.Nodup → (∀ x, x ∈ ks ↔ x ∈ zs.map zP) → Q (.int ks.length) H1)
def tEqSet (t : TA) (j : Nat) : TE := fun σ H Q => t σ H fun vs H1 => ∃ (a b : Addr) (zs ws : List Zt), vs = [.ref a] ∧ σ[j]? = some (some (.ref b)) ∧ H1 a = some (.lst (zs.map refZ)) ∧ (∀ z ∈ zs, PairAt H1 z) ∧ zs.length ≤ 300 ∧
  H1 b = some (.lst (ws.map refZ)) ∧ (∀ z ∈ ws, PairAt H1 z) ∧ ws.length ≤ 300 ∧ ∀ c : Bool, (c = true ↔ ∀ p, p ∈ zs.map zP ↔ p ∈ ws.map zP) → Q (.bl c) H1
theorem x_lenSet {K : PySem.W.Frag} {t : TA} {σ : St} {H : Hp} {Q : VK} (h : t σ H fun vs H1 => ∃ a : Addr, vs = [.ref a] ∧
  ((∃ ns : List Int, SqL K H1 a (ns.map V.int) ∧ ns.length ≤ 4000 ∧ ∀ ks : List Int, ks.Nodup → (∀ x, x ∈ ks ↔ x ∈ ns) → Q (.int ks.length) H1) ∨
    ∃ zs : List Zt, H1 a = some (.lst (zs.map refZ)) ∧ (∀ z ∈ zs, PairAt H1 z) ∧ zs.length ≤ 300 ∧ ∀ ks : List (Int × Int), ks.Nodup → (∀ x, x ∈ ks ↔ x ∈ zs.map zP) → Q (.int ks.length) H1)) : tLenSet K t σ H Q := h
theorem x_eqSet {t : TA} {j : Nat} {σ : St} {H : Hp} {Q : VK} (h : t σ H fun vs H1 => ∃ (a b : Addr) (zs ws : List Zt), vs = [.ref a] ∧ σ[j]? = some (some (.ref b)) ∧ H1 a = some (.lst (zs.map refZ)) ∧ (∀ z ∈ zs, PairAt H1 z) ∧ zs.length ≤ 300 ∧
  H1 b = some (.lst (ws.map refZ)) ∧ (∀ z ∈ ws, PairAt H1 z) ∧ ws.length ≤ 300 ∧ ∀ c : Bool, (c = true ↔ ∀ p, p ∈ zs.map zP ↔ p ∈ ws.map zP) → Q (.bl c) H1) : tEqSet t j σ H Q := h
section
variable {X : Cx} {x : Expr} {t : TA} {p1 p2 q1 q2 : Pos}
theorem pe_lenSet (hc : X.calm = true) (hgl : Gl X "len") (hml : X.mg "len" = none) (hgz : Gl X "set") (hmz : X.mg "set" = none) (hu : X.A.units + 64 < cLine) (ha : PA X [x] t)
    (he : starEach [.Call (.Name "set" p1) [x] [] p2] X.env = [(false, eval (.Call (.Name "set" p1) [x] [] p2) X.env)] := by rfl) (he2 : starEach [x] X.env = (false, eval x X.env) :: starEach [] X.env := by rfl) (hpl : (backTo p2 (starEach [] X.env)).any (·.1) = false := by rfl) :
    PE X (.Call (.Name "len" q1) [.Call (.Name "set" p1) [x] [] p2] [] q2) (tLenSet X.K t) := by
  intro pins s σ H Q I h
  refine wpAny_Call_Name_kw (ld_blt I hgl hml BootT.len (PyProof.Rows.callWith_builtin1 ?_ he rfl))
  rw [he]
  show wpAny _ _ (spliced ((false, eval (.Call (.Name "set" p1) [x] [] p2) X.env) :: backTo q2 (starEach [] X.env))) _ _ s
  refine Calls.spliced_cons (wpAny_Call_Name_kw (ld_blt I hgz hmz BootT.set (PyProof.Rows.callWith_type1 (thn (ha p2 pins s σ H _ I h) fun us s1 ⟨vs, H1, I1, r1, q⟩ => ?_) he2 hpl)))
  obtain ⟨a, rfl, q⟩ := q
  obtain ⟨u, rfl, ru⟩ := vals1 r1
  cases ru
  rcases q with ⟨ns, hA, hl4, k⟩ | ⟨zs, hA, hz, hl3, k⟩
  · obtain ⟨its, rv, pl, _⟩ := I1.list hA
    have hi : IntsAre its ns := intsAre_of rv
    have hlen := hi.length
    refine Sw.call_set (ns := ns) (I1.ok.hd hc) pl.isList (by simpa using hi) (by rw [List.size_toArray, hlen]; unfold scanBound; omega) fun h2 tk ks hS hmem hle hk => Calls.spliced_nil ?_
    have I2 : Inv X pins σ H1 { s1 with heap := h2, toks := tk } := I1.kept (t' := tk) hk
    obtain ⟨o, es, ep, t, ho, hex, hd, hel, hin, hb, hf, ti, hled, e1, hnd⟩ := hS
    refine Sw.len_set (s := { s1 with heap := h2, toks := tk }) ho hex hd hf (fits_of_scanBound hb) fun t1 t2 => ⟨.int es.size, H1, I2.tok t2, ⟨_, rfl⟩, ?_⟩
    have : ks.length = es.size := by rw [e1]; simp
    rw [← this]; exact k ks hnd hmem
  · obtain ⟨items, hil, h1, h2', h3⟩ := tup_keys I1 hA hz
    refine Sw.call_setT (ns := (zs.map zP).map kZ) (I1.ok.hd hc) (by omega) hil ⟨h1, h3⟩ (by omega) fun h2 tk ks hS hmem hle hk => Calls.spliced_nil ?_
    have I2 : Inv X pins σ H1 { s1 with heap := h2, toks := tk } := I1.kept (t' := tk) hk
    obtain ⟨o, es, ep, t, ho, hex, hd, g, _, _, _, _, _, hlen, hnd⟩ := hS
    have hsz : es.size < scanBound := by unfold scanBound; omega
    refine Sw.len_set (s := { s1 with heap := h2, toks := tk }) ho hex hd g.fits (fits_of_scanBound hsz) fun t1 t2 => ⟨.int es.size, H1, I2.tok t2, ⟨_, rfl⟩, ?_⟩
    have hkz : ∀ k ∈ ks, ∃ p, k = kZ p := fun k hk => let ⟨p, _, e⟩ := List.mem_map.mp ((hmem k).mp hk); ⟨p, e.symm⟩
    have := k (ks.map toP) (toP_nodup hnd hkz) (mem_toP hmem)
    rw [List.length_map, hlen] at this; exact this
theorem pc_eqSet {y : Str} {j : Nat} {p3 : Pos} (hc : X.calm = true) (hgz : Gl X "set") (hmz : X.mg "set" = none) (hu : X.A.units + 64 < cLine) (ha : PA X [x] t) (hN : X.N[j]? = some y) (hv : Vis X.env.scope y)
    (he2 : starEach [x] X.env = (false, eval x X.env) :: starEach [] X.env := by rfl) (hpl : (backTo p2 (starEach [] X.env)).any (·.1) = false := by rfl)
    (he3 : starEach [.Name y p3] X.env = [(false, eval (.Name y p3) X.env)] := by rfl) (hpl3 : (backTo q2 (starEach [] X.env)).any (·.1) = false := by rfl)
    (hd : (y == ("__debug__" : Str)) = false := by decide) (hcd : (y == ("__classdict__" : Str)) = false := by decide) :
    PC X .Eq (.Call (.Name "set" p1) [x] [] p2) (.Call (.Name "set" q1) [.Name y p3] [] q2) (tEqSet t j) := by
  intro pins s σ H Q I h
  refine wpAny_Call_Name_kw (ld_blt I hgz hmz BootT.set (PyProof.Rows.callWith_type1 (thn (ha p2 pins s σ H _ I h) fun us s1 ⟨vs, H1, I1, r1, q⟩ => ?_) he2 hpl))
  obtain ⟨a, b, zs, ws, rfl, hj, hA, hz, hl3, hB, hw, hl4, k⟩ := q
  obtain ⟨u, rfl, ru⟩ := vals1 r1
  cases ru
  obtain ⟨items, hil, e1, e2, e3⟩ := tup_keys I1 hA hz
  refine Sw.call_setT (ns := (zs.map zP).map kZ) (I1.ok.hd hc) (by omega) hil ⟨e1, e3⟩ (by omega) fun h2 tk ks hS hmem hle hk => ?_
  have I2 : Inv X pins σ H1 { s1 with heap := h2, toks := tk } := I1.kept (t' := tk) hk
  refine wpAny_Call_Name_kw (ld_blt I2 hgz hmz BootT.set (PyProof.Rows.callWith_type1 ?_ he3 hpl3))
  rw [he3]
  show wpAny _ _ (spliced ((false, eval (.Name y p3) X.env) :: backTo q2 (starEach [] X.env))) _ _ _
  refine Calls.spliced_cons ?_
  obtain ⟨m, hn, hlk⟩ := I2.loc
  obtain ⟨v, r, l⟩ := hlk j y _ hN hj hv
  cases r
  have fin : wpAny (model X.prog X.w) X.A (spliced (backTo q2 (starEach [] X.env))) (fun vs s₂ => wpAny (model X.prog X.w) X.A (call (.type "set") (.ref b :: vs)) (fun u s₂ => wpAny (model X.prog X.w) X.A (compareOp .Eq (.ref s1.heap.objs.size) u) (EP X pins σ Q) X.xe s₂) X.xe s₂) X.xe { s1 with heap := h2, toks := tk } := by
    refine Calls.spliced_nil ?_
    obtain ⟨items', hil', f1, f2, f3⟩ := tup_keys I2 hB hw
    refine Sw.call_setT (s := { s1 with heap := h2, toks := tk }) (ns := (ws.map zP).map kZ) (I2.ok.hd hc) (by omega) hil' ⟨f1, f3⟩ (by omega) fun h4 tk4 ks4 hS4 hmem4 hle4 hk4 => ?_
    have I4 : Inv X pins σ H1 { s1 with heap := h4, toks := tk4 } := I2.kept (t' := tk4) hk4
    have hnd : ks.Nodup := let ⟨_, _, _, _, _, _, _, _, _, _, _, _, _, _, q⟩ := hS; q
    have hnd4 : ks4.Nodup := let ⟨_, _, _, _, _, _, _, _, _, _, _, _, _, _, q⟩ := hS4; q
    refine Sw.eq_set (s := { s1 with heap := h4, toks := tk4 }) (by omega) (hS.keep fun o e => hk4 _ _ e) (fun b o e => hk4 _ _ (hk _ _ e)) hS4 (fun b o e => hk4 _ _ e) ?_
    refine ⟨.bl _, H1, I4, rfl, k _ ?_⟩
    rw [decide_eq_true_iff, same_set hnd hnd4]
    constructor
    · intro h p
      rw [← mem_toP hmem p, ← mem_toP hmem4 p, List.mem_map, List.mem_map]
      exact ⟨fun ⟨k, q1, q2⟩ => ⟨k, (h k).mp q1, q2⟩, fun ⟨k, q1, q2⟩ => ⟨k, (h k).mpr q1, q2⟩⟩
    · intro h k
      rw [hmem, hmem4, List.mem_map, List.mem_map]
      exact ⟨fun ⟨p, q1, q2⟩ => ⟨p, (h p).mp q1, q2⟩, fun ⟨p, q1, q2⟩ => ⟨p, (h p).mpr q1, q2⟩⟩
  rcases l with ⟨hk', hm⟩ | ⟨hk', c, hc', hcell⟩
  · exact wpAny_Name (wpAny_loadName_local I2.ok.kind hk' hn hm fin) hd
  · rcases hk' with hk' | hk'
    · exact wpAny_Name (wpAny_loadName_cell I2.ok.kind hk' hc' hcell fin) hd
    · exact wpAny_Name (wpAny_loadName_free I2.ok.kind hk' hc' hcell fin hcd) hd
end
end L2
namespace Rm
def lab (h : Int) (k : Nat) : Int := if h % 3 = 0 then (k : Int) else if h % 3 = 1 then (h / 3 % 10 ^ 30 + 1) * 1009 + ((k : Int) * 347 + h / 7) % 1009 else ((k : Int) * 89 + h / 3) % 199
inductive Gr (f : Nat → Int) : Nat → List Int → Prop
  | one : Gr f 0 [f 0]
  | put {m : Nat} {r : List Int} {j : Nat} : Gr f m r → j < r.length → Gr f (m + 1) (r.take (j + 1) ++ ([f (m + 1)] ++ r.drop j))
variable {f : Nat → Int} {m : Nat} {r : List Int}
theorem Gr.len (h : Gr f m r) : r.length = 2 * m + 1 := by
  induction h with
  | one => rfl
  | put h hj ih => simp [List.length_append, List.length_take, List.length_drop]; omega
end Rm
namespace Rm
section
variable {n : Nat} {v par : Nat → Nat}
end
end Rm
namespace Rm
def al : List Int → List (Int × Int)
  | [] => []
  | [_] => []
  | a :: b :: r => (a, b) :: al (b :: r)
theorem al_zip : ∀ r : List Int, al r = r.zip (r.drop 1)
  | [] => rfl
  | [_] => rfl
  | a :: b :: r => by
    have := al_zip (b :: r)
    simp only [List.drop_succ_cons, List.drop_zero] at this ⊢
    rw [List.zip_cons_cons, ← this]; rfl
theorem al_split : ∀ (xs : List Int) (x : Int) (ys : List Int), al (xs ++ x :: ys) = al (xs ++ [x]) ++ al (x :: ys)
  | [], x, ys => rfl
  | [a], x, ys => rfl
  | a :: b :: xs, x, ys => by
    have := al_split (b :: xs) x ys
    show (a, b) :: al ((b :: xs) ++ x :: ys) = (a, b) :: al ((b :: xs) ++ [x]) ++ al (x :: ys)
    rw [this]; rfl
theorem al_mem : ∀ {r : List Int} {x y : Int}, (x, y) ∈ al r → x ∈ r ∧ y ∈ r
  | a :: b :: r, x, y, h => by
    rcases List.mem_cons.mp h with e | h
    · cases e; simp
    · have := al_mem h
      exact ⟨List.mem_cons_of_mem _ this.1, List.mem_cons_of_mem _ this.2⟩
theorem al_len : ∀ r : List Int, (al r).length = r.length - 1
  | [] => rfl
  | [_] => rfl
  | a :: b :: r => by
    have := al_len (b :: r)
    simp only [al, List.length_cons] at this ⊢
    omega
structure IsR (r : List Int) : Prop where
  ne : r ≠ []
  cnt : ∃ ds : List Int, ds.Nodup ∧ (∀ x, x ∈ ds ↔ x ∈ r) ∧ r.length + 1 = 2 * ds.length
  ends : r.head? = r.getLast?
  nd : (al r).Nodup
  sym : ∀ x y, (x, y) ∈ al r → (y, x) ∈ al r
theorem IsR.one (a : Int) : IsR [a] := ⟨by simp, ⟨[a], by simp, by simp, rfl⟩, rfl, by simp [al], fun x y h => by simp [al] at h⟩
theorem IsR.leafAt {A B : List Int} {z : Int} (h : IsR (A ++ z :: B)) (hA : z ∉ A) (hB : z ∉ B) (hn : A ++ B ≠ []) : ∃ A' w B', A = A' ++ [w] ∧ B = w :: B' := by
  have he := h.ends
  have hAne : A ≠ [] := fun e => by
    subst e
    simp only [List.nil_append, List.head?_cons] at he hn
    rcases List.eq_nil_or_concat B with e | ⟨us, u, e⟩
    · exact hn e
    · rw [List.concat_eq_append] at e
      subst e
      rw [show z :: (us ++ [u]) = (z :: us) ++ [u] by simp, List.getLast?_append] at he
      simp at he
      subst he
      exact hB (by simp)
  have hBne : B ≠ [] := fun e => by
    subst e
    rw [List.getLast?_append] at he
    simp at he
    cases A with
    | nil => exact hAne rfl
    | cons a A =>
      simp at he
      subst he
      exact hA (by simp)
  obtain ⟨A', w, e⟩ : ∃ A' w, A = A' ++ [w] := by
    rcases List.eq_nil_or_concat A with e | ⟨us, u, e⟩
    · exact absurd e hAne
    · exact ⟨us, u, by rw [e, List.concat_eq_append]⟩
  subst e
  cases B with
  | nil => exact absurd rfl hBne
  | cons v B' =>
    refine ⟨A', w, B', rfl, ?_⟩
    have e1 : al (A' ++ [w] ++ z :: v :: B') = al (A' ++ [w]) ++ ((w, z) :: (z, v) :: al (v :: B')) := by
      rw [List.append_assoc, List.singleton_append, al_split]; rfl
    have m := h.sym w z (by rw [e1]; simp)
    rw [e1] at m
    rcases List.mem_append.mp m with m | m
    · exact absurd (al_mem m).1 hA
    · rcases List.mem_cons.mp m with m | m
      · cases m; exact absurd (by simp) hA
      · rcases List.mem_cons.mp m with m | m
        · cases m; rfl
        · exact absurd (al_mem m).1 hB
theorem al_put (xs ys : List Int) (w z : Int) : (al (xs ++ w :: z :: w :: ys)).Perm ((w, z) :: (z, w) :: al (xs ++ w :: ys)) := by
  rw [al_split, al_split xs w ys]
  show (al (xs ++ [w]) ++ ([(w, z), (z, w)] ++ al (w :: ys))).Perm ([(w, z), (z, w)] ++ (al (xs ++ [w]) ++ al (w :: ys)))
  rw [← List.append_assoc, ← List.append_assoc]
  exact List.Perm.append_right _ List.perm_append_comm
theorem ends_put (xs ys : List Int) (w z : Int) : (xs ++ w :: z :: w :: ys).head? = (xs ++ w :: ys).head? ∧ (xs ++ w :: z :: w :: ys).getLast? = (xs ++ w :: ys).getLast? := by
  constructor
  · cases xs <;> simp
  · cases ys with
    | nil => simp [List.getLast?_append]
    | cons y ys => simp [List.getLast?_append, List.getLast?_cons]
theorem IsR.peel {xs ys : List Int} {w z : Int} (h : IsR (xs ++ w :: z :: w :: ys)) (hz : z ∉ xs ++ w :: ys) : IsR (xs ++ w :: ys) := by
  have hp := al_put xs ys w z
  have nd := hp.nodup_iff.mp h.nd
  have nd2 := (List.nodup_cons.mp nd).2
  refine ⟨by simp, ?_, ?_, (List.nodup_cons.mp nd2).2, fun x y hxy => ?_⟩
  · obtain ⟨ds, h1, h2, h3⟩ := h.cnt
    have hzd : z ∈ ds := (h2 z).mpr (by simp)
    refine ⟨ds.erase z, h1.erase z, fun x => ?_, ?_⟩
    · rw [h1.mem_erase_iff, h2]
      constructor
      · rintro ⟨h4, h5⟩
        simp at h5 ⊢
        rcases h5 with h5 | h5 | h5 | h5 | h5
        · exact .inl h5
        · exact .inr (.inl h5)
        · exact absurd h5 h4
        · exact .inr (.inl h5)
        · exact .inr (.inr h5)
      · intro h5
        refine ⟨fun e => hz (e ▸ h5), ?_⟩
        simp at h5 ⊢
        rcases h5 with h5 | h5 | h5
        · exact .inl h5
        · exact .inr (.inl h5)
        · exact .inr (.inr (.inr (.inr h5)))
    · rw [List.length_erase_of_mem hzd]
      have : 0 < ds.length := List.length_pos_of_mem hzd
      simp at h3 ⊢
      omega
  · have := ends_put xs ys w z
    rw [← this.1, ← this.2]; exact h.ends
  · have hm := hp.mem_iff.mp (h.sym x y (hp.mem_iff.mpr (List.mem_cons_of_mem _ (List.mem_cons_of_mem _ hxy))))
    rcases List.mem_cons.mp hm with e | hm
    · cases e; exact absurd (al_mem hxy).1 hz
    · rcases List.mem_cons.mp hm with e | hm
      · cases e; exact absurd (al_mem hxy).2 hz
      · exact hm
theorem IsR.put {xs ys : List Int} {w z : Int} (h : IsR (xs ++ w :: ys)) (hz : z ∉ xs ++ w :: ys) : IsR (xs ++ w :: z :: w :: ys) := by
  have hp := al_put xs ys w z
  have hwz : w ≠ z := fun e => hz (by simp [e])
  refine ⟨by simp, ?_, ?_, hp.nodup_iff.mpr ?_, fun x y hxy => ?_⟩
  · obtain ⟨ds, h1, h2, h3⟩ := h.cnt
    refine ⟨z :: ds, List.nodup_cons.mpr ⟨fun hm => hz ((h2 z).mp hm), h1⟩, fun x => ?_, ?_⟩
    · rw [List.mem_cons, h2]
      simp
      constructor
      · rintro (h | h | h | h)
        · exact .inr (.inr (.inl h))
        · exact .inl h
        · exact .inr (.inl h)
        · exact .inr (.inr (.inr (.inr h)))
      · rintro (h | h | h | h | h)
        · exact .inr (.inl h)
        · exact .inr (.inr (.inl h))
        · exact .inl h
        · exact .inr (.inr (.inl h))
        · exact .inr (.inr (.inr h))
    · simp at h3 ⊢
      omega
  · have := ends_put xs ys w z
    rw [this.1, this.2]; exact h.ends
  · refine List.nodup_cons.mpr ⟨fun hm => ?_, List.nodup_cons.mpr ⟨fun hm => hz (al_mem hm).1, h.nd⟩⟩
    rcases List.mem_cons.mp hm with e | hm
    · exact hwz (by cases e; rfl)
    · exact hz (al_mem hm).2
  · refine hp.mem_iff.mpr ?_
    rcases List.mem_cons.mp (hp.mem_iff.mp hxy) with e | hm
    · cases e; simp
    · rcases List.mem_cons.mp hm with e | hm
      · cases e; simp
      · exact List.mem_cons_of_mem _ (List.mem_cons_of_mem _ (h.sym x y hm))
theorem sum_counts : ∀ {ds r : List Int}, ds.Nodup → (∀ x ∈ r, x ∈ ds) → (ds.map fun d => r.count d).sum = r.length
  | ds, [], h1, h2 => by
    have : (ds.map fun d => ([] : List Int).count d) = ds.map fun _ => 0 := by simp
    rw [this]
    clear this h1 h2
    induction ds with
    | nil => rfl
    | cons d ds ih => simpa using ih
  | ds, x :: r, h1, h2 => by
    have ih := sum_counts (ds := ds) (r := r) h1 fun y hy => h2 y (List.mem_cons_of_mem _ hy)
    have hx := h2 x List.mem_cons_self
    have key : ∀ (ds : List Int), ds.Nodup → (ds.map fun d => (x :: r).count d).sum = (ds.map fun d => r.count d).sum + if x ∈ ds then 1 else 0 := by
      intro ds
      induction ds with
      | nil => intro _; simp
      | cons d ds ih2 =>
        intro hnd
        have := ih2 (List.nodup_cons.mp hnd).2
        have hd := (List.nodup_cons.mp hnd).1
        simp only [List.map_cons, List.sum_cons, List.count_cons] at this ⊢
        rw [this]
        by_cases e : x = d
        · subst e
          simp [hd]
          omega
        · have e' : ¬ d = x := fun z => e z.symm
          simp [e]
          omega
    rw [key ds h1, ih, if_pos hx, List.length_cons]
theorem IsR.leaf {r : List Int} (h : IsR r) (h1 : 1 < r.length) : ∃ xs w z ys, r = xs ++ w :: z :: w :: ys ∧ z ∉ xs ++ w :: ys := by
  obtain ⟨ds, d1, d2, d3⟩ := h.cnt
  have hs := sum_counts d1 fun x hx => (d2 x).mpr hx
  obtain ⟨z, hz, hc⟩ : ∃ z ∈ ds, r.count z < 2 := by
    refine Classical.byContradiction fun q => ?_
    have hall : ∀ z ∈ ds, 2 ≤ r.count z := fun z hz => by
      by_cases c : r.count z < 2
      · exact absurd ⟨z, hz, c⟩ q
      · omega
    have : ∀ (ds : List Int), (∀ z ∈ ds, 2 ≤ r.count z) → 2 * ds.length ≤ (ds.map fun d => r.count d).sum := by
      intro ds
      induction ds with
      | nil => intro _; simp
      | cons d ds ih =>
        intro h
        have a := ih fun z hz => h z (List.mem_cons_of_mem _ hz)
        have b := h d List.mem_cons_self
        simp only [List.map_cons, List.sum_cons, List.length_cons]
        omega
    have := this ds hall
    omega
  have hzr := (d2 z).mp hz
  obtain ⟨A, B, e⟩ := List.append_of_mem hzr
  subst e
  have hc2 : A.count z = 0 ∧ B.count z = 0 := by
    rw [List.count_append, List.count_cons_self] at hc
    omega
  have hA : z ∉ A := List.count_eq_zero.mp hc2.1
  have hB : z ∉ B := List.count_eq_zero.mp hc2.2
  obtain ⟨A', w, B', e1, e2⟩ := h.leafAt hA hB (fun q => by
    rw [List.append_eq_nil_iff] at q
    rw [q.1, q.2] at h1
    simp at h1)
  subst e1 e2
  exact ⟨A', w, z, B', by simp, fun hm => by
    simp at hm hA hB
    rcases hm with hm | hm | hm
    · exact hA.1 hm
    · exact hA.2 hm
    · exact hB.2 hm⟩
def both (L : List (Int × Int)) : List (Int × Int) := L.flatMap fun t => [(t.1, t.2), (t.2, t.1)]
theorem both_append (L M : List (Int × Int)) : both (L ++ M) = both L ++ both M := by simp [both]
theorem both_perm {L M : List (Int × Int)} (h : L.Perm M) : (both L).Perm (both M) := h.flatMap_right _
def leP (z w : Int × Int) : Prop := z.1 < w.1 ∨ (z.1 = w.1 ∧ z.2 ≤ w.2)
structure Ties (r : List Int) (L : List (Int × Int)) : Prop where
  srt : L.Pairwise leP
  pm : (al r).Perm (both L)
  lt : ∀ t ∈ L, t.1 < t.2
def Pk (r : List Int) (j : Nat) : Prop := ∃ w z, r[j - 1]? = some w ∧ r[j]? = some z ∧ r[j + 1]? = some w ∧ r.count z = 1
theorem Pk.split {r : List Int} {j : Nat} {w z : Int} (hj : 1 ≤ j) (h1 : r[j - 1]? = some w) (h2 : r[j]? = some z) (h3 : r[j + 1]? = some w) (hc : r.count z = 1) :
    r = r.take (j - 1) ++ w :: z :: w :: r.drop (j + 2) ∧ r.take j ++ r.drop (j + 2) = r.take (j - 1) ++ w :: r.drop (j + 2) ∧ z ∉ r.take (j - 1) ++ w :: r.drop (j + 2) := by
  have g1 : r.drop (j - 1) = w :: r.drop j := by
    have hl := (List.getElem?_eq_some_iff.mp h1)
    rw [List.drop_eq_getElem_cons hl.1, hl.2, show j - 1 + 1 = j by omega]
  have g2 : r.drop j = z :: r.drop (j + 1) := by
    have hl := (List.getElem?_eq_some_iff.mp h2)
    rw [List.drop_eq_getElem_cons hl.1, hl.2]
  have g3 : r.drop (j + 1) = w :: r.drop (j + 2) := by
    have hl := (List.getElem?_eq_some_iff.mp h3)
    rw [List.drop_eq_getElem_cons hl.1, hl.2]
  have e1 : r = r.take (j - 1) ++ w :: z :: w :: r.drop (j + 2) := by
    rw [← g3, ← g2, ← g1, List.take_append_drop]
  have e2 : r.take j = r.take (j - 1) ++ [w] := by
    have := List.take_add_one (l := r) (i := j - 1)
    rw [show j - 1 + 1 = j by omega, h1] at this
    exact this
  refine ⟨e1, by rw [e2, List.append_assoc]; rfl, fun hm => ?_⟩
  rw [e1] at hc
  rw [List.count_append, List.count_cons, List.count_cons_self, List.count_cons] at hc
  have h4 : (r.take (j - 1)).count z = 0 := by omega
  have h5 : (r.drop (j + 2)).count z = 0 := by omega
  have h6 : ¬ (w == z) = true := fun e => by rw [if_pos e] at hc; omega
  rcases List.mem_append.mp hm with m | m
  · exact List.count_eq_zero.mp h4 m
  · rcases List.mem_cons.mp m with m | m
    · exact h6 (by simp [m])
    · exact List.count_eq_zero.mp h5 m
theorem two_count {r : List Int} {i j : Nat} {z : Int} (hij : i < j) (h1 : r[i]? = some z) (h2 : r[j]? = some z) : 2 ≤ r.count z := by
  have e := List.take_append_drop j r
  have a : 1 ≤ (r.take j).count z := List.count_pos_iff.mpr (List.mem_of_getElem? (i := i) (by rw [List.getElem?_take, if_pos hij]; exact h1))
  have b : 1 ≤ (r.drop j).count z := List.count_pos_iff.mpr (List.mem_of_getElem? (i := 0) (by rw [List.getElem?_drop]; exact h2))
  have c := congrArg (List.count z) e
  rw [List.count_append] at c
  omega
theorem scan {r : List Int} {k : Nat} (h : IsR r) (h1 : 1 < r.length) (hk : ∀ j, 1 ≤ j → j < k → ¬ Pk r j) : k + 1 < r.length := by
  obtain ⟨xs, w, z, ys, e, hz⟩ := h.leaf h1
  have hp : Pk r (xs.length + 1) := by
    refine ⟨w, z, ?_, ?_, ?_, ?_⟩
    · rw [e, Nat.add_sub_cancel, List.getElem?_append_right (Nat.le_refl _), Nat.sub_self]; rfl
    · rw [e, List.getElem?_append_right (by omega), show xs.length + 1 - xs.length = 1 by omega]; rfl
    · rw [e, List.getElem?_append_right (by omega), show xs.length + 1 + 1 - xs.length = 2 by omega]; rfl
    · rw [e]
      simp at hz
      have h2 : xs.count z = 0 := List.count_eq_zero.mpr hz.1
      have h3 : ys.count z = 0 := List.count_eq_zero.mpr hz.2.2
      have h4 : ¬ w = z := fun q => hz.2.1 q.symm
      simp [List.count_append, List.count_cons, h2, h3, h4]
  have hl : r.length = xs.length + ys.length + 3 := by rw [e]; simp; omega
  by_cases c : xs.length + 1 < k
  · exact absurd hp (hk _ (by omega) c)
  · omega
theorem restart {r : List Int} {k : Nat} {w z : Int} (hk1 : 1 ≤ k) (h1 : r[k - 1]? = some w) (h2 : r[k]? = some z) (h3 : r[k + 1]? = some w) (hc : r.count z = 1) (hk : ∀ j, 1 ≤ j → j < k → ¬ Pk r j) :
    ∀ j, 1 ≤ j → j < max 1 (k - 1) → ¬ Pk (r.take k ++ r.drop (k + 2)) j := by
  rintro j hj1 hj2 ⟨w', z', p1, p2, p3, p4⟩
  have hkl := (List.getElem?_eq_some_iff.mp h3).1
  have lt : (r.take k).length = k := by rw [List.length_take]; omega
  have at_ : ∀ i, i < k → (r.take k ++ r.drop (k + 2))[i]? = r[i]? := fun i hi => by
    rw [List.getElem?_append_left (by omega), List.getElem?_take, if_pos hi]
  have hj : j + 1 < k := by omega
  have n1 : z' ≠ w := fun e => by
    subst e
    have := two_count (r := r.take k ++ r.drop (k + 2)) (show j < k - 1 by omega) p2 (by rw [at_ _ (by omega)]; exact h1)
    omega
  rw [at_ _ (by omega)] at p1 p2 p3
  have n2 : z' ≠ z := fun e => by
    subst e
    have := two_count (show j < k by omega) p2 h2
    omega
  refine hk j hj1 (by omega) ⟨w', z', p1, p2, p3, ?_⟩
  obtain ⟨e1, e2, _⟩ := Pk.split hk1 h1 h2 h3 hc
  rw [e2] at p4
  rw [e1]
  rw [List.count_append, List.count_cons_of_ne (fun q => n1 q.symm)] at p4
  rw [List.count_append, List.count_cons_of_ne (fun q => n1 q.symm), List.count_cons_of_ne (fun q => n2 q.symm), List.count_cons_of_ne (fun q => n1 q.symm)]
  exact p4
end Rm
namespace Rm
end Rm
namespace Rm
end Rm
namespace K11
open PySem PySem.Spec PyProof.Rows L2
def top (i : Nat) : Stmt := PySem.Challenge.pw_tiewood_k11_a_round_or_none.main.body.getD i (.Pass ⟨0, 0, 0, 0⟩)
abbrev ssteps_along : Stmt := top 1
abbrev sis_round : Stmt := top 2
abbrev s_law_cell_at : Stmt := top 4
abbrev s_law_truth : Stmt := top 5
abbrev s_law_label : Stmt := top 6
abbrev s_law_grown : Stmt := top 7
abbrev s_law_peeled : Stmt := top 8
abbrev s_law_spoilt : Stmt := top 9
abbrev s_law_digits : Stmt := top 10
abbrev s_law_told : Stmt := top 11
abbrev slaw : Stmt := top 12
theorem scsteps_along : FnScope ["row"] ["row"] (defScope ssteps_along) := ⟨rfl, rfl, rfl, by decide +kernel, rfl, by decide +kernel, by decide +kernel⟩
theorem scis_round : FnScope ["row", "along", "back", "each_way_once"] ["row"] (defScope sis_round) := ⟨rfl, rfl, rfl, by decide +kernel, rfl, by decide +kernel, by decide +kernel⟩
theorem sc_law_cell_at : FnScope ["_law_script", "_law_k"] ["_law_script", "_law_k"] (defScope s_law_cell_at) := ⟨rfl, rfl, rfl, by decide +kernel, rfl, by decide +kernel, by decide +kernel⟩
theorem sc_law_truth : FnScope ["_law_found", "_law_due"] ["_law_found", "_law_due"] (defScope s_law_truth) := ⟨rfl, rfl, rfl, by decide +kernel, rfl, by decide +kernel, by decide +kernel⟩
theorem sc_law_label : FnScope ["_law_head", "_law_k", "_law_way"] ["_law_head", "_law_k"] (defScope s_law_label) := ⟨rfl, rfl, rfl, by decide +kernel, rfl, by decide +kernel, by decide +kernel⟩
theorem sc_law_grown : FnScope ["_law_head", "_law_cells", "_law_row", "_law_k", "_law_j"] ["_law_head", "_law_cells"] (defScope s_law_grown) := ⟨rfl, rfl, rfl, by decide +kernel, rfl, by decide +kernel, by decide +kernel⟩
theorem sc_law_peeled : FnScope ["_law_row", "_law_ties", "_law_left", "_law_k"] ["_law_row"] (defScope s_law_peeled) := ⟨rfl, rfl, rfl, by decide +kernel, rfl, by decide +kernel, by decide +kernel⟩
theorem sc_law_spoilt : FnScope ["_law_row", "_law_cell", "_law_head", "_law_way", "_law_at", "_law_other"] ["_law_row", "_law_cell", "_law_head"] (defScope s_law_spoilt) := ⟨rfl, rfl, rfl, by decide +kernel, rfl, by decide +kernel, by decide +kernel⟩
theorem sc_law_digits : FnScope ["_law_cell", "_law_base", "_law_many", "_law_row", "_law_k"] ["_law_cell", "_law_base", "_law_many"] (defScope s_law_digits) := ⟨rfl, rfl, rfl, by decide +kernel, rfl, by decide +kernel, by decide +kernel⟩
theorem sc_law_told : FnScope ["_law_row", "_law_handed"] ["_law_row"] (defScope s_law_told) := ⟨rfl, rfl, rfl, by decide +kernel, rfl, by decide +kernel, by decide +kernel⟩
theorem sclaw : FnScope ["_law_script", "_law_head", "_law_base", "_law_k", "_law_size", "_law_cells", "_law_row"] ["_law_script"] (defScope slaw) := ⟨rfl, rfl, rfl, by decide +kernel, rfl, by decide +kernel, by decide +kernel⟩
structure Txt (K : PySem.W.Frag) (mg : Str → Option Value) : Prop where
  b_bool : mg "bool" = none
  b_int : mg "int" = none
  b_isinstance : mg "isinstance" = none
  b_len : mg "len" = none
  b_list : mg "list" = none
  b_max : mg "max" = none
  b_min : mg "min" = none
  b_range : mg "range" = none
  b_set : mg "set" = none
  b_sorted : mg "sorted" = none
  b_zip : mg "zip" = none
def rd_steps_along (K : PySem.W.Frag) : TS :=
  tRet (tZipL K (tCons (tVar 0) (tCons (tSl (rSlL K) (tVar 0) (tPart (tC (.int 1))) (tNoPart)) (tNil))))
theorem body_steps_along {P : Program} {w : World} {K : PySem.W.Frag} {mg : Str → Option Value} {base : Heap} {f : Addr} {cdv : Value} {A : Around} {outer : List Env} {s : Shared} {H : Hp} {E : XK} (T : Txt K mg) (hr : Room 0 (A.deeper (envOfC "steps_along" (defScope ssteps_along) s.heap.objs.size f cdv))) :
      PSs (cxOf CX0 P w K mg base ["row"] "steps_along" (defScope ssteps_along) f cdv A outer s H E).nox (defBody ssteps_along) (rd_steps_along K) :=
  pss_one (ps_ret (pe_zipL rfl rfl T.b_list rfl T.b_zip (pa_cons (pv 0) (pa_cons (pe_slice sl_list (pv 0) (po_some (pe_int)) (po_none)) (pa_nil)))))
theorem ok_steps_along {P : Program} {w : World} {K : PySem.W.Frag} {mg : Str → Option Value} {base : Heap} {f : Addr} {fd : FuncData} {sp : Sp} (Fu : Fun K "steps_along" "steps_along" ssteps_along f fd) (T : Txt K mg)
      (len : ∀ vs H Q E, sp vs H Q E → vs.length = 1) (run : ∀ vs H Q E, sp vs H Q E → rd_steps_along K { nx := fun _ H' => Q .non H', rt := Q } (start ["row"] vs) H) : FnOk P w K mg base CX0 1 f fd ["row"] sp :=
    Fu.ok scsteps_along len fun cdv A outer s H vs Q E hr h => ⟨_, body_steps_along T hr, run vs H Q E h⟩
def rd_is_round (K : PySem.W.Frag) (sp_steps_along : Sp) : TS :=
  tSeq (tAsg (tCall sp_steps_along [] E0 (tCons (tVar 0) (tNil))) (gName 1))
  (tSeq (tAsg (tComp 2 [] (iSeq K (tVar 1)) (gTup K 2 (gCons (gName 0) (gCons (gName 1) (gNil)))) (tYes) (tTup (tCons (tVar 1) (tCons (tVar 0) (tNil))))) (gName 2))
  (tSeq (tAsg (tAndV (tOp (rEqG K) (tLenSet K (tCons (tVar 1) (tNil))) (tCB (rLen K) (tCons (tVar 1) (tNil)))) (tEqSet (tCons (tVar 1) (tNil)) 2)) (gName 3))
  (tRet (tAndV (tOp (rEqG K) (tCB (rLen K) (tCons (tVar 0) (tNil))) (tOp (rI0 fun i j => .int (i - j)) (tOp (rI CMul fun i j => .int (i * j)) (tC (.int 2)) (tLenSet K (tCons (tVar 0) (tNil)))) (tC (.int 1)))) (tAndV (tOp (rEqG K) (tOp (rIxG K) (tVar 0) (tC (.int 0))) (tOp (rIxG K) (tVar 0) (tUn (rU fun i => .int (-i)) (tC (.int 1))))) (tVar 3))))))
theorem body_is_round {P : Program} {w : World} {K : PySem.W.Frag} {mg : Str → Option Value} {base : Heap} {f : Addr} {cdv : Value} {A : Around} {outer : List Env} {s : Shared} {H : Hp} {E : XK} (T : Txt K mg) (hr : Room 1 (A.deeper (envOfC "is_round" (defScope sis_round) s.heap.objs.size f cdv))) {f_steps_along : Addr} {d_steps_along : FuncData} {sp_steps_along : Sp} (G_steps_along : FnOk P w K mg base CX0 1 f_steps_along d_steps_along ["row"] sp_steps_along) (m_steps_along : mg "steps_along" = some (.ref f_steps_along)) (k_steps_along : PySem.W.keepIn K (.ref f_steps_along) = true) (b_steps_along : Binds K d_steps_along ["row"] []) :
      PSs (cxOf CX0 P w K mg base ["row", "along", "back", "each_way_once"] "is_round" (defScope sis_round) f cdv A outer s H E).nox (defBody sis_round) (rd_is_round K sp_steps_along) :=
  pss_cons (ps_set (i := 1) scis_round.nd rfl (Or.inl rfl) (pe_call G_steps_along (hr.mono (by decide)) rfl m_steps_along k_steps_along b_steps_along .nil pass0 (pa_cons (pv 0) (pa_nil))))
  (pss_cons (ps_comp (i := 2) ["a", "b"] (ys := []) [] rfl scis_round.nd rfl rfl (pi_seq (pv 1)) trivial (fun _ _ _ => pg_tup rfl (pgs_cons (pg_name (i := 0) (show (["a", "b"] : List Str).Nodup by decide +kernel) rfl (Or.inl rfl)) (pgs_cons (pg_name (i := 1) (show (["a", "b"] : List Str).Nodup by decide +kernel) rfl (Or.inl rfl)) (pgs_nil)))) (fun _ _ _ => pifs_nil) (fun _ _ _ => pe_tup (pa_cons (pv 1) (pa_cons (pv 0) (pa_nil)))))
  (pss_cons (ps_set (i := 3) scis_round.nd rfl (Or.inl rfl) (pe_and (pe_cmpR (op_eqG hr.units) (pe_lenSet rfl rfl T.b_len rfl T.b_set hr.units (pa_cons (pv 1) (pa_nil))) (pe_callB (call_lenG) rfl T.b_len BootT.len (pa_cons (pv 1) (pa_nil))) (nomark _)) (pe_one (pe_cmp (pc_eqSet rfl rfl T.b_set hr.units (pa_cons (pv 1) (pa_nil)) (show _[2]? = _ from rfl) (by first | exact Or.inl rfl | exact Or.inr (Or.inl rfl) | exact Or.inr (Or.inr rfl)))))))
  (pss_one (ps_ret (pe_and (pe_cmpR (op_eqG hr.units) (pe_callB (call_lenG) rfl T.b_len BootT.len (pa_cons (pv 0) (pa_nil))) (pe_op (op_sub) (pe_op (op_mul) (pe_int) (pe_lenSet rfl rfl T.b_len rfl T.b_set hr.units (pa_cons (pv 0) (pa_nil)))) (pe_int)) (nomark _)) (pe_and (pe_cmpR (op_eqG hr.units) (pe_ix (ix_G hr.units) (pv 0) (pe_int) (fun _ _ => rfl)) (pe_ix (ix_G hr.units) (pv 0) (pe_un un_neg (pe_int)) (fun _ _ => rfl)) (nomark _)) (pe_one (pv 3))))))))
theorem ok_is_round {P : Program} {w : World} {K : PySem.W.Frag} {mg : Str → Option Value} {base : Heap} {f : Addr} {fd : FuncData} {sp : Sp} (Fu : Fun K "is_round" "is_round" sis_round f fd) (T : Txt K mg) {f_steps_along : Addr} {d_steps_along : FuncData} {sp_steps_along : Sp} (G_steps_along : FnOk P w K mg base CX0 1 f_steps_along d_steps_along ["row"] sp_steps_along) (m_steps_along : mg "steps_along" = some (.ref f_steps_along)) (k_steps_along : PySem.W.keepIn K (.ref f_steps_along) = true) (b_steps_along : Binds K d_steps_along ["row"] [])
      (len : ∀ vs H Q E, sp vs H Q E → vs.length = 1) (run : ∀ vs H Q E, sp vs H Q E → rd_is_round K sp_steps_along { nx := fun _ H' => Q .non H', rt := Q } (start ["row", "along", "back", "each_way_once"] vs) H) : FnOk P w K mg base CX0 2 f fd ["row"] sp :=
    Fu.ok scis_round len fun cdv A outer s H vs Q E hr h => ⟨_, body_is_round T hr G_steps_along m_steps_along k_steps_along b_steps_along, run vs H Q E h⟩
def rd__law_cell_at (K : PySem.W.Frag) : TS :=
  tSeq (tIfS (tTest (tOp (rI0 fun i j => .bl (decide (i < j))) (tVar 1) (tCB (rLen K) (tCons (tVar 0) (tNil)))))
   (tRet (tOp (rIxG K) (tVar 0) (tVar 1)))
   (tNext))
  (tRet (tC (.int 0)))
theorem body__law_cell_at {P : Program} {w : World} {K : PySem.W.Frag} {mg : Str → Option Value} {base : Heap} {f : Addr} {cdv : Value} {A : Around} {outer : List Env} {s : Shared} {H : Hp} {E : XK} (T : Txt K mg) (hr : Room 0 (A.deeper (envOfC "_law_cell_at" (defScope s_law_cell_at) s.heap.objs.size f cdv))) :
      PSs (cxOf CX0 P w K mg base ["_law_script", "_law_k"] "_law_cell_at" (defScope s_law_cell_at) f cdv A outer s H E).nox (defBody s_law_cell_at) (rd__law_cell_at K) :=
  pss_cons (ps_if (pt_cmpR (op_lt) (pv 1) (pe_callB (call_lenG) rfl T.b_len BootT.len (pa_cons (pv 0) (pa_nil))) (nomark _))
   (pss_one (ps_ret (pe_ix (ix_G hr.units) (pv 0) (pv 1) (fun _ _ => rfl))))
   (pss_nil))
  (pss_one (ps_ret (pe_int)))
theorem ok__law_cell_at {P : Program} {w : World} {K : PySem.W.Frag} {mg : Str → Option Value} {base : Heap} {f : Addr} {fd : FuncData} {sp : Sp} (Fu : Fun K "_law_cell_at" "_law_cell_at" s_law_cell_at f fd) (T : Txt K mg)
      (len : ∀ vs H Q E, sp vs H Q E → vs.length = 2) (run : ∀ vs H Q E, sp vs H Q E → rd__law_cell_at K { nx := fun _ H' => Q .non H', rt := Q } (start ["_law_script", "_law_k"] vs) H) : FnOk P w K mg base CX0 1 f fd ["_law_script", "_law_k"] sp :=
    Fu.ok sc_law_cell_at len fun cdv A outer s H vs Q E hr h => ⟨_, body__law_cell_at T hr, run vs H Q E h⟩
def rd__law_truth (K : PySem.W.Frag) : TS :=
  tRet (tAndV (tCB (rIsi K) (tCons (tVar 0) (tCons (tC (.ty "bool")) (tNil)))) (tOp (rEqG K) (tVar 0) (tVar 1)))
theorem body__law_truth {P : Program} {w : World} {K : PySem.W.Frag} {mg : Str → Option Value} {base : Heap} {f : Addr} {cdv : Value} {A : Around} {outer : List Env} {s : Shared} {H : Hp} {E : XK} (T : Txt K mg) (hr : Room 0 (A.deeper (envOfC "_law_truth" (defScope s_law_truth) s.heap.objs.size f cdv))) :
      PSs (cxOf CX0 P w K mg base ["_law_found", "_law_due"] "_law_truth" (defScope s_law_truth) f cdv A outer s H E).nox (defBody s_law_truth) (rd__law_truth K) :=
  pss_one (ps_ret (pe_and (pe_callB (call_isi) rfl T.b_isinstance BootT.isinstance (pa_cons (pv 0) (pa_cons (pe_bltn rfl T.b_bool BootT.bool rfl) (pa_nil)))) (pe_one (pe_cmpR (op_eqG hr.units) (pv 0) (pv 1) (nomark _)))))
theorem ok__law_truth {P : Program} {w : World} {K : PySem.W.Frag} {mg : Str → Option Value} {base : Heap} {f : Addr} {fd : FuncData} {sp : Sp} (Fu : Fun K "_law_truth" "_law_truth" s_law_truth f fd) (T : Txt K mg)
      (len : ∀ vs H Q E, sp vs H Q E → vs.length = 2) (run : ∀ vs H Q E, sp vs H Q E → rd__law_truth K { nx := fun _ H' => Q .non H', rt := Q } (start ["_law_found", "_law_due"] vs) H) : FnOk P w K mg base CX0 1 f fd ["_law_found", "_law_due"] sp :=
    Fu.ok sc_law_truth len fun cdv A outer s H vs Q E hr h => ⟨_, body__law_truth T hr, run vs H Q E h⟩
def rd__law_label (K : PySem.W.Frag) : TS :=
  tSeq (tAsg (tOp (rI (fun _ j => 0 < j) fun i j => .int (i % j)) (tVar 0) (tC (.int 3))) (gName 2))
  (tSeq (tIfS (tTest (tOp (rEqG K) (tVar 2) (tC (.int 0))))
   (tRet (tVar 1))
   (tNext))
  (tSeq (tIfS (tTest (tOp (rEqG K) (tVar 2) (tC (.int 1))))
   (tRet (tOp (rAddG) (tOp (rI CMul fun i j => .int (i * j)) (tOp (rAddG) (tOp (rI (fun _ j => 0 < j) fun i j => .int (i % j)) (tOp (rI CDiv fun i j => .int (i / j)) (tVar 0) (tC (.int 3))) (tOp (rI CPow fun i j => .int (i ^ j.toNat)) (tC (.int 10)) (tC (.int 30)))) (tC (.int 1))) (tC (.int 1009))) (tOp (rI (fun _ j => 0 < j) fun i j => .int (i % j)) (tOp (rAddG) (tOp (rI CMul fun i j => .int (i * j)) (tVar 1) (tC (.int 347))) (tOp (rI CDiv fun i j => .int (i / j)) (tVar 0) (tC (.int 7)))) (tC (.int 1009)))))
   (tNext))
  (tRet (tOp (rI (fun _ j => 0 < j) fun i j => .int (i % j)) (tOp (rAddG) (tOp (rI CMul fun i j => .int (i * j)) (tVar 1) (tC (.int 89))) (tOp (rI CDiv fun i j => .int (i / j)) (tVar 0) (tC (.int 3)))) (tC (.int 199))))))
theorem body__law_label {P : Program} {w : World} {K : PySem.W.Frag} {mg : Str → Option Value} {base : Heap} {f : Addr} {cdv : Value} {A : Around} {outer : List Env} {s : Shared} {H : Hp} {E : XK} (T : Txt K mg) (hr : Room 0 (A.deeper (envOfC "_law_label" (defScope s_law_label) s.heap.objs.size f cdv))) :
      PSs (cxOf CX0 P w K mg base ["_law_head", "_law_k", "_law_way"] "_law_label" (defScope s_law_label) f cdv A outer s H E).nox (defBody s_law_label) (rd__law_label K) :=
  pss_cons (ps_set (i := 2) sc_law_label.nd rfl (Or.inl rfl) (pe_op (op_mod) (pv 0) (pe_int)))
  (pss_cons (ps_if (pt_cmpR (op_eqG hr.units) (pv 2) (pe_int) (nomark _))
   (pss_one (ps_ret (pv 1)))
   (pss_nil))
  (pss_cons (ps_if (pt_cmpR (op_eqG hr.units) (pv 2) (pe_int) (nomark _))
   (pss_one (ps_ret (pe_op (op_addG) (pe_op (op_mul) (pe_op (op_addG) (pe_op (op_mod) (pe_op (op_fdiv) (pv 0) (pe_int)) (pe_op (op_pow) (pe_int) (pe_int))) (pe_int)) (pe_int)) (pe_op (op_mod) (pe_op (op_addG) (pe_op (op_mul) (pv 1) (pe_int)) (pe_op (op_fdiv) (pv 0) (pe_int))) (pe_int)))))
   (pss_nil))
  (pss_one (ps_ret (pe_op (op_mod) (pe_op (op_addG) (pe_op (op_mul) (pv 1) (pe_int)) (pe_op (op_fdiv) (pv 0) (pe_int))) (pe_int))))))
theorem ok__law_label {P : Program} {w : World} {K : PySem.W.Frag} {mg : Str → Option Value} {base : Heap} {f : Addr} {fd : FuncData} {sp : Sp} (Fu : Fun K "_law_label" "_law_label" s_law_label f fd) (T : Txt K mg)
      (len : ∀ vs H Q E, sp vs H Q E → vs.length = 2) (run : ∀ vs H Q E, sp vs H Q E → rd__law_label K { nx := fun _ H' => Q .non H', rt := Q } (start ["_law_head", "_law_k", "_law_way"] vs) H) : FnOk P w K mg base CX0 1 f fd ["_law_head", "_law_k"] sp :=
    Fu.ok sc_law_label len fun cdv A outer s H vs Q E hr h => ⟨_, body__law_label T hr, run vs H Q E h⟩
def lp__law_grown_1 (K : PySem.W.Frag) (sp__law_label : Sp) : TS :=
  tFor (iRng1 (tCons (tCB (rLen K) (tCons (tVar 1) (tNil))) (tNil))) (gName 3)
   (tSeq (tAsg (tOp (rI (fun _ j => 0 < j) fun i j => .int (i % j)) (tOp (rAddG) (tOp (rIxG K) (tVar 1) (tVar 3)) (tOp (rI CMul fun i j => .int (i * j)) (tC (.int 3)) (tVar 3))) (tCB (rLen K) (tCons (tVar 2) (tNil)))) (gName 4))
  (tAsg (tOp (rAddG) (tOp (rAddG) (tSl (rSlL K) (tVar 2) (tNoPart) (tPart (tOp (rAddG) (tVar 4) (tC (.int 1))))) (tLst (tCons (tCall sp__law_label [] E0 (tCons (tVar 0) (tCons (tOp (rAddG) (tVar 3) (tC (.int 1))) (tNil)))) (tNil)))) (tSl (rSlL K) (tVar 2) (tPart (tVar 4)) (tNoPart))) (gName 2)))
def rd__law_grown (K : PySem.W.Frag) (sp__law_label : Sp) : TS :=
  tSeq (tAsg (tLst (tCons (tCall sp__law_label [] E0 (tCons (tVar 0) (tCons (tC (.int 0)) (tNil)))) (tNil))) (gName 2))
  (tSeq (lp__law_grown_1 K sp__law_label)
  (tRet (tVar 2)))
theorem body__law_grown {P : Program} {w : World} {K : PySem.W.Frag} {mg : Str → Option Value} {base : Heap} {f : Addr} {cdv : Value} {A : Around} {outer : List Env} {s : Shared} {H : Hp} {E : XK} (T : Txt K mg) (hr : Room 1 (A.deeper (envOfC "_law_grown" (defScope s_law_grown) s.heap.objs.size f cdv))) {f__law_label : Addr} {d__law_label : FuncData} {sp__law_label : Sp} (G__law_label : FnOk P w K mg base CX0 1 f__law_label d__law_label ["_law_head", "_law_k"] sp__law_label) (m__law_label : mg "_law_label" = some (.ref f__law_label)) (k__law_label : PySem.W.keepIn K (.ref f__law_label) = true) (b__law_label : Binds K d__law_label ["_law_head", "_law_k"] []) :
      PSs (cxOf CX0 P w K mg base ["_law_head", "_law_cells", "_law_row", "_law_k", "_law_j"] "_law_grown" (defScope s_law_grown) f cdv A outer s H E).nox (defBody s_law_grown) (rd__law_grown K sp__law_label) :=
  pss_cons (ps_set (i := 2) sc_law_grown.nd rfl (Or.inl rfl) (pe_lst (pa_cons (pe_call G__law_label (hr.mono (by decide)) rfl m__law_label k__law_label b__law_label .nil pass0 (pa_cons (pv 0) (pa_cons (pe_int) (pa_nil)))) (pa_nil))))
  (pss_cons (ps_for PassesOwn.never rfl (pi_range1 rfl T.b_range (pa_cons (pe_callB (call_lenG) rfl T.b_len BootT.len (pa_cons (pv 1) (pa_nil))) (pa_nil))) (pg_name (i := 3) sc_law_grown.nd rfl (Or.inl rfl))
   (pss_cons (ps_set (i := 4) sc_law_grown.nd rfl (Or.inl rfl) (pe_op (op_mod) (pe_op (op_addG) (pe_ix (ix_G hr.units) (pv 1) (pv 3) (fun _ _ => rfl)) (pe_op (op_mul) (pe_int) (pv 3))) (pe_callB (call_lenG) rfl T.b_len BootT.len (pa_cons (pv 2) (pa_nil)))))
  (pss_one (ps_set (i := 2) sc_law_grown.nd rfl (Or.inl rfl) (pe_op (op_addG) (pe_op (op_addG) (pe_slice sl_list (pv 2) (po_none) (po_some (pe_op (op_addG) (pv 4) (pe_int)))) (pe_lst (pa_cons (pe_call G__law_label (hr.mono (by decide)) rfl m__law_label k__law_label b__law_label .nil pass0 (pa_cons (pv 0) (pa_cons (pe_op (op_addG) (pv 3) (pe_int)) (pa_nil)))) (pa_nil)))) (pe_slice sl_list (pv 2) (po_some (pv 4)) (po_none)))))))
  (pss_one (ps_ret (pv 2))))
theorem ok__law_grown {P : Program} {w : World} {K : PySem.W.Frag} {mg : Str → Option Value} {base : Heap} {f : Addr} {fd : FuncData} {sp : Sp} (Fu : Fun K "_law_grown" "_law_grown" s_law_grown f fd) (T : Txt K mg) {f__law_label : Addr} {d__law_label : FuncData} {sp__law_label : Sp} (G__law_label : FnOk P w K mg base CX0 1 f__law_label d__law_label ["_law_head", "_law_k"] sp__law_label) (m__law_label : mg "_law_label" = some (.ref f__law_label)) (k__law_label : PySem.W.keepIn K (.ref f__law_label) = true) (b__law_label : Binds K d__law_label ["_law_head", "_law_k"] [])
      (len : ∀ vs H Q E, sp vs H Q E → vs.length = 2) (run : ∀ vs H Q E, sp vs H Q E → rd__law_grown K sp__law_label { nx := fun _ H' => Q .non H', rt := Q } (start ["_law_head", "_law_cells", "_law_row", "_law_k", "_law_j"] vs) H) : FnOk P w K mg base CX0 2 f fd ["_law_head", "_law_cells"] sp :=
    Fu.ok sc_law_grown len fun cdv A outer s H vs Q E hr h => ⟨_, body__law_grown T hr G__law_label m__law_label k__law_label b__law_label, run vs H Q E h⟩
def lp__law_peeled_1 (K : PySem.W.Frag) : TS :=
  tWhile (tTest (tOp (rI0 fun i j => .bl (decide (j < i))) (tCB (rLen K) (tCons (tVar 2) (tNil))) (tC (.int 1))))
   (tSeq (tIfS (tTest (tOp (rI0 fun i j => .bl (decide (j ≤ i))) (tOp (rAddG) (tVar 3) (tC (.int 1))) (tCB (rLen K) (tCons (tVar 2) (tNil)))))
   (tRet (tC .non))
   (tNext))
  (tIfS (tAnd (tTest (tOp (rEqG K) (tOp (rIxG K) (tVar 2) (tOp (rI0 fun i j => .int (i - j)) (tVar 3) (tC (.int 1)))) (tOp (rIxG K) (tVar 2) (tOp (rAddG) (tVar 3) (tC (.int 1)))))) (tTest (tOp (rEqG K) (tBM K "list" (rCount K) (tVar 2) (tCons (tOp (rIxG K) (tVar 2) (tVar 3)) (tNil))) (tC (.int 1)))))
   (tSeq (tDrop (tBM K "list" rAppend (tVar 1) (tCons (tTup (tCons (tCB (rMin2) (tCons (tOp (rIxG K) (tVar 2) (tVar 3)) (tCons (tOp (rIxG K) (tVar 2) (tOp (rI0 fun i j => .int (i - j)) (tVar 3) (tC (.int 1)))) (tNil)))) (tCons (tCB (rMax2) (tCons (tOp (rIxG K) (tVar 2) (tVar 3)) (tCons (tOp (rIxG K) (tVar 2) (tOp (rI0 fun i j => .int (i - j)) (tVar 3) (tC (.int 1)))) (tNil)))) (tNil)))) (tNil))))
  (tSeq (tAsg (tOp (rAddG) (tSl (rSlL K) (tVar 2) (tNoPart) (tPart (tVar 3))) (tSl (rSlL K) (tVar 2) (tPart (tOp (rAddG) (tVar 3) (tC (.int 2)))) (tNoPart))) (gName 2))
  (tAsg (tCB (rMax2) (tCons (tC (.int 1)) (tCons (tOp (rI0 fun i j => .int (i - j)) (tVar 3) (tC (.int 1))) (tNil)))) (gName 3))))
   (tAsg (tOp (rAddG) (tVar 3) (tC (.int 1))) (gName 3))))
def rd__law_peeled (K : PySem.W.Frag) : TS :=
  tSeq (tAsg (tLst (tNil)) (gName 1))
  (tSeq (tAsg (tCB (rList K) (tCons (tVar 0) (tNil))) (gName 2))
  (tSeq (tAsg (tC (.int 1)) (gName 3))
  (tSeq (lp__law_peeled_1 K)
  (tRet (tCB (rSortedG K) (tCons (tVar 1) (tNil)))))))
theorem body__law_peeled {P : Program} {w : World} {K : PySem.W.Frag} {mg : Str → Option Value} {base : Heap} {f : Addr} {cdv : Value} {A : Around} {outer : List Env} {s : Shared} {H : Hp} {E : XK} (T : Txt K mg) (hr : Room 0 (A.deeper (envOfC "_law_peeled" (defScope s_law_peeled) s.heap.objs.size f cdv))) :
      PSs (cxOf CX0 P w K mg base ["_law_row", "_law_ties", "_law_left", "_law_k"] "_law_peeled" (defScope s_law_peeled) f cdv A outer s H E).nox (defBody s_law_peeled) (rd__law_peeled K) :=
  pss_cons (ps_set (i := 1) sc_law_peeled.nd rfl (Or.inl rfl) (pe_lst (pa_nil)))
  (pss_cons (ps_set (i := 2) sc_law_peeled.nd rfl (Or.inl rfl) (pe_callTy (call_list_of) rfl T.b_list BootT.list (pa_cons (pv 0) (pa_nil))))
  (pss_cons (ps_set (i := 3) sc_law_peeled.nd rfl (Or.inl rfl) (pe_int))
  (pss_cons (ps_while PassesOwn.never (pt_cmpR (op_gt) (pe_callB (call_lenG) rfl T.b_len BootT.len (pa_cons (pv 2) (pa_nil))) (pe_int) (nomark _))
   (pss_cons (ps_if (pt_cmpR (op_ge) (pe_op (op_addG) (pv 3) (pe_int)) (pe_callB (call_lenG) rfl T.b_len BootT.len (pa_cons (pv 2) (pa_nil))) (nomark _))
   (pss_one (ps_ret (pe_non)))
   (pss_nil))
  (pss_one (ps_if (PW.pt (pw_and (pt_cmpR (op_eqG hr.units) (pe_ix (ix_G hr.units) (pv 2) (pe_op (op_sub) (pv 3) (pe_int)) (fun _ _ => rfl)) (pe_ix (ix_G hr.units) (pv 2) (pe_op (op_addG) (pv 3) (pe_int)) (fun _ _ => rfl)) (nomark _)) (pw_and1 (pt_cmpR (op_eqG hr.units) (pe_bm PySem.F.plainAttrs_list PySem.F.slot_list_count PySem.F.type_list_count mt_count (pv 2) (pa_cons (pe_ix (ix_G hr.units) (pv 2) (pv 3) (fun _ _ => rfl)) (pa_nil))) (pe_int) (nomark _)))))
   (pss_cons (ps_expr (pe_bm PySem.F.plainAttrs_list PySem.F.slot_list_append PySem.F.type_list_append mt_append (pv 1) (pa_cons (pe_tup (pa_cons (pe_callB (call_min2 rfl) rfl T.b_min BootT.min (pa_cons (pe_ix (ix_G hr.units) (pv 2) (pv 3) (fun _ _ => rfl)) (pa_cons (pe_ix (ix_G hr.units) (pv 2) (pe_op (op_sub) (pv 3) (pe_int)) (fun _ _ => rfl)) (pa_nil)))) (pa_cons (pe_callB (call_max2 rfl) rfl T.b_max BootT.max (pa_cons (pe_ix (ix_G hr.units) (pv 2) (pv 3) (fun _ _ => rfl)) (pa_cons (pe_ix (ix_G hr.units) (pv 2) (pe_op (op_sub) (pv 3) (pe_int)) (fun _ _ => rfl)) (pa_nil)))) (pa_nil)))) (pa_nil))))
  (pss_cons (ps_set (i := 2) sc_law_peeled.nd rfl (Or.inl rfl) (pe_op (op_addG) (pe_slice sl_list (pv 2) (po_none) (po_some (pv 3))) (pe_slice sl_list (pv 2) (po_some (pe_op (op_addG) (pv 3) (pe_int))) (po_none))))
  (pss_one (ps_set (i := 3) sc_law_peeled.nd rfl (Or.inl rfl) (pe_callB (call_max2 rfl) rfl T.b_max BootT.max (pa_cons (pe_int) (pa_cons (pe_op (op_sub) (pv 3) (pe_int)) (pa_nil))))))))
   (pss_one (ps_set (i := 3) sc_law_peeled.nd rfl (Or.inl rfl) (pe_op (op_addG) (pv 3) (pe_int))))))))
  (pss_one (ps_ret (pe_callB (call_sortedG) rfl T.b_sorted BootT.sorted (pa_cons (pv 1) (pa_nil))))))))
theorem ok__law_peeled {P : Program} {w : World} {K : PySem.W.Frag} {mg : Str → Option Value} {base : Heap} {f : Addr} {fd : FuncData} {sp : Sp} (Fu : Fun K "_law_peeled" "_law_peeled" s_law_peeled f fd) (T : Txt K mg)
      (len : ∀ vs H Q E, sp vs H Q E → vs.length = 1) (run : ∀ vs H Q E, sp vs H Q E → rd__law_peeled K { nx := fun _ H' => Q .non H', rt := Q } (start ["_law_row", "_law_ties", "_law_left", "_law_k"] vs) H) : FnOk P w K mg base CX0 1 f fd ["_law_row"] sp :=
    Fu.ok sc_law_peeled len fun cdv A outer s H vs Q E hr h => ⟨_, body__law_peeled T hr, run vs H Q E h⟩
def rd__law_spoilt (K : PySem.W.Frag) (sp__law_label : Sp) : TS :=
  tSeq (tAsg (tOp (rI (fun _ j => 0 < j) fun i j => .int (i % j)) (tVar 1) (tC (.int 12))) (gName 3))
  (tSeq (tAsg (tOp (rI (fun _ j => 0 < j) fun i j => .int (i % j)) (tOp (rI CDiv fun i j => .int (i / j)) (tVar 1) (tC (.int 12))) (tCB (rLen K) (tCons (tVar 0) (tNil)))) (gName 4))
  (tSeq (tAsg (tOp (rI (fun _ j => 0 < j) fun i j => .int (i % j)) (tOp (rI CDiv fun i j => .int (i / j)) (tVar 1) (tC (.int 5))) (tCB (rLen K) (tCons (tVar 0) (tNil)))) (gName 5))
  (tSeq (tIfS (tTest (tOp (rEqG K) (tVar 3) (tC (.int 0))))
   (tRet (tOp (rAddG) (tOp (rAddG) (tSl (rSlL K) (tVar 0) (tNoPart) (tPart (tVar 4))) (tSl (rSlL K) (tVar 0) (tPart (tOp (rAddG) (tVar 4) (tC (.int 1)))) (tNoPart))) (tSl (rSlL K) (tVar 0) (tNoPart) (tPart (tCB (rInt1) (tCons (tOp (rEqG K) (tCB (rLen K) (tCons (tVar 0) (tNil))) (tC (.int 1))) (tNil)))))))
   (tNext))
  (tSeq (tIfS (tTest (tOp (rEqG K) (tVar 3) (tC (.int 1))))
   (tRet (tOp (rAddG) (tOp (rAddG) (tSl (rSlL K) (tVar 0) (tNoPart) (tPart (tVar 4))) (tLst (tCons (tCall sp__law_label [] E0 (tCons (tVar 2) (tCons (tC (.int 40)) (tNil)))) (tNil)))) (tSl (rSlL K) (tVar 0) (tPart (tVar 4)) (tNoPart))))
   (tNext))
  (tSeq (tIfS (tTest (tOp (rEqG K) (tVar 3) (tC (.int 2))))
   (tRet (tOp (rAddG) (tOp (rAddG) (tSl (rSlL K) (tVar 0) (tNoPart) (tPart (tVar 4))) (tLst (tCons (tOp (rIxG K) (tVar 0) (tVar 5)) (tNil)))) (tSl (rSlL K) (tVar 0) (tPart (tOp (rAddG) (tVar 4) (tC (.int 1)))) (tNoPart))))
   (tNext))
  (tSeq (tIfS (tTest (tOp (rEqG K) (tVar 3) (tC (.int 3))))
   (tRet (tComp 1 [4, 0, 5] (iRng1 (tCons (tCB (rLen K) (tCons (tVar 0) (tNil))) (tNil))) (gName 0) (tYes) (tIf (tTest (tOp (rEqG K) (tVar 0) (tVar 1))) (tOp (rIxG K) (tVar 2) (tVar 3)) (tIf (tTest (tOp (rEqG K) (tVar 0) (tVar 3))) (tOp (rIxG K) (tVar 2) (tVar 1)) (tOp (rIxG K) (tVar 2) (tVar 0))))))
   (tNext))
  (tSeq (tIfS (tTest (tOp (rEqG K) (tVar 3) (tC (.int 4))))
   (tRet (tOp (rAddG) (tSl (rSlL K) (tVar 0) (tNoPart) (tPart (tOp (rAddG) (tVar 4) (tC (.int 1))))) (tSl (rSlL K) (tVar 0) (tPart (tVar 4)) (tNoPart))))
   (tNext))
  (tSeq (tIfS (tTest (tOp (rEqG K) (tVar 3) (tC (.int 5))))
   (tRet (tOp (rAddG) (tComp 1 [2] (iRng1 (tCons (tOp (rAddG) (tC (.int 1)) (tOp (rI (fun _ j => 0 < j) fun i j => .int (i % j)) (tOp (rI CDiv fun i j => .int (i / j)) (tVar 1) (tC (.int 12))) (tC (.int 7)))) (tNil))) (gName 0) (tYes) (tCall sp__law_label [] E0 (tCons (tVar 1) (tCons (tVar 0) (tNil))))) (tLst (tCons (tCall sp__law_label [] E0 (tCons (tVar 2) (tCons (tC (.int 0)) (tNil)))) (tNil)))))
   (tNext))
  (tSeq (tIfS (tTest (tOp (rEqG K) (tVar 3) (tC (.int 6))))
   (tRet (tOp (rAddG) (tVar 0) (tSl (rSlL K) (tVar 0) (tPart (tC (.int 1))) (tNoPart))))
   (tNext))
  (tSeq (tIfS (tTest (tOp (rEqG K) (tVar 3) (tC (.int 7))))
   (tRet (tOp (rAddG) (tSl (rSlL K) (tVar 0) (tPart (tVar 4)) (tNoPart)) (tSl (rSlL K) (tVar 0) (tPart (tC (.int 1))) (tPart (tOp (rAddG) (tVar 4) (tC (.int 1)))))))
   (tNext))
  (tRet (tVar 0))))))))))))
theorem body__law_spoilt {P : Program} {w : World} {K : PySem.W.Frag} {mg : Str → Option Value} {base : Heap} {f : Addr} {cdv : Value} {A : Around} {outer : List Env} {s : Shared} {H : Hp} {E : XK} (T : Txt K mg) (hr : Room 1 (A.deeper (envOfC "_law_spoilt" (defScope s_law_spoilt) s.heap.objs.size f cdv))) {f__law_label : Addr} {d__law_label : FuncData} {sp__law_label : Sp} (G__law_label : FnOk P w K mg base CX0 1 f__law_label d__law_label ["_law_head", "_law_k"] sp__law_label) (m__law_label : mg "_law_label" = some (.ref f__law_label)) (k__law_label : PySem.W.keepIn K (.ref f__law_label) = true) (b__law_label : Binds K d__law_label ["_law_head", "_law_k"] []) :
      PSs (cxOf CX0 P w K mg base ["_law_row", "_law_cell", "_law_head", "_law_way", "_law_at", "_law_other"] "_law_spoilt" (defScope s_law_spoilt) f cdv A outer s H E).nox (defBody s_law_spoilt) (rd__law_spoilt K sp__law_label) :=
  pss_cons (ps_set (i := 3) sc_law_spoilt.nd rfl (Or.inl rfl) (pe_op (op_mod) (pv 1) (pe_int)))
  (pss_cons (ps_set (i := 4) sc_law_spoilt.nd rfl (Or.inr rfl) (pe_op (op_mod) (pe_op (op_fdiv) (pv 1) (pe_int)) (pe_callB (call_lenG) rfl T.b_len BootT.len (pa_cons (pv 0) (pa_nil)))))
  (pss_cons (ps_set (i := 5) sc_law_spoilt.nd rfl (Or.inr rfl) (pe_op (op_mod) (pe_op (op_fdiv) (pv 1) (pe_int)) (pe_callB (call_lenG) rfl T.b_len BootT.len (pa_cons (pv 0) (pa_nil)))))
  (pss_cons (ps_if (pt_cmpR (op_eqG hr.units) (pv 3) (pe_int) (nomark _))
   (pss_one (ps_ret (pe_op (op_addG) (pe_op (op_addG) (pe_slice sl_list (pv 0) (po_none) (po_some (pv 4))) (pe_slice sl_list (pv 0) (po_some (pe_op (op_addG) (pv 4) (pe_int))) (po_none))) (pe_slice sl_list (pv 0) (po_none) (po_some (pe_callTy (call_int1) rfl T.b_int BootT.int (pa_cons (pe_cmpR (op_eqG hr.units) (pe_callB (call_lenG) rfl T.b_len BootT.len (pa_cons (pv 0) (pa_nil))) (pe_int) (nomark _)) (pa_nil))))))))
   (pss_nil))
  (pss_cons (ps_if (pt_cmpR (op_eqG hr.units) (pv 3) (pe_int) (nomark _))
   (pss_one (ps_ret (pe_op (op_addG) (pe_op (op_addG) (pe_slice sl_list (pv 0) (po_none) (po_some (pv 4))) (pe_lst (pa_cons (pe_call G__law_label (hr.mono (by decide)) rfl m__law_label k__law_label b__law_label .nil pass0 (pa_cons (pv 2) (pa_cons (pe_int) (pa_nil)))) (pa_nil)))) (pe_slice sl_list (pv 0) (po_some (pv 4)) (po_none)))))
   (pss_nil))
  (pss_cons (ps_if (pt_cmpR (op_eqG hr.units) (pv 3) (pe_int) (nomark _))
   (pss_one (ps_ret (pe_op (op_addG) (pe_op (op_addG) (pe_slice sl_list (pv 0) (po_none) (po_some (pv 4))) (pe_lst (pa_cons (pe_ix (ix_G hr.units) (pv 0) (pv 5) (fun _ _ => rfl)) (pa_nil)))) (pe_slice sl_list (pv 0) (po_some (pe_op (op_addG) (pv 4) (pe_int))) (po_none)))))
   (pss_nil))
  (pss_cons (ps_if (pt_cmpR (op_eqG hr.units) (pv 3) (pe_int) (nomark _))
   (pss_one (ps_ret (pe_comp ["_law_k"] (ys := ["_law_at", "_law_row", "_law_other"]) [4, 0, 5] rfl (pi_range1 rfl T.b_range (pa_cons (pe_callB (call_lenG) rfl T.b_len BootT.len (pa_cons (pv 0) (pa_nil))) (pa_nil))) ⟨rfl, .inl rfl, rfl, ⟨rfl, .inl rfl, rfl, ⟨rfl, .inl rfl, rfl, trivial⟩⟩⟩ (fun _ _ _ => pg_name (i := 0) (show (["_law_k", "_law_at", "_law_row", "_law_other"] : List Str).Nodup by decide +kernel) rfl (Or.inl rfl)) (fun _ _ _ => pifs_nil) (fun _ _ _ => pe_ifExp (pt_cmpR (op_eqG hr.units) (pv 0) (pv 1) (nomark _)) (pe_ix (ix_G hr.units) (pv 2) (pv 3) (fun _ _ => rfl)) (pe_ifExp (pt_cmpR (op_eqG hr.units) (pv 0) (pv 3) (nomark _)) (pe_ix (ix_G hr.units) (pv 2) (pv 1) (fun _ _ => rfl)) (pe_ix (ix_G hr.units) (pv 2) (pv 0) (fun _ _ => rfl)))))))
   (pss_nil))
  (pss_cons (ps_if (pt_cmpR (op_eqG hr.units) (pv 3) (pe_int) (nomark _))
   (pss_one (ps_ret (pe_op (op_addG) (pe_slice sl_list (pv 0) (po_none) (po_some (pe_op (op_addG) (pv 4) (pe_int)))) (pe_slice sl_list (pv 0) (po_some (pv 4)) (po_none)))))
   (pss_nil))
  (pss_cons (ps_if (pt_cmpR (op_eqG hr.units) (pv 3) (pe_int) (nomark _))
   (pss_one (ps_ret (pe_op (op_addG) (pe_comp ["_law_k"] (ys := ["_law_head"]) [2] rfl (pi_range1 rfl T.b_range (pa_cons (pe_op (op_addG) (pe_int) (pe_op (op_mod) (pe_op (op_fdiv) (pv 1) (pe_int)) (pe_int))) (pa_nil))) ⟨rfl, .inl rfl, rfl, trivial⟩ (fun _ _ _ => pg_name (i := 0) (show (["_law_k", "_law_head"] : List Str).Nodup by decide +kernel) rfl (Or.inl rfl)) (fun _ _ _ => pifs_nil) (fun _ _ _ => pe_call G__law_label (hr.mono (by decide)) rfl m__law_label k__law_label b__law_label .nil pass0 (pa_cons (pv 1) (pa_cons (pv 0) (pa_nil))))) (pe_lst (pa_cons (pe_call G__law_label (hr.mono (by decide)) rfl m__law_label k__law_label b__law_label .nil pass0 (pa_cons (pv 2) (pa_cons (pe_int) (pa_nil)))) (pa_nil))))))
   (pss_nil))
  (pss_cons (ps_if (pt_cmpR (op_eqG hr.units) (pv 3) (pe_int) (nomark _))
   (pss_one (ps_ret (pe_op (op_addG) (pv 0) (pe_slice sl_list (pv 0) (po_some (pe_int)) (po_none)))))
   (pss_nil))
  (pss_cons (ps_if (pt_cmpR (op_eqG hr.units) (pv 3) (pe_int) (nomark _))
   (pss_one (ps_ret (pe_op (op_addG) (pe_slice sl_list (pv 0) (po_some (pv 4)) (po_none)) (pe_slice sl_list (pv 0) (po_some (pe_int)) (po_some (pe_op (op_addG) (pv 4) (pe_int)))))))
   (pss_nil))
  (pss_one (ps_ret (pv 0)))))))))))))
theorem ok__law_spoilt {P : Program} {w : World} {K : PySem.W.Frag} {mg : Str → Option Value} {base : Heap} {f : Addr} {fd : FuncData} {sp : Sp} (Fu : Fun K "_law_spoilt" "_law_spoilt" s_law_spoilt f fd) (T : Txt K mg) {f__law_label : Addr} {d__law_label : FuncData} {sp__law_label : Sp} (G__law_label : FnOk P w K mg base CX0 1 f__law_label d__law_label ["_law_head", "_law_k"] sp__law_label) (m__law_label : mg "_law_label" = some (.ref f__law_label)) (k__law_label : PySem.W.keepIn K (.ref f__law_label) = true) (b__law_label : Binds K d__law_label ["_law_head", "_law_k"] [])
      (len : ∀ vs H Q E, sp vs H Q E → vs.length = 3) (run : ∀ vs H Q E, sp vs H Q E → rd__law_spoilt K sp__law_label { nx := fun _ H' => Q .non H', rt := Q } (start ["_law_row", "_law_cell", "_law_head", "_law_way", "_law_at", "_law_other"] vs) H) : FnOk P w K mg base CX0 2 f fd ["_law_row", "_law_cell", "_law_head"] sp :=
    Fu.ok sc_law_spoilt len fun cdv A outer s H vs Q E hr h => ⟨_, body__law_spoilt T hr G__law_label m__law_label k__law_label b__law_label, run vs H Q E h⟩
def lp__law_digits_1 (K : PySem.W.Frag) : TS :=
  tFor (iRng1 (tCons (tVar 2) (tNil))) (gName 4)
   (tSeq (tDrop (tBM K "list" rAppend (tVar 3) (tCons (tOp (rI (fun _ j => 0 < j) fun i j => .int (i % j)) (tVar 0) (tVar 1)) (tNil))))
  (tAsg (tOp (rI CDiv fun i j => .int (i / j)) (tVar 0) (tVar 1)) (gName 0)))
def rd__law_digits (K : PySem.W.Frag) : TS :=
  tSeq (tAsg (tLst (tNil)) (gName 3))
  (tSeq (lp__law_digits_1 K)
  (tRet (tVar 3)))
theorem body__law_digits {P : Program} {w : World} {K : PySem.W.Frag} {mg : Str → Option Value} {base : Heap} {f : Addr} {cdv : Value} {A : Around} {outer : List Env} {s : Shared} {H : Hp} {E : XK} (T : Txt K mg) (hr : Room 0 (A.deeper (envOfC "_law_digits" (defScope s_law_digits) s.heap.objs.size f cdv))) :
      PSs (cxOf CX0 P w K mg base ["_law_cell", "_law_base", "_law_many", "_law_row", "_law_k"] "_law_digits" (defScope s_law_digits) f cdv A outer s H E).nox (defBody s_law_digits) (rd__law_digits K) :=
  pss_cons (ps_set (i := 3) sc_law_digits.nd rfl (Or.inl rfl) (pe_lst (pa_nil)))
  (pss_cons (ps_for PassesOwn.never rfl (pi_range1 rfl T.b_range (pa_cons (pv 2) (pa_nil))) (pg_name (i := 4) sc_law_digits.nd rfl (Or.inl rfl))
   (pss_cons (ps_expr (pe_bm PySem.F.plainAttrs_list PySem.F.slot_list_append PySem.F.type_list_append mt_append (pv 3) (pa_cons (pe_op (op_mod) (pv 0) (pv 1)) (pa_nil))))
  (pss_one (ps_set (i := 0) sc_law_digits.nd rfl (Or.inl rfl) (pe_op (op_fdiv) (pv 0) (pv 1))))))
  (pss_one (ps_ret (pv 3))))
theorem ok__law_digits {P : Program} {w : World} {K : PySem.W.Frag} {mg : Str → Option Value} {base : Heap} {f : Addr} {fd : FuncData} {sp : Sp} (Fu : Fun K "_law_digits" "_law_digits" s_law_digits f fd) (T : Txt K mg)
      (len : ∀ vs H Q E, sp vs H Q E → vs.length = 3) (run : ∀ vs H Q E, sp vs H Q E → rd__law_digits K { nx := fun _ H' => Q .non H', rt := Q } (start ["_law_cell", "_law_base", "_law_many", "_law_row", "_law_k"] vs) H) : FnOk P w K mg base CX0 1 f fd ["_law_cell", "_law_base", "_law_many"] sp :=
    Fu.ok sc_law_digits len fun cdv A outer s H vs Q E hr h => ⟨_, body__law_digits T hr, run vs H Q E h⟩
def rd__law_told (K : PySem.W.Frag) (sp__law_truth sp_is_round sp__law_peeled : Sp) : TS :=
  tSeq (tAsg (tCB (rList K) (tCons (tVar 0) (tNil))) (gName 1))
  (tRet (tAndV (tCall sp__law_truth [] E0 (tCons (tCall sp_is_round [] E0 (tCons (tVar 1) (tNil))) (tCons (tNotN (tCall sp__law_peeled [] E0 (tCons (tVar 0) (tNil)))) (tNil)))) (tOp (rEqG K) (tVar 1) (tVar 0))))
theorem body__law_told {P : Program} {w : World} {K : PySem.W.Frag} {mg : Str → Option Value} {base : Heap} {f : Addr} {cdv : Value} {A : Around} {outer : List Env} {s : Shared} {H : Hp} {E : XK} (T : Txt K mg) (hr : Room 2 (A.deeper (envOfC "_law_told" (defScope s_law_told) s.heap.objs.size f cdv))) {f__law_truth : Addr} {d__law_truth : FuncData} {sp__law_truth : Sp} (G__law_truth : FnOk P w K mg base CX0 1 f__law_truth d__law_truth ["_law_found", "_law_due"] sp__law_truth) (m__law_truth : mg "_law_truth" = some (.ref f__law_truth)) (k__law_truth : PySem.W.keepIn K (.ref f__law_truth) = true) (b__law_truth : Binds K d__law_truth ["_law_found", "_law_due"] []) {f_is_round : Addr} {d_is_round : FuncData} {sp_is_round : Sp} (G_is_round : FnOk P w K mg base CX0 2 f_is_round d_is_round ["row"] sp_is_round) (m_is_round : mg "is_round" = some (.ref f_is_round)) (k_is_round : PySem.W.keepIn K (.ref f_is_round) = true) (b_is_round : Binds K d_is_round ["row"] []) {f__law_peeled : Addr} {d__law_peeled : FuncData} {sp__law_peeled : Sp} (G__law_peeled : FnOk P w K mg base CX0 1 f__law_peeled d__law_peeled ["_law_row"] sp__law_peeled) (m__law_peeled : mg "_law_peeled" = some (.ref f__law_peeled)) (k__law_peeled : PySem.W.keepIn K (.ref f__law_peeled) = true) (b__law_peeled : Binds K d__law_peeled ["_law_row"] []) :
      PSs (cxOf CX0 P w K mg base ["_law_row", "_law_handed"] "_law_told" (defScope s_law_told) f cdv A outer s H E).nox (defBody s_law_told) (rd__law_told K sp__law_truth sp_is_round sp__law_peeled) :=
  pss_cons (ps_set (i := 1) sc_law_told.nd rfl (Or.inl rfl) (pe_callTy (call_list_of) rfl T.b_list BootT.list (pa_cons (pv 0) (pa_nil))))
  (pss_one (ps_ret (pe_and (pe_call G__law_truth (hr.mono (by decide)) rfl m__law_truth k__law_truth b__law_truth .nil pass0 (pa_cons (pe_call G_is_round (hr.mono (by decide)) rfl m_is_round k_is_round b_is_round .nil pass0 (pa_cons (pv 1) (pa_nil))) (pa_cons (pe_cmp (pc_notN (pe_call G__law_peeled (hr.mono (by decide)) rfl m__law_peeled k__law_peeled b__law_peeled .nil pass0 (pa_cons (pv 0) (pa_nil))))) (pa_nil)))) (pe_one (pe_cmpR (op_eqG hr.units) (pv 1) (pv 0) (nomark _))))))
theorem ok__law_told {P : Program} {w : World} {K : PySem.W.Frag} {mg : Str → Option Value} {base : Heap} {f : Addr} {fd : FuncData} {sp : Sp} (Fu : Fun K "_law_told" "_law_told" s_law_told f fd) (T : Txt K mg) {f__law_truth : Addr} {d__law_truth : FuncData} {sp__law_truth : Sp} (G__law_truth : FnOk P w K mg base CX0 1 f__law_truth d__law_truth ["_law_found", "_law_due"] sp__law_truth) (m__law_truth : mg "_law_truth" = some (.ref f__law_truth)) (k__law_truth : PySem.W.keepIn K (.ref f__law_truth) = true) (b__law_truth : Binds K d__law_truth ["_law_found", "_law_due"] []) {f_is_round : Addr} {d_is_round : FuncData} {sp_is_round : Sp} (G_is_round : FnOk P w K mg base CX0 2 f_is_round d_is_round ["row"] sp_is_round) (m_is_round : mg "is_round" = some (.ref f_is_round)) (k_is_round : PySem.W.keepIn K (.ref f_is_round) = true) (b_is_round : Binds K d_is_round ["row"] []) {f__law_peeled : Addr} {d__law_peeled : FuncData} {sp__law_peeled : Sp} (G__law_peeled : FnOk P w K mg base CX0 1 f__law_peeled d__law_peeled ["_law_row"] sp__law_peeled) (m__law_peeled : mg "_law_peeled" = some (.ref f__law_peeled)) (k__law_peeled : PySem.W.keepIn K (.ref f__law_peeled) = true) (b__law_peeled : Binds K d__law_peeled ["_law_row"] [])
      (len : ∀ vs H Q E, sp vs H Q E → vs.length = 1) (run : ∀ vs H Q E, sp vs H Q E → rd__law_told K sp__law_truth sp_is_round sp__law_peeled { nx := fun _ H' => Q .non H', rt := Q } (start ["_law_row", "_law_handed"] vs) H) : FnOk P w K mg base CX0 3 f fd ["_law_row"] sp :=
    Fu.ok sc_law_told len fun cdv A outer s H vs Q E hr h => ⟨_, body__law_told T hr G__law_truth m__law_truth k__law_truth b__law_truth G_is_round m_is_round k_is_round b_is_round G__law_peeled m__law_peeled k__law_peeled b__law_peeled, run vs H Q E h⟩
def lp_law_1 (K : PySem.W.Frag) (sp__law_cell_at sp__law_told sp__law_spoilt sp__law_digits sp__law_grown : Sp) : TS :=
  tFor (iRng3 (tCons (tC (.int 0)) (tCons (tCB (rMax2) (tCons (tC (.int 1)) (tCons (tCB (rMin2) (tCons (tC (.int 120)) (tCons (tCB (rLen K) (tCons (tVar 0) (tNil))) (tNil)))) (tNil)))) (tCons (tC (.int 5)) (tNil))))) (gName 3)
   (tSeq (tAsg (tOp (rI (fun _ j => 0 < j) fun i j => .int (i % j)) (tCall sp__law_cell_at [] E0 (tCons (tVar 0) (tCons (tVar 3) (tNil)))) (tC (.int 20))) (gName 4))
  (tSeq (tAsg (tComp 1 [0, 3] (iRng1 (tCons (tVar 4) (tNil))) (gName 0) (tYes) (tOp (rAddG) (tOp (rI CDiv fun i j => .int (i / j)) (tCall sp__law_cell_at [] E0 (tCons (tVar 1) (tCons (tOp (rAddG) (tVar 2) (tC (.int 1))) (tNil)))) (tC (.int 3))) (tOp (rI CMul fun i j => .int (i * j)) (tOp (rI CMul fun i j => .int (i * j)) (tVar 0) (tVar 0)) (tCall sp__law_cell_at [] E0 (tCons (tVar 1) (tCons (tOp (rAddG) (tVar 2) (tC (.int 2))) (tNil))))))) (gName 5))
  (tSeq (tAsg (tCall sp__law_spoilt [] E0 (tCons (tCall sp__law_grown [] E0 (tCons (tOp (rAddG) (tVar 1) (tVar 3)) (tCons (tVar 5) (tNil)))) (tCons (tOp (rAddG) (tCall sp__law_cell_at [] E0 (tCons (tVar 0) (tCons (tOp (rAddG) (tVar 3) (tC (.int 3))) (tNil)))) (tVar 3)) (tCons (tOp (rAddG) (tVar 1) (tVar 3)) (tNil))))) (gName 6))
  (tIfS (tNot (tTru K (tCall sp__law_told [] E0 (tCons (tVar 6) (tNil)))))
   (tRet (tC (.bl false)))
   (tNext)))))
def rd_law (K : PySem.W.Frag) (sp__law_cell_at sp__law_told sp__law_spoilt sp__law_digits sp__law_grown : Sp) : TS :=
  tSeq (tAsg (tOp (rI CDiv fun i j => .int (i / j)) (tCall sp__law_cell_at [] E0 (tCons (tVar 0) (tCons (tC (.int 0)) (tNil)))) (tC (.int 2))) (gName 1))
  (tSeq (tIfS (tTest (tOp (rEqG K) (tOp (rI (fun _ j => 0 < j) fun i j => .int (i % j)) (tCall sp__law_cell_at [] E0 (tCons (tVar 0) (tCons (tC (.int 0)) (tNil)))) (tC (.int 2))) (tC (.int 0))))
   (tSeq (tAsg (tOp (rAddG) (tC (.int 1)) (tOp (rI (fun _ j => 0 < j) fun i j => .int (i % j)) (tCall sp__law_cell_at [] E0 (tCons (tVar 0) (tCons (tC (.int 2)) (tNil)))) (tC (.int 41)))) (gName 2))
  (tRet (tCall sp__law_told [] E0 (tCons (tCall sp__law_digits [] E0 (tCons (tCall sp__law_cell_at [] E0 (tCons (tVar 0) (tCons (tC (.int 1)) (tNil)))) (tCons (tVar 2) (tCons (tOp (rAddG) (tC (.int 1)) (tOp (rI (fun _ j => 0 < j) fun i j => .int (i % j)) (tOp (rI CDiv fun i j => .int (i / j)) (tCall sp__law_cell_at [] E0 (tCons (tVar 0) (tCons (tC (.int 2)) (tNil)))) (tC (.int 41))) (tC (.int 41)))) (tNil))))) (tNil)))))
   (tNext))
  (tSeq (lp_law_1 K sp__law_cell_at sp__law_told sp__law_spoilt sp__law_digits sp__law_grown)
  (tRet (tC (.bl true)))))
theorem body_law {P : Program} {w : World} {K : PySem.W.Frag} {mg : Str → Option Value} {base : Heap} {f : Addr} {cdv : Value} {A : Around} {outer : List Env} {s : Shared} {H : Hp} {E : XK} (T : Txt K mg) (hr : Room 3 (A.deeper (envOfC "law" (defScope slaw) s.heap.objs.size f cdv))) {f__law_cell_at : Addr} {d__law_cell_at : FuncData} {sp__law_cell_at : Sp} (G__law_cell_at : FnOk P w K mg base CX0 1 f__law_cell_at d__law_cell_at ["_law_script", "_law_k"] sp__law_cell_at) (m__law_cell_at : mg "_law_cell_at" = some (.ref f__law_cell_at)) (k__law_cell_at : PySem.W.keepIn K (.ref f__law_cell_at) = true) (b__law_cell_at : Binds K d__law_cell_at ["_law_script", "_law_k"] []) {f__law_told : Addr} {d__law_told : FuncData} {sp__law_told : Sp} (G__law_told : FnOk P w K mg base CX0 3 f__law_told d__law_told ["_law_row"] sp__law_told) (m__law_told : mg "_law_told" = some (.ref f__law_told)) (k__law_told : PySem.W.keepIn K (.ref f__law_told) = true) (b__law_told : Binds K d__law_told ["_law_row"] []) {f__law_spoilt : Addr} {d__law_spoilt : FuncData} {sp__law_spoilt : Sp} (G__law_spoilt : FnOk P w K mg base CX0 2 f__law_spoilt d__law_spoilt ["_law_row", "_law_cell", "_law_head"] sp__law_spoilt) (m__law_spoilt : mg "_law_spoilt" = some (.ref f__law_spoilt)) (k__law_spoilt : PySem.W.keepIn K (.ref f__law_spoilt) = true) (b__law_spoilt : Binds K d__law_spoilt ["_law_row", "_law_cell", "_law_head"] []) {f__law_digits : Addr} {d__law_digits : FuncData} {sp__law_digits : Sp} (G__law_digits : FnOk P w K mg base CX0 1 f__law_digits d__law_digits ["_law_cell", "_law_base", "_law_many"] sp__law_digits) (m__law_digits : mg "_law_digits" = some (.ref f__law_digits)) (k__law_digits : PySem.W.keepIn K (.ref f__law_digits) = true) (b__law_digits : Binds K d__law_digits ["_law_cell", "_law_base", "_law_many"] []) {f__law_grown : Addr} {d__law_grown : FuncData} {sp__law_grown : Sp} (G__law_grown : FnOk P w K mg base CX0 2 f__law_grown d__law_grown ["_law_head", "_law_cells"] sp__law_grown) (m__law_grown : mg "_law_grown" = some (.ref f__law_grown)) (k__law_grown : PySem.W.keepIn K (.ref f__law_grown) = true) (b__law_grown : Binds K d__law_grown ["_law_head", "_law_cells"] []) :
      PSs (cxOf CX0 P w K mg base ["_law_script", "_law_head", "_law_base", "_law_k", "_law_size", "_law_cells", "_law_row"] "law" (defScope slaw) f cdv A outer s H E).nox (defBody slaw) (rd_law K sp__law_cell_at sp__law_told sp__law_spoilt sp__law_digits sp__law_grown) :=
  pss_cons (ps_set (i := 1) sclaw.nd rfl (Or.inl rfl) (pe_op (op_fdiv) (pe_call G__law_cell_at (hr.mono (by decide)) rfl m__law_cell_at k__law_cell_at b__law_cell_at .nil pass0 (pa_cons (pv 0) (pa_cons (pe_int) (pa_nil)))) (pe_int)))
  (pss_cons (ps_if (pt_cmpR (op_eqG hr.units) (pe_op (op_mod) (pe_call G__law_cell_at (hr.mono (by decide)) rfl m__law_cell_at k__law_cell_at b__law_cell_at .nil pass0 (pa_cons (pv 0) (pa_cons (pe_int) (pa_nil)))) (pe_int)) (pe_int) (nomark _))
   (pss_cons (ps_set (i := 2) sclaw.nd rfl (Or.inl rfl) (pe_op (op_addG) (pe_int) (pe_op (op_mod) (pe_call G__law_cell_at (hr.mono (by decide)) rfl m__law_cell_at k__law_cell_at b__law_cell_at .nil pass0 (pa_cons (pv 0) (pa_cons (pe_int) (pa_nil)))) (pe_int))))
  (pss_one (ps_ret (pe_call G__law_told (hr.mono (by decide)) rfl m__law_told k__law_told b__law_told .nil pass0 (pa_cons (pe_call G__law_digits (hr.mono (by decide)) rfl m__law_digits k__law_digits b__law_digits .nil pass0 (pa_cons (pe_call G__law_cell_at (hr.mono (by decide)) rfl m__law_cell_at k__law_cell_at b__law_cell_at .nil pass0 (pa_cons (pv 0) (pa_cons (pe_int) (pa_nil)))) (pa_cons (pv 2) (pa_cons (pe_op (op_addG) (pe_int) (pe_op (op_mod) (pe_op (op_fdiv) (pe_call G__law_cell_at (hr.mono (by decide)) rfl m__law_cell_at k__law_cell_at b__law_cell_at .nil pass0 (pa_cons (pv 0) (pa_cons (pe_int) (pa_nil)))) (pe_int)) (pe_int))) (pa_nil))))) (pa_nil))))))
   (pss_nil))
  (pss_cons (ps_for PassesOwn.never rfl (pi_range3 rfl T.b_range (pa_cons (pe_int) (pa_cons (pe_callB (call_max2 rfl) rfl T.b_max BootT.max (pa_cons (pe_int) (pa_cons (pe_callB (call_min2 rfl) rfl T.b_min BootT.min (pa_cons (pe_int) (pa_cons (pe_callB (call_lenG) rfl T.b_len BootT.len (pa_cons (pv 0) (pa_nil))) (pa_nil)))) (pa_nil)))) (pa_cons (pe_int) (pa_nil))))) (pg_name (i := 3) sclaw.nd rfl (Or.inr rfl))
   (pss_cons (ps_set (i := 4) sclaw.nd rfl (Or.inl rfl) (pe_op (op_mod) (pe_call G__law_cell_at (hr.mono (by decide)) rfl m__law_cell_at k__law_cell_at b__law_cell_at .nil pass0 (pa_cons (pv 0) (pa_cons (pv 3) (pa_nil)))) (pe_int)))
  (pss_cons (ps_comp (i := 5) ["_law_j"] (ys := ["_law_script", "_law_k"]) [0, 3] rfl sclaw.nd rfl rfl (pi_range1 rfl T.b_range (pa_cons (pv 4) (pa_nil))) ⟨rfl, .inl rfl, rfl, ⟨rfl, .inl rfl, rfl, trivial⟩⟩ (fun _ _ _ => pg_name (i := 0) (show (["_law_j", "_law_script", "_law_k"] : List Str).Nodup by decide +kernel) rfl (Or.inl rfl)) (fun _ _ _ => pifs_nil) (fun _ _ _ => pe_op (op_addG) (pe_op (op_fdiv) (pe_call G__law_cell_at (hr.mono (by decide)) rfl m__law_cell_at k__law_cell_at b__law_cell_at .nil pass0 (pa_cons (pv 1) (pa_cons (pe_op (op_addG) (pv 2) (pe_int)) (pa_nil)))) (pe_int)) (pe_op (op_mul) (pe_op (op_mul) (pv 0) (pv 0)) (pe_call G__law_cell_at (hr.mono (by decide)) rfl m__law_cell_at k__law_cell_at b__law_cell_at .nil pass0 (pa_cons (pv 1) (pa_cons (pe_op (op_addG) (pv 2) (pe_int)) (pa_nil)))))))
  (pss_cons (ps_set (i := 6) sclaw.nd rfl (Or.inl rfl) (pe_call G__law_spoilt (hr.mono (by decide)) rfl m__law_spoilt k__law_spoilt b__law_spoilt .nil pass0 (pa_cons (pe_call G__law_grown (hr.mono (by decide)) rfl m__law_grown k__law_grown b__law_grown .nil pass0 (pa_cons (pe_op (op_addG) (pv 1) (pv 3)) (pa_cons (pv 5) (pa_nil)))) (pa_cons (pe_op (op_addG) (pe_call G__law_cell_at (hr.mono (by decide)) rfl m__law_cell_at k__law_cell_at b__law_cell_at .nil pass0 (pa_cons (pv 0) (pa_cons (pe_op (op_addG) (pv 3) (pe_int)) (pa_nil)))) (pv 3)) (pa_cons (pe_op (op_addG) (pv 1) (pv 3)) (pa_nil))))))
  (pss_one (ps_if (pt_not (pt_tru (pe_call G__law_told (hr.mono (by decide)) rfl m__law_told k__law_told b__law_told .nil pass0 (pa_cons (pv 6) (pa_nil))) (fun _ => rfl)))
   (pss_one (ps_ret (pe_bl)))
   (pss_nil)))))))
  (pss_one (ps_ret (pe_bl)))))
theorem ok_law {P : Program} {w : World} {K : PySem.W.Frag} {mg : Str → Option Value} {base : Heap} {f : Addr} {fd : FuncData} {sp : Sp} (Fu : Fun K "law" "law" slaw f fd) (T : Txt K mg) {f__law_cell_at : Addr} {d__law_cell_at : FuncData} {sp__law_cell_at : Sp} (G__law_cell_at : FnOk P w K mg base CX0 1 f__law_cell_at d__law_cell_at ["_law_script", "_law_k"] sp__law_cell_at) (m__law_cell_at : mg "_law_cell_at" = some (.ref f__law_cell_at)) (k__law_cell_at : PySem.W.keepIn K (.ref f__law_cell_at) = true) (b__law_cell_at : Binds K d__law_cell_at ["_law_script", "_law_k"] []) {f__law_told : Addr} {d__law_told : FuncData} {sp__law_told : Sp} (G__law_told : FnOk P w K mg base CX0 3 f__law_told d__law_told ["_law_row"] sp__law_told) (m__law_told : mg "_law_told" = some (.ref f__law_told)) (k__law_told : PySem.W.keepIn K (.ref f__law_told) = true) (b__law_told : Binds K d__law_told ["_law_row"] []) {f__law_spoilt : Addr} {d__law_spoilt : FuncData} {sp__law_spoilt : Sp} (G__law_spoilt : FnOk P w K mg base CX0 2 f__law_spoilt d__law_spoilt ["_law_row", "_law_cell", "_law_head"] sp__law_spoilt) (m__law_spoilt : mg "_law_spoilt" = some (.ref f__law_spoilt)) (k__law_spoilt : PySem.W.keepIn K (.ref f__law_spoilt) = true) (b__law_spoilt : Binds K d__law_spoilt ["_law_row", "_law_cell", "_law_head"] []) {f__law_digits : Addr} {d__law_digits : FuncData} {sp__law_digits : Sp} (G__law_digits : FnOk P w K mg base CX0 1 f__law_digits d__law_digits ["_law_cell", "_law_base", "_law_many"] sp__law_digits) (m__law_digits : mg "_law_digits" = some (.ref f__law_digits)) (k__law_digits : PySem.W.keepIn K (.ref f__law_digits) = true) (b__law_digits : Binds K d__law_digits ["_law_cell", "_law_base", "_law_many"] []) {f__law_grown : Addr} {d__law_grown : FuncData} {sp__law_grown : Sp} (G__law_grown : FnOk P w K mg base CX0 2 f__law_grown d__law_grown ["_law_head", "_law_cells"] sp__law_grown) (m__law_grown : mg "_law_grown" = some (.ref f__law_grown)) (k__law_grown : PySem.W.keepIn K (.ref f__law_grown) = true) (b__law_grown : Binds K d__law_grown ["_law_head", "_law_cells"] [])
      (len : ∀ vs H Q E, sp vs H Q E → vs.length = 1) (run : ∀ vs H Q E, sp vs H Q E → rd_law K sp__law_cell_at sp__law_told sp__law_spoilt sp__law_digits sp__law_grown { nx := fun _ H' => Q .non H', rt := Q } (start ["_law_script", "_law_head", "_law_base", "_law_k", "_law_size", "_law_cells", "_law_row"] vs) H) : FnOk P w K mg base CX0 4 f fd ["_law_script"] sp :=
    Fu.ok sclaw len fun cdv A outer s H vs Q E hr h => ⟨_, body_law T hr G__law_cell_at m__law_cell_at k__law_cell_at b__law_cell_at G__law_told m__law_told k__law_told b__law_told G__law_spoilt m__law_spoilt k__law_spoilt b__law_spoilt G__law_digits m__law_digits k__law_digits b__law_digits G__law_grown m__law_grown k__law_grown b__law_grown, run vs H Q E h⟩
end K11
section
open PySem PySem.Spec PyProof.Rows L2
local macro_rules | `(tactic| walk_at "c") => `(tactic| first | (show (0 : Int) < _; omega) | exact ⟨by omega, by omega⟩ | exact Or.inl ⟨by omega, by omega⟩ | exact Or.inr ⟨by omega, by omega⟩ | exact ⟨by omega, by omega, by omega⟩)
local macro_rules | `(tactic| walk_at "x1") => `(tactic| first | with_reducible refine x_seq ?_ | with_reducible refine x_asg ?_ | with_reducible refine x_gname ?_ | with_reducible refine x_gsub ?_ | ((with_reducible refine' x_var ?hv ?_); (case hv => exact rfl)) | with_reducible refine x_c ?_ | with_reducible refine x_op ?_ | with_reducible refine x_ret ?_ | with_reducible refine x_drop ?_ | with_reducible refine x_next ?_ | with_reducible refine x_ifS ?_ | with_reducible refine x_if ?_ | with_reducible refine x_test ?_ | with_reducible refine x_tB ?_ | with_reducible refine x_isN ?_ | with_reducible refine x_notN ?_ | with_reducible refine x_and ?_ | with_reducible refine x_or ?_ | with_reducible refine x_not ?_ | with_reducible refine x_andV ?_ | with_reducible refine x_orV ?_ | with_reducible refine x_notV ?_ | with_reducible refine x_tru ?_ | with_reducible refine x_yes ?_ | with_reducible refine x_nil ?_ | with_reducible refine x_cons ?_ | with_reducible refine x_tup ?_ | with_reducible refine x_lst ?_ | with_reducible refine x_call ?_ | with_reducible refine x_cb ?_ | with_reducible refine x_bm ?_ | with_reducible refine x_sl ?_ | with_reducible refine x_nopart ?_ | with_reducible refine x_part ?_ | with_reducible refine x_rI0 ?_ | ((with_reducible refine x_rI ?hc ?_); (case hc => walk_at "c")) | with_reducible refine x_addI ?_ | with_reducible refine x_addHI ?_ | with_reducible refine x_eqI ?_ | with_reducible refine x_neI ?_ | with_reducible refine x_rng1 ?_ | with_reducible refine x_for ?_ | with_reducible refine x_comp ?_ | with_reducible refine x_iSeq ?_ | with_reducible refine x_min ?_ | with_reducible refine x_max ?_ | with_reducible refine x_un ?_ | with_reducible refine x_rU ?_ | with_reducible refine x_chain ?_ | with_reducible refine x_eqB ?_ | with_reducible refine x_rev ?_ | with_reducible refine x_dnew ?_ | with_reducible refine x_gcons ?_ | with_reducible refine x_gnil ?_ | ((with_reducible refine' x_aug ?hv ?_); (case hv => exact rfl)) | with_reducible refine ⟨_, rfl, ?_⟩)
local macro_rules | `(tactic| walk_at "x") => `(tactic| (walk_at "x1"; repeat walk_at "x1"))
namespace K11
open Rm
def sp__law_peeled (K : PySem.W.Frag) : Sp := fun vs H Q _ => ∃ (p : Addr) (r : List Int), vs = [.ref p] ∧ H p = some (.lst (r.map V.int)) ∧ r ≠ [] ∧ r.length ≤ 127 ∧
  (∀ H', Same H H' → ¬ IsR r → Q .non H') ∧ ∀ l H' (zs : List Zt), Same H H' → H l = none → IsR r → H' l = some (.lst (zs.map refZ)) → (∀ z ∈ zs, PairAt H' z) → zs.length < 64 → Ties r (zs.map zP) → Q (.ref l) H'
theorem len__law_peeled {K : PySem.W.Frag} : ∀ vs H Q E, sp__law_peeled K vs H Q E → vs.length = 1 := by
  rintro vs H Q E ⟨p, r, rfl, _⟩; rfl
structure Peel (r : List Int) (H : Hp) (p l1 : Addr) (m : Nat) (σ : L2.St) (H1 : Hp) (l2 : Addr) (zs : List Zt) (lf : List Int) (k : Nat) : Prop where
  st : σ = [some (.ref p), some (.ref l1), some (.ref l2), some (.int (k : Int))]
  sm : Same H H1
  ties : H1 l1 = some (.lst (zs.map refZ))
  pairs : ∀ z ∈ zs, PairAt H1 z
  left : H1 l2 = some (.lst (lf.map V.int))
  ne : lf ≠ []
  apart : l2 ≠ l1
  pm : (al r).Perm (al lf ++ both (zs.map zP))
  iff : IsR r ↔ IsR lf
  lt : ∀ z ∈ zs, z.1 < z.2.1
  k1 : 1 ≤ k
  no : ∀ j, 1 ≤ j → j < k → ¬ Pk lf j
  sz : 2 * zs.length + lf.length = r.length
  m : m = 2 * lf.length - k
  kle : k ≤ lf.length
theorem pair_keep {H H' : Hp} {l : Addr} {xs : List V} {z : Zt} (h : PairAt H z) (hl : H l = some (.lst xs)) (B : SameBut1 l H H') : PairAt H' z := B _ _ h (ne_of h hl (by intro q; cases q))
theorem run__law_peeled {K : PySem.W.Frag} : ∀ vs H Q E, sp__law_peeled K vs H Q E → rd__law_peeled K { nx := fun _ H' => Q .non H', rt := Q } (start ["_law_row", "_law_ties", "_law_left", "_law_k"] vs) H := by
  rintro vs H Q E ⟨p, r, rfl, hp, hne, hlen, qN, qS⟩
  unfold rd__law_peeled
  walk_at "x"
  refine ⟨small_le (m := 0) (Nat.le_refl 0), fun l1 hl1 => ?_⟩
  have S1 := Same.upd_new (o := .lst []) hl1
  have g1 : (upd H l1 (.lst [])) l1 = some (.lst []) := upd_same
  generalize upd H l1 (.lst []) = H1 at S1 g1
  walk_at "x"
  refine x_list (SqL.of (S1 _ _ hp)) fun l2 hl2 => ?_
  have S2 := Same.upd_new (o := .lst (r.map V.int)) hl2
  have g2 : (upd H1 l2 (.lst (r.map V.int))) l2 = some (.lst (r.map V.int)) := upd_same
  generalize upd H1 l2 (.lst (r.map V.int)) = H2 at S2 g2
  walk_at "x"
  unfold lp__law_peeled_1
  have hr1 : 1 ≤ r.length := List.length_pos_iff.mpr hne
  refine ⟨fun m σ H3 => ∃ l2 zs lf k, Peel r H p l1 m σ H3 l2 zs lf k, ⟨_, l2, [], r, 1, ⟨rfl, S1.trans S2, S2 _ _ g1, (fun z hz => nomatch hz), g2, hne, Ne.symm (ne_of_none g1 hl2), by simp [both], Iff.rfl, (fun z hz => nomatch hz), Nat.le_refl _, fun j h1 h2 => absurd h2 (by omega), by simp, rfl, hr1⟩⟩, ?_⟩
  rintro m σ H3 ⟨l2, zs, lf, k, ⟨rfl, sm, hT, hpr, hL, hlf, hap, hpm, hiff, hlt, hk1, hno, hsz, hm, hkle⟩⟩
  walk_at "x"
  refine x_lenI (SqL.of hL) ?_
  walk_at "x"
  refine ifd (fun h1 => ?_) fun h1 => ?_
  · have h1 : 1 < lf.length := by omega
    refine ⟨fun σ' H' => ∃ m', m' < m ∧ ∃ l2 zs lf k, Peel r H p l1 m' σ' H' l2 zs lf k, fun σ' H' h => h, ?_⟩
    walk_at "x"
    refine x_lenI (SqL.of hL) ?_
    walk_at "x"
    refine ifd (fun h2 => ?_) fun h2 => ?_
    · walk_at "x"
      refine qN _ sm fun hR => ?_
      have := scan (hiff.mp hR) h1 hno
      omega
    · have h2 : k + 1 < lf.length := by omega
      obtain ⟨w, hw⟩ : ∃ w, lf[k - 1]? = some w := ⟨_, List.getElem?_eq_getElem (by omega)⟩
      obtain ⟨z, hz⟩ : ∃ z, lf[k]? = some z := ⟨_, List.getElem?_eq_getElem (by omega)⟩
      obtain ⟨v, hv⟩ : ∃ v, lf[k + 1]? = some v := ⟨_, List.getElem?_eq_getElem h2⟩
      have step : ¬ Pk lf k → (tAsg (tOp rAddG (tVar 3) (tC (.int 1))) (gName 3)) { nx := fun σ' H' => ∃ m', m' < m ∧ ∃ l2 zs lf k, Peel r H p l1 m' σ' H' l2 zs lf k, rt := Q } [some (.ref p), some (.ref l1), some (.ref l2), some (.int (k : Int))] H3 := by
        intro hPk
        walk_at "x"
        refine ⟨2 * lf.length - (k + 1), by omega, l2, zs, lf, k + 1, ⟨rfl, sm, hT, hpr, hL, hlf, hap, hpm, hiff, hlt, by omega, fun j j1 j2 => ?_, hsz, rfl, by omega⟩⟩
        by_cases e : j = k
        · subst e; exact hPk
        · exact hno j j1 (by omega)
      walk_at "x"
      refine x_ixI (SqL.of hL) (j := k - 1) (by omega) hw ?_
      walk_at "x"
      refine x_ixI (SqL.of hL) (j := k + 1) (by omega) hv ?_
      walk_at "x"
      refine ifV (p := w = v) (by rw [decide_eq_true_iff, eq_int_iff]) (fun e => ?_) fun e => ?_
      · subst e
        walk_at "x"
        refine ⟨.inl ⟨rfl, _, SqL.of hL⟩, ?_⟩
        walk_at "x"
        refine x_ixI (SqL.of hL) (j := k) rfl hz ?_
        walk_at "x"
        refine x_count (SqL.of hL) ?_
        walk_at "x"
        refine ifV (p := lf.count z = 1) (by rw [decide_eq_true_iff, eq_int_iff]; omega) (fun hc => ?_) fun hc => ?_
        · obtain ⟨sp1, sp2, sp3⟩ := Pk.split hk1 hw hz hv hc
          have hzw : z ≠ w := fun q => sp3 (by simp [q])
          walk_at "x"
          refine ⟨.inl ⟨rfl, _, SqL.of hT⟩, ?_⟩
          walk_at "x"
          refine x_ixI (SqL.of hL) (j := k) rfl hz ?_
          walk_at "x"
          refine x_ixI (SqL.of hL) (j := k - 1) (by omega) hw ?_
          walk_at "x"
          refine x_ixI (SqL.of hL) (j := k) rfl hz ?_
          walk_at "x"
          refine x_ixI (SqL.of hL) (j := k - 1) (by omega) hw ?_
          walk_at "x"
          obtain ⟨t1, t2, et1, et2, hor⟩ : ∃ t1 t2 : Int, (if w < z then w else z) = t1 ∧ (if w > z then w else z) = t2 ∧ ((t1 = w ∧ t2 = z ∧ w < z) ∨ (t1 = z ∧ t2 = w ∧ z < w)) := by
            by_cases c : w < z
            · exact ⟨w, z, by rw [if_pos c], by rw [if_neg (by omega)], .inl ⟨rfl, rfl, c⟩⟩
            · exact ⟨z, w, by rw [if_neg c], by rw [if_pos (by omega)], .inr ⟨rfl, rfl, by omega⟩⟩
          rw [et1, et2]
          refine ⟨small_le (m := 2) (Nat.le_refl 2), fun q hq => ?_⟩
          have S4 := Same.upd_new (o := .tup [.int t1, .int t2]) hq
          have g4 : PairAt (upd H3 q (.tup [.int t1, .int t2])) (t1, t2, q) := upd_same
          generalize upd H3 q (.tup [.int t1, .int t2]) = H4 at S4 g4
          walk_at "x"
          refine x_append (S4 _ _ hT) (small_lt (m := 1000) (by rw [List.length_map]; omega)) ?_
          have B5 : SameBut1 l1 H4 (upd H4 l1 (.lst (zs.map refZ ++ [V.ref q]))) := SameBut1.upd
          have g5 : (upd H4 l1 (.lst (zs.map refZ ++ [V.ref q]))) l1 = some (.lst ((zs ++ [(t1, t2, q)]).map refZ)) := by rw [List.map_append]; exact upd_same
          have hpr5 : ∀ y ∈ zs ++ [(t1, t2, q)], PairAt (upd H4 l1 (.lst (zs.map refZ ++ [V.ref q]))) y := fun y hy => by
            rcases List.mem_append.mp hy with hy | hy
            · exact pair_keep (S4 _ _ (hpr y hy)) (S4 _ _ hT) B5
            · rw [List.mem_singleton.mp hy]; exact pair_keep g4 (S4 _ _ hT) B5
          have sm5 : Same H (upd H4 l1 (.lst (zs.map refZ ++ [V.ref q]))) := fun b o e => B5 b o (S4 _ _ (sm _ _ e)) (ne_of_none e hl1)
          have hL5 := B5 _ _ (S4 _ _ hL) hap
          generalize upd H4 l1 (.lst (zs.map refZ ++ [V.ref q])) = H5 at B5 g5 hpr5 sm5 hL5
          walk_at "x"
          refine x_slTo (j := k) (SqL.of hL5) rfl fun p1 hp1 => ?_
          have S6 := Same.upd_new (o := .lst ((lf.take k).map V.int)) hp1
          have g6 : (upd H5 p1 (.lst ((lf.take k).map V.int))) p1 = some (.lst ((lf.take k).map V.int)) := upd_same
          generalize upd H5 p1 (.lst ((lf.take k).map V.int)) = H6 at S6 g6
          walk_at "x"
          refine x_slFrom (j := k + 2) (SqL.of (S6 _ _ hL5)) (by omega) fun p2 hp2 => ?_
          have S7 := Same.upd_new (o := .lst ((lf.drop (k + 2)).map V.int)) hp2
          have g7 : (upd H6 p2 (.lst ((lf.drop (k + 2)).map V.int))) p2 = some (.lst ((lf.drop (k + 2)).map V.int)) := upd_same
          generalize upd H6 p2 (.lst ((lf.drop (k + 2)).map V.int)) = H7 at S7 g7
          refine x_catI (S7 _ _ g6) g7 (by rw [List.length_take, List.length_drop]; omega) fun p3 hp3 => ?_
          have S8 := Same.upd_new (o := .lst ((lf.take k ++ lf.drop (k + 2)).map V.int)) hp3
          have g8 : (upd H7 p3 (.lst ((lf.take k ++ lf.drop (k + 2)).map V.int))) p3 = some (.lst ((lf.take k ++ lf.drop (k + 2)).map V.int)) := upd_same
          have n31 : p3 ≠ l1 := Ne.symm (ne_of_none (S7 _ _ (S6 _ _ g5)) hp3)
          generalize upd H7 p3 (.lst ((lf.take k ++ lf.drop (k + 2)).map V.int)) = H8 at S8 g8
          walk_at "x"
          have S58 := S6.trans (S7.trans S8)
          obtain ⟨k', ek, hk'⟩ : ∃ k' : Nat, (if (k : Int) - 1 > 1 then (k : Int) - 1 else 1) = (k' : Int) ∧ k' = max 1 (k - 1) := by
            refine ⟨max 1 (k - 1), ?_, rfl⟩
            split <;> omega
          rw [ek]
          have hlen' : (lf.take k ++ lf.drop (k + 2)).length = lf.length - 2 := by rw [List.length_append, List.length_take, List.length_drop]; omega
          refine ⟨2 * (lf.length - 2) - k', by omega, p3, zs ++ [(t1, t2, q)], lf.take k ++ lf.drop (k + 2), k', ⟨rfl, sm5.trans S58, S58 _ _ g5, fun y hy => S58 _ _ (hpr5 y hy), g8, ?_, n31, ?_, ?_, fun y hy => ?_, by omega, ?_, ?_, by rw [hlen'], by omega⟩⟩
          · rw [sp2]; simp
          · have e1 : (al lf).Perm ((w, z) :: (z, w) :: al (lf.take (k - 1) ++ w :: lf.drop (k + 2))) := by
              have := al_put (lf.take (k - 1)) (lf.drop (k + 2)) w z
              rwa [← sp1] at this
            rw [sp2, List.map_append, both_append]
            have e2 : ((w, z) :: (z, w) :: ([] : List (Int × Int))).Perm (both [zP (t1, t2, q)]) := by
              rcases hor with ⟨a1, a2, _⟩ | ⟨a1, a2, _⟩
              · subst a1 a2; exact List.Perm.refl _
              · subst a1 a2; exact List.Perm.swap _ _ _
            refine hpm.trans ((e1.append_right _).trans ?_)
            show ([(w, z), (z, w)] ++ al (lf.take (k - 1) ++ w :: lf.drop (k + 2)) ++ both (zs.map zP)).Perm _
            rw [List.append_assoc]
            refine (List.perm_append_comm).trans ?_
            rw [List.append_assoc]
            exact List.Perm.append_left _ (List.Perm.append_left _ e2)
          · rw [hiff, sp2]
            constructor
            · intro hR
              rw [sp1] at hR
              exact hR.peel sp3
            · intro hR
              rw [sp1]
              exact hR.put sp3
          · rcases List.mem_append.mp hy with hy | hy
            · exact hlt y hy
            · rw [List.mem_singleton.mp hy]
              rcases hor with ⟨a1, a2, a3⟩ | ⟨a1, a2, a3⟩
              · simp only; omega
              · simp only; omega
          · rw [hk']
            exact restart hk1 hw hz hv hc hno
          · rw [hlen', List.length_append, List.length_singleton]; omega
        · exact step fun ⟨w', z', q1, q2, q3, q4⟩ => by
            rw [hz] at q2
            cases q2
            exact hc q4
      · refine iteF ?_
        exact step fun ⟨w', z', q1, q2, q3, q4⟩ => by
          rw [hw] at q1
          rw [hv] at q3
          cases q1; cases q3
          exact e rfl
  · walk_at "x"
    have hone : ∃ x, lf = [x] := by
      match lf, hlf, h1 with
      | [x], _, _ => exact ⟨x, rfl⟩
      | x :: y :: t, _, h1 => exact absurd (show (1 : Int) < ((x :: y :: t).length : Int) by simp; omega) h1
    obtain ⟨x, ex⟩ := hone
    subst ex
    refine .inr ⟨l1, zs, rfl, SqL.of hT, hpr, by simp at hsz; omega, fun l zs' hl hperm hsort => ?_⟩
    have hR : IsR r := hiff.mpr (IsR.one x)
    have S4 := Same.upd_new (o := .lst (zs'.map refZ)) hl
    refine qS l _ zs' (sm.trans S4) (sm.free hl) hR upd_same (fun z hz => S4 _ _ (hpr z (hperm.mem_iff.mp hz))) (by rw [hperm.length_eq]; simp at hsz; omega) ⟨?_, ?_, fun t ht => ?_⟩
    · rw [List.pairwise_map]; exact hsort
    · exact hpm.trans (by simp only [al, List.nil_append]; exact both_perm (hperm.symm.map zP))
    · obtain ⟨z, hz, e⟩ := List.mem_map.mp ht
      subst e
      exact hlt z (hperm.mem_iff.mp hz)
end K11
namespace K11
open Rm
end K11
namespace K11
open Rm
def sp_steps_along (K : PySem.W.Frag) : Sp := fun vs H Q _ => ∃ (p : Addr) (r : List Int), vs = [.ref p] ∧ SqL K H p (r.map V.int) ∧ r.length ≤ 1000 ∧ ∀ l H' (zs : List Zt), Same H H' → H l = none → H' l = some (.lst (zs.map refZ)) → (∀ z ∈ zs, PairAt H' z) → zs.map zP = al r → Q (.ref l) H'
theorem len_steps_along {K : PySem.W.Frag} : ∀ vs H Q E, sp_steps_along K vs H Q E → vs.length = 1 := by
  rintro vs H Q E ⟨p, r, rfl, _⟩; rfl
theorem run_steps_along {K : PySem.W.Frag} : ∀ vs H Q E, sp_steps_along K vs H Q E → rd_steps_along K { nx := fun _ H' => Q .non H', rt := Q } (start ["row"] vs) H := by
  rintro vs H Q E ⟨p, r, rfl, hp, hl, k⟩
  unfold rd_steps_along
  walk_at "x"
  refine x_zipL ?_
  walk_at "x"
  refine x_slFrom (j := 1) hp rfl fun q hq => ?_
  have S1 := Same.upd_new (o := .lst ((r.drop 1).map V.int)) hq
  have g1 : (upd H q (.lst ((r.drop 1).map V.int))) q = some (.lst ((r.drop 1).map V.int)) := upd_same
  generalize upd H q (.lst ((r.drop 1).map V.int)) = H1 at S1 g1
  walk_at "x"
  exact ⟨p, q, r, r.drop 1, rfl, S1.seq hp, SqL.of g1, by omega, fun l zs H2 S2 hl2 gl hz e => k l H2 zs (S1.trans S2) (S1.free hl2) gl hz (by rw [e, al_zip])⟩
end K11
namespace K11
open Rm
def sp__law_cell_at (K : PySem.W.Frag) : Sp := fun vs H Q _ => ∃ (a : Addr) (ns : List Int) (k : Nat), vs = [.ref a, .int k] ∧ SqL K H a (ns.map V.int) ∧ ∀ z : Int, Q (.int z) H
theorem len__law_cell_at {K : PySem.W.Frag} : ∀ vs H Q E, sp__law_cell_at K vs H Q E → vs.length = 2 := by
  rintro vs H Q E ⟨a, ns, k, rfl, _⟩; rfl
theorem run__law_cell_at {K : PySem.W.Frag} : ∀ vs H Q E, sp__law_cell_at K vs H Q E → rd__law_cell_at K { nx := fun _ H' => Q .non H', rt := Q } (start ["_law_script", "_law_k"] vs) H := by
  rintro vs H Q E ⟨a, ns, k, rfl, hS, q⟩
  unfold rd__law_cell_at
  walk_at "x"
  refine x_lenI hS ?_
  walk_at "x"
  refine ifd (fun h => ?_) fun h => ?_
  · walk_at "x"
    have hk : k < ns.length := by omega
    refine x_ixI hS rfl (List.getElem?_eq_getElem hk) ?_
    exact q _
  · walk_at "x"
    exact q _
def sp__law_label (K : PySem.W.Frag) : Sp := fun vs H Q _ => ∃ (h : Int) (k : Nat), vs = [.int h, .int k] ∧ k ≤ 1000 ∧ Q (.int (lab h k)) H
theorem len__law_label {K : PySem.W.Frag} : ∀ vs H Q E, sp__law_label K vs H Q E → vs.length = 2 := by
  rintro vs H Q E ⟨h, k, rfl, _⟩; rfl
theorem run__law_label {K : PySem.W.Frag} : ∀ vs H Q E, sp__law_label K vs H Q E → rd__law_label K { nx := fun _ H' => Q .non H', rt := Q } (start ["_law_head", "_law_k", "_law_way"] vs) H := by
  rintro vs H Q E ⟨h, k, rfl, hk, q⟩
  unfold rd__law_label
  walk_at "x"
  unfold lab at q
  refine ifV (p := h % 3 = 0) (by rw [decide_eq_true_iff, eq_int_iff]) (fun e => ?_) fun e => ?_
  · rw [if_pos e] at q
    walk_at "x"
    exact q
  · rw [if_neg e] at q
    walk_at "x"
    refine ifV (p := h % 3 = 1) (by rw [decide_eq_true_iff, eq_int_iff]) (fun e => ?_) fun e => ?_
    · rw [if_pos e] at q
      walk_at "x"
      refine x_rI (by decide) ?_
      walk_at "x"
      exact q
    · rw [if_neg e] at q
      walk_at "x"
      exact q
end K11
namespace K11
open Rm
def sp__law_grown (K : PySem.W.Frag) : Sp := fun vs H Q _ => ∃ (h : Int) (c : Addr) (ns : List Int), vs = [.int h, .ref c] ∧ H c = some (.lst (ns.map V.int)) ∧ ns.length ≤ 63 ∧
  ∀ l H' r, Same H H' → H l = none → H' l = some (.lst (r.map V.int)) → Gr (lab h) ns.length r → Q (.ref l) H'
theorem len__law_grown {K : PySem.W.Frag} : ∀ vs H Q E, sp__law_grown K vs H Q E → vs.length = 2 := by
  rintro vs H Q E ⟨h, c, ns, rfl, _⟩; rfl
theorem run__law_grown {K : PySem.W.Frag} : ∀ vs H Q E, sp__law_grown K vs H Q E → rd__law_grown K (sp__law_label K) { nx := fun _ H' => Q .non H', rt := Q } (start ["_law_head", "_law_cells", "_law_row", "_law_k", "_law_j"] vs) H := by
  rintro vs H Q E ⟨h, c, ns, rfl, hc, hn, q⟩
  unfold rd__law_grown
  walk_at "x"
  refine ⟨h, 0, rfl, by omega, ?_⟩
  walk_at "x"
  refine ⟨small_le (m := 1) (Nat.le_refl 1), fun l hl => ?_⟩
  have S0 := Same.upd_new (o := .lst [.int (lab h 0)]) hl
  walk_at "x"
  unfold lp__law_grown_1
  walk_at "x"
  refine x_lenI (SqL.of (S0 _ _ hc)) ?_
  walk_at "x"
  refine ⟨by omega, by omega, for_range (fun i σ H1 => ∃ l r o3 o4, σ = [some (.int h), some (.ref c), some (.ref l), o3, o4] ∧ Same H H1 ∧ H l = none ∧ H1 l = some (.lst (r.map V.int)) ∧ Gr (lab h) i r)
    ⟨l, [lab h 0], _, _, rfl, S0, hl, upd_same, .one⟩ ?_ ?_⟩
  · rintro i σ H1 hi ⟨l, r, o3, o4, rfl, S, hl, hL, hG⟩
    have hlen := hG.len
    have hi : i < ns.length := by omega
    walk_at "x"
    refine x_ixI (SqL.of (S _ _ hc)) (j := i) (by omega) (List.getElem?_eq_getElem hi) ?_
    walk_at "x"
    refine x_lenI (SqL.of hL) ?_
    walk_at "x"
    generalize ns[i] + 3 * (0 + (i : Int)) = rest
    obtain ⟨j, ej⟩ : ∃ j : Nat, rest % (r.length : Int) = (j : Int) := ⟨(rest % (r.length : Int)).toNat, by have := Int.emod_nonneg rest (show (r.length : Int) ≠ 0 by omega); omega⟩
    have hj : j < r.length := by have := Int.emod_lt_of_pos rest (show (0 : Int) < r.length by omega); omega
    rw [ej]
    refine x_slTo (j := j + 1) (SqL.of hL) (by omega) fun p1 h1 => ?_
    have S1 := Same.upd_new (o := .lst ((r.take (j + 1)).map V.int)) h1
    have g1 : (upd H1 p1 (.lst ((r.take (j + 1)).map V.int))) p1 = some (.lst ((r.take (j + 1)).map V.int)) := upd_same
    generalize upd H1 p1 (.lst ((r.take (j + 1)).map V.int)) = H2 at S1 g1
    walk_at "x"
    refine ⟨h, i + 1, by congr 2; push_cast; simp, by omega, ?_⟩
    walk_at "x"
    refine ⟨small_le (m := 1) (Nat.le_refl 1), fun p2 h2 => ?_⟩
    have S2 := Same.upd_new (o := .lst [.int (lab h (i + 1))]) h2
    have g2 : (upd H2 p2 (.lst [.int (lab h (i + 1))])) p2 = some (.lst ([lab h (i + 1)].map V.int)) := upd_same
    generalize upd H2 p2 (.lst [.int (lab h (i + 1))]) = H3 at S2 g2
    refine x_catI (S2 _ _ g1) g2 (by rw [List.length_take]; simp; omega) fun p3 h3 => ?_
    have S3 := Same.upd_new (o := .lst ((r.take (j + 1) ++ [lab h (i + 1)]).map V.int)) h3
    have g3 : (upd H3 p3 (.lst ((r.take (j + 1) ++ [lab h (i + 1)]).map V.int))) p3 = some (.lst ((r.take (j + 1) ++ [lab h (i + 1)]).map V.int)) := upd_same
    generalize upd H3 p3 (.lst ((r.take (j + 1) ++ [lab h (i + 1)]).map V.int)) = H4 at S3 g3
    walk_at "x"
    have Sa := (S1.trans S2).trans S3
    refine x_slFrom (j := j) (SqL.of (Sa _ _ hL)) rfl fun p4 h4 => ?_
    have S4 := Same.upd_new (o := .lst ((r.drop j).map V.int)) h4
    have g4 : (upd H4 p4 (.lst ((r.drop j).map V.int))) p4 = some (.lst ((r.drop j).map V.int)) := upd_same
    generalize upd H4 p4 (.lst ((r.drop j).map V.int)) = H5 at S4 g4
    refine x_catI (S4 _ _ g3) g4 (by rw [List.length_append, List.length_take, List.length_drop]; simp; omega) fun p5 h5 => ?_
    have S5 := Same.upd_new (o := .lst (((r.take (j + 1) ++ [lab h (i + 1)]) ++ r.drop j).map V.int)) h5
    have Sb := (Sa.trans S4).trans S5
    walk_at "x"
    refine ⟨p5, r.take (j + 1) ++ ([lab h (i + 1)] ++ r.drop j), _, _, rfl, S.trans Sb, (S.trans (Sa.trans S4)).free h5, ?_, .put hG hj⟩
    rw [← List.append_assoc]
    exact upd_same
  · rintro σ H1 ⟨l, r, o3, o4, rfl, S, hl, hL, hG⟩
    walk_at "x"
    refine q l H1 r S hl hL ?_
    have : (((ns.length : Int)).toNat) = ns.length := by omega
    rw [this] at hG; exact hG
end K11
namespace K11
open Rm
theorem swaps_of {zs : List Zt} {H : Hp} : ∀ {ys : List V} {n : Nat}, n = zs.length → ys.length = n → (∀ (i : Nat) (y : V), ys[i]? = some y → ∃ z : Zt, y = refZ z ∧ PairAt H z ∧ ∃ w, zs[i]? = some w ∧ zP z = ((zP w).2, (zP w).1)) →
    ∃ ws : List Zt, ys = ws.map refZ ∧ (∀ z ∈ ws, PairAt H z) ∧ ws.length = zs.length ∧ ∀ p, p ∈ ws.map zP ↔ (p.2, p.1) ∈ zs.map zP := by
  induction zs with
  | nil =>
    intro ys n hn hl _
    have : ys = [] := List.length_eq_zero_iff.mp (by rw [hl, hn]; rfl)
    subst this
    exact ⟨[], rfl, (fun z hz => nomatch hz), rfl, fun p => ⟨(fun h => nomatch h), fun h => nomatch h⟩⟩
  | cons w zs ih =>
    intro ys n hn hl h
    cases ys with
    | nil => rw [hn] at hl; simp at hl
    | cons y ys =>
      obtain ⟨z, ez, hz, w', hw', e⟩ := h 0 y rfl
      have : w = w' := by simpa using hw'
      subst this
      obtain ⟨ws, e1, e2, e3, e4⟩ := ih (ys := ys) (n := zs.length) rfl (by rw [hn] at hl; simpa using hl) fun i y hy => h (i + 1) y (by simpa using hy)
      refine ⟨z :: ws, by rw [ez, e1]; rfl, fun u hu => ?_, by simp [e3], fun p => ?_⟩
      · rcases List.mem_cons.mp hu with rfl | hu
        · exact hz
        · exact e2 u hu
      · rw [List.map_cons, List.mem_cons, List.map_cons, List.mem_cons, e4 p, e]
        constructor
        · rintro (rfl | q)
          · exact .inl rfl
          · exact .inr q
        · rintro (q | q)
          · refine .inl ?_
            rw [← q]
          · exact .inr q
theorem nodup_of_len {α : Type} [DecidableEq α] {ks l : List α} (hn : ks.Nodup) (hm : ∀ x, x ∈ ks ↔ x ∈ l) (hl : ks.length = l.length) : l.Nodup := by
  induction l generalizing ks with
  | nil => exact List.nodup_nil
  | cons a l ih =>
    have ha : a ∈ ks := (hm a).mpr List.mem_cons_self
    have hal : a ∉ l := fun h => by
      have := nodup_le' hn (ds := l) fun x hx => by
        rcases List.mem_cons.mp ((hm x).mp hx) with rfl | q
        · exact h
        · exact q
      rw [hl, List.length_cons] at this; omega
    refine List.nodup_cons.mpr ⟨hal, ih (ks := ks.erase a) (hn.erase a) (fun x => ?_) ?_⟩
    · rw [hn.mem_erase_iff, hm, List.mem_cons]
      exact ⟨fun ⟨h1, h2⟩ => h2.resolve_left h1, fun h => ⟨fun e => hal (e ▸ h), .inr h⟩⟩
    · rw [List.length_erase_of_mem ha, hl, List.length_cons]; rfl
theorem join_eq {c : Bool} {t : TA} {j : Nat} {σ : L2.St} {H : Hp} {F : VK} {P : Prop} (h : ∀ b : Bool, (b = true ↔ c = true ∧ P) → F (.bl b) H) (heq : (∀ b : Bool, (b = true ↔ P) → F (.bl b) H) → tEqSet t j σ H F) : if c = true then tEqSet t j σ H F else F (.bl false) H := by
  cases c with
  | true => rw [if_pos rfl]; exact heq fun b hb => h b (by rw [hb]; simp)
  | false => rw [if_neg (by decide)]; exact h false (by simp)
def sp_is_round (K : PySem.W.Frag) : Sp := fun vs H Q _ => ∃ (p : Addr) (r : List Int), vs = [.ref p] ∧ H p = some (.lst (r.map V.int)) ∧ r ≠ [] ∧ r.length ≤ 200 ∧ ∀ H' (c : Bool), Same H H' → (c = true ↔ IsR r) → Q (.bl c) H'
theorem len_is_round {K : PySem.W.Frag} : ∀ vs H Q E, sp_is_round K vs H Q E → vs.length = 1 := by
  rintro vs H Q E ⟨p, r, rfl, _⟩; rfl
theorem run_is_round {K : PySem.W.Frag} : ∀ vs H Q E, sp_is_round K vs H Q E → rd_is_round K (sp_steps_along K) { nx := fun _ H' => Q .non H', rt := Q } (start ["row", "along", "back", "each_way_once"] vs) H := by
  rintro vs H Q E ⟨p, r, rfl, hp, hne, hl, k⟩
  have hpos : 0 < r.length := List.length_pos_iff.mpr hne
  unfold rd_is_round
  walk_at "x"
  refine ⟨p, r, rfl, SqL.of hp, by omega, fun l H1 zs S1 hl1 g1 pz ez => ?_⟩
  have hzl : zs.length ≤ 200 := by
    have := congrArg List.length ez
    rw [List.length_map, al_len] at this; omega
  walk_at "x"
  refine .inl ⟨⟨_, SqL.of g1⟩, ?_⟩
  intro acc hacc
  refine comp_lst (K := K) (z := l) (xs := zs.map refZ) (fun i y H => ∃ z : Zt, y = refZ z ∧ PairAt H z ∧ ∃ w, zs[i]? = some w ∧ zP z = ((zP w).2, (zP w).1)) (fun σ => ∃ o1 o2, σ = [o1, o2]) (SqL.of g1) hacc ⟨_, _, rfl⟩ (by rw [List.length_map]; omega) ?_ ?_ ?_
  · rintro i y H' H'' ys hy B ⟨z, rfl, hz, hb⟩
    exact ⟨z, rfl, B _ _ hz (ne_of hz hy (by intro z; cases z)), hb⟩
  · rintro i x σ' H' G hi hx S' ⟨o1, o2, rfl⟩ g
    rw [List.getElem?_map] at hx
    obtain ⟨w, hw, ex⟩ := Option.map_eq_some_iff.mp hx
    subst ex
    have hpw := S' _ _ (pz w (List.mem_of_getElem? hw))
    refine x_tupG (.of hpw) rfl ?_
    walk_at "x"
    refine ⟨small_le (m := 2) (Nat.le_refl 2), fun q hq => g _ _ _ ⟨_, _, rfl⟩ (Same.upd_new hq) ⟨(w.2.1, w.1, q), rfl, upd_same, w, hw, rfl⟩⟩
  rintro ys H3 hys g3 S3 hE
  rw [List.length_map] at hys
  obtain ⟨ws, rfl, pw, hwl, hws⟩ := swaps_of rfl hys hE
  have S13 := S1.trans S3
  have pz3 : ∀ z ∈ zs, PairAt H3 z := fun z hz => S3 _ _ (pz z hz)
  walk_at "x"
  refine x_lenSet ?_
  walk_at "x"
  refine .inr ⟨zs, S3 _ _ g1, pz3, by omega, fun ks hnd hmem => ?_⟩
  walk_at "x"
  refine x_lenL (SqL.of (S3 _ _ g1)) ?_
  rw [List.length_map]
  walk_at "x"
  refine join_eq (P := ∀ q : Int × Int, q ∈ zs.map zP ↔ q ∈ ws.map zP) (fun b hb => ?_) fun go => ?_
  · walk_at "x"
    refine x_lenI (SqL.of (S13 _ _ hp)) ?_
    walk_at "x"
    refine x_lenSet ?_
    walk_at "x"
    refine .inl ⟨r, SqL.of (S13 _ _ hp), by omega, fun ds hdn hdm => ?_⟩
    walk_at "x"
    have hcnt : (r.length : Int) = 2 * (ds.length : Int) - 1 ↔ ∃ ds : List Int, ds.Nodup ∧ (∀ x, x ∈ ds ↔ x ∈ r) ∧ r.length + 1 = 2 * ds.length := by
      constructor
      · intro h; exact ⟨ds, hdn, hdm, by omega⟩
      · rintro ⟨ds', h1, h2, h3⟩
        have e1 := nodup_le' hdn (ds := ds') fun x hx => (h2 x).mpr ((hdm x).mp hx)
        have e2 := nodup_le' h1 (ds := ds) fun x hx => (hdm x).mpr ((h2 x).mp hx)
        omega
    have hnd' : ((ks.length : Int) = (zs.length : Int)) ↔ (al r).Nodup := by
      rw [← ez]
      constructor
      · intro h
        exact nodup_of_len hnd hmem (by rw [List.length_map]; omega)
      · intro h
        have e1 := nodup_le' hnd (ds := zs.map zP) fun x hx => (hmem x).mp hx
        have e2 := nodup_le' h (ds := ks) fun x hx => (hmem x).mpr hx
        rw [List.length_map] at e1 e2; omega
    have hsym : (∀ q : Int × Int, q ∈ zs.map zP ↔ q ∈ ws.map zP) ↔ ∀ x y, (x, y) ∈ al r → (y, x) ∈ al r := by
      rw [← ez]
      constructor
      · intro h x y hxy
        exact (hws (x, y)).mp ((h _).mp hxy)
      · intro h q
        rw [hws q]
        exact ⟨fun hq => h _ _ hq, fun hq => h _ _ hq⟩
    have hb' : b = true ↔ (al r).Nodup ∧ ∀ x y, (x, y) ∈ al r → (y, x) ∈ al r := by
      rw [hb, decide_eq_true_iff, eq_int_iff, hnd', hsym]
    obtain ⟨f, hf⟩ : ∃ f, r[0]? = some f := ⟨_, List.getElem?_eq_getElem hpos⟩
    obtain ⟨g, hg⟩ : ∃ g, r[r.length - 1]? = some g := ⟨_, List.getElem?_eq_getElem (by omega)⟩
    have hends : f = g ↔ r.head? = r.getLast? := by
      rw [List.head?_eq_getElem?, List.getLast?_eq_getElem?, hf, hg]; simp
    refine ifV (p := (r.length : Int) = 2 * (ds.length : Int) - 1) (by rw [decide_eq_true_iff, eq_int_iff]) (fun hc => ?_) fun hc => ?_
    · walk_at "x"
      refine x_ixI (SqL.of (S13 _ _ hp)) (j := 0) rfl hf ?_
      walk_at "x"
      refine x_ixL (SqL.of (S13 _ _ hp)) (atI_neg (j := 0) (v := .int g) (by rw [List.length_map]; omega) (get_int (by rw [List.length_map]; exact hg))) ?_
      walk_at "x"
      refine ifV (p := f = g) (by rw [decide_eq_true_iff, eq_int_iff]) (fun he => ?_) fun he => ?_
      · walk_at "x"
        exact k _ b S13 (hb'.trans ⟨fun h => ⟨hne, hcnt.mp hc, hends.mp he, h.1, h.2⟩, fun h => ⟨h.nd, h.sym⟩⟩)
      · exact k _ false S13 ⟨(fun h => nomatch h), fun h => absurd (hends.mpr h.ends) he⟩
    · exact k _ false S13 ⟨(fun h => nomatch h), fun h => absurd (hcnt.mpr h.cnt) hc⟩
  · refine x_eqSet ?_
    walk_at "x"
    exact ⟨l, acc, zs, ws, rfl, rfl, S3 _ _ g1, pz3, by omega, g3, pw, by omega, go⟩
end K11
namespace K11
open Rm
def sp__law_truth (K : PySem.W.Frag) : Sp := fun vs H Q _ => ∃ b : Bool, vs = [.bl b, .bl b] ∧ Q (.bl true) H
theorem len__law_truth {K : PySem.W.Frag} : ∀ vs H Q E, sp__law_truth K vs H Q E → vs.length = 2 := by
  rintro vs H Q E ⟨b, rfl, _⟩; rfl
theorem run__law_truth {K : PySem.W.Frag} : ∀ vs H Q E, sp__law_truth K vs H Q E → rd__law_truth K { nx := fun _ H' => Q .non H', rt := Q } (start ["_law_found", "_law_due"] vs) H := by
  rintro vs H Q E ⟨b, rfl, k⟩
  unfold rd__law_truth
  walk_at "x"
  refine x_isi (.bl b) kit_bb ?_
  walk_at "x"
  refine iteT ?_
  walk_at "x"
  rw [decide_eq_true rfl]
  exact k
def sp__law_digits (K : PySem.W.Frag) : Sp := fun vs H Q _ => ∃ (c base : Int) (many : Nat), vs = [.int c, .int base, .int many] ∧ 0 < base ∧ base < 1073741824 ∧ many ≤ 1000 ∧
  ∀ l H' ds, Same H H' → H l = none → H' l = some (.lst (List.map V.int ds)) → ds.length = many → (∀ d ∈ ds, 0 ≤ d ∧ d < base) → Q (.ref l) H'
theorem len__law_digits {K : PySem.W.Frag} : ∀ vs H Q E, sp__law_digits K vs H Q E → vs.length = 3 := by
  rintro vs H Q E ⟨c, base, many, rfl, _⟩; rfl
theorem run__law_digits {K : PySem.W.Frag} : ∀ vs H Q E, sp__law_digits K vs H Q E → rd__law_digits K { nx := fun _ H' => Q .non H', rt := Q } (start ["_law_cell", "_law_base", "_law_many", "_law_row", "_law_k"] vs) H := by
  rintro vs H Q E ⟨c, base, many, rfl, hb, hb2, hm, k⟩
  unfold rd__law_digits
  walk_at "x"
  refine ⟨small_le (m := 0) (Nat.le_refl 0), fun l hl0 => ?_⟩
  have S0 := Same.upd_new (o := .lst []) hl0
  walk_at "x"
  unfold lp__law_digits_1
  walk_at "x"
  refine ⟨by omega, by omega, for_range (fun i σ H1 => ∃ (c' : Int) (ds : List Int) (o4 : Option V), σ = [some (.int c'), some (.int base), some (.int many), some (.ref l), o4] ∧ Same H H1 ∧ H1 l = some (.lst (ds.map V.int)) ∧ ds.length = i ∧ ∀ d ∈ ds, 0 ≤ d ∧ d < base)
    ⟨c, [], _, rfl, S0, upd_same, rfl, (fun d h => nomatch h)⟩ ?_ ?_⟩
  · rintro i σ H1 hi ⟨c', ds, o4, rfl, S, hL, hd, hB⟩
    walk_at "x"
    refine ⟨.inl ⟨rfl, _, SqL.of hL⟩, ?_⟩
    walk_at "x"
    refine x_append hL (small_lt (m := 2000) (by rw [List.length_map]; omega)) ?_
    walk_at "x"
    refine ⟨_, ds ++ [c' % base], _, rfl, fun b o e => ?_, by rw [upd_same, List.map_append]; rfl, by rw [List.length_append, hd]; rfl, fun d h => ?_⟩
    · rw [upd_ne (ne_of_none e hl0)]; exact S b o e
    · rcases List.mem_append.mp h with h | h
      · exact hB d h
      · rw [List.mem_singleton.mp h]
        exact ⟨Int.emod_nonneg _ (by omega), Int.emod_lt_of_pos _ hb⟩
  · rintro σ H1 ⟨c', ds, o4, rfl, S, hL, hd, hB⟩
    walk_at "x"
    exact k l H1 ds S hl0 hL (by omega) hB
def sp__law_told (K : PySem.W.Frag) : Sp := fun vs H Q _ => ∃ (p : Addr) (r : List Int), vs = [.ref p] ∧ H p = some (.lst (r.map V.int)) ∧ r ≠ [] ∧ r.length ≤ 127 ∧ ∀ H', Same H H' → Q (.bl true) H'
theorem len__law_told {K : PySem.W.Frag} : ∀ vs H Q E, sp__law_told K vs H Q E → vs.length = 1 := by
  rintro vs H Q E ⟨p, r, rfl, _⟩; rfl
theorem run__law_told {K : PySem.W.Frag} : ∀ vs H Q E, sp__law_told K vs H Q E → rd__law_told K (sp__law_truth K) (sp_is_round K) (sp__law_peeled K) { nx := fun _ H' => Q .non H', rt := Q } (start ["_law_row", "_law_handed"] vs) H := by
  rintro vs H Q E ⟨p, r, rfl, hp, hne, hl, k⟩
  unfold rd__law_told
  walk_at "x"
  refine x_list (SqL.of hp) fun h hh => ?_
  have S1 := Same.upd_new (o := .lst (r.map V.int)) hh
  have gh : (upd H h (.lst (r.map V.int))) h = some (.lst (r.map V.int)) := upd_same
  generalize upd H h (.lst (r.map V.int)) = H1 at S1 gh
  walk_at "x"
  refine ⟨h, r, rfl, gh, hne, by omega, fun H2 c S2 hc => ?_⟩
  walk_at "x"
  have S12 := S1.trans S2
  have fin : ∀ H3, Same H2 H3 → tOp (rEqG K) (tVar 1) (tVar 0) ((start ["_law_row", "_law_handed"] [.ref p]).set 1 (some (V.ref h))) H3 Q := fun H3 S3 => by
    have S23 := S2.trans S3
    walk_at "x"
    refine x_eqD (rep_ints (SqL.of (S23 _ _ gh))) (rep_ints (SqL.of ((S1.trans S23) _ _ hp))) (fine_ints _) (fine_ints _) ?_
    rw [eqv_ints, decide_eq_true rfl]
    exact k _ (S1.trans S23)
  refine ⟨p, r, rfl, S12 _ _ hp, hne, hl, fun H3 S3 hn => ?_, fun l H3 zs S3 hl3 hR g3 pz hz T => ?_⟩
  · walk_at "x"
    have hcf : c = false := by cases c with
      | false => rfl
      | true => exact absurd (hc.mp rfl) hn
    subst hcf
    exact ⟨false, rfl, true, rfl, fin H3 S3⟩
  · walk_at "x"
    have hct : c = true := hc.mpr hR
    subst hct
    exact ⟨true, rfl, true, rfl, fin H3 S3⟩
end K11
namespace K11
open Rm
def sp__law_spoilt (K : PySem.W.Frag) : Sp := fun vs H Q _ => ∃ (p : Addr) (r : List Int) (c h : Int), vs = [.ref p, .int c, .int h] ∧ H p = some (.lst (r.map V.int)) ∧ r ≠ [] ∧ r.length ≤ 60 ∧
  ∀ l H' (r' : List Int), Same H H' → H' l = some (.lst (r'.map V.int)) → 0 < r'.length → r'.length ≤ 127 → Q (.ref l) H'
theorem len__law_spoilt {K : PySem.W.Frag} : ∀ vs H Q E, sp__law_spoilt K vs H Q E → vs.length = 3 := by
  rintro vs H Q E ⟨p, r, c, h, rfl, _⟩; rfl
theorem mod_nat (z : Int) {n : Nat} (hn : 0 < n) : ∃ j : Nat, z % (n : Int) = (j : Int) ∧ j < n := by
  have h1 := Int.emod_nonneg z (show (n : Int) ≠ 0 by omega)
  have h2 := Int.emod_lt_of_pos z (show (0 : Int) < n by omega)
  exact ⟨(z % (n : Int)).toNat, by omega, by omega⟩
theorem run__law_spoilt {K : PySem.W.Frag} : ∀ vs H Q E, sp__law_spoilt K vs H Q E → rd__law_spoilt K (sp__law_label K) { nx := fun _ H' => Q .non H', rt := Q } (start ["_law_row", "_law_cell", "_law_head", "_law_way", "_law_at", "_law_other"] vs) H := by
  rintro vs H Q E ⟨p, r, c, h, rfl, hp, hne, hl, k⟩
  have hpos : 0 < r.length := List.length_pos_iff.mpr hne
  unfold rd__law_spoilt
  walk_at "x"
  refine x_lenI (SqL.of hp) ?_
  walk_at "x"
  refine x_lenI (SqL.of hp) ?_
  walk_at "x"
  obtain ⟨a, ea, ha⟩ := mod_nat (c / 12) hpos
  obtain ⟨b, eb, hb⟩ := mod_nat (c / 5) hpos
  rw [ea, eb]
  refine ifV (p := c % 12 = 0) (by rw [decide_eq_true_iff, eq_int_iff]) (fun e => ?_) fun e => ?_
  · walk_at "x"
    refine x_slTo (j := a) (SqL.of hp) rfl fun p1 h1 => ?_
    have S1 := Same.upd_new (o := .lst ((r.take a).map V.int)) h1
    have g1 : (upd H p1 (.lst ((r.take a).map V.int))) p1 = some (.lst ((r.take a).map V.int)) := upd_same
    generalize upd H p1 (.lst ((r.take a).map V.int)) = H1 at S1 g1
    walk_at "x"
    refine x_slFrom (j := a + 1) (SqL.of (S1 _ _ hp)) (by omega) fun p2 h2 => ?_
    have S2 := Same.upd_new (o := .lst ((r.drop (a + 1)).map V.int)) h2
    have g2 : (upd H1 p2 (.lst ((r.drop (a + 1)).map V.int))) p2 = some (.lst ((r.drop (a + 1)).map V.int)) := upd_same
    generalize upd H1 p2 (.lst ((r.drop (a + 1)).map V.int)) = H2 at S2 g2
    refine x_catI (S2 _ _ g1) g2 (by rw [List.length_take, List.length_drop]; omega) fun p3 h3 => ?_
    have S3 := Same.upd_new (o := .lst ((r.take a ++ r.drop (a + 1)).map V.int)) h3
    have g3 : (upd H2 p3 (.lst ((r.take a ++ r.drop (a + 1)).map V.int))) p3 = some (.lst ((r.take a ++ r.drop (a + 1)).map V.int)) := upd_same
    generalize upd H2 p3 (.lst ((r.take a ++ r.drop (a + 1)).map V.int)) = H3 at S3 g3
    have S03 := (S1.trans S2).trans S3
    walk_at "x"
    refine x_lenI (SqL.of (S03 _ _ hp)) ?_
    walk_at "x"
    refine .inr ⟨_, rfl, ?_⟩
    refine ⟨_, rfl, ?_⟩
    obtain ⟨j, ej, hj1, hj2⟩ : ∃ j : Nat, (if decide (V.int (r.length : Int) = V.int 1) = true then (1 : Int) else 0) = (j : Int) ∧ (r.length = 1 → j = 1) ∧ j ≤ 1 := by
      by_cases c1 : r.length = 1
      · exact ⟨1, by rw [c1]; rfl, fun _ => rfl, Nat.le_refl _⟩
      · exact ⟨0, by rw [decide_eq_false (fun q => c1 (by have := eq_int_iff.mp q; omega))]; rfl, fun q => absurd q c1, Nat.zero_le _⟩
    rw [ej]
    refine x_slTo (j := j) (SqL.of (S03 _ _ hp)) rfl fun p4 h4 => ?_
    have S4 := Same.upd_new (o := .lst ((r.take j).map V.int)) h4
    have g4 : (upd H3 p4 (.lst ((r.take j).map V.int))) p4 = some (.lst ((r.take j).map V.int)) := upd_same
    generalize upd H3 p4 (.lst ((r.take j).map V.int)) = H4 at S4 g4
    refine x_catI (S4 _ _ g3) g4 (by rw [List.length_append, List.length_take, List.length_take, List.length_drop]; omega) fun p5 h5 => ?_
    refine k p5 _ _ ((S03.trans S4).trans (Same.upd_new h5)) upd_same ?_ ?_
    · rw [List.length_append, List.length_append, List.length_take, List.length_take, List.length_drop]
      by_cases c1 : r.length = 1
      · have := hj1 c1; omega
      · omega
    · rw [List.length_append, List.length_append, List.length_take, List.length_take, List.length_drop]; omega
  walk_at "x"
  refine ifV (p := c % 12 = 1) (by rw [decide_eq_true_iff, eq_int_iff]) (fun e => ?_) fun e => ?_
  · walk_at "x"
    refine x_slTo (j := a) (SqL.of hp) rfl fun p1 h1 => ?_
    have S1 := Same.upd_new (o := .lst ((r.take a).map V.int)) h1
    have g1 : (upd H p1 (.lst ((r.take a).map V.int))) p1 = some (.lst ((r.take a).map V.int)) := upd_same
    generalize upd H p1 (.lst ((r.take a).map V.int)) = H1 at S1 g1
    walk_at "x"
    refine ⟨h, 40, rfl, by omega, ?_⟩
    walk_at "x"
    refine ⟨small_le (m := 1) (Nat.le_refl 1), fun p2 h2 => ?_⟩
    have S2 := Same.upd_new (o := .lst [.int (lab h 40)]) h2
    have g2 : (upd H1 p2 (.lst [.int (lab h 40)])) p2 = some (.lst ([lab h 40].map V.int)) := upd_same
    generalize upd H1 p2 (.lst [.int (lab h 40)]) = H2 at S2 g2
    refine x_catI (S2 _ _ g1) g2 (by rw [List.length_take]; simp; omega) fun p3 h3 => ?_
    have S3 := Same.upd_new (o := .lst ((r.take a ++ [lab h 40]).map V.int)) h3
    have g3 : (upd H2 p3 (.lst ((r.take a ++ [lab h 40]).map V.int))) p3 = some (.lst ((r.take a ++ [lab h 40]).map V.int)) := upd_same
    generalize upd H2 p3 (.lst ((r.take a ++ [lab h 40]).map V.int)) = H3 at S3 g3
    have S03 := (S1.trans S2).trans S3
    walk_at "x"
    refine x_slFrom (j := a) (SqL.of (S03 _ _ hp)) rfl fun p4 h4 => ?_
    have S4 := Same.upd_new (o := .lst ((r.drop a).map V.int)) h4
    have g4 : (upd H3 p4 (.lst ((r.drop a).map V.int))) p4 = some (.lst ((r.drop a).map V.int)) := upd_same
    generalize upd H3 p4 (.lst ((r.drop a).map V.int)) = H4 at S4 g4
    refine x_catI (S4 _ _ g3) g4 (by rw [List.length_append, List.length_take, List.length_drop]; simp; omega) fun p5 h5 => ?_
    refine k p5 _ _ ((S03.trans S4).trans (Same.upd_new h5)) upd_same ?_ ?_
    · rw [List.length_append, List.length_append, List.length_take, List.length_drop]; simp; omega
    · rw [List.length_append, List.length_append, List.length_take, List.length_drop]; simp; omega
  walk_at "x"
  refine ifV (p := c % 12 = 2) (by rw [decide_eq_true_iff, eq_int_iff]) (fun e => ?_) fun e => ?_
  · walk_at "x"
    refine x_slTo (j := a) (SqL.of hp) rfl fun p1 h1 => ?_
    have S1 := Same.upd_new (o := .lst ((r.take a).map V.int)) h1
    have g1 : (upd H p1 (.lst ((r.take a).map V.int))) p1 = some (.lst ((r.take a).map V.int)) := upd_same
    generalize upd H p1 (.lst ((r.take a).map V.int)) = H1 at S1 g1
    walk_at "x"
    refine x_ixI (SqL.of (S1 _ _ hp)) (j := b) rfl (List.getElem?_eq_getElem hb) ?_
    walk_at "x"
    refine ⟨small_le (m := 1) (Nat.le_refl 1), fun p2 h2 => ?_⟩
    have S2 := Same.upd_new (o := .lst [.int r[b]]) h2
    have g2 : (upd H1 p2 (.lst [.int r[b]])) p2 = some (.lst ([r[b]].map V.int)) := upd_same
    generalize upd H1 p2 (.lst [.int r[b]]) = H2 at S2 g2
    refine x_catI (S2 _ _ g1) g2 (by rw [List.length_take]; simp; omega) fun p3 h3 => ?_
    have S3 := Same.upd_new (o := .lst ((r.take a ++ [r[b]]).map V.int)) h3
    have g3 : (upd H2 p3 (.lst ((r.take a ++ [r[b]]).map V.int))) p3 = some (.lst ((r.take a ++ [r[b]]).map V.int)) := upd_same
    generalize upd H2 p3 (.lst ((r.take a ++ [r[b]]).map V.int)) = H3 at S3 g3
    have S03 := (S1.trans S2).trans S3
    walk_at "x"
    refine x_slFrom (j := a + 1) (SqL.of (S03 _ _ hp)) (by omega) fun p4 h4 => ?_
    have S4 := Same.upd_new (o := .lst ((r.drop (a + 1)).map V.int)) h4
    have g4 : (upd H3 p4 (.lst ((r.drop (a + 1)).map V.int))) p4 = some (.lst ((r.drop (a + 1)).map V.int)) := upd_same
    generalize upd H3 p4 (.lst ((r.drop (a + 1)).map V.int)) = H4 at S4 g4
    refine x_catI (S4 _ _ g3) g4 (by rw [List.length_append, List.length_take, List.length_drop]; simp; omega) fun p5 h5 => ?_
    refine k p5 _ _ ((S03.trans S4).trans (Same.upd_new h5)) upd_same ?_ ?_
    · rw [List.length_append, List.length_append, List.length_take, List.length_drop]; simp; omega
    · rw [List.length_append, List.length_append, List.length_take, List.length_drop]; simp; omega
  walk_at "x"
  refine ifV (p := c % 12 = 3) (by rw [decide_eq_true_iff, eq_int_iff]) (fun e => ?_) fun e => ?_
  · walk_at "x"
    refine x_lenI (SqL.of hp) ?_
    walk_at "x"
    refine ⟨by omega, by omega, fun acc hacc => comp_rng (n := (r.length : Int).toNat) (fun i y H => ∃ z : Int, y = .int z) (fun σ => ∃ o, σ = [o, some (.int a), some (.ref p), some (.int b)]) hacc ⟨_, rfl⟩ (by omega) (fun _ _ _ _ _ _ _ e => e) ?_ ?_⟩
    · rintro i σ' H' G hi S' ⟨o, rfl⟩ gg
      have hi' : i < r.length := by omega
      have hpp := SqL.of (K := K) (S' _ _ hp)
      have fin : ∀ z : Int, G (.int z) ([o, some (.int a), some (.ref p), some (.int b)].set 0 (some (.int (0 + (i : Int))))) H' := fun z => gg _ _ _ ⟨_, rfl⟩ (Same.refl _) ⟨z, rfl⟩
      walk_at "x"
      refine ifV (p := 0 + (i : Int) = (a : Int)) (by rw [decide_eq_true_iff, eq_int_iff]) (fun _ => ?_) fun _ => ?_
      · walk_at "x"
        exact x_ixI hpp (j := b) rfl (List.getElem?_eq_getElem hb) (fin _)
      · walk_at "x"
        refine ifV (p := 0 + (i : Int) = (b : Int)) (by rw [decide_eq_true_iff, eq_int_iff]) (fun _ => ?_) fun _ => ?_
        · walk_at "x"
          exact x_ixI hpp (j := a) rfl (List.getElem?_eq_getElem ha) (fin _)
        · walk_at "x"
          exact x_ixI hpp (j := i) (by omega) (List.getElem?_eq_getElem hi') (fin _)
    · rintro ys H' hys gy S' hE
      obtain ⟨ns, rfl, hnl⟩ := ints_of hys hE
      exact k acc _ ns S' gy (by omega) (by omega)
  walk_at "x"
  refine ifV (p := c % 12 = 4) (by rw [decide_eq_true_iff, eq_int_iff]) (fun e => ?_) fun e => ?_
  · walk_at "x"
    refine x_slTo (j := a + 1) (SqL.of hp) (by omega) fun p1 h1 => ?_
    have S1 := Same.upd_new (o := .lst ((r.take (a + 1)).map V.int)) h1
    have g1 : (upd H p1 (.lst ((r.take (a + 1)).map V.int))) p1 = some (.lst ((r.take (a + 1)).map V.int)) := upd_same
    generalize upd H p1 (.lst ((r.take (a + 1)).map V.int)) = H1 at S1 g1
    walk_at "x"
    refine x_slFrom (j := a) (SqL.of (S1 _ _ hp)) rfl fun p2 h2 => ?_
    have S2 := Same.upd_new (o := .lst ((r.drop a).map V.int)) h2
    have g2 : (upd H1 p2 (.lst ((r.drop a).map V.int))) p2 = some (.lst ((r.drop a).map V.int)) := upd_same
    generalize upd H1 p2 (.lst ((r.drop a).map V.int)) = H2 at S2 g2
    refine x_catI (S2 _ _ g1) g2 (by rw [List.length_take, List.length_drop]; omega) fun p3 h3 => ?_
    refine k p3 _ _ ((S1.trans S2).trans (Same.upd_new h3)) upd_same ?_ ?_
    · rw [List.length_append, List.length_take, List.length_drop]; omega
    · rw [List.length_append, List.length_take, List.length_drop]; omega
  walk_at "x"
  refine ifV (p := c % 12 = 5) (by rw [decide_eq_true_iff, eq_int_iff]) (fun e => ?_) fun e => ?_
  · walk_at "x"
    have h7 : 0 ≤ c / 12 % 7 ∧ c / 12 % 7 < 7 := by omega
    refine ⟨by omega, by omega, fun acc hacc => comp_rng (n := (1 + c / 12 % 7).toNat) (fun i y H => ∃ z : Int, y = .int z) (fun σ => ∃ o, σ = [o, some (.int h)]) hacc ⟨_, rfl⟩ (by omega) (fun _ _ _ _ _ _ _ e => e) ?_ ?_⟩
    · rintro i σ' H' G hi S' ⟨o, rfl⟩ gg
      walk_at "x"
      exact ⟨h, i, by congr 2; push_cast; simp, by omega, gg _ _ _ ⟨_, rfl⟩ (Same.refl _) ⟨_, rfl⟩⟩
    · rintro ys H' hys gy S' hE
      obtain ⟨ns, rfl, hnl⟩ := ints_of hys hE
      walk_at "x"
      refine ⟨h, 0, rfl, by omega, ?_⟩
      walk_at "x"
      refine ⟨small_le (m := 1) (Nat.le_refl 1), fun p2 h2 => ?_⟩
      have S2 := Same.upd_new (o := .lst [.int (lab h 0)]) h2
      have g2 : (upd H' p2 (.lst [.int (lab h 0)])) p2 = some (.lst ([lab h 0].map V.int)) := upd_same
      generalize upd H' p2 (.lst [.int (lab h 0)]) = H2 at S2 g2
      refine x_catI (S2 _ _ gy) g2 (by simp; omega) fun p3 h3 => ?_
      exact k p3 _ _ ((S'.trans S2).trans (Same.upd_new h3)) upd_same (by simp) (by simp; omega)
  walk_at "x"
  refine ifV (p := c % 12 = 6) (by rw [decide_eq_true_iff, eq_int_iff]) (fun e => ?_) fun e => ?_
  · walk_at "x"
    refine x_slFrom (j := 1) (SqL.of hp) rfl fun p2 h2 => ?_
    have S2 := Same.upd_new (o := .lst ((r.drop 1).map V.int)) h2
    have g2 : (upd H p2 (.lst ((r.drop 1).map V.int))) p2 = some (.lst ((r.drop 1).map V.int)) := upd_same
    generalize upd H p2 (.lst ((r.drop 1).map V.int)) = H2 at S2 g2
    refine x_catI (S2 _ _ hp) g2 (by rw [List.length_drop]; omega) fun p3 h3 => ?_
    refine k p3 _ _ (S2.trans (Same.upd_new h3)) upd_same ?_ ?_
    · rw [List.length_append, List.length_drop]; omega
    · rw [List.length_append, List.length_drop]; omega
  walk_at "x"
  refine ifV (p := c % 12 = 7) (by rw [decide_eq_true_iff, eq_int_iff]) (fun e => ?_) fun e => ?_
  · walk_at "x"
    refine x_slFrom (j := a) (SqL.of hp) rfl fun p1 h1 => ?_
    have S1 := Same.upd_new (o := .lst ((r.drop a).map V.int)) h1
    have g1 : (upd H p1 (.lst ((r.drop a).map V.int))) p1 = some (.lst ((r.drop a).map V.int)) := upd_same
    generalize upd H p1 (.lst ((r.drop a).map V.int)) = H1 at S1 g1
    walk_at "x"
    refine x_slMid (j := 1) (j' := a + 1) (SqL.of (S1 _ _ hp)) rfl (by omega) fun p2 h2 => ?_
    have S2 := Same.upd_new (o := .lst (((r.drop 1).take (a + 1 - 1)).map V.int)) h2
    have g2 : (upd H1 p2 (.lst (((r.drop 1).take (a + 1 - 1)).map V.int))) p2 = some (.lst (((r.drop 1).take (a + 1 - 1)).map V.int)) := upd_same
    generalize upd H1 p2 (.lst (((r.drop 1).take (a + 1 - 1)).map V.int)) = H2 at S2 g2
    refine x_catI (S2 _ _ g1) g2 (by rw [List.length_drop, List.length_take, List.length_drop]; omega) fun p3 h3 => ?_
    refine k p3 _ _ ((S1.trans S2).trans (Same.upd_new h3)) upd_same ?_ ?_
    · rw [List.length_append, List.length_drop]; omega
    · rw [List.length_append, List.length_drop, List.length_take, List.length_drop]; omega
  walk_at "x"
  exact k p H r (Same.refl _) hp hpos (by omega)
end K11
namespace K11
end K11
namespace K11
def sp_law (K : PySem.W.Frag) : Sp := fun vs H Q _ => ∃ (a : Addr) (ns : List Int), vs = [.ref a] ∧ SqL K H a (ns.map V.int) ∧ ns.length ≤ 63 ∧ ∀ H', Q (.bl true) H'
theorem len_law {K : PySem.W.Frag} : ∀ vs H Q E, sp_law K vs H Q E → vs.length = 1 := by
  rintro vs H Q E ⟨a, ns, rfl, _⟩; rfl
end K11
namespace K11
open Rm
theorem run_law {K : PySem.W.Frag} : ∀ vs H Q E, sp_law K vs H Q E → rd_law K (sp__law_cell_at K) (sp__law_told K) (sp__law_spoilt K) (sp__law_digits K) (sp__law_grown K) { nx := fun _ H' => Q .non H', rt := Q } (start ["_law_script", "_law_head", "_law_base", "_law_k", "_law_size", "_law_cells", "_law_row"] vs) H := by
  rintro vs H Q E ⟨a, ns, rfl, hS, hl, k⟩
  unfold rd_law
  walk_at "x"
  refine ⟨a, ns, 0, rfl, hS, fun z0 => ?_⟩
  walk_at "x"
  generalize z0 / 2 = hd
  refine ⟨a, ns, 0, rfl, hS, fun z1 => ?_⟩
  walk_at "x"
  refine ifV (p := z1 % 2 = 0) (by rw [decide_eq_true_iff, eq_int_iff]) (fun e => ?_) fun e => ?_
  · walk_at "x"
    refine ⟨a, ns, 2, rfl, hS, fun z2 => ?_⟩
    walk_at "x"
    refine ⟨a, ns, 1, rfl, hS, fun z3 => ?_⟩
    walk_at "x"
    refine ⟨a, ns, 2, rfl, hS, fun z4 => ?_⟩
    walk_at "x"
    obtain ⟨j, ej, hj⟩ := mod_nat (z4 / 41) (n := 41) (by decide)
    have h2 : 0 ≤ z2 % 41 ∧ z2 % 41 < 41 := by omega
    have ej' : z4 / 41 % 41 = (j : Int) := ej
    refine ⟨z3, 1 + z2 % 41, 1 + j, by rw [ej']; push_cast; rfl, by omega, by omega, by omega, fun l H' ds S' hl' gl hdl hds => ?_⟩
    walk_at "x"
    exact ⟨l, ds, rfl, gl, fun c => by rw [c, List.length_nil] at hdl; omega, by omega, fun H2 _ => k H2⟩
  · walk_at "x"
    unfold lp_law_1
    walk_at "x"
    refine x_iRng3 ?_
    walk_at "x"
    refine x_lenI hS ?_
    walk_at "x"
    generalize hM : (if (if (ns.length : Int) < 120 then (ns.length : Int) else 120) > 1 then if (ns.length : Int) < 120 then (ns.length : Int) else 120 else (1 : Int)) = M
    have hM2 : 1 ≤ M ∧ M ≤ 63 := by
      subst hM
      split <;> split <;> omega
    refine ⟨0, M, 5, rfl, by omega, for_range3 (fun i σ H1 => Same H H1 ∧ ∃ o2 o3 o4 o5 o6, σ = [some (.ref a), some (.int hd), o2, o3, o4, o5, o6]) ⟨Same.refl _, _, _, _, _, _, rfl⟩ ?_ ?_⟩
    · rintro i σ H1 hi ⟨S1, o2, o3, o4, o5, o6, rfl⟩
      have hi : i * 5 < 63 := by
        unfold rng3 at hi
        split at hi <;> omega
      have ej : (0 : Int) + (i : Int) * 5 = ((i * 5 : Nat) : Int) := by omega
      rw [ej]
      generalize i * 5 = j at hi
      have hS1 := S1.seq hS
      walk_at "x"
      refine ⟨a, ns, j, rfl, hS1, fun z2 => ?_⟩
      walk_at "x"
      obtain ⟨m, em, hm⟩ := mod_nat z2 (n := 20) (by decide)
      have em' : z2 % 20 = (m : Int) := em
      rw [em']
      refine ⟨by omega, by omega, fun acc hacc => comp_rng (n := (m : Int).toNat) (fun i y H => ∃ z : Int, y = .int z) (fun σ => ∃ o, σ = [o, some (.ref a), some (.int (j : Int))]) hacc ⟨_, rfl⟩ (by omega) (fun _ _ _ _ _ _ _ e => e) ?_ ?_⟩
      · rintro i' σ' H' G hi' S' ⟨o, rfl⟩ gg
        walk_at "x"
        refine ⟨a, ns, j + 1, by push_cast; rfl, S'.seq hS1, fun z3 => ?_⟩
        walk_at "x"
        refine ⟨a, ns, j + 2, by push_cast; rfl, S'.seq hS1, fun z4 => ?_⟩
        have hsq : 0 ≤ (0 + (i' : Int)) * (0 + (i' : Int)) ∧ (0 + (i' : Int)) * (0 + (i' : Int)) ≤ 400 := by
          have h0 : (0 : Int) ≤ 0 + (i' : Int) := by omega
          have h1 : (0 + (i' : Int)) ≤ 20 := by omega
          exact ⟨Int.mul_nonneg h0 h0, Int.le_trans (Int.mul_le_mul h1 h1 h0 (by decide)) (by decide)⟩
        refine x_rI (.inl ⟨by omega, by omega⟩) ?_
        walk_at "x"
        exact gg _ _ _ ⟨_, rfl⟩ (Same.refl _) ⟨_, rfl⟩
      · rintro ys H2 hys gy S2 hE
        obtain ⟨cs, rfl, hcl⟩ := ints_of hys hE
        have S12 := S1.trans S2
        walk_at "x"
        refine ⟨hd + (j : Int), acc, cs, rfl, gy, by omega, fun l H3 r S3 hl3 gr hG => ?_⟩
        have hlen := hG.len
        walk_at "x"
        have S13 := S12.trans S3
        refine ⟨a, ns, j + 3, by push_cast; rfl, S13.seq hS, fun z5 => ?_⟩
        walk_at "x"
        refine ⟨l, r, z5 + (j : Int), hd + (j : Int), rfl, gr, fun c => by rw [c] at hlen; simp at hlen, by omega, fun l4 H4 r4 S4 g4 h41 h42 => ?_⟩
        walk_at "x"
        refine ⟨l4, r4, rfl, g4, fun c => by rw [c] at h41; simp at h41, h42, fun H5 S5 => ?_⟩
        refine ⟨true, rfl, ?_⟩
        refine iteF ?_
        walk_at "x"
        exact ⟨((S13.trans S4).trans S5), _, _, _, _, _, rfl⟩
    · rintro σ H1 ⟨S1, o2, o3, o4, o5, o6, rfl⟩
      walk_at "x"
      exact k _
end K11
namespace K11
theorem all_mk {l : PySem.W.OpenLaw} {w : World} {K : PySem.W.Frag} {h : Heap} {mg : Str → Option Value} {fa : Addr} (X : K.In h) (G : h.Ns mainGlobals mg) (hfa : mg "law" = some (.ref fa))
    {f_steps_along : Addr} {od_steps_along an_steps_along : Option Addr} {sl_steps_along : Array (Option Value)} {oc_steps_along kV_steps_along dc_steps_along pm_steps_along cd_steps_along ct_steps_along : Value} (a_steps_along : PySem.W.nsIn K mainGlobals "steps_along" = some (some (.ref f_steps_along))) (l_steps_along : K.lookup f_steps_along = some ⟨oc_steps_along, od_steps_along, .func (PySem.W.fnOf "steps_along" "steps_along" (defArgs ssteps_along) (defBody ssteps_along) (defScope ssteps_along) .none kV_steps_along dc_steps_along pm_steps_along an_steps_along cd_steps_along ct_steps_along), sl_steps_along⟩) (c_steps_along : PySem.W.codeIn K cd_steps_along "steps_along" = true) (k_steps_along : PySem.W.keepIn K (.ref f_steps_along) = true)
    {f_is_round : Addr} {od_is_round an_is_round : Option Addr} {sl_is_round : Array (Option Value)} {oc_is_round kV_is_round dc_is_round pm_is_round cd_is_round ct_is_round : Value} (a_is_round : PySem.W.nsIn K mainGlobals "is_round" = some (some (.ref f_is_round))) (l_is_round : K.lookup f_is_round = some ⟨oc_is_round, od_is_round, .func (PySem.W.fnOf "is_round" "is_round" (defArgs sis_round) (defBody sis_round) (defScope sis_round) .none kV_is_round dc_is_round pm_is_round an_is_round cd_is_round ct_is_round), sl_is_round⟩) (c_is_round : PySem.W.codeIn K cd_is_round "is_round" = true) (k_is_round : PySem.W.keepIn K (.ref f_is_round) = true)
    {f__law_cell_at : Addr} {od__law_cell_at an__law_cell_at : Option Addr} {sl__law_cell_at : Array (Option Value)} {oc__law_cell_at kV__law_cell_at dc__law_cell_at pm__law_cell_at cd__law_cell_at ct__law_cell_at : Value} (a__law_cell_at : PySem.W.nsIn K mainGlobals "_law_cell_at" = some (some (.ref f__law_cell_at))) (l__law_cell_at : K.lookup f__law_cell_at = some ⟨oc__law_cell_at, od__law_cell_at, .func (PySem.W.fnOf "_law_cell_at" "_law_cell_at" (defArgs s_law_cell_at) (defBody s_law_cell_at) (defScope s_law_cell_at) .none kV__law_cell_at dc__law_cell_at pm__law_cell_at an__law_cell_at cd__law_cell_at ct__law_cell_at), sl__law_cell_at⟩) (c__law_cell_at : PySem.W.codeIn K cd__law_cell_at "_law_cell_at" = true) (k__law_cell_at : PySem.W.keepIn K (.ref f__law_cell_at) = true)
    {f__law_truth : Addr} {od__law_truth an__law_truth : Option Addr} {sl__law_truth : Array (Option Value)} {oc__law_truth kV__law_truth dc__law_truth pm__law_truth cd__law_truth ct__law_truth : Value} (a__law_truth : PySem.W.nsIn K mainGlobals "_law_truth" = some (some (.ref f__law_truth))) (l__law_truth : K.lookup f__law_truth = some ⟨oc__law_truth, od__law_truth, .func (PySem.W.fnOf "_law_truth" "_law_truth" (defArgs s_law_truth) (defBody s_law_truth) (defScope s_law_truth) .none kV__law_truth dc__law_truth pm__law_truth an__law_truth cd__law_truth ct__law_truth), sl__law_truth⟩) (c__law_truth : PySem.W.codeIn K cd__law_truth "_law_truth" = true) (k__law_truth : PySem.W.keepIn K (.ref f__law_truth) = true)
    {f__law_label : Addr} {od__law_label an__law_label : Option Addr} {sl__law_label : Array (Option Value)} {oc__law_label kV__law_label dc__law_label pm__law_label cd__law_label ct__law_label : Value} (a__law_label : PySem.W.nsIn K mainGlobals "_law_label" = some (some (.ref f__law_label))) (l__law_label : K.lookup f__law_label = some ⟨oc__law_label, od__law_label, .func (PySem.W.fnOf "_law_label" "_law_label" (defArgs s_law_label) (defBody s_law_label) (defScope s_law_label) .none kV__law_label dc__law_label pm__law_label an__law_label cd__law_label ct__law_label), sl__law_label⟩) (c__law_label : PySem.W.codeIn K cd__law_label "_law_label" = true) (k__law_label : PySem.W.keepIn K (.ref f__law_label) = true)
    {f__law_grown : Addr} {od__law_grown an__law_grown : Option Addr} {sl__law_grown : Array (Option Value)} {oc__law_grown kV__law_grown dc__law_grown pm__law_grown cd__law_grown ct__law_grown : Value} (a__law_grown : PySem.W.nsIn K mainGlobals "_law_grown" = some (some (.ref f__law_grown))) (l__law_grown : K.lookup f__law_grown = some ⟨oc__law_grown, od__law_grown, .func (PySem.W.fnOf "_law_grown" "_law_grown" (defArgs s_law_grown) (defBody s_law_grown) (defScope s_law_grown) .none kV__law_grown dc__law_grown pm__law_grown an__law_grown cd__law_grown ct__law_grown), sl__law_grown⟩) (c__law_grown : PySem.W.codeIn K cd__law_grown "_law_grown" = true) (k__law_grown : PySem.W.keepIn K (.ref f__law_grown) = true)
    {f__law_peeled : Addr} {od__law_peeled an__law_peeled : Option Addr} {sl__law_peeled : Array (Option Value)} {oc__law_peeled kV__law_peeled dc__law_peeled pm__law_peeled cd__law_peeled ct__law_peeled : Value} (a__law_peeled : PySem.W.nsIn K mainGlobals "_law_peeled" = some (some (.ref f__law_peeled))) (l__law_peeled : K.lookup f__law_peeled = some ⟨oc__law_peeled, od__law_peeled, .func (PySem.W.fnOf "_law_peeled" "_law_peeled" (defArgs s_law_peeled) (defBody s_law_peeled) (defScope s_law_peeled) .none kV__law_peeled dc__law_peeled pm__law_peeled an__law_peeled cd__law_peeled ct__law_peeled), sl__law_peeled⟩) (c__law_peeled : PySem.W.codeIn K cd__law_peeled "_law_peeled" = true) (k__law_peeled : PySem.W.keepIn K (.ref f__law_peeled) = true)
    {f__law_spoilt : Addr} {od__law_spoilt an__law_spoilt : Option Addr} {sl__law_spoilt : Array (Option Value)} {oc__law_spoilt kV__law_spoilt dc__law_spoilt pm__law_spoilt cd__law_spoilt ct__law_spoilt : Value} (a__law_spoilt : PySem.W.nsIn K mainGlobals "_law_spoilt" = some (some (.ref f__law_spoilt))) (l__law_spoilt : K.lookup f__law_spoilt = some ⟨oc__law_spoilt, od__law_spoilt, .func (PySem.W.fnOf "_law_spoilt" "_law_spoilt" (defArgs s_law_spoilt) (defBody s_law_spoilt) (defScope s_law_spoilt) .none kV__law_spoilt dc__law_spoilt pm__law_spoilt an__law_spoilt cd__law_spoilt ct__law_spoilt), sl__law_spoilt⟩) (c__law_spoilt : PySem.W.codeIn K cd__law_spoilt "_law_spoilt" = true) (k__law_spoilt : PySem.W.keepIn K (.ref f__law_spoilt) = true)
    {f__law_digits : Addr} {od__law_digits an__law_digits : Option Addr} {sl__law_digits : Array (Option Value)} {oc__law_digits kV__law_digits dc__law_digits pm__law_digits cd__law_digits ct__law_digits : Value} (a__law_digits : PySem.W.nsIn K mainGlobals "_law_digits" = some (some (.ref f__law_digits))) (l__law_digits : K.lookup f__law_digits = some ⟨oc__law_digits, od__law_digits, .func (PySem.W.fnOf "_law_digits" "_law_digits" (defArgs s_law_digits) (defBody s_law_digits) (defScope s_law_digits) .none kV__law_digits dc__law_digits pm__law_digits an__law_digits cd__law_digits ct__law_digits), sl__law_digits⟩) (c__law_digits : PySem.W.codeIn K cd__law_digits "_law_digits" = true) (k__law_digits : PySem.W.keepIn K (.ref f__law_digits) = true)
    {f__law_told : Addr} {od__law_told an__law_told : Option Addr} {sl__law_told : Array (Option Value)} {oc__law_told kV__law_told dc__law_told pm__law_told cd__law_told ct__law_told : Value} (a__law_told : PySem.W.nsIn K mainGlobals "_law_told" = some (some (.ref f__law_told))) (l__law_told : K.lookup f__law_told = some ⟨oc__law_told, od__law_told, .func (PySem.W.fnOf "_law_told" "_law_told" (defArgs s_law_told) (defBody s_law_told) (defScope s_law_told) .none kV__law_told dc__law_told pm__law_told an__law_told cd__law_told ct__law_told), sl__law_told⟩) (c__law_told : PySem.W.codeIn K cd__law_told "_law_told" = true) (k__law_told : PySem.W.keepIn K (.ref f__law_told) = true)
    {f_law : Addr} {od_law an_law : Option Addr} {sl_law : Array (Option Value)} {oc_law kV_law dc_law pm_law cd_law ct_law : Value} (a_law : PySem.W.nsIn K mainGlobals "law" = some (some (.ref f_law))) (l_law : K.lookup f_law = some ⟨oc_law, od_law, .func (PySem.W.fnOf "law" "law" (defArgs slaw) (defBody slaw) (defScope slaw) .none kV_law dc_law pm_law an_law cd_law ct_law), sl_law⟩) (c_law : PySem.W.codeIn K cd_law "law" = true) (k_law : PySem.W.keepIn K (.ref f_law) = true)
    (z_bool : PySem.W.nsIn K mainGlobals "bool" = some none)
    (z_int : PySem.W.nsIn K mainGlobals "int" = some none)
    (z_isinstance : PySem.W.nsIn K mainGlobals "isinstance" = some none)
    (z_len : PySem.W.nsIn K mainGlobals "len" = some none)
    (z_list : PySem.W.nsIn K mainGlobals "list" = some none)
    (z_max : PySem.W.nsIn K mainGlobals "max" = some none)
    (z_min : PySem.W.nsIn K mainGlobals "min" = some none)
    (z_range : PySem.W.nsIn K mainGlobals "range" = some none)
    (z_set : PySem.W.nsIn K mainGlobals "set" = some none)
    (z_sorted : PySem.W.nsIn K mainGlobals "sorted" = some none)
    (z_zip : PySem.W.nsIn K mainGlobals "zip" = some none)
    : ∃ fd : FuncData, (∀ (s : Shared) (v : Value), BindsTo s fd ⟨[v], []⟩ [("_law_script", v)]) ∧ ∀ base : Heap, K.In base → base.Ns mainGlobals mg → FnOk l.prog w K mg base CX0 4 fa fd ["_law_script"] (sp_law K) := by
  have e := hfa.symm.trans (PySem.W.mg_of X G a_law)
  cases e
  have T : Txt K mg := ⟨PySem.W.mg_none_of X G z_bool, PySem.W.mg_none_of X G z_int, PySem.W.mg_none_of X G z_isinstance, PySem.W.mg_none_of X G z_len, PySem.W.mg_none_of X G z_list, PySem.W.mg_none_of X G z_max, PySem.W.mg_none_of X G z_min, PySem.W.mg_none_of X G z_range, PySem.W.mg_none_of X G z_set, PySem.W.mg_none_of X G z_sorted, PySem.W.mg_none_of X G z_zip⟩
  have F_steps_along := fun_mk (st := ssteps_along) l_steps_along c_steps_along k_steps_along
  have F__law_cell_at := fun_mk (st := s_law_cell_at) l__law_cell_at c__law_cell_at k__law_cell_at
  have F__law_truth := fun_mk (st := s_law_truth) l__law_truth c__law_truth k__law_truth
  have F__law_label := fun_mk (st := s_law_label) l__law_label c__law_label k__law_label
  have F__law_peeled := fun_mk (st := s_law_peeled) l__law_peeled c__law_peeled k__law_peeled
  have F__law_digits := fun_mk (st := s_law_digits) l__law_digits c__law_digits k__law_digits
  have F_is_round := fun_mk (st := sis_round) l_is_round c_is_round k_is_round
  have F__law_grown := fun_mk (st := s_law_grown) l__law_grown c__law_grown k__law_grown
  have F__law_spoilt := fun_mk (st := s_law_spoilt) l__law_spoilt c__law_spoilt k__law_spoilt
  have F__law_told := fun_mk (st := s_law_told) l__law_told c__law_told k__law_told
  have F_law := fun_mk (st := slaw) l_law c_law k_law
  have m_steps_along : mg "steps_along" = some (.ref f_steps_along) := PySem.W.mg_of X G a_steps_along
  have m__law_cell_at : mg "_law_cell_at" = some (.ref f__law_cell_at) := PySem.W.mg_of X G a__law_cell_at
  have m__law_truth : mg "_law_truth" = some (.ref f__law_truth) := PySem.W.mg_of X G a__law_truth
  have m__law_label : mg "_law_label" = some (.ref f__law_label) := PySem.W.mg_of X G a__law_label
  have m__law_peeled : mg "_law_peeled" = some (.ref f__law_peeled) := PySem.W.mg_of X G a__law_peeled
  have m__law_digits : mg "_law_digits" = some (.ref f__law_digits) := PySem.W.mg_of X G a__law_digits
  have m_is_round : mg "is_round" = some (.ref f_is_round) := PySem.W.mg_of X G a_is_round
  have m__law_grown : mg "_law_grown" = some (.ref f__law_grown) := PySem.W.mg_of X G a__law_grown
  have m__law_spoilt : mg "_law_spoilt" = some (.ref f__law_spoilt) := PySem.W.mg_of X G a__law_spoilt
  have m__law_told : mg "_law_told" = some (.ref f__law_told) := PySem.W.mg_of X G a__law_told
  have b_steps_along := F_steps_along.binds (ps := ["row"]) fun _ _ _ _ _ _ us hl => match us, hl with | [_], _ => rfl
  have b__law_cell_at := F__law_cell_at.binds (ps := ["_law_script", "_law_k"]) fun _ _ _ _ _ _ us hl => match us, hl with | [_, _], _ => rfl
  have b__law_truth := F__law_truth.binds (ps := ["_law_found", "_law_due"]) fun _ _ _ _ _ _ us hl => match us, hl with | [_, _], _ => rfl
  have b__law_label := F__law_label.binds (ps := ["_law_head", "_law_k"]) fun _ _ _ _ _ _ us hl => match us, hl with | [_, _], _ => rfl
  have b__law_peeled := F__law_peeled.binds (ps := ["_law_row"]) fun _ _ _ _ _ _ us hl => match us, hl with | [_], _ => rfl
  have b__law_digits := F__law_digits.binds (ps := ["_law_cell", "_law_base", "_law_many"]) fun _ _ _ _ _ _ us hl => match us, hl with | [_, _, _], _ => rfl
  have b_is_round := F_is_round.binds (ps := ["row"]) fun _ _ _ _ _ _ us hl => match us, hl with | [_], _ => rfl
  have b__law_grown := F__law_grown.binds (ps := ["_law_head", "_law_cells"]) fun _ _ _ _ _ _ us hl => match us, hl with | [_, _], _ => rfl
  have b__law_spoilt := F__law_spoilt.binds (ps := ["_law_row", "_law_cell", "_law_head"]) fun _ _ _ _ _ _ us hl => match us, hl with | [_, _, _], _ => rfl
  have b__law_told := F__law_told.binds (ps := ["_law_row"]) fun _ _ _ _ _ _ us hl => match us, hl with | [_], _ => rfl
  refine ⟨PySem.W.fnOf "law" "law" (defArgs slaw) (defBody slaw) (defScope slaw) .none kV_law dc_law pm_law an_law cd_law ct_law, fun s v => .of_eq rfl, fun base _ _ => ?_⟩
  have G_steps_along := ok_steps_along (P := l.prog) (w := w) (base := base) (sp := sp_steps_along K) F_steps_along T len_steps_along run_steps_along
  have G__law_cell_at := ok__law_cell_at (P := l.prog) (w := w) (base := base) (sp := sp__law_cell_at K) F__law_cell_at T len__law_cell_at run__law_cell_at
  have G__law_truth := ok__law_truth (P := l.prog) (w := w) (base := base) (sp := sp__law_truth K) F__law_truth T len__law_truth run__law_truth
  have G__law_label := ok__law_label (P := l.prog) (w := w) (base := base) (sp := sp__law_label K) F__law_label T len__law_label run__law_label
  have G__law_peeled := ok__law_peeled (P := l.prog) (w := w) (base := base) (sp := sp__law_peeled K) F__law_peeled T len__law_peeled run__law_peeled
  have G__law_digits := ok__law_digits (P := l.prog) (w := w) (base := base) (sp := sp__law_digits K) F__law_digits T len__law_digits run__law_digits
  have G_is_round := ok_is_round (P := l.prog) (w := w) (base := base) (sp := sp_is_round K) F_is_round T G_steps_along m_steps_along k_steps_along b_steps_along len_is_round run_is_round
  have G__law_grown := ok__law_grown (P := l.prog) (w := w) (base := base) (sp := sp__law_grown K) F__law_grown T G__law_label m__law_label k__law_label b__law_label len__law_grown run__law_grown
  have G__law_spoilt := ok__law_spoilt (P := l.prog) (w := w) (base := base) (sp := sp__law_spoilt K) F__law_spoilt T G__law_label m__law_label k__law_label b__law_label len__law_spoilt run__law_spoilt
  have G__law_told := ok__law_told (P := l.prog) (w := w) (base := base) (sp := sp__law_told K) F__law_told T G__law_truth m__law_truth k__law_truth b__law_truth G_is_round m_is_round k_is_round b_is_round G__law_peeled m__law_peeled k__law_peeled b__law_peeled len__law_told run__law_told
  exact ok_law F_law T G__law_cell_at m__law_cell_at k__law_cell_at b__law_cell_at G__law_told m__law_told k__law_told b__law_told G__law_spoilt m__law_spoilt k__law_spoilt b__law_spoilt G__law_digits m__law_digits k__law_digits b__law_digits G__law_grown m__law_grown k__law_grown b__law_grown len_law run_law
theorem walk {l : PySem.W.OpenLaw} {q : Program} {loose : List Str} {XP : (Str → Option Value) → Heap → Prop} {YP : World → Heap → Prop} {d : DefRec} {K : Params → PySem.W.Frag} (hn : l.most = some 63) (hdf : d.params.defaults = [])
    (hY : ∀ (w : World) (h : Heap), YP w h → (K w.params).In h)
    (F : ∀ (w : World) (mg : Str → Option Value) (fa : Addr) (h : Heap), (K w.params).In h → h.Ns mainGlobals mg → mg d.name = some (.ref fa) →
      ∃ fd : FuncData, (∀ (s : Shared) (u : Value), BindsTo s fd ⟨[u], []⟩ [("_law_script", u)]) ∧ ∀ base : Heap, (K w.params).In base → base.Ns mainGlobals mg → FnOk l.prog w (K w.params) mg base CX0 4 fa fd ["_law_script"] (sp_law (K w.params))) :
    PySem.W.WalkO q loose XP YP l.row.toRowW d [] (fun f vs => PySem.call f vs) :=
  L2.walk_of (n := 63) (k := 4) (x := "_law_script") (CX := fun _ => CX0) (sp := fun w => sp_law (K w.params)) hn (by decide) hdf ⟨rfl, by decide, by decide⟩ hY F (fun _ _ a ns hl _ hS => ⟨a, ns, rfl, hS, hl, fun _ => rfl⟩) fun _ _ _ _ _ z => z
end K11
end
open PySem PySem.W PyProof.Rows
set_option maxRecDepth 100000 in
set_option maxHeartbeats 0 in
theorem PySem.Challenge.cw_tiewood_k11_a_round_or_none_holds : PySem.Challenge.rw_tiewood_k11_a_round_or_none.Holds := by
  w_on; o_law; k_head; (case hw => w_witness2)
  k_fill
  refine K11.walk (l := PySem.Challenge.rw_tiewood_k11_a_round_or_none) rfl rfl (fun w h Y => PySem.W.kIn_of Y) ?F
  case F =>
    intro w mg fa h KX G hmg
    refine' K11.all_mk KX G hmg ?a_steps_along ?l_steps_along ?c_steps_along ?k_steps_along ?a_is_round ?l_is_round ?c_is_round ?k_is_round ?a__law_cell_at ?l__law_cell_at ?c__law_cell_at ?k__law_cell_at ?a__law_truth ?l__law_truth ?c__law_truth ?k__law_truth ?a__law_label ?l__law_label ?c__law_label ?k__law_label ?a__law_grown ?l__law_grown ?c__law_grown ?k__law_grown ?a__law_peeled ?l__law_peeled ?c__law_peeled ?k__law_peeled ?a__law_spoilt ?l__law_spoilt ?c__law_spoilt ?k__law_spoilt ?a__law_digits ?l__law_digits ?c__law_digits ?k__law_digits ?a__law_told ?l__law_told ?c__law_told ?k__law_told ?a_law ?l_law ?c_law ?k_law ?z_bool ?z_int ?z_isinstance ?z_len ?z_list ?z_max ?z_min ?z_range ?z_set ?z_sorted ?z_zip
    (case a_steps_along => k_is)
    (case l_steps_along => k_is)
    (case c_steps_along => k_is)
    (case k_steps_along => k_is)
    (case a_is_round => k_is)
    (case l_is_round => k_is)
    (case c_is_round => k_is)
    (case k_is_round => k_is)
    (case a__law_cell_at => k_is)
    (case l__law_cell_at => k_is)
    (case c__law_cell_at => k_is)
    (case k__law_cell_at => k_is)
    (case a__law_truth => k_is)
    (case l__law_truth => k_is)
    (case c__law_truth => k_is)
    (case k__law_truth => k_is)
    (case a__law_label => k_is)
    (case l__law_label => k_is)
    (case c__law_label => k_is)
    (case k__law_label => k_is)
    (case a__law_grown => k_is)
    (case l__law_grown => k_is)
    (case c__law_grown => k_is)
    (case k__law_grown => k_is)
    (case a__law_peeled => k_is)
    (case l__law_peeled => k_is)
    (case c__law_peeled => k_is)
    (case k__law_peeled => k_is)
    (case a__law_spoilt => k_is)
    (case l__law_spoilt => k_is)
    (case c__law_spoilt => k_is)
    (case k__law_spoilt => k_is)
    (case a__law_digits => k_is)
    (case l__law_digits => k_is)
    (case c__law_digits => k_is)
    (case k__law_digits => k_is)
    (case a__law_told => k_is)
    (case l__law_told => k_is)
    (case c__law_told => k_is)
    (case k__law_told => k_is)
    (case a_law => k_is)
    (case l_law => k_is)
    (case c_law => k_is)
    (case k_law => k_is)
    (case z_bool => k_is)
    (case z_int => k_is)
    (case z_isinstance => k_is)
    (case z_len => k_is)
    (case z_list => k_is)
    (case z_max => k_is)
    (case z_min => k_is)
    (case z_range => k_is)
    (case z_set => k_is)
    (case z_sorted => k_is)
    (case z_zip => k_is)
