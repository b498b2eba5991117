import PyProof.Rows.All
import Wide.All
import OpenK.AllK
import Wide.FinOn
import Lean
import PyProof.EqAt
import PyProof.EqKinds
import PyProof.TupleCall
import PyProof.NeKinds
import KE.KIsAll
import PyProof.RulesAs
import PyProof.StationsW
import PyProof.ExcClass2
import OpenK.KOwn
import PyProof.NsDelKeeps
import PyProof.ExcAttrAll.ValueError
import KE.KDictList
import KE.KSorted
import PyProof.SumAny
import PyProof.WalkInts
import PyProof.EnumMake
import KE.KItemsList
import KE.KRevIter
import PyProof.ExcInit
import PyProof.InstStoreFacts
import PyProof.IsRules
import KE.KDictOf
import PyProof.AttrMissHeap
import PyProof.MinMaxWalk
import PyProof.DictIter
import PySem.Challenge.RW_sumwires_k21_runs_sum_by_sum
set_option Elab.async false
set_option linter.all false
set_option maxRecDepth 100000
namespace L2
open PySem PySem.Spec PyProof.Rows
noncomputable abbrev Key := Sum Int Str
noncomputable def keyIs : Key → Value → Bool
  | .inl k, v => Value.isInt k v
  | .inr x, v => Value.isStrOf x v
noncomputable def keyH (w : World) : Key → Int
  | .inl k => hashInt k
  | .inr x => hashStr w x
theorem keyIs_shape : ∀ {k : Key} {v : Value}, keyIs k v = true → (∃ i t, k = Sum.inl i ∧ v = Value.int i t) ∨ (∃ x t, k = Sum.inr x ∧ v = Value.str x t)
  | .inl i, v, h => by
    obtain ⟨t, e⟩ := Value.isInt_shape (k := i) (v := v) h
    exact .inl ⟨i, t, rfl, e⟩
  | .inr x, v, h => by
    obtain ⟨t, e⟩ := Value.isStrOf_shape (x := x) (v := v) h
    exact .inr ⟨x, t, rfl, e⟩
theorem keyIs_int (i : Int) (t : Tok) : keyIs (.inl i) (.int i t) = true := by simp [keyIs, Value.isInt]
theorem keyIs_str (x : Str) (t : Tok) : keyIs (.inr x) (.str x t) = true := by simp [keyIs, Value.isStrOf]
theorem key_ll (a b : Int) : decide ((Sum.inl a : Key) = Sum.inl b) = (a == b) := by
  by_cases e : a = b
  · subst e; simp
  · have h : ¬ (Sum.inl a : Key) = Sum.inl b := fun q => e (Sum.inl.inj q)
    rw [decide_eq_false h]
    exact (beq_eq_false_iff_ne.mpr e).symm
theorem key_rr (a b : Str) : decide ((Sum.inr a : Key) = Sum.inr b) = decide (a = b) := by
  by_cases e : a = b
  · subst e; simp
  · have h : ¬ (Sum.inr a : Key) = Sum.inr b := fun q => e (Sum.inr.inj q)
    rw [decide_eq_false h, decide_eq_false e]
theorem key_lr (a : Int) (b : Str) : decide ((Sum.inl a : Key) = Sum.inr b) = false := decide_eq_false (fun q => nomatch q)
theorem key_rl (a : Str) (b : Int) : decide ((Sum.inr a : Key) = Sum.inl b) = false := decide_eq_false (fun q => nomatch q)
noncomputable def mixKind (prog : Program) (w : World) : PySem.KeyKind prog w Key where
  is := keyIs
  hash := keyH w
  inj := fun v a b ha hb => by
    rcases keyIs_shape ha with ⟨i, t, rfl, rfl⟩ | ⟨x, t, rfl, rfl⟩
    · rcases keyIs_shape hb with ⟨j, u, rfl, e⟩ | ⟨y, u, rfl, e⟩
      · injection e with e1 _; rw [e1]
      · exact nomatch e
    · rcases keyIs_shape hb with ⟨j, u, rfl, e⟩ | ⟨y, u, rfl, e⟩
      · exact nomatch e
      · injection e with e1 _; rw [e1]
  byValue := fun k v h => by
    rcases keyIs_shape h with ⟨i, t, rfl, rfl⟩ | ⟨x, t, rfl, rfl⟩ <;> rfl
  pyHash := fun hv h => by
    rcases keyIs_shape hv with ⟨i, t, rfl, rfl⟩ | ⟨x, t, rfl, rfl⟩
    · exact wpAny_pyHash_int h
    · exact wpAny_pyHash_str h
  eqBool := fun hu hv h => by
    rcases keyIs_shape hu with ⟨i, t, rfl, rfl⟩ | ⟨x, t, rfl, rfl⟩
    · rcases keyIs_shape hv with ⟨j, u, rfl, rfl⟩ | ⟨y, u, rfl, rfl⟩
      · rw [key_ll] at h; exact wpAny_eqBool_int h
      · rw [key_lr] at h; exact SeqAt.EqAt.int_str i t y u _ _ _ _ h
    · rcases keyIs_shape hv with ⟨j, u, rfl, rfl⟩ | ⟨y, u, rfl, rfl⟩
      · rw [key_rl] at h; exact SeqAt.EqAt.str_int x t j u _ _ _ _ h
      · rw [key_rr] at h; exact wpAny_eqBool_str h
  «strs» := fun k x t v h => by
    rcases keyIs_shape h with ⟨i, u, rfl, e⟩ | ⟨y, u, rfl, e⟩
    · exact nomatch e
    · injection e with e1 _
      subst e1
      cases v <;> rfl
theorem mixKind_int (prog : Program) (w : World) (i : Int) (t : Tok) : (mixKind prog w).is (.inl i) (.int i t) = true := keyIs_int i t
theorem mixKind_str (prog : Program) (w : World) (x : Str) (t : Tok) : (mixKind prog w).is (.inr x) (.str x t) = true := keyIs_str x t
end L2
namespace L2
open PySem PySem.Spec PyProof.Rows
inductive V where
  | non | bl (b : Bool) | int (i : Int) | str (x : Str) | byt (b : Array UInt8) | flt (b : UInt64) | ref (a : Addr) | ty (n : String)
  deriving DecidableEq
noncomputable def RelV : V → Value → Prop
  | .non, u => u = Value.none
  | .bl b, u => u = Value.bool b
  | .int i, u => ∃ t, u = Value.int i t
  | .str x, u => ∃ t, u = Value.str x t
  | .byt b, u => ∃ t, u = Value.bytes b t
  | .flt b, u => ∃ t, u = Value.float b t
  | .ref a, u => u = Value.ref a
  | .ty n, u => u = Value.type n
noncomputable abbrev Vals : List V → List Value → Prop := Paired RelV
theorem Vals.length {xs : List V} {us : List Value} (r : Vals xs us) : xs.length = us.length := Paired.length r
theorem Vals.get : ∀ {xs : List V} {us : List Value} {i : Nat} {x : V}, Vals xs us → xs[i]? = some x → ∃ u, us[i]? = some u ∧ RelV x u
  | _, _, _, _, .nil, e => by simp at e
  | _, _, 0, _, .cons r _, e => by simp at e; subst e; exact ⟨_, rfl, r⟩
  | _, _, i + 1, x, .cons _ t, e => by
    obtain ⟨u, h1, h2⟩ := Vals.get (i := i) (x := x) t (by simpa using e)
    exact ⟨u, by simpa using h1, h2⟩
theorem Vals.append : ∀ {xs ys : List V} {us ws : List Value}, Vals xs us → Vals ys ws → Vals (xs ++ ys) (us ++ ws)
  | _, _, _, _, .nil, s => s
  | _, _, _, _, .cons r t, s => .cons r (Vals.append t s)
theorem Vals.take : ∀ {xs : List V} {us : List Value} (n : Nat), Vals xs us → Vals (xs.take n) (us.take n)
  | _, _, 0, _ => .nil
  | _, _, _ + 1, .nil => .nil
  | _, _, n + 1, .cons r t => .cons r (Vals.take n t)
theorem Vals.drop : ∀ {xs : List V} {us : List Value} (n : Nat), Vals xs us → Vals (xs.drop n) (us.drop n)
  | _, _, 0, r => r
  | _, _, _ + 1, .nil => .nil
  | _, _, n + 1, .cons _ t => Vals.drop n t
noncomputable def RelO : Option V → Option Value → Prop
  | some v, some u => RelV v u
  | none, none => True
  | _, _ => False
noncomputable def KV {κ : Type} : List (κ × V) → List (κ × Value) → Prop := Paired fun (p : κ × V) (q : κ × Value) => p.1 = q.1 ∧ RelV p.2 q.2
noncomputable def kV : Key → V
  | .inl i => .int i
  | .inr x => .str x
inductive HO where
  | lst (xs : List V)
  | tup (xs : List V)
  | dK (kvs : List (Key × V)) | dT (kvs : List (List Key × V))
  | set (S : Int → Bool) (n : Nat)
  | ins (C dx : Addr) (fs : List (Str × V))
  | own (x : Addr)
  | xd (fs : List (Str × V))
  | met (f x : Addr)
  | rng (lo hi : Int)
  | frz (o : Obj) (u : HO)
  | tbl (ps : Array Value)
  | ext (φ : Heap → Prop)
noncomputable abbrev Hp := Addr → Option HO
noncomputable def upd (H : Hp) (a : Addr) (o : HO) : Hp := fun b => if b = a then some o else H b
theorem upd_same {H : Hp} {a : Addr} {o : HO} : upd H a o a = some o := by unfold upd; rw [if_pos rfl]
theorem upd_ne {H : Hp} {a b : Addr} {o : HO} (h : b ≠ a) : upd H a o b = H b := by unfold upd; rw [if_neg h]
theorem ne_of {H : Hp} {a b : Addr} {o u : HO} (h : H a = some o) (h' : H b = some u) (d : o ≠ u) : a ≠ b := by
  intro e; subst e; rw [h] at h'; exact d (Option.some.inj h')
theorem ne_of_none {H : Hp} {a b : Addr} {o : HO} (h : H a = some o) (h' : H b = none) : a ≠ b := by
  intro e; subst e; rw [h] at h'; cases h'
section
variable (P : Program) (w : World)
noncomputable def ObjOk (H : Hp) (h : Heap) (a : Addr) : HO → Prop
  | .lst xs => xs.length ≤ sizeLine ∧ ∃ (its : List Value) (n : Nat), Vals xs its ∧ h.get? a = some { cls := .type "list", data := .seq its.toArray n }
  | .tup xs => xs.length ≤ sizeLine ∧ ∃ its : List Value, Vals xs its ∧ IsTup h a its.toArray
  | .dK kvs => kvs.length ≤ sizeLine ∧ (a == sysModules) = false ∧ ∃ vs, KV kvs vs ∧ h.DictOf (mixKind P w) a vs
  | .dT kvs => kvs.length ≤ sizeLine ∧ (a == sysModules) = false ∧ ∃ xs : List (List Key × Addr × Value),
      Paired (fun (p : List Key × V) (q : List Key × Addr × Value) => p.1 = q.1 ∧ H q.2.1 = some (.tup (p.1.map kV)) ∧ RelV p.2 q.2.2) kvs xs ∧
      ∃ o es ep, h.get? a = some o ∧ o.ExactDict ∧ o.data = .dict es ep ∧ es.toList = xs.map (entryOfKey (tupleKind (mixKind P w))) ∧ (xs.map (·.1)).Nodup
  | .set S n => h.SetOf (intKind P w) a S n
  | .ins C dx fs => H dx = some (.own a) ∧ fs.length ≤ 1000 ∧ dx ≠ a ∧ h.get? a = some (PySem.W.instObj C dx) ∧
      ∃ mA, h.Ns1 dx mA ∧ (∀ f, RelO (fs.lookup f) (mA f)) ∧ PySem.Within mA (fs.map (·.1))
  | .own _ => ∃ o, h.get? a = some o
  | .xd fs => ∃ mA, h.Ns1 a mA ∧ ∀ f, RelO (fs.lookup f) (mA f)
  | .rng lo hi => ∃ t u v, h.get? a = some { cls := .type "range", data := .fields #[.int lo t, .int hi u, .int 1 v] }
  | .frz o u => h.get? a = some o ∧ ObjOk H h a u
  | .tbl ps => h.get? a = some { cls := .none, data := .fields ps }
  | .met f x => h.get? a = some (PySem.W.methodObj (.ref f) (.ref x))
  | .ext φ => φ h ∧ (∃ o, h.get? a = some o) ∧ ∀ h1 h2 : Heap, φ h1 → (∀ o, h1.get? a = some o → h2.get? a = some o) → φ h2
noncomputable def HOk (H : Hp) (h : Heap) : Prop := ∀ a o, H a = some o → ObjOk P w H h a o
end
section
variable {P : Program} {w : World} {H H' : Hp} {h h' : Heap} {a : Addr} {o : HO}
theorem ObjOk.lt (x : ObjOk P w H h a o) : a < h.objs.size := by
  cases o with
  | lst xs => obtain ⟨_, _, _, _, e⟩ := x; exact Heap.lt_size e
  | tup xs => obtain ⟨_, _, _, p⟩ := x; exact p.lt
  | dK kvs => obtain ⟨_, _, _, _, o, _, _, e, _⟩ := x; exact Heap.lt_size e
  | dT kvs => obtain ⟨_, _, _, _, o, _, _, e, _⟩ := x; exact Heap.lt_size e
  | set S n => obtain ⟨o, _, _, _, e, _⟩ := x; exact Heap.lt_size e
  | ins C dx fs => obtain ⟨_, _, _, e, _⟩ := x; exact Heap.lt_size e
  | own y => obtain ⟨_, e⟩ := x; exact Heap.lt_size e
  | xd fs => obtain ⟨_, ⟨_, _, _, e, _⟩, _⟩ := x; exact Heap.lt_size e
  | rng lo hi => obtain ⟨_, _, _, e⟩ := x; exact Heap.lt_size e
  | frz ob u => obtain ⟨e, _⟩ := x; exact Heap.lt_size e
  | tbl ps => exact Heap.lt_size (show h.get? a = some _ from x)
  | met f y => exact Heap.lt_size (show h.get? a = some _ from x)
  | ext φ => obtain ⟨_, ⟨_, e⟩, _⟩ := x; exact Heap.lt_size e
theorem Paired.mapP {α β : Type} {F G : α → β → Prop} : ∀ {l₁ : List α} {l₂ : List β}, Paired F l₁ l₂ → (∀ a b, F a b → G a b) → Paired G l₁ l₂
  | _, _, .nil, _ => .nil
  | _, _, .cons r t, f => .cons (f _ _ r) (Paired.mapP t f)
theorem ObjOk.stay (x : ObjOk P w H h a o) (k : ∀ b u, (b = a ∨ H b = some (.own a)) → h.get? b = some u → h'.get? b = some u)
    (ho : ∀ b, H b = some (.own a) → H' b = some (.own a)) (ht : ∀ b xs, H b = some (.tup xs) → H' b = some (.tup xs)) : ObjOk P w H' h' a o := by
  induction o with
  | lst xs => obtain ⟨z, its, n, r, e⟩ := x; exact ⟨z, its, n, r, k _ _ (.inl rfl) e⟩
  | tup xs => obtain ⟨z, its, r, ob, e, c⟩ := x; exact ⟨z, its, r, ob, k _ _ (.inl rfl) e, c⟩
  | dK kvs => obtain ⟨z, y, vs, r, ob, es, ep, e, c⟩ := x; exact ⟨z, y, vs, r, ob, es, ep, k _ _ (.inl rfl) e, c⟩
  | dT kvs =>
    obtain ⟨z, y, xs, r, ob, es, ep, e, c⟩ := x
    exact ⟨z, y, xs, Paired.mapP r fun p q z => ⟨z.1, ht _ _ z.2.1, z.2.2⟩, ob, es, ep, k _ _ (.inl rfl) e, c⟩
  | set S n => obtain ⟨ob, es, ep, t, e, c⟩ := x; exact ⟨ob, es, ep, t, k _ _ (.inl rfl) e, c⟩
  | ins C dx fs =>
    obtain ⟨d, z, ne, e, mA, ⟨od, es, ep, e2, c⟩, r⟩ := x
    exact ⟨ho _ d, z, ne, k _ _ (.inl rfl) e, mA, ⟨od, es, ep, k _ _ (.inr d) e2, c⟩, r⟩
  | own y => obtain ⟨ob, e⟩ := x; exact ⟨ob, k _ _ (.inl rfl) e⟩
  | xd fs => obtain ⟨mA, ⟨od, es, ep, e, c⟩, r⟩ := x; exact ⟨mA, ⟨od, es, ep, k _ _ (.inl rfl) e, c⟩, r⟩
  | rng lo hi => obtain ⟨t, u, v, e⟩ := x; exact ⟨t, u, v, k _ _ (.inl rfl) e⟩
  | frz ob u ih => obtain ⟨e, q⟩ := x; exact ⟨k _ _ (.inl rfl) e, ih q⟩
  | tbl ps =>
    have e : h.get? a = some { cls := .none, data := .fields ps } := x
    show h'.get? a = some { cls := .none, data := .fields ps }
    exact k a _ (.inl rfl) e
  | met f y =>
    have e : h.get? a = some (PySem.W.methodObj (.ref f) (.ref y)) := x
    show h'.get? a = some (PySem.W.methodObj (.ref f) (.ref y))
    exact k a _ (.inl rfl) e
  | ext φ => obtain ⟨p, ⟨o, e⟩, st⟩ := x; exact ⟨st _ _ p fun o q => k _ _ (.inl rfl) q, ⟨o, k _ _ (.inl rfl) e⟩, st⟩
theorem HOk.lt (x : HOk P w H h) (e : H a = some o) : a < h.objs.size := (x a o e).lt
theorem HOk.fresh (x : HOk P w H h) (e : h.objs.size ≤ a) : H a = none := by
  cases q : H a with
  | none => rfl
  | some u => exact absurd (Nat.lt_of_lt_of_le (x.lt q) e) (Nat.lt_irrefl _)
theorem HOk.kept (x : HOk P w H h) (k : ∀ b u, h.get? b = some u → h'.get? b = some u) : HOk P w H h' := fun a o e =>
  (x a o e).stay (fun b u _ q => k b u q) (fun _ q => q) fun _ _ q => q
theorem HOk.laid (x : HOk P w H h) (k : ∀ b u, h.get? b = some u → h'.get? b = some u) (hp : h.objs.size ≤ a) (new : ObjOk P w (upd H a o) h' a o) : HOk P w (upd H a o) h' := fun b u e => by
  have hn := x.fresh hp
  by_cases hb : b = a
  · subst hb; rw [upd_same] at e; cases e; exact new
  · rw [upd_ne hb] at e
    exact (x b u e).stay (fun c v _ q => k c v q) (fun c q => by rw [upd_ne (ne_of_none q hn)]; exact q) fun c xs q => by rw [upd_ne (ne_of_none q hn)]; exact q
end
noncomputable def Rd (H : Hp) (a : Addr) (u : HO) : Prop := H a = some u ∨ ∃ o, H a = some (.frz o u)
theorem Rd.ok {P : Program} {w : World} {H : Hp} {h : Heap} {a : Addr} {u : HO} (r : Rd H a u) (x : HOk P w H h) : ObjOk P w H h a u := by
  rcases r with r | ⟨o, r⟩
  · exact x a u r
  · obtain ⟨_, q⟩ := x a _ r
    exact q
noncomputable def Mut : Option HO → Prop
  | some (.lst _) => True
  | some (.dK _) => True
  | some (.dT _) => True
  | some (.set _ _) => True
  | some (.ins _ _ _) => True
  | some (.ext _) => True
  | _ => False
section
variable {P : Program} {w : World} {H : Hp} {h h' : Heap} {x e : Addr} {o' : HO}
theorem HOk.write (ok : HOk P w H h) (mu : Mut (H x)) (he : e = x ∨ H e = some (.own x)) (k : ∀ b u, b ≠ e → h.get? b = some u → h'.get? b = some u) (heo : ∃ u, h'.get? e = some u)
    (new : ObjOk P w (upd H x o') h' x o') : HOk P w (upd H x o') h' := fun b u q => by
  have nown : ∀ c y, H c = some (.own y) → c ≠ x := fun c y r z => by subst z; rw [r] at mu; exact mu
  have ntup : ∀ c xs, H c = some (.tup xs) → c ≠ x := fun c xs r z => by subst z; rw [r] at mu; exact mu
  by_cases hb : b = x
  · subst hb; rw [upd_same] at q; cases q; exact new
  · rw [upd_ne hb] at q
    by_cases hbe : b = e
    · have q' : H b = some (.own x) := by
        rcases he with z | z
        · exact absurd (hbe.trans z) hb
        · rw [hbe]; exact z
      rw [q] at q'; cases q'
      obtain ⟨v, hv⟩ := heo
      exact ⟨v, by rw [hbe]; exact hv⟩
    · refine (ok b u q).stay (fun c v hc r => k c v ?_ r) (fun c r => by rw [upd_ne (nown c b r)]; exact r) fun c xs r => by rw [upd_ne (ntup c xs r)]; exact r
      rcases hc with rfl | hc
      · exact hbe
      · rintro rfl
        rcases he with z | z
        · exact nown c b hc z
        · rw [hc] at z; cases z; exact hb rfl
end
structure Un (fs ex : List Addr) (H H' : Hp) (h h' : Heap) : Prop where
  keep : ∀ b o, h.get? b = some o → H b = none → b ∉ fs → b ∉ ex → h'.get? b = some o
  slot : ∀ b o, h.get? b = some o → H b = none → b ∈ fs → b ∉ ex → ∃ sl, h'.get? b = some { o with slots := sl }
  free : ∀ b o, h.get? b = some o → H b = none → b ∉ ex → H' b = none
  there : ∀ b o, h.get? b = some o → b ∉ ex → ∃ o', h'.get? b = some o'
  tups : ∀ b xs, H b = some (.tup xs) → H' b = some (.tup xs)
  frzs : ∀ b o u, H b = some (.frz o u) → H' b = some (.frz o u)
  tbls : ∀ b ps, H b = some (.tbl ps) → ∃ more, H' b = some (.tbl (ps ++ more))
section
variable {fs fs' ex ex' : List Addr} {H H1 H2 : Hp} {h h1 h2 h' : Heap} {a x e : Addr} {o : HO}
theorem Un.any (u : Un fs ex H H1 h h1) {b : Addr} {ob : Obj} (q : h.get? b = some ob) (n : H b = none) (hx : b ∉ ex) : ∃ sl, h1.get? b = some { ob with slots := sl } := by
  by_cases hb : b ∈ fs
  · exact u.slot b ob q n hb hx
  · exact ⟨ob.slots, u.keep b ob q n hb hx⟩
theorem Un.kept (k : ∀ b u, h.get? b = some u → h'.get? b = some u) : Un fs ex H H h h' :=
  ⟨fun b ob q _ _ _ => k b ob q, fun b ob q _ _ _ => ⟨ob.slots, k b ob q⟩, fun _ _ _ n _ => n, fun b ob q _ => ⟨ob, k b ob q⟩, fun _ _ q => q, fun _ _ _ q => q, fun _ ps q => ⟨#[], by rw [q]; simp⟩⟩
theorem Un.refl : Un fs ex H H h h := Un.kept fun _ _ q => q
theorem Un.laid (k : ∀ b u, h.get? b = some u → h'.get? b = some u) (hp : h.objs.size ≤ a) (hn : H a = none) : Un fs ex H (upd H a o) h h' where
  keep := fun b u q _ _ _ => k b u q
  slot := fun b u q _ _ _ => ⟨u.slots, k b u q⟩
  free := fun b u q n _ => by rw [upd_ne (Nat.ne_of_lt (Nat.lt_of_lt_of_le (Heap.lt_size q) hp))]; exact n
  there := fun b u q _ => ⟨u, k b u q⟩
  tups := fun b xs q => by rw [upd_ne (ne_of_none q hn)]; exact q
  frzs := fun b u xs q => by rw [upd_ne (ne_of_none q hn)]; exact q
  tbls := fun b ps q => ⟨#[], by rw [upd_ne (ne_of_none q hn), q]; simp⟩
theorem Un.write (mu : Mut (H x)) (he : e = x ∨ H e = some (.own x)) (k : ∀ b u, b ≠ e → h.get? b = some u → h'.get? b = some u) (heo : ∃ u, h'.get? e = some u) : Un fs ex H (upd H x o) h h' := by
  have hx : ∀ b, H b = none → b ≠ x := fun b n z => by subst z; rw [n] at mu; exact mu
  have hb : ∀ b, H b = none → b ≠ e := fun b n z => by
    subst z
    rcases he with r | r
    · exact hx b n r
    · rw [n] at r; cases r
  have hm : ∀ b u, H b = some u → ¬ Mut (some u) → b ≠ x := fun b u q nm z => by subst z; rw [q] at mu; exact nm mu
  refine ⟨fun b u q n _ _ => k b u (hb b n) q, fun b u q n _ _ => ⟨u.slots, k b u (hb b n) q⟩, fun b u q n _ => by rw [upd_ne (hx b n)]; exact n, fun b u q _ => ?_,
    fun b xs q => by rw [upd_ne (hm b _ q fun z => z)]; exact q, fun b u xs q => by rw [upd_ne (hm b _ q fun z => z)]; exact q, fun b ps q => ⟨#[], by rw [upd_ne (hm b _ q fun z => z), q]; simp⟩⟩
  by_cases hbe : b = e
  · subst hbe; exact heo
  · exact ⟨u, k b u hbe q⟩
end
noncomputable def trk (h : Heap) (H : Hp) : List Addr := (List.range h.objs.size).filter fun a => (H a).isSome
noncomputable def hidT (h : Heap) (H : Hp) : Heap := PySem.W.hideAll h (trk h H)
theorem hidT_size (h : Heap) (H : Hp) : (hidT h H).objs.size = h.objs.size := PySem.W.hideAll_size _ _
theorem hidT_get {h : Heap} {H : Hp} {b : Addr} {o : Obj} (e : h.get? b = some o) (n : H b = none) : (hidT h H).get? b = some o :=
  PySem.W.hideAll_get _ e fun hm => by
    have q : (H b).isSome = true := (List.mem_filter.mp hm).2
    rw [n] at q; simp at q
theorem of_hidT {h : Heap} {H : Hp} {b : Addr} {o : Obj} (e : (hidT h H).get? b = some o) : h.get? b = some o ∧ H b = none := by
  have e' : h.get? b = some o := PySem.W.of_hideAll (trk h H) e
  refine ⟨e', ?_⟩
  cases q : H b with
  | none => rfl
  | some x =>
    have hm : b ∈ trk h H := List.mem_filter.mpr ⟨List.mem_range.mpr (Heap.lt_size e'), by simp [q]⟩
    have z : (hidT h H).get? b = none := PySem.W.hideAll_none (trk h H) hm
    rw [z] at e; cases e
noncomputable def allNews (g h : Heap) (L : Addr) : List (Addr × Obj) := (List.range h.objs.size).filterMap fun a => if a = L ∨ (g.get? a).isSome = true then none else (h.get? a).map fun o => (a, o)
noncomputable def rest (g h : Heap) (L d : Addr) : List (Addr × Obj) := (allNews g h L).filter fun p => decide (p.1 ≠ d)
end L2
namespace L2
open PySem PySem.Spec PyProof.Rows
structure Mod (K : PySem.W.Frag) (mg : Str → Option Value) (base : Heap) : Prop where
  kin : K.In base
  glob : base.Ns mainGlobals mg
  blt : ∃ mb, base.Ns builtinsNs mb ∧ ∀ x : Str, x ≠ "__name__" → mb x = bootBuiltins x
  nolimit : base.NoLimit
structure Cx where
  prog : Program
  w : World
  K : PySem.W.Frag
  mg : Str → Option Value
  base : Heap
  A : Around
  N : List Str
  s₀ : Shared
  H₀ : Hp
  env : Env
  outer : List Env
  stack : List Env
  ex : List Addr
  fn : Str → Bool
  calm : Bool
  pn : List (Addr × Obj)
  xe : Value → Shared → Prop
noncomputable def frs (l : List Env) : List Addr := l.filterMap (·.frame)
noncomputable abbrev Cx.fs (X : Cx) : List Addr := frs X.outer
noncomputable def Vis (sc : Scope) (x : Str) : Prop := sc.names.lookup x = some .local ∨ sc.names.lookup x = some .cell ∨ sc.names.lookup x = some .free
noncomputable def Loc (sc : Scope) (x : Str) : Prop := sc.names.lookup x = some .local ∨ sc.names.lookup x = some .cell
noncomputable def Look (env : Env) (h : Heap) (m : Str → Option Value) (x : Str) (u : Value) : Prop :=
  (env.kindOf x = some .local ∧ m x = some u) ∨ ((env.kindOf x = some .cell ∨ env.kindOf x = some .free) ∧ ∃ c, env.cells.lookup x = some c ∧ h.IsCell c (some u))
structure Cx.Ok (X : Cx) : Prop where
  mod : Mod X.K X.mg X.base
  kind : X.env.scope.kind = .function
  glob : X.env.globals = mainGlobals
  blt : X.env.builtins = builtinsNs
  above : X.s₀.heap.objs.size ≤ X.env.locals
  inj : ∀ x y c, X.env.cells.lookup x = some c → X.env.cells.lookup y = some c → x = y
  has : ∀ x, (X.env.kindOf x = some .cell ∨ X.env.kindOf x = some .free) → ∃ c, X.env.cells.lookup x = some c
  cab : ∀ x c, X.fn x = true → X.env.cells.lookup x = some c → X.s₀.heap.objs.size ≤ c
  hd : X.calm = true → X.A.handled = none
  frames : X.A.frames = some X.stack
  stk : X.stack = X.outer ∨ (X.stack = X.env :: X.outer ∧ X.env.frame = some X.env.locals)
  exf : ∀ b ∈ X.ex, b ≠ X.env.locals ∧ ∀ x c, X.env.cells.lookup x = some c → c ≠ b
  bs : ∀ b o, X.base.get? b = some o → X.s₀.heap.get? b = some o ∧ X.H₀ b = none
  bsz : X.base.objs.size ≤ X.s₀.heap.objs.size
  noex : ∀ b o, X.base.get? b = some o → b ∉ X.ex
  exfs : ∀ b ∈ X.ex, b ∉ X.fs
  funs : X.s₀.heap.FunFrames X.base X.outer
  frf : ∀ b ∈ X.fs, X.H₀ b = none
structure Inv (X : Cx) (pins : List (Addr × Obj)) (σ : List (Option V)) (H : Hp) (s : Shared) : Prop where
  ok : X.Ok
  os : s.os = X.s₀.os
  bare : AllBare s.gens
  base : Un X.fs X.ex X.H₀ H X.s₀.heap s.heap
  loc : ∃ m, s.heap.Ns X.env.locals m ∧ ∀ (i : Nat) (x : Str) (v : V), X.N[i]? = some x → σ[i]? = some (some v) → Vis X.env.scope x → ∃ u, RelV v u ∧ Look X.env s.heap m x u
  cell : ∀ x c, X.env.cells.lookup x = some c → ∃ v, s.heap.IsCell c v
  free : H X.env.locals = none
  freeC : ∀ x c, X.env.cells.lookup x = some c → H c = none
  pin : ∀ p ∈ X.pn ++ pins, s.heap.get? p.1 = some p.2 ∧ H p.1 = none ∧ p.1 ≠ X.env.locals ∧ p.1 ∉ X.fs ∧ ∀ v, p.2.data ≠ .cell v
  hok : HOk X.prog X.w H s.heap
  len : σ.length = X.N.length
section
variable {X : Cx} {pins : List (Addr × Obj)} {σ : List (Option V)} {H H' : Hp} {s : Shared} {h' : Heap}
theorem Cx.Ok.nofr (ok : X.Ok) {b : Addr} {o : Obj} (e : X.base.get? b = some o) : b ∉ X.fs := fun hb => by
  have := (ok.funs.mem hb).1
  rw [e] at this; cases this
theorem Inv.bs (I : Inv X pins σ H s) : ∀ b o, X.base.get? b = some o → s.heap.get? b = some o ∧ H b = none := fun b o e =>
  ⟨I.base.keep b o (I.ok.bs b o e).1 (I.ok.bs b o e).2 (I.ok.nofr e) (I.ok.noex b o e), I.base.free b o (I.ok.bs b o e).1 (I.ok.bs b o e).2 (I.ok.noex b o e)⟩
theorem Inv.bk (I : Inv X pins σ H s) : ∀ b o, X.base.get? b = some o → s.heap.get? b = some o := fun b o e => (I.bs b o e).1
theorem Inv.mod (I : Inv X pins σ H s) : Mod X.K X.mg X.base := I.ok.mod
theorem Inv.kIn (I : Inv X pins σ H s) : X.K.In s.heap := I.ok.mod.kin.keeps I.bk
theorem Inv.lt (I : Inv X pins σ H s) : X.env.locals < s.heap.objs.size := let ⟨_, hn, _⟩ := I.loc; hn.lt
theorem Inv.sz (I : Inv X pins σ H s) : X.s₀.heap.objs.size ≤ s.heap.objs.size := Nat.le_trans I.ok.above (Nat.le_of_lt I.lt)
theorem Inv.nofs (I : Inv X pins σ H s) {a : Addr} (h : s.heap.objs.size ≤ a) : a ∉ X.fs := fun hb => by
  obtain ⟨_, o, ho, _⟩ := I.ok.funs.mem hb
  exact absurd (Nat.lt_of_lt_of_le (Heap.lt_size ho) (Nat.le_trans I.sz h)) (Nat.lt_irrefl _)
theorem Inv.cne (I : Inv X pins σ H s) : ∀ x c, X.env.cells.lookup x = some c → c ≠ X.env.locals := fun x c e z => by
  obtain ⟨v, o, ho, hd⟩ := I.cell x c e
  obtain ⟨m, ⟨o', es, ep, ho', hd', _⟩, _⟩ := I.loc
  rw [z, ho'] at ho; cases ho; rw [hd'] at hd; cases hd
theorem Inv.funs (I : Inv X pins σ H s) : s.heap.FunFrames X.base X.outer := by
  have all : ∀ (l : List Env), (∀ b ∈ frs l, b ∈ X.fs) → X.s₀.heap.FunFrames X.base l → s.heap.FunFrames X.base l := by
    intro l
    induction l with
    | nil => intro _ _; trivial
    | cons env r ih =>
      intro hs hl
      obtain ⟨hk, ⟨L, o, hf, hn, ho, hd⟩, hr⟩ := hl
      have hL : L ∈ X.fs := hs L (by unfold frs; rw [List.filterMap_cons, hf]; exact List.mem_cons_self)
      obtain ⟨sl, e⟩ := I.base.slot L o ho (I.ok.frf L hL) hL fun z => I.ok.exfs L z hL
      exact ⟨hk, ⟨L, _, hf, hn, e, hd⟩, ih (fun b hb => hs b (by unfold frs; rw [List.filterMap_cons, hf]; exact List.mem_cons_of_mem _ hb)) hr⟩
  exact all X.outer (fun _ hb => hb) I.ok.funs
theorem Inv.stack (I : Inv X pins σ H s) : s.heap.FunFrames X.base X.stack := by
  rcases I.ok.stk with e | ⟨e, hf⟩
  · rw [e]; exact I.funs
  · rw [e]
    obtain ⟨m, hn, _⟩ := I.loc
    refine .cons (by rw [I.ok.kind]; decide) hf hn ?_ I.funs
    exact Heap.get?_none_of_le (Nat.le_trans I.ok.bsz I.ok.above)
theorem Inv.stkSub (I : Inv X pins σ H s) : ∀ b ∈ frs X.stack, b ∈ X.env.locals :: X.fs := fun b hb => by
  rcases I.ok.stk with e | ⟨e, hf⟩
  · rw [e] at hb; exact List.mem_cons_of_mem _ hb
  · rw [e] at hb
    unfold frs at hb
    rw [List.filterMap_cons, hf] at hb
    exact hb
theorem Inv.stkFree (I : Inv X pins σ H s) : ∀ b ∈ frs X.stack, H b = none := fun b hb => by
  rcases List.mem_cons.mp (I.stkSub b hb) with e | hb
  · rw [e]; exact I.free
  · obtain ⟨_, o, ho, _⟩ := I.ok.funs.mem hb
    exact I.base.free b o ho (I.ok.frf b hb) fun z => I.ok.exfs b z hb
theorem Inv.step {g' : Array GenState} {t' : Nat} {d' : Drawn} {ch : List Addr} (I : Inv X pins σ H s)
    (hch : ∀ b ∈ ch, (b ∈ X.ex ∨ X.s₀.heap.objs.size ≤ b) ∧ b ≠ X.env.locals ∧ (∀ x c, X.env.cells.lookup x = some c → c ≠ b) ∧ ∀ p ∈ X.pn ++ pins, p.1 ≠ b)
    (keep : ∀ b o, b ≠ X.env.locals → b ∉ X.fs → b ∉ ch → s.heap.get? b = some o → H b = none → h'.get? b = some o)
    (slot : ∀ b o, b ≠ X.env.locals → b ∈ X.fs → b ∉ ch → s.heap.get? b = some o → H b = none → ∃ sl, h'.get? b = some { o with slots := sl }) (free : ∀ b o, b ∉ ch → s.heap.get? b = some o → H b = none → H' b = none)
    (there : ∀ b o, b ∉ ch → s.heap.get? b = some o → ∃ o', h'.get? b = some o')
    (tups : ∀ b xs, H b = some (.tup xs) → H' b = some (.tup xs)) (frzs : ∀ b o u, H b = some (.frz o u) → H' b = some (.frz o u)) (tbls : ∀ b ps, H b = some (.tbl ps) → ∃ more, H' b = some (.tbl (ps ++ more)))
    (ns : ∀ m, s.heap.Ns X.env.locals m → h'.Ns X.env.locals m) (hok : HOk X.prog X.w H' h') (hg : AllBare g') :
    Inv X pins σ H' { s with heap := h', gens := g', drawn := d', toks := t' } := by
  have neL : ∀ b o, X.s₀.heap.get? b = some o → b ≠ X.env.locals := fun b o e => Nat.ne_of_lt (Nat.lt_of_lt_of_le (Heap.lt_size e) I.ok.above)
  have neC : ∀ b o, X.s₀.heap.get? b = some o → b ∉ X.ex → b ∉ ch := fun b o e hx hb => by
    rcases (hch b hb).1 with z | z
    · exact hx z
    · exact absurd (Nat.lt_of_lt_of_le (Heap.lt_size e) z) (Nat.lt_irrefl _)
  have cellK : ∀ x c, X.env.cells.lookup x = some c → ∀ v, s.heap.IsCell c v → h'.IsCell c v := fun x c e v ⟨o, ho, hd⟩ => by
    have nch : c ∉ ch := fun z => (hch c z).2.2.1 x c e rfl
    by_cases hc : c ∈ X.fs
    · obtain ⟨sl, q⟩ := slot c o (I.cne x c e) hc nch ho (I.freeC x c e)
      exact ⟨_, q, hd⟩
    · exact ⟨o, keep c o (I.cne x c e) hc nch ho (I.freeC x c e), hd⟩
  refine ⟨I.ok, I.os, hg, ⟨fun b o e n hb hx => ?_, fun b o e n hb hx => ?_, fun b o e n hx => ?_, fun b o e hx => ?_, fun b xs e => tups b xs (I.base.tups b xs e), fun b o xs e => frzs b o xs (I.base.frzs b o xs e), fun b ps e => ?_⟩, ?_, fun x c e => ?_, ?_, fun x c e => ?_, fun p hp => ?_, hok, I.len⟩
  · exact keep b o (neL b o e) hb (neC b o e hx) (I.base.keep b o e n hb hx) (I.base.free b o e n hx)
  · obtain ⟨sl, e1⟩ := I.base.slot b o e n hb hx
    obtain ⟨sl', e2⟩ := slot b _ (neL b o e) hb (neC b o e hx) e1 (I.base.free b o e n hx)
    exact ⟨sl', e2⟩
  · obtain ⟨o', e1⟩ := I.base.there b o e hx
    exact free b o' (neC b o e hx) e1 (I.base.free b o e n hx)
  · obtain ⟨o', e1⟩ := I.base.there b o e hx
    exact there b o' (neC b o e hx) e1
  · obtain ⟨m1, e1⟩ := I.base.tbls b ps e
    obtain ⟨m2, e2⟩ := tbls b _ e1
    exact ⟨m1 ++ m2, by rw [e2, Array.append_assoc]⟩
  · obtain ⟨m, hn, hl⟩ := I.loc
    refine ⟨m, ns m hn, fun i x v e1 e2 e3 => ?_⟩
    obtain ⟨u, r, l⟩ := hl i x v e1 e2 e3
    refine ⟨u, r, ?_⟩
    rcases l with l | ⟨k, c, e, z⟩
    · exact .inl l
    · exact .inr ⟨k, c, e, cellK x c e _ z⟩
  · obtain ⟨v, z⟩ := I.cell x c e
    exact ⟨v, cellK x c e v z⟩
  · obtain ⟨m, ⟨o, _, _, ho, _⟩, _⟩ := I.loc
    exact free _ o (fun z => (hch _ z).2.1 rfl) ho I.free
  · obtain ⟨v, o, ho, hd⟩ := I.cell x c e
    exact free c o (fun z => (hch c z).2.2.1 x c e rfl) ho (I.freeC x c e)
  · obtain ⟨e, n, ne, nf, d⟩ := I.pin p hp
    have nch : p.1 ∉ ch := fun z => (hch p.1 z).2.2.2 p hp rfl
    exact ⟨keep p.1 p.2 ne nf nch e n, free p.1 p.2 nch e n, ne, nf, d⟩
theorem Inv.un {t' : Nat} (I : Inv X pins σ H s) (u : Un X.fs [] H H' s.heap h') (hok : HOk X.prog X.w H' h') : Inv X pins σ H' { s with heap := h', toks := t' } := by
  obtain ⟨m, ⟨o, es, ep, ho, r⟩, _⟩ := id I.loc
  obtain ⟨sl, hL⟩ := u.any ho I.free (by simp)
  exact I.step (g' := s.gens) (d' := s.drawn) (ch := []) (fun _ z => nomatch z) (fun b o _ hb _ e n => u.keep b o e n hb (by simp)) (fun b o _ hb _ e n => u.slot b o e n hb (by simp)) (fun b o _ e n => u.free b o e n (by simp)) (fun b o _ e => u.there b o e (by simp)) u.tups u.frzs u.tbls (fun m' hm => by
    obtain ⟨o', es', ep', ho', r'⟩ := hm
    rw [ho] at ho'; cases ho'
    exact ⟨_, es', ep', hL, r'⟩) hok I.bare
theorem Inv.call {g' : Array GenState} {t' : Nat} {d' : Drawn} {ch : List Addr} (I : Inv X pins σ H s) (u : Un (frs X.stack) ch H H' s.heap h') (hok : HOk X.prog X.w H' h') (hg : AllBare g')
    (hch : ∀ b ∈ ch, (b ∈ X.ex ∨ X.s₀.heap.objs.size ≤ b) ∧ b ≠ X.env.locals ∧ (∀ x c, X.env.cells.lookup x = some c → c ≠ b) ∧ ∀ p ∈ X.pn ++ pins, p.1 ≠ b) :
    Inv X pins σ H' { s with heap := h', gens := g', drawn := d', toks := t' } := by
  obtain ⟨m, ⟨o, es, ep, ho, r⟩, _⟩ := id I.loc
  obtain ⟨sl, hL⟩ := u.any ho I.free fun z => (hch _ z).2.1 rfl
  exact I.step (ch := ch) hch (fun b o hL hb hc e n => u.keep b o e n (fun z => (List.mem_cons.mp (I.stkSub b z)).elim hL hb) hc) (fun b o _ _ hc e n => u.any e n hc) (fun b o hc e n => u.free b o e n hc) (fun b o hc e => u.there b o e hc) u.tups u.frzs u.tbls (fun m' hm => by
    obtain ⟨o', es', ep', ho', r'⟩ := hm
    rw [ho] at ho'; cases ho'
    exact ⟨_, es', ep', hL, r'⟩) hok hg
theorem Inv.turned {t' : Nat} {it : Addr} (I : Inv X pins σ H s) (k : ∀ b o, b ≠ it → s.heap.get? b = some o → h'.get? b = some o) (hn : H it = none) (hL : it ≠ X.env.locals)
    (h1 : it ∈ X.ex ∨ X.s₀.heap.objs.size ≤ it) (h2 : ∀ x c, X.env.cells.lookup x = some c → c ≠ it) (h3 : ∀ p ∈ X.pn ++ pins, p.1 ≠ it) : Inv X pins σ H { s with heap := h', toks := t' } := by
  have nit : ∀ b u, H b = some u → b ≠ it := fun b u e z => by rw [z, hn] at e; cases e
  refine I.step (g' := s.gens) (d' := s.drawn) (ch := [it]) (fun b hb => ?_) (fun b o _ _ hc e _ => k b o (fun z => hc (by simp [z])) e) (fun b o _ _ hc e _ => ⟨o.slots, k b o (fun z => hc (by simp [z])) e⟩) (fun _ _ _ _ n => n)
    (fun b o hc e => ⟨o, k b o (fun z => hc (by simp [z])) e⟩) (fun _ _ e => e) (fun _ _ _ e => e) (fun b ps e => ⟨#[], by rw [e]; simp⟩) (fun m hm => ?_) (fun b u e => ?_) I.bare
  · have e : b = it := by simpa using hb
    subst e
    exact ⟨h1, hL, h2, h3⟩
  · obtain ⟨o, es, ep, ho, r⟩ := hm
    exact ⟨o, es, ep, k _ o (Ne.symm hL) ho, r⟩
  · refine (I.hok b u e).stay (fun c v hc q => k c v ?_ q) (fun _ q => q) fun _ _ q => q
    rcases hc with z | z
    · rw [z]; exact nit b u e
    · exact nit c _ z
theorem Inv.tok (I : Inv X pins σ H s) (t : Nat) : Inv X pins σ H { s with toks := t } := I.un (h' := s.heap) (t' := t) Un.refl I.hok
theorem Inv.kept {t' : Nat} (I : Inv X pins σ H s) (k : ∀ b u, s.heap.get? b = some u → h'.get? b = some u) : Inv X pins σ H { s with heap := h', toks := t' } := I.un (Un.kept k) (I.hok.kept k)
theorem Inv.laid {a : Addr} {o : HO} {t' : Nat} (I : Inv X pins σ H s) (k : ∀ b u, s.heap.get? b = some u → h'.get? b = some u) (hp : s.heap.objs.size ≤ a) (new : ObjOk X.prog X.w (upd H a o) h' a o) :
    Inv X pins σ (upd H a o) { s with heap := h', toks := t' } := I.un (Un.laid k hp (I.hok.fresh hp)) (I.hok.laid k hp new)
theorem Inv.write {x e : Addr} {o : HO} {t' : Nat} (I : Inv X pins σ H s) (mu : Mut (H x)) (he : e = x ∨ H e = some (.own x)) (k : ∀ b u, b ≠ e → s.heap.get? b = some u → h'.get? b = some u) (heo : ∃ u, h'.get? e = some u)
    (new : ObjOk X.prog X.w (upd H x o) h' x o) : Inv X pins σ (upd H x o) { s with heap := h', toks := t' } := I.un (Un.write mu he k heo) (I.hok.write mu he k heo new)
theorem Inv.weak {σ' : List (Option V)} (I : Inv X pins σ H s) (hl : σ'.length = σ.length) (w : ∀ (i : Nat) v, σ'[i]? = some (some v) → σ[i]? = some (some v)) : Inv X pins σ' H s :=
  ⟨I.ok, I.os, I.bare, I.base, let ⟨m, hn, hl'⟩ := I.loc; ⟨m, hn, fun i x v e1 e2 e3 => hl' i x v e1 (w i v e2) e3⟩, I.cell, I.free, I.freeC, I.pin, I.hok, hl.trans I.len⟩
theorem Inv.pins_of {pins' : List (Addr × Obj)} (I : Inv X pins σ H s) (h : ∀ p ∈ pins', s.heap.get? p.1 = some p.2 ∧ H p.1 = none ∧ p.1 ≠ X.env.locals ∧ p.1 ∉ X.fs ∧ ∀ v, p.2.data ≠ .cell v) : Inv X pins' σ H s :=
  ⟨I.ok, I.os, I.bare, I.base, I.loc, I.cell, I.free, I.freeC, fun p hp => (List.mem_append.mp hp).elim (fun z => I.pin p (List.mem_append_left _ z)) (h p), I.hok, I.len⟩
theorem nodup_ix {N : List Str} (hN : N.Nodup) {i j : Nat} {x : Str} (a : N[i]? = some x) (b : N[j]? = some x) : i = j := by
  obtain ⟨h1, e1⟩ := List.getElem?_eq_some_iff.mp a
  obtain ⟨h2, e2⟩ := List.getElem?_eq_some_iff.mp b
  exact (List.getElem_inj hN).mp (e1.trans e2.symm)
theorem store_ok2 {M : Model} {A : Around} {E : Value → Shared → Prop} {i : Nat} {x : Str} {v : V} {u : Value} {Q : Unit → Shared → Prop} (I : Inv X pins σ H s) (hN : X.N.Nodup) (hi : X.N[i]? = some x) (hx : Loc X.env.scope x) (r : RelV v u)
    (h : ∀ s', Inv X pins (σ.set i (some v)) H s' → (∃ a, Heap.SameBut a s.heap s'.heap ∧ (a = X.env.locals ∨ X.env.cells.lookup x = some a)) → Q () s') (hf : X.fn x = true ∨ X.env.scope.names.lookup x = some .local := by first | exact .inl rfl | exact .inr rfl | assumption) : wpAny M A (storeName X.env x u) Q E s := by
  obtain ⟨m, hn, hl⟩ := id I.loc
  have hcls : (X.env.scope.kind == .class || (X.env.scope.kind == .module && X.env.locals != X.env.globals)) = false := by rw [I.ok.kind]; rfl
  have hiσ : i < σ.length := by rw [I.len]; exact (List.getElem?_eq_some_iff.mp hi).1
  have cne := I.cne
  have tracked : ∀ {a : Addr} {h' : Heap}, (∃ o, s.heap.get? a = some o ∧ H a = none) → Heap.SameBut a s.heap h' → HOk X.prog X.w H h' := fun {a h'} ha hs b ob e => by
    obtain ⟨_, _, hfree⟩ := ha
    refine (I.hok b ob e).stay (fun c w' hc q => (hs.2 c ?_).trans q) (fun _ q => q) fun _ _ q => q
    rintro rfl
    rcases hc with rfl | hc
    · rw [hfree] at e; cases e
    · rw [hfree] at hc; cases hc
  rcases hx with hk | hk
  · refine wpAny_storeName_local hk hn (fun h' hn' hs => ?_) hcls
    obtain ⟨oL, _, _, hoL, _⟩ := id hn
    refine h _ ⟨I.ok, I.os, I.bare, ⟨fun b o e n hb hx => ?_, fun b o e n hb hx => ?_, I.base.free, fun b o e hx => ?_, I.base.tups, I.base.frzs, I.base.tbls⟩, ⟨_, hn', fun j y v' e1 e2 e3 => ?_⟩, fun y c e => ?_, I.free, I.freeC, fun p hp => ?_, tracked ⟨oL, hoL, I.free⟩ hs, by simpa using I.len⟩ ⟨_, hs, .inl rfl⟩
    · exact (hs.2 b (Nat.ne_of_lt (Nat.lt_of_lt_of_le (Heap.lt_size e) I.ok.above))).trans (I.base.keep b o e n hb hx)
    · obtain ⟨sl, e1⟩ := I.base.slot b o e n hb hx
      exact ⟨sl, (hs.2 b (Nat.ne_of_lt (Nat.lt_of_lt_of_le (Heap.lt_size e) I.ok.above))).trans e1⟩
    · obtain ⟨o', e1⟩ := I.base.there b o e hx
      exact ⟨o', (hs.2 b (Nat.ne_of_lt (Nat.lt_of_lt_of_le (Heap.lt_size e) I.ok.above))).trans e1⟩
    · by_cases hj : j = i
      · subst hj
        rw [hi] at e1; cases e1
        rw [List.getElem?_set_self hiσ] at e2
        cases e2
        exact ⟨u, r, .inl ⟨hk, by simp⟩⟩
      · rw [List.getElem?_set_ne (Ne.symm hj)] at e2
        obtain ⟨u', r', q⟩ := hl j y v' e1 e2 e3
        refine ⟨u', r', ?_⟩
        rcases q with ⟨k, e⟩ | ⟨k, c, e, z⟩
        · refine .inl ⟨k, ?_⟩
          have : y ≠ x := fun e => hj (nodup_ix hN e1 (e ▸ hi))
          simp [this, e]
        · exact .inr ⟨k, c, e, z.sameBut hs (cne y c e)⟩
    · obtain ⟨w', z⟩ := I.cell y c e
      exact ⟨w', z.sameBut hs (cne y c e)⟩
    · obtain ⟨e, n, ne, nf, d⟩ := I.pin p hp
      exact ⟨(hs.2 p.1 ne).trans e, n, ne, nf, d⟩
  · have hfn : X.fn x = true := by
      rcases hf with z | z
      · exact z
      · rw [z] at hk; cases hk
    obtain ⟨c, hc⟩ := I.ok.has x (.inl hk)
    obtain ⟨w', z⟩ := I.cell x c hc
    refine wpAny_storeName_cell I.ok.kind hk hc z (fun h' hc' hs => ?_)
    obtain ⟨oc, hoc, hocd⟩ := id z
    refine h { s with heap := h' } ⟨I.ok, I.os, I.bare, ⟨fun b o e n hb hx => ?_, fun b o e n hb hx => ?_, I.base.free, fun b o e hx => ?_, I.base.tups, I.base.frzs, I.base.tbls⟩, ⟨m, hn.sameBut hs (Ne.symm (cne x c hc)), fun j y v' e1 e2 e3 => ?_⟩, fun y c' e => ?_, I.free, I.freeC, fun p hp => ?_, tracked ⟨oc, hoc, I.freeC x c hc⟩ hs, by simpa using I.len⟩ ⟨c, hs, .inr hc⟩
    · exact (hs.2 b (Nat.ne_of_lt (Nat.lt_of_lt_of_le (Heap.lt_size e) (I.ok.cab x c hfn hc)))).trans (I.base.keep b o e n hb hx)
    · obtain ⟨sl, e1⟩ := I.base.slot b o e n hb hx
      exact ⟨sl, (hs.2 b (Nat.ne_of_lt (Nat.lt_of_lt_of_le (Heap.lt_size e) (I.ok.cab x c hfn hc)))).trans e1⟩
    · obtain ⟨o', e1⟩ := I.base.there b o e hx
      exact ⟨o', (hs.2 b (Nat.ne_of_lt (Nat.lt_of_lt_of_le (Heap.lt_size e) (I.ok.cab x c hfn hc)))).trans e1⟩
    · by_cases hj : j = i
      · subst hj
        rw [hi] at e1; cases e1
        rw [List.getElem?_set_self hiσ] at e2
        cases e2
        exact ⟨u, r, .inr ⟨.inl hk, c, hc, hc'⟩⟩
      · rw [List.getElem?_set_ne (Ne.symm hj)] at e2
        obtain ⟨u', r', q⟩ := hl j y v' e1 e2 e3
        refine ⟨u', r', ?_⟩
        rcases q with q | ⟨k, c', e, z'⟩
        · exact .inl q
        · refine .inr ⟨k, c', e, z'.sameBut hs ?_⟩
          rintro rfl
          exact hj (nodup_ix hN e1 (I.ok.inj _ _ _ e hc ▸ hi))
    · by_cases hcc : c' = c
      · subst hcc; exact ⟨_, hc'⟩
      · obtain ⟨w2, z2⟩ := I.cell y c' e
        exact ⟨w2, z2.sameBut hs hcc⟩
    · obtain ⟨e, n, ne, nf, d⟩ := I.pin p hp
      refine ⟨(hs.2 p.1 ?_).trans e, n, ne, nf, d⟩
      intro q
      rw [q, hoc] at e
      have q' : oc = p.2 := Option.some.inj e
      exact d w' (by rw [← q']; exact hocd)
theorem store_ok {M : Model} {A : Around} {E : Value → Shared → Prop} {i : Nat} {x : Str} {v : V} {u : Value} {Q : Unit → Shared → Prop} (I : Inv X pins σ H s) (hN : X.N.Nodup) (hi : X.N[i]? = some x) (hx : Loc X.env.scope x) (r : RelV v u)
    (h : ∀ s', Inv X pins (σ.set i (some v)) H s' → Q () s') (hf : X.fn x = true ∨ X.env.scope.names.lookup x = some .local := by first | exact .inl rfl | exact .inr rfl | assumption) : wpAny M A (storeName X.env x u) Q E s :=
  store_ok2 I hN hi hx r (fun s' I' _ => h s' I') hf
end
noncomputable abbrev XK := Value → Option Addr → Hp → Prop
noncomputable abbrev St := List (Option V)
noncomputable abbrev VK := V → Hp → Prop
noncomputable abbrev TE := St → Hp → VK → Prop
noncomputable abbrev TT := St → Hp → (Bool → Hp → Prop) → Prop
noncomputable abbrev TA := St → Hp → (List V → Hp → Prop) → Prop
structure Ends where
  nx : St → Hp → Prop
  rt : VK
  bk : St → Hp → Prop := fun _ _ => False
  ct : St → Hp → Prop := fun _ _ => False
noncomputable abbrev TS := Ends → St → Hp → Prop
noncomputable def EP (X : Cx) (pins : List (Addr × Obj)) (σ : St) (Q : VK) (u : Value) (s' : Shared) : Prop := ∃ v H', Inv X pins σ H' s' ∧ RelV v u ∧ Q v H'
noncomputable def TP (X : Cx) (pins : List (Addr × Obj)) (σ : St) (Q : Bool → Hp → Prop) (b : Bool) (s' : Shared) : Prop := ∃ H', Inv X pins σ H' s' ∧ Q b H'
noncomputable def AP (X : Cx) (pins : List (Addr × Obj)) (σ : St) (Q : List V → Hp → Prop) (us : List Value) (s' : Shared) : Prop := ∃ vs H', Inv X pins σ H' s' ∧ Vals vs us ∧ Q vs H'
noncomputable def SP (X : Cx) (pins : List (Addr × Obj)) (D : Ends) (f : Flow) (s' : Shared) : Prop :=
  match f with
  | .next => ∃ σ' H', Inv X pins σ' H' s' ∧ D.nx σ' H'
  | .brk => ∃ σ' H', Inv X pins σ' H' s' ∧ D.bk σ' H'
  | .cont => ∃ σ' H', Inv X pins σ' H' s' ∧ D.ct σ' H'
  | .ret u => ∃ v σ' H', Inv X pins σ' H' s' ∧ RelV v u ∧ D.rt v H'
noncomputable def PE (X : Cx) (e : Expr) (t : TE) : Prop :=
  ∀ (pins : List (Addr × Obj)) (s : Shared) (σ : St) (H : Hp) (Q : VK), Inv X pins σ H s → t σ H Q → wpAny (model X.prog X.w) X.A (eval e X.env) (EP X pins σ Q) X.xe s
noncomputable def PT (X : Cx) (e : Expr) (t : TT) : Prop :=
  ∀ (pins : List (Addr × Obj)) (s : Shared) (σ : St) (H : Hp) (Q : Bool → Hp → Prop), Inv X pins σ H s → t σ H Q → wpAny (model X.prog X.w) X.A (isTrue e X.env (eval e X.env)) (TP X pins σ Q) X.xe s
noncomputable def PW (X : Cx) (e : Expr) (t : TT) : Prop :=
  ∀ (whole : Sem Value) (pins : List (Addr × Obj)) (s : Shared) (σ : St) (H : Hp) (Q : Bool → Hp → Prop), Inv X pins σ H s → t σ H Q → wpAny (model X.prog X.w) X.A (isTrue e X.env whole) (TP X pins σ Q) X.xe s
theorem PW.pt {X : Cx} {e : Expr} {t : TT} (h : PW X e t) : PT X e t := h _
noncomputable def PA (X : Cx) (es : List Expr) (t : TA) : Prop :=
  ∀ (pos : Pos) (pins : List (Addr × Obj)) (s : Shared) (σ : St) (H : Hp) (Q : List V → Hp → Prop), Inv X pins σ H s → t σ H Q → wpAny (model X.prog X.w) X.A (spliced (backTo pos (starEach es X.env))) (AP X pins σ Q) X.xe s
noncomputable def PS (X : Cx) (st : Stmt) (t : TS) : Prop :=
  ∀ (pins : List (Addr × Obj)) (s : Shared) (σ : St) (H : Hp) (D : Ends), Inv X pins σ H s → t D σ H → wpAny (model X.prog X.w) X.A (exec st X.env) (SP X pins D) X.xe s
noncomputable def PSs (X : Cx) (st : List Stmt) (t : TS) : Prop :=
  ∀ (pins : List (Addr × Obj)) (s : Shared) (σ : St) (H : Hp) (D : Ends), Inv X pins σ H s → t D σ H → wpAny (model X.prog X.w) X.A (execs st X.env) (SP X pins D) X.xe s
theorem thn {α : Type} {t : Sem α} {Q Q' : α → Shared → Prop} {M : Model} {A : Around} {E : Value → Shared → Prop} {s : Shared} (h : wpAny M A t Q E s) (hQ : ∀ a s, Q a s → Q' a s) : wpAny M A t Q' E s := wpAny_mono h hQ fun _ _ x => x
end L2
namespace L2
open PySem PySem.Spec PyProof.Rows
section
variable {X : Cx}
noncomputable def tVar (i : Nat) : TE := fun σ H Q => ∃ v, σ[i]? = some (some v) ∧ Q v H
noncomputable def tC (v : V) : TE := fun _ H Q => Q v H
theorem pe_var {i : Nat} {x : Str} {pos : Pos} (hN : X.N[i]? = some x) (hv : Vis X.env.scope x) (hd : (x == ("__debug__" : Str)) = false := by decide) (hcd : (x == ("__classdict__" : Str)) = false := by decide) : PE X (.Name x pos) (tVar i) := by
  intro pins s σ H Q I h
  obtain ⟨v, e, h⟩ := h
  obtain ⟨m, hn, hl⟩ := I.loc
  obtain ⟨u, r, l⟩ := hl i x v hN e hv
  have fin : EP X pins σ Q u s := ⟨v, H, I, r, h⟩
  rcases l with ⟨hk, hm⟩ | ⟨hk, c, hc, hcell⟩
  · exact wpAny_Name (wpAny_loadName_local I.ok.kind hk hn hm fin) hd
  · rcases hk with hk | hk
    · exact wpAny_Name (wpAny_loadName_cell I.ok.kind hk hc hcell fin) hd
    · exact wpAny_Name (wpAny_loadName_free I.ok.kind hk hc hcell fin hcd) hd
theorem pe_int {i j pos} : PE X (.Constant (.int i) j pos) (tC (.int i)) := fun _ _ _ H _ I h => wpAny_Constant_int ⟨.int i, H, I.tok _, ⟨_, rfl⟩, h⟩
theorem pe_bl {b j pos} : PE X (.Constant (.bool b) j pos) (tC (.bl b)) := fun _ _ _ H _ I h => Constant_bool ⟨.bl b, H, I, rfl, h⟩
theorem pe_str {x j pos} : PE X (.Constant (.str x) j pos) (tC (.str x)) := fun _ _ _ H _ I h => Calls.Constant_str ⟨.str x, H, I.tok _, ⟨_, rfl⟩, h⟩
noncomputable def Gl (X : Cx) (x : Str) : Prop := X.env.kindOf x = some .globalImplicit
theorem ld_glob {E : Value → Shared → Prop} {pins : List (Addr × Obj)} {s : Shared} {σ : St} {H : Hp} {x : Str} {u : Value} {pos : Pos} {Q : Value → Shared → Prop} (I : Inv X pins σ H s) (hg : Gl X x) (hm : X.mg x = some u) (h : Q u s)
    (hd : (x == ("__debug__" : Str)) = false := by decide) : wpAny (model X.prog X.w) X.A (eval (.Name x pos) X.env) Q E s :=
  Calls.Name_function_global I.ok.kind hg (Calls.loadGlobal_global (by rw [I.ok.glob]; exact I.mod.glob.keeps I.bk) hm h) hd
theorem ld_blt {E : Value → Shared → Prop} {pins : List (Addr × Obj)} {s : Shared} {σ : St} {H : Hp} {x : Str} {u : Value} {pos : Pos} {Q : Value → Shared → Prop} (I : Inv X pins σ H s) (hg : Gl X x) (hm : X.mg x = none) (hv : bootBuiltins x = some u) (h : Q u s)
    (hn : x ≠ "__name__" := by decide) (hd : (x == ("__debug__" : Str)) = false := by decide) : wpAny (model X.prog X.w) X.A (eval (.Name x pos) X.env) Q E s := by
  obtain ⟨mb, h1, h2⟩ := I.mod.blt
  exact Calls.Name_function_global I.ok.kind hg (Calls.loadGlobal_builtin (by rw [I.ok.glob]; exact I.mod.glob.keeps I.bk) hm (by rw [I.ok.blt]; exact h1.keeps I.bk) ((h2 x hn).trans hv) h) hd
theorem pe_glob {x : Str} {v : V} {u : Value} {pos : Pos} (hg : Gl X x) (hm : X.mg x = some u) (r : RelV v u) (hd : (x == ("__debug__" : Str)) = false := by decide) : PE X (.Name x pos) (tC v) :=
  fun _ _ _ H _ I h => ld_glob I hg hm ⟨v, H, I, r, h⟩ hd
theorem pe_bltn {x : Str} {v : V} {u : Value} {pos : Pos} (hg : Gl X x) (hm : X.mg x = none) (hv : bootBuiltins x = some u) (r : RelV v u) (hn : x ≠ "__name__" := by decide) (hd : (x == ("__debug__" : Str)) = false := by decide) : PE X (.Name x pos) (tC v) :=
  fun _ _ _ H _ I h => ld_blt I hg hm hv ⟨v, H, I, r, h⟩ hn hd
variable {a b : Expr} {ta tb : TE} {pos : Pos}
noncomputable def PC (X : Cx) (op : CmpOp) (a b : Expr) (t : TE) : Prop :=
  ∀ (pins : List (Addr × Obj)) (s : Shared) (σ : St) (H : Hp) (Q : VK), Inv X pins σ H s → t σ H Q →
    wpAny (model X.prog X.w) X.A (eval a X.env) (fun v s₁ => wpAny (model X.prog X.w) X.A (eval b X.env) (fun u s₂ => wpAny (model X.prog X.w) X.A (compareOp op v u) (EP X pins σ Q) X.xe s₂) X.xe s₁) X.xe s
noncomputable def tB (t : TE) : TT := fun σ H Q => t σ H fun x H1 => ∃ c, x = .bl c ∧ Q c H1
theorem pe_cmp {op : CmpOp} {t : TE} (h : PC X op a b t) (h1 : behindInMarks op b = false := by first | exact nobehind _ (by decide) (by decide) | rfl) : PE X (.Compare a [op] [b] pos) t := fun pins s σ H Q I hw => wpAny_Compare1 (h pins s σ H Q I hw) h1
theorem pt_cmp {op : CmpOp} {t : TE} (h : PC X op a b t) (h1 : behindInMarks op b = false := by first | exact nobehind _ (by decide) (by decide) | rfl) : PT X (.Compare a [op] [b] pos) (tB t) := by
  intro pins s σ H Q I hw
  refine wpAny_isTrue_Compare1 (thn (h pins s σ H _ I hw) fun v s1 h1 => thn h1 fun u s2 h2 => thn h2 fun c s3 ⟨x, H1, I1, r1, q1⟩ => ?_) h1
  obtain ⟨d, rfl, q⟩ := q1
  cases r1
  exact wpAny_truthy_bool ⟨H1, I1, q⟩
theorem pt_val {e : Expr} {t : TE} (h : PE X e t) (he : ∀ whole, isTrue e X.env whole = (do let v ← whole; standAt e.pos; holding [v] (truthy v)) := by intro _; rfl) : PT X e (tB t) := by
  intro pins s σ H Q I hw
  refine isTrue_plain (thn (h pins s σ H _ I hw) fun v s1 ⟨x, H1, I1, r1, q1⟩ => ?_) (he _)
  obtain ⟨d, rfl, q⟩ := q1
  cases r1
  exact wpAny_truthy_bool ⟨H1, I1, q⟩
variable {tA tB' : TT} {rest : List Expr}
noncomputable def tAnd (t u : TT) : TT := fun σ H Q => t σ H fun c H1 => if c = true then u σ H1 Q else Q false H1
noncomputable def tOr (t u : TT) : TT := fun σ H Q => t σ H fun c H1 => if c = true then Q true H1 else u σ H1 Q
noncomputable def tNot (t : TT) : TT := fun σ H Q => t σ H fun c H1 => Q (!c) H1
theorem pw_and1 (ha : PT X a tA) : PW X (.BoolOp .And [a] pos) tA := by
  intro wh pins s σ H Q I h
  refine isTrue_and (thn (ha pins s σ H Q I h) fun c s1 e => ?_)
  cases c with
  | true => exact isTrue_and_nil e
  | false => exact e
theorem pw_or1 (ha : PT X a tA) : PW X (.BoolOp .Or [a] pos) tA := by
  intro wh pins s σ H Q I h
  refine isTrue_or (thn (ha pins s σ H Q I h) fun c s1 e => ?_)
  cases c with
  | false => exact isTrue_or_nil e
  | true => exact e
theorem pw_and (ha : PT X a tA) (hb : PW X (.BoolOp .And (b :: rest) pos) tB') : PW X (.BoolOp .And (a :: b :: rest) pos) (tAnd tA tB') := by
  intro wh pins s σ H Q I h
  refine isTrue_and (thn (ha pins s σ H _ I h) fun c s1 ⟨H1, I1, q1⟩ => ?_)
  cases c with
  | true => exact hb wh pins s1 σ H1 Q I1 q1
  | false => exact ⟨H1, I1, q1⟩
theorem pw_or (ha : PT X a tA) (hb : PW X (.BoolOp .Or (b :: rest) pos) tB') : PW X (.BoolOp .Or (a :: b :: rest) pos) (tOr tA tB') := by
  intro wh pins s σ H Q I h
  refine isTrue_or (thn (ha pins s σ H _ I h) fun c s1 ⟨H1, I1, q1⟩ => ?_)
  cases c with
  | true => exact ⟨H1, I1, q1⟩
  | false => exact hb wh pins s1 σ H1 Q I1 q1
theorem pt_not (ha : PT X a tA) : PT X (.UnaryOp .Not a pos) (tNot tA) := by
  intro pins s σ H Q I h
  exact isTrue_not (ha pins s σ H (fun c H1 => Q (!c) H1) I h)
noncomputable def tAndV (ta tb : TE) : TE := fun σ H Q => ta σ H fun x H1 => ∃ c, x = .bl c ∧ if c = true then tb σ H1 Q else Q (.bl false) H1
noncomputable def tNotV (ta : TE) : TE := fun σ H Q => ta σ H fun x H1 => ∃ c, x = .bl c ∧ Q (.bl (!c)) H1
theorem pe_one {op} {t : TE} (h : PE X a t) : PE X (.BoolOp op [a] pos) t := fun pins s σ H Q I hw => BoolOp_one (h pins s σ H Q I hw)
theorem pe_and (ha : PE X a ta) (hb : PE X (.BoolOp .And (b :: rest) pos) tb) : PE X (.BoolOp .And (a :: b :: rest) pos) (tAndV ta tb) := by
  intro pins s σ H Q I h
  refine BoolOp_and (thn (ha pins s σ H _ I h) fun v s1 ⟨x, H1, I1, r1, q1⟩ => ?_)
  obtain ⟨c, rfl, q1⟩ := q1
  cases r1
  refine wpAny_truthy_bool ?_
  cases c with
  | true => exact hb pins s1 σ H1 Q I1 q1
  | false => exact ⟨.bl false, H1, I1, rfl, q1⟩
theorem pe_not (ha : PE X a ta) : PE X (.UnaryOp .Not a pos) (tNotV ta) := by
  intro pins s σ H Q I h
  refine UnaryOp_ (thn (ha pins s σ H _ I h) fun v s1 ⟨x, H1, I1, r1, q1⟩ => ?_)
  obtain ⟨c, rfl, q1⟩ := q1
  cases r1
  exact not_of (wpAny_truthy_bool ⟨.bl (!c), H1, I1, rfl, q1⟩)
end
end L2
namespace L2
open PySem PySem.Spec PyProof.Rows
noncomputable def SqL (K : PySem.W.Frag) (H : Hp) (a : Addr) (xs : List V) : Prop :=
  Rd H a (.lst xs) ∨
    ∃ (o : Obj) (its : Array Value) (n : Nat), K.lookup a = some o ∧ o.cls = .type "list" ∧ o.dict = none ∧ o.data = .seq its n ∧ its.size ≤ sizeLine ∧ Vals xs its.toList
noncomputable def SqT (K : PySem.W.Frag) (H : Hp) (a : Addr) (xs : List V) : Prop :=
  Rd H a (.tup xs) ∨
    ∃ (o : Obj) (its : Array Value) (n : Nat), K.lookup a = some o ∧ o.cls = .type "tuple" ∧ o.data = .seq its n ∧ its.size ≤ sizeLine ∧ Vals xs its.toList
noncomputable def absV : Value → Option V
  | .none => some .non
  | .bool b => some (.bl b)
  | .int i _ => some (.int i)
  | .str x _ => some (.str x)
  | .bytes b _ => some (.byt b)
  | .float b _ => some (.flt b)
  | .ref a => some (.ref a)
  | .type n => some (.ty n)
  | _ => none
theorem RelV.abs {x : V} {u : Value} (r : RelV x u) : absV u = some x := by
  cases x with
  | non => cases r; rfl
  | bl _ => cases r; rfl
  | int _ => obtain ⟨t, rfl⟩ := r; rfl
  | str _ => obtain ⟨t, rfl⟩ := r; rfl
  | byt _ => obtain ⟨t, rfl⟩ := r; rfl
  | flt _ => obtain ⟨t, rfl⟩ := r; rfl
  | ref _ => cases r; rfl
  | ty _ => cases r; rfl
theorem RelV.inj {x y : V} {u : Value} (r : RelV x u) (q : RelV y u) : x = y := Option.some.inj (r.abs.symm.trans q.abs)
theorem Vals.inj : ∀ {xs ys : List V} {us : List Value}, Vals xs us → Vals ys us → xs = ys
  | _, _, _, .nil, .nil => rfl
  | _, _, _, .cons r t, .cons r' t' => by rw [r.inj r', Vals.inj t t']
section
variable {X : Cx} {pins : List (Addr × Obj)} {σ : St} {H : Hp} {s : Shared} {a : Addr} {xs ys : List V}
theorem SqL.of {K : PySem.W.Frag} (h : H a = some (.lst xs)) : SqL K H a xs := .inl (.inl h)
theorem SqT.of {K : PySem.W.Frag} (h : H a = some (.tup xs)) : SqT K H a xs := .inl (.inl h)
theorem Inv.list (I : Inv X pins σ H s) (h : SqL X.K H a xs) : ∃ its : List Value, Vals xs its ∧ PlainL s.heap a its.toArray ∧ xs.length ≤ sizeLine := by
  rcases h with h | ⟨o, its, n, hk, hc, hd, hs, hz, r⟩
  · obtain ⟨z, its, n, r, e⟩ := h.ok I.hok
    exact ⟨its, r, ⟨_, n, e, rfl, rfl, rfl⟩, z⟩
  · refine ⟨its.toList, r, ⟨o, n, I.kIn a o hk, hc, hd, by simpa using hs⟩, ?_⟩
    have e := r.length
    simp only [Array.length_toList] at e
    omega
theorem Inv.tuple (I : Inv X pins σ H s) (h : SqT X.K H a xs) : ∃ its : List Value, Vals xs its ∧ IsTup s.heap a its.toArray ∧ xs.length ≤ sizeLine := by
  rcases h with h | ⟨o, its, n, hk, hc, hs, hz, r⟩
  · obtain ⟨z, its, r, p⟩ := h.ok I.hok
    exact ⟨its, r, p, z⟩
  · refine ⟨its.toList, r, ⟨o, I.kIn a o hk, hc, n, by simpa using hs⟩, ?_⟩
    have e := r.length
    simp only [Array.length_toList] at e
    omega
theorem Inv.list_inj (I : Inv X pins σ H s) (h : SqL X.K H a xs) (h' : SqL X.K H a ys) : xs = ys := by
  obtain ⟨its, r, ⟨o, n, e, _, _, d⟩, _⟩ := I.list h
  obtain ⟨its', r', ⟨o', n', e', _, _, d'⟩, _⟩ := I.list h'
  rw [e] at e'; cases e'
  rw [d] at d'
  injection d' with d1 _
  have : its = its' := by simpa using congrArg Array.toList d1
  subst this
  exact r.inj r'
theorem Inv.tuple_inj (I : Inv X pins σ H s) (h : SqT X.K H a xs) (h' : SqT X.K H a ys) : xs = ys := by
  obtain ⟨its, r, ⟨o, e, _, n, d⟩, _⟩ := I.tuple h
  obtain ⟨its', r', ⟨o', e', _, n', d'⟩, _⟩ := I.tuple h'
  rw [e] at e'; cases e'
  rw [d] at d'
  injection d' with d1 _
  have : its = its' := by simpa using congrArg Array.toList d1
  subst this
  exact r.inj r'
end
noncomputable abbrev Cx.wish (X : Cx) (E : Value → Shared → Prop) : Cx := { X with xe := E }
noncomputable abbrev Cx.nox (X : Cx) : Cx := X.wish fun _ _ => False
theorem Cx.Ok.wish {X : Cx} (ok : X.Ok) (E : Value → Shared → Prop) : (X.wish E).Ok :=
  ⟨ok.mod, ok.kind, ok.glob, ok.blt, ok.above, ok.inj, ok.has, ok.cab, ok.hd, ok.frames, ok.stk, ok.exf, ok.bs, ok.bsz, ok.noex, ok.exfs, ok.funs, ok.frf⟩
theorem Cx.Ok.unwish {X : Cx} {E : Value → Shared → Prop} (ok : (X.wish E).Ok) : X.Ok :=
  ⟨ok.mod, ok.kind, ok.glob, ok.blt, ok.above, ok.inj, ok.has, ok.cab, ok.hd, ok.frames, ok.stk, ok.exf, ok.bs, ok.bsz, ok.noex, ok.exfs, ok.funs, ok.frf⟩
section
variable {X : Cx} {pins : List (Addr × Obj)} {σ : St} {H : Hp} {s : Shared} {E : Value → Shared → Prop}
theorem Inv.wish (I : Inv X pins σ H s) (E : Value → Shared → Prop) : Inv (X.wish E) pins σ H s := ⟨I.ok.wish E, I.os, I.bare, I.base, I.loc, I.cell, I.free, I.freeC, I.pin, I.hok, I.len⟩
theorem Inv.unwish (I : Inv (X.wish E) pins σ H s) : Inv X pins σ H s := ⟨I.ok.unwish, I.os, I.bare, I.base, I.loc, I.cell, I.free, I.freeC, I.pin, I.hok, I.len⟩
theorem SP.unwish {D : Ends} {f : Flow} {s' : Shared} (h : SP (X.wish E) pins D f s') : SP X pins D f s' := by
  cases f with
  | next => obtain ⟨σ', H', I, q⟩ := h; exact ⟨σ', H', I.unwish, q⟩
  | brk => obtain ⟨σ', H', I, q⟩ := h; exact ⟨σ', H', I.unwish, q⟩
  | cont => obtain ⟨σ', H', I, q⟩ := h; exact ⟨σ', H', I.unwish, q⟩
  | ret u => obtain ⟨v, σ', H', I, r, q⟩ := h; exact ⟨v, σ', H', I.unwish, r, q⟩
theorem PSs.nox {st : List Stmt} {t : TS} (h : PSs X.nox st t) : PSs X st t := fun pins s σ H D I hw =>
  wpAny_mono (h pins s σ H D (I.wish _) hw) (fun _ _ q => q.unwish) fun _ _ z => False.elim z
end
section
variable {X : Cx} {st : Stmt} {rest : List Stmt} {t u : TS} {e : Expr} {te : TE} {pos : Pos}
noncomputable def tNext : TS := fun D σ H => D.nx σ H
noncomputable def tSeq (t u : TS) : TS := fun D σ H => t { D with nx := u D } σ H
theorem pss_nil : PSs X [] tNext := fun _ _ σ H _ I h => wpAny_execs_nil ⟨σ, H, I, h⟩
theorem pss_cons (h1 : PS X st t) (h2 : PSs X rest u) : PSs X (st :: rest) (tSeq t u) := by
  intro pins s σ H D I h
  refine wpAny_execs_cons (thn (h1 pins s σ H { D with nx := u D } I h) fun f s1 q => ?_)
  cases f with
  | next =>
    obtain ⟨σ', H', I', q⟩ := q
    exact h2 pins s1 σ' H' D I' q
  | ret v => exact q
  | brk => exact q
  | cont => exact q
theorem pss_one (h1 : PS X st t) : PSs X [st] t := by
  intro pins s σ H D I h
  refine wpAny_execs_cons (thn (h1 pins s σ H D I h) fun f s1 q => ?_)
  cases f with
  | next => exact wpAny_execs_nil q
  | ret v => exact q
  | brk => exact q
  | cont => exact q
theorem Inv.quiet {pins : List (Addr × Obj)} {σ : St} {H : Hp} {s : Shared} (I : Inv X pins σ H s) : interactive X.env = false := by simp [interactive, I.ok.kind]
noncomputable def tDrop (te : TE) : TS := fun D σ H => te σ H fun _ H1 => D.nx σ H1
theorem ps_expr (he : PE X e te) (hs : swapsWith e none pos.line X.env = pure false := by rfl) : PS X (.Expr e pos) (tDrop te) := by
  intro pins s σ H D I h
  exact wpAny_Expr_any (thn (he pins s σ H _ I h) fun v s1 ⟨x, H1, I1, r1, q1⟩ => ⟨σ, H1, I1, q1⟩) I.quiet hs
noncomputable def tRet (te : TE) : TS := fun D σ H => te σ H D.rt
theorem ps_ret (he : PE X e te) : PS X (.Return (some e) pos) (tRet te) := by
  intro pins s σ H D I h
  exact wpAny_Return_some (thn (he pins s σ H _ I h) fun v s1 ⟨x, H1, I1, r1, q1⟩ => ⟨x, σ, H1, I1, r1, q1⟩)
noncomputable def tIfS (c : TT) (t u : TS) : TS := fun D σ H => c σ H fun b H1 => if b = true then t D σ H1 else u D σ H1
theorem ps_if {c : Expr} {a b : List Stmt} {tc : TT} (hc : PT X c tc) (ha : PSs X a t) (hb : PSs X b u) : PS X (.If c a b pos) (tIfS tc t u) := by
  intro pins s σ H D I h
  refine wpAny_If (thn (hc pins s σ H _ I h) fun d s1 ⟨H1, I1, q1⟩ => ?_)
  cases d with
  | true => exact ha pins s1 σ H1 D I1 q1
  | false => exact hb pins s1 σ H1 D I1 q1
end
noncomputable abbrev TG := V → St → Hp → (St → Hp → Prop) → Prop
noncomputable abbrev TGs := List V → St → Hp → (St → Hp → Prop) → Prop
noncomputable def PG (X : Cx) (target : Expr) (t : TG) : Prop :=
  ∀ (pins : List (Addr × Obj)) (s : Shared) (σ : St) (H : Hp) (v : V) (u : Value) (Q : St → Hp → Prop), Inv X pins σ H s → RelV v u → t v σ H Q →
    wpAny (model X.prog X.w) X.A (assign target X.env u) (fun _ s' => ∃ σ' H', Inv X pins σ' H' s' ∧ Q σ' H') X.xe s
noncomputable def PGs (X : Cx) (ts : List Expr) (t : TGs) : Prop :=
  ∀ (pins : List (Addr × Obj)) (s : Shared) (σ : St) (H : Hp) (vs : List V) (us : List Value) (Q : St → Hp → Prop), Inv X pins σ H s → Vals vs us → t vs σ H Q →
    wpAny (model X.prog X.w) X.A (assignInOrder ((assignEach ts X.env).map (·.2)) us) (fun _ s' => ∃ σ' H', Inv X pins σ' H' s' ∧ Q σ' H') X.xe s
section
variable {X : Cx} {pos : Pos}
noncomputable def gName (i : Nat) : TG := fun v σ H Q => Q (σ.set i (some v)) H
theorem pg_name {i : Nat} {x : Str} (hN : X.N.Nodup) (hi : X.N[i]? = some x) (hx : Loc X.env.scope x) (hf : X.fn x = true ∨ X.env.scope.names.lookup x = some .local := by first | exact .inl rfl | exact .inr rfl | assumption) : PG X (.Name x pos) (gName i) := by
  intro pins s σ H v u Q I r h
  exact wpAny_assign_Name (store_ok I hN hi hx r (fun s' I' => ⟨_, H, I', h⟩) hf)
noncomputable def gNil : TGs := fun vs σ H Q => vs = [] ∧ Q σ H
noncomputable def gCons (t : TG) (u : TGs) : TGs := fun vs σ H Q => ∃ v r, vs = v :: r ∧ t v σ H fun σ' H' => u r σ' H' Q
theorem pgs_nil : PGs X [] gNil := by
  intro pins s σ H vs us Q I r h
  obtain ⟨e, h⟩ := h
  subst e
  cases r
  exact assignInOrder_nil ⟨σ, H, I, h⟩
theorem pgs_cons {e : Expr} {es : List Expr} {t : TG} {u : TGs} (h1 : PG X e t) (h2 : PGs X es u)
    (hs : (assignEach (e :: es) X.env).map (·.2) = assign e X.env :: (assignEach es X.env).map (·.2) := by rfl) : PGs X (e :: es) (gCons t u) := by
  intro pins s σ H vs us Q I r h
  obtain ⟨v, vr, e1, h⟩ := h
  subst e1
  cases r with
  | cons r rr =>
    rw [hs]
    refine assignInOrder_cons (thn (h1 pins s σ H _ _ _ I r h) fun _ s1 ⟨σ1, H1, I1, q1⟩ => ?_)
    exact h2 pins s1 σ1 H1 _ _ Q I1 rr q1
noncomputable def gTup (K : PySem.W.Frag) (n : Nat) (t : TGs) : TG := fun v σ H Q => ∃ a xs, v = .ref a ∧ SqT K H a xs ∧ xs.length = n ∧ t xs σ H Q
theorem pg_tup {es : List Expr} {k : Nat} {t : TGs} {n : Nat} (hc : X.calm = true) (h : PGs X es t)
    (hn : (assignEach es X.env).length = n := by rfl) (hst : (assignEach es X.env).findIdx? (·.1) = none := by rfl) : PG X (.Tuple es k pos) (gTup X.K n t) := by
  intro pins s σ H v u Q I r hw
  obtain ⟨a, xs, e1, hq, hl, hw⟩ := hw
  subst e1
  cases r
  obtain ⟨its, rv, ht, hz⟩ := I.tuple hq
  refine assign_Tuple_tuple (I.ok.hd hc) ht (by simp [hn, ← hl, rv.length]) hst fun h' hx => ?_
  have I1 : Inv X pins σ H { s with heap := h' } := I.kept (t' := s.toks) fun b o e => hx b o (Nat.ne_of_lt (Heap.lt_size e)) e
  exact h pins _ σ H xs _ Q I1 (by simpa using rv) hw
noncomputable def tAsg (te : TE) (g : TG) : TS := fun D σ H => te σ H fun x H1 => g x σ H1 D.nx
theorem ps_asg {tg e : Expr} {te : TE} {g : TG} (he : PE X e te) (hg : PG X tg g) (hs : swapsWithSole [tg] e pos.line X.env = pure false := by rfl) (hw : swappedStores [tg] e X.env = pure none := by rfl)
    (h1 : (assignEach [tg] X.env).map (·.2) = [assign tg X.env] := by rfl) : PS X (.Assign [tg] e pos) (tAsg te g) := by
  intro pins s σ H D I h
  refine wpAny_Assign_stores (thn (he pins s σ H _ I h) fun v s1 ⟨x, H1, I1, r1, q1⟩ => ?_) hs hw
  rw [h1]
  exact thn (hg pins s1 σ H1 x v _ I1 r1 q1) fun _ s2 q => q
theorem ps_set {i : Nat} {x : Str} {e : Expr} {te : TE} {pos' : Pos} (hN : X.N.Nodup) (hi : X.N[i]? = some x) (hx : Loc X.env.scope x) (he : PE X e te) (hs : swapsWith e (some (.Name x pos')) pos.line X.env = pure false := by rfl) (hf : X.fn x = true ∨ X.env.scope.names.lookup x = some .local := by first | exact .inl rfl | exact .inr rfl | assumption) :
    PS X (.Assign [.Name x pos'] e pos) (tAsg te (gName i)) := by
  intro pins s σ H D I h
  refine wpAny_Assign_Name (thn (he pins s σ H _ I h) fun v s1 ⟨y, H1, I1, r1, q1⟩ => ?_) hs
  exact store_ok I1 hN hi hx r1 (fun s2 I2 => ⟨_, H1, I2, q1⟩) hf
end
section
variable {X : Cx} {pos : Pos}
noncomputable def tWhile (c : TT) (tb : TS) : TS := fun D σ H => ∃ W : Nat → St → Hp → Prop, (∃ m, W m σ H) ∧ ∀ m σ H, W m σ H →
  c σ H fun b H1 => if b = true then ∃ N : St → Hp → Prop, (∀ σ' H', N σ' H' → ∃ m', m' < m ∧ W m' σ' H') ∧ tb { D with nx := N, ct := N, bk := D.nx } σ H1 else D.nx σ H1
theorem ps_while {c : Expr} {body : List Stmt} {tc : TT} {tb : TS} (hp : PassesOwn (model X.prog X.w) X.A X.env X.xe) (hc : PT X c tc) (hb : PSs X body tb) : PS X (.While c body [] pos) (tWhile tc tb) := by
  intro pins s σ H D I h
  obtain ⟨W, ⟨m0, w0⟩, turn⟩ := h
  refine wpAny_While (codeAny_whileLoop (fun n s' => ∃ σ' H', Inv X pins σ' H' s' ∧ W n σ' H') ?_ m0 ⟨σ, H, I, w0⟩)
  rintro n s1 ⟨σ1, H1, I1, w1⟩
  refine wpAny_passesOwn hp (thn (hc pins s1 σ1 H1 _ I1 (turn n σ1 H1 w1)) fun b s2 ⟨H2, I2, q2⟩ => ?_)
  cases b with
  | true =>
    obtain ⟨N, hN, q2⟩ := q2
    rw [if_pos rfl]
    refine wpAny_passesOwn hp (thn (hb pins s2 σ1 H2 _ I2 q2) fun f s3 q3 => ?_)
    cases f with
    | next =>
      obtain ⟨σ3, H3, I3, n3⟩ := q3
      obtain ⟨m', hm, w3⟩ := hN σ3 H3 n3
      exact ⟨m', hm, σ3, H3, I3, w3⟩
    | cont =>
      obtain ⟨σ3, H3, I3, n3⟩ := q3
      obtain ⟨m', hm, w3⟩ := hN σ3 H3 n3
      exact ⟨m', hm, σ3, H3, I3, w3⟩
    | brk => exact q3
    | ret v => exact q3
  | false =>
    rw [if_neg Bool.false_ne_true]
    exact wpAny_execs_nil ⟨σ1, H2, I2, q2⟩
end
structure It where
  go : Nat → Hp → Prop
  yld : Nat → Hp → V → Hp → Prop
  stop : Nat → Hp → Prop
noncomputable def FpOk (X : Cx) (pins : List (Addr × Obj)) (H : Hp) (b : Addr) : Prop :=
  H b = none ∧ b ≠ X.env.locals ∧ b ∉ X.fs ∧ (b ∈ X.ex ∨ X.s₀.heap.objs.size ≤ b) ∧ (∀ x c, X.env.cells.lookup x = some c → c ≠ b) ∧ ∀ p ∈ X.pn ++ pins, p.1 ≠ b
theorem Inv.fpOk {X : Cx} {pins : List (Addr × Obj)} {σ : St} {H H' : Hp} {s : Shared} {b : Addr} (I : Inv X pins σ H s) (hb : s.heap.objs.size ≤ b) (hn : H' b = none) : FpOk X pins H' b := by
  refine ⟨hn, Nat.ne_of_gt (Nat.lt_of_lt_of_le I.lt hb), I.nofs hb, .inr (Nat.le_trans I.sz hb), fun x c e z => ?_, fun p hp z => ?_⟩
  · obtain ⟨v, q⟩ := I.cell x c e
    exact absurd (Nat.lt_of_lt_of_le q.lt (by rw [z]; exact hb)) (Nat.lt_irrefl _)
  · exact absurd (Nat.lt_of_lt_of_le (Heap.lt_size (I.pin p hp).1) (by rw [z]; exact hb)) (Nat.lt_irrefl _)
structure Turn (P : Program) (w : World) (K : PySem.W.Frag) (tg : Expr) (J : It) (fp : List Addr) (it : Addr) (tn : Nat → Heap → Prop) : Prop where
  mem : it ∈ fp
  obj : ∀ i h, tn i h → ∀ b ∈ fp, ∃ o, h.get? b = some o ∧ ∀ v, o.data ≠ .cell v
  keep : ∀ i h h', tn i h → (∀ b ∈ fp, ∀ o, h.get? b = some o → h'.get? b = some o) → tn i h'
  item : ∀ (X : Cx), X.prog = P → X.w = w → X.K = K → X.calm = true → ∀ (i : Nat) (pins : List (Addr × Obj)) (s : Shared) (σ : St) (H : Hp) (E : Value → Shared → Prop), Inv X pins σ H s → (∀ b ∈ fp, FpOk X pins H b) → tn i s.heap → J.go i H →
    wpAny (model P w) X.A (pyNext (.ref it)) (fun r s1 => ∃ u, r = some u ∧
      wpAny (model P w) X.A (letOwnedTupleGo tg (.ref it) u) (fun _ s2 => ∃ x H', Inv X pins σ H' s2 ∧ RelV x u ∧ J.yld i H x H' ∧ tn (i + 1) s2.heap ∧ ∀ b ∈ fp, H' b = none) E s1) E s
  done : ∀ (X : Cx), X.prog = P → X.w = w → X.K = K → X.calm = true → ∀ (i : Nat) (pins : List (Addr × Obj)) (s : Shared) (σ : St) (H : Hp) (E : Value → Shared → Prop), Inv X pins σ H s → (∀ b ∈ fp, FpOk X pins H b) → tn i s.heap → J.stop i H →
    wpAny (model P w) X.A (pyNext (.ref it)) (fun r s1 => r = none ∧ Inv X pins σ H s1) E s
  self : ∀ (A : Around) (i : Nat) (s : Shared) (Q : Value → Shared → Prop) (E : Value → Shared → Prop), tn i s.heap → Q (.ref it) s → wpAny (model P w) A (pyIter (.ref it)) Q E s
noncomputable abbrev TI := St → Hp → (It → Hp → Prop) → Prop
noncomputable def PIE (X : Cx) (pins : List (Addr × Obj)) (σ : St) (tg : Expr) (R : It → Hp → Prop) (itv : Value) (s2 : Shared) : Prop :=
  ∃ (it : Addr) (fp : List Addr) (tn : Nat → Heap → Prop) (J : It) (H' : Hp), itv = .ref it ∧ Inv X pins σ H' s2 ∧ Turn X.prog X.w X.K tg J fp it tn ∧ tn 0 s2.heap ∧ (∀ b ∈ fp, FpOk X pins H' b) ∧ R J H'
noncomputable def PI (X : Cx) (tg iter : Expr) (wi : TI) : Prop :=
  ∀ (pins : List (Addr × Obj)) (s : Shared) (σ : St) (H : Hp) (R : It → Hp → Prop), Inv X pins σ H s → wi σ H R →
    wpAny (model X.prog X.w) X.A (eval iter X.env) (fun v s1 => wpAny (model X.prog X.w) X.A (pyIter v) (PIE X pins σ tg R) X.xe s1) X.xe s
theorem go_of {M : Model} {A : Around} {E : Value → Shared → Prop} {s : Shared} {tg : Expr} {it : Addr} {u : Value} {o : Obj} {n : String} {vs : Array Value} {Q : Unit → Shared → Prop} (ho : s.heap.get? it = some o) (hc : o.cls = .type n) (hd : o.data = .fields vs)
    (hn : ["enumerate", "zip", "dict_itemiterator", "dict_reverseitemiterator", "odict_iterator", "itertools.zip_longest", "itertools.pairwise"].contains n = false) (hQ : Q () s) : wpAny M A (letOwnedTupleGo tg (.ref it) u) Q E s := by
  unfold letOwnedTupleGo
  cases tg <;> first
    | exact wpAny_pure hQ
    | (cases u <;> first
        | exact wpAny_pure hQ
        | (refine wpAny_bind (wpAny_load ho ?_)
           rw [hc, hd]
           show wpAny M A (if (["enumerate", "zip", "dict_itemiterator", "dict_reverseitemiterator", "odict_iterator", "itertools.zip_longest", "itertools.pairwise"].contains n && vs[0]? == some (rawInt _)) = true then _ else _) Q E s
           rw [if_neg (by intro h; rw [hn, Bool.false_and] at h; cases h)]
           exact wpAny_pure hQ))
noncomputable def Itl (K : PySem.W.Frag) (a : Addr) : It :=
  ⟨fun i H => ∃ xs x, SqL K H a xs ∧ xs[i]? = some x, fun i H x H' => H' = H ∧ ∀ xs, SqL K H a xs → xs[i]? = some x, fun i H => ∃ xs, SqL K H a xs ∧ xs.length ≤ i⟩
noncomputable def Itt (K : PySem.W.Frag) (a : Addr) : It :=
  ⟨fun i H => ∃ xs x, SqT K H a xs ∧ xs[i]? = some x, fun i H x H' => H' = H ∧ ∀ xs, SqT K H a xs → xs[i]? = some x, fun i H => ∃ xs, SqT K H a xs ∧ xs.length ≤ i⟩
noncomputable def Itr (lo : Int) (n : Nat) : It := ⟨fun i _ => i < n, fun i H x H' => H' = H ∧ x = .int (lo + i), fun i _ => n ≤ i⟩
theorem turn_list {P : Program} {w : World} {K : PySem.W.Frag} {tg : Expr} (a it : Addr) : Turn P w K tg (Itl K a) [it] it (fun i h => h.IsListIter it a i) where
  mem := by simp
  obj := fun i h st b hb => by
    have e : b = it := by simpa using hb
    subst e
    obtain ⟨o, e, c, d⟩ := st
    exact ⟨o, e, fun v z => by rw [d] at z; cases z⟩
  keep := fun i h h' st k => st.at fun o e => k it (by simp) o e
  item := by
    intro X hP hw hK hc i pins s σ H E I hf st hg
    subst hP hw hK
    obtain ⟨xs, x, hq, hx⟩ := hg
    obtain ⟨its, rv, p, hz⟩ := I.list hq
    obtain ⟨u, hu, ru⟩ := rv.get hx
    obtain ⟨f0, f1, f2, f3, f4, f5⟩ := hf it (by simp)
    refine wpAny_pyNext_list_item st p.isList (x := u) (by simpa using hu) fun h' st' sb => ?_
    have I1 : Inv X pins σ H { s with heap := h' } := I.turned (t' := s.toks) (fun b o hb e => (sb.2 b hb).trans e) f0 f1 f3 f4 f5
    obtain ⟨o, e, c, d⟩ := id st'
    exact ⟨u, rfl, go_of (s := { s with heap := h' }) e c d (by decide) ⟨x, H, I1, ru, ⟨rfl, fun ys hy => by rw [I.list_inj hy hq]; exact hx⟩, st', fun b hb => (hf b hb).1⟩⟩
  done := by
    intro X hP hw hK hc i pins s σ H E I hf st hg
    subst hP hw hK
    obtain ⟨xs, hq, hx⟩ := hg
    obtain ⟨its, rv, p, hz⟩ := I.list hq
    obtain ⟨f0, f1, f2, f3, f4, f5⟩ := hf it (by simp)
    have hl := rv.length
    exact wpAny_pyNext_list_end (I.ok.hd hc) st p.isList (by simp; omega) fun h' eb => ⟨rfl, I.turned (t' := s.toks) (fun b o hb e => eb b o hb e) f0 f1 f3 f4 f5⟩
  self := fun _ _ _ _ _ st h => wpAny_pyIter_listiter st h
theorem turn_tuple {P : Program} {w : World} {K : PySem.W.Frag} {tg : Expr} (a it : Addr) : Turn P w K tg (Itt K a) [it] it (fun i h => h.IsTupleIter it a i) where
  mem := by simp
  obj := fun i h st b hb => by
    have e : b = it := by simpa using hb
    subst e
    obtain ⟨o, e, c, d⟩ := st
    exact ⟨o, e, fun v z => by rw [d] at z; cases z⟩
  keep := fun i h h' st k => st.at fun o e => k it (by simp) o e
  item := by
    intro X hP hw hK hc i pins s σ H E I hf st hg
    subst hP hw hK
    obtain ⟨xs, x, hq, hx⟩ := hg
    obtain ⟨its, rv, p, hz⟩ := I.tuple hq
    obtain ⟨u, hu, ru⟩ := rv.get hx
    obtain ⟨f0, f1, f2, f3, f4, f5⟩ := hf it (by simp)
    refine wpAny_pyNext_tuple_item st (show s.heap.IsTuple a its.toArray from p) (x := u) (by simpa using hu) fun h' st' sb => ?_
    have I1 : Inv X pins σ H { s with heap := h' } := I.turned (t' := s.toks) (fun b o hb e => (sb.2 b hb).trans e) f0 f1 f3 f4 f5
    obtain ⟨o, e, c, d⟩ := id st'
    exact ⟨u, rfl, go_of (s := { s with heap := h' }) e c d (by decide) ⟨x, H, I1, ru, ⟨rfl, fun ys hy => by rw [I.tuple_inj hy hq]; exact hx⟩, st', fun b hb => (hf b hb).1⟩⟩
  done := by
    intro X hP hw hK hc i pins s σ H E I hf st hg
    subst hP hw hK
    obtain ⟨xs, hq, hx⟩ := hg
    obtain ⟨its, rv, p, hz⟩ := I.tuple hq
    obtain ⟨f0, f1, f2, f3, f4, f5⟩ := hf it (by simp)
    have hl := rv.length
    exact wpAny_pyNext_tuple_end (I.ok.hd hc) st (show s.heap.IsTuple a its.toArray from p) (by simp; omega) fun h' eb => ⟨rfl, I.turned (t' := s.toks) (fun b o hb e => eb b o hb e) f0 f1 f3 f4 f5⟩
  self := fun _ _ _ _ _ st h => wpAny_pyIter_tupleiter st h
theorem turn_range {P : Program} {w : World} {K : PySem.W.Frag} {tg : Expr} (it : Addr) (lo : Int) (n : Nat) : Turn P w K tg (Itr lo n) [it] it (fun i h => IsRangeIter h it (lo + (i : Nat) * 1) ((n : Int) - (i : Nat)) 1) where
  mem := by simp
  obj := fun i h st b hb => by
    have e : b = it := by simpa using hb
    subst e
    exact ⟨_, st, fun v z => by
      have z' : Data.fields _ = Data.cell v := z
      cases z'⟩
  keep := fun i h h' st k => k it (by simp) _ st
  item := by
    intro X hP hw hK hc i pins s σ H E I hf st hg
    subst hP hw hK
    obtain ⟨f0, f1, f2, f3, f4, f5⟩ := hf it (by simp)
    have W := Walks.range (prog := X.prog) (w := X.w) (I.ok.hd hc) it lo 1 n
    refine W.item i s _ _ hg st fun v h' tk hv st' kk => ?_
    obtain ⟨t, rfl⟩ := hv
    have I1 : Inv X pins σ H { s with heap := h', toks := tk } := I.turned (fun b o hb e => kk b o (by simpa using hb) e) f0 f1 f3 f4 f5
    refine ⟨_, rfl, go_of (s := { s with heap := h', toks := tk }) (n := "range_iterator") st' rfl rfl (by decide) ⟨.int (lo + i), H, I1, ⟨t, ?_⟩, ⟨rfl, rfl⟩, st', fun b hb => (hf b hb).1⟩⟩
    rw [Int.mul_one]
  done := by
    intro X hP hw hK hc i pins s σ H E I hf st hg
    subst hP hw hK
    obtain ⟨f0, f1, f2, f3, f4, f5⟩ := hf it (by simp)
    exact wpAny_pyNext_range_end (I.ok.hd hc) st (by have : n ≤ i := hg; omega) fun h' eb => ⟨rfl, I.turned (t' := s.toks) (fun b o hb e => eb b o hb e) f0 f1 f3 f4 f5⟩
  self := fun _ _ _ _ _ st h => wpAny_pyIter_rangeiter st h
end L2
namespace L2
open PySem PySem.Spec PyProof.Rows
section
variable {X : Cx} {tg : Expr}
noncomputable def iList (K : PySem.W.Frag) (tl : TE) : TI := fun σ H R => tl σ H fun x H1 => ∃ a, x = .ref a ∧ (∃ xs, SqL K H1 a xs) ∧ R (Itl K a) H1
noncomputable def iTup (K : PySem.W.Frag) (tl : TE) : TI := fun σ H R => tl σ H fun x H1 => ∃ a, x = .ref a ∧ (∃ xs, SqT K H1 a xs) ∧ R (Itt K a) H1
theorem pi_list {l : Expr} {tl : TE} (hl : PE X l tl) : PI X tg l (iList X.K tl) := by
  intro pins s σ H R I h
  refine thn (hl pins s σ H _ I h) fun v s1 ⟨x, H1, I1, r1, q1⟩ => ?_
  obtain ⟨a, e, ⟨xs, hq⟩, q⟩ := q1
  subst e
  cases r1
  obtain ⟨its, rv, p, hz⟩ := I1.list hq
  refine wpAny_pyIter_list p.isList ?_
  refine ⟨s1.heap.objs.size, [s1.heap.objs.size], _, _, H1, rfl, I1.kept (t' := s1.toks) fun b o e => Heap.get?_push_of_some _ e, turn_list a _, ⟨_, Heap.get?_push_size _ rfl, rfl, rfl⟩, fun b hb => ?_, q⟩
  have e : b = s1.heap.objs.size := by simpa using hb
  subst e
  exact I1.fpOk (Nat.le_refl _) (I1.hok.fresh (Nat.le_refl _))
theorem pi_tup {l : Expr} {tl : TE} (hl : PE X l tl) : PI X tg l (iTup X.K tl) := by
  intro pins s σ H R I h
  refine thn (hl pins s σ H _ I h) fun v s1 ⟨x, H1, I1, r1, q1⟩ => ?_
  obtain ⟨a, e, ⟨xs, hq⟩, q⟩ := q1
  subst e
  cases r1
  obtain ⟨its, rv, p, hz⟩ := I1.tuple hq
  refine wpAny_pyIter_tuple (show s1.heap.IsTuple a its.toArray from p) ?_
  refine ⟨s1.heap.objs.size, [s1.heap.objs.size], _, _, H1, rfl, I1.kept (t' := s1.toks) fun b o e => Heap.get?_push_of_some _ e, turn_tuple a _, ⟨_, Heap.get?_push_size _ rfl, rfl, rfl⟩, fun b hb => ?_, q⟩
  have e : b = s1.heap.objs.size := by simpa using hb
  subst e
  exact I1.fpOk (Nat.le_refl _) (I1.hok.fresh (Nat.le_refl _))
theorem range_it {pins : List (Addr × Obj)} {σ : St} {H : Hp} {s : Shared} {R : It → Hp → Prop} {E : Value → Shared → Prop} {lo hi : Int} {t u v : Tok} {tk : Nat} (I : Inv X pins σ H s) (h1 : -(2 ^ 62) ≤ lo) (h2 : lo < 2 ^ 62) (h3 : -(2 ^ 62) ≤ hi) (h4 : hi < 2 ^ 62)
    (q : R (Itr lo (hi - lo).toNat) H) : wpAny (model X.prog X.w) X.A (pyIter (.ref s.heap.objs.size)) (PIE X pins σ tg R) E { s with heap := s.heap.push { cls := .type "range", data := .fields #[.int lo t, .int hi u, .int 1 v] }, toks := tk } := by
  refine wpAny_pyIter_range (IsRange.new ..) (small_one h1 h2 h3 h4) ?_
  have I1 : Inv X pins σ H { s with heap := s.heap.push { cls := .type "range", data := .fields #[.int lo t, .int hi u, .int 1 v] }, toks := tk } := I.kept fun b o e => Heap.get?_push_of_some _ e
  refine ⟨(s.heap.push { cls := .type "range", data := .fields #[.int lo t, .int hi u, .int 1 v] }).objs.size, [(s.heap.push { cls := .type "range", data := .fields #[.int lo t, .int hi u, .int 1 v] }).objs.size], _, _, H, rfl,
    I1.kept (t' := tk) fun b o e => Heap.get?_push_of_some _ e, turn_range _ lo (hi - lo).toNat, ?_, fun b hb => ?_, q⟩
  · have e1 : lo + ((0 : Nat) : Int) * 1 = lo := by simp
    have e2 : (((hi - lo).toNat : Nat) : Int) - ((0 : Nat) : Int) = Builtin.Range.rangeSize lo hi 1 := by rw [rangeSize_one]; split <;> omega
    show IsRangeIter _ _ (lo + ((0 : Nat) : Int) * 1) ((((hi - lo).toNat : Nat) : Int) - ((0 : Nat) : Int)) 1
    rw [e1, e2]
    exact Heap.get?_push_size _ rfl
  · have e : b = (s.heap.push { cls := .type "range", data := .fields #[.int lo t, .int hi u, .int 1 v] }).objs.size := by simpa using hb
    subst e
    exact I1.fpOk (Nat.le_refl _) (I1.hok.fresh (Nat.le_refl _))
noncomputable def iRng1 (ta : TA) : TI := fun σ H R => ta σ H fun vs H1 => ∃ j : Int, vs = [.int j] ∧ -(2 ^ 62) ≤ j ∧ j < 2 ^ 62 ∧ R (Itr 0 j.toNat) H1
theorem pi_range1 {a : Expr} {ta : TA} {p pos : Pos} (hg : Gl X "range") (hm : X.mg "range" = none) (ha : PA X [a] ta) (hs : starEach [a] X.env = [(false, eval a X.env)] := by rfl) : PI X tg (.Call (.Name "range" p) [a] [] pos) (iRng1 ta) := by
  intro pins s σ H R I h
  refine Call_ (ld_blt I hg hm boot_range (PyProof.Rows.callWith_type1 (thn (ha pos pins s σ H _ I h) fun us s1 ⟨vs, H1, I1, r1, q1⟩ => ?_) hs rfl))
  obtain ⟨j, e, q1, q2, q⟩ := q1
  subst e
  cases r1 with
  | cons r rr =>
    cases rr
    obtain ⟨t, rfl⟩ := r
    exact call_range_1 (range_it I1 (by omega) (by omega) q1 q2 (by simpa using q))
noncomputable def tFor (wi : TI) (g : TG) (tb : TS) : TS := fun D σ H => wi σ H fun J H1 => ∃ W : Nat → Nat → St → Hp → Prop, (∃ m, W 0 m σ H1) ∧ ∀ i m σ H, W i m σ H →
  (J.stop i H ∧ D.nx σ H) ∨ (J.go i H ∧ ∃ N : St → Hp → Prop, (∀ σ' H', N σ' H' → ∃ m', m' < m ∧ W (i + 1) m' σ' H') ∧ ∀ x H', J.yld i H x H' → g x σ H' fun σ2 H2 => tb { D with nx := N, ct := N, bk := D.nx } σ2 H2)
noncomputable def pinsAt (fp : List Addr) (h : Heap) : List (Addr × Obj) := fp.filterMap fun b => (h.get? b).map fun o => (b, o)
theorem mem_pinsAt {fp : List Addr} {h : Heap} {b : Addr} {o : Obj} (hb : b ∈ fp) (e : h.get? b = some o) : (b, o) ∈ pinsAt fp h := List.mem_filterMap.mpr ⟨b, hb, by rw [e]; rfl⟩
theorem of_pinsAt {fp : List Addr} {h : Heap} {p : Addr × Obj} (hp : p ∈ pinsAt fp h) : p.1 ∈ fp ∧ h.get? p.1 = some p.2 := by
  obtain ⟨b, hb, e⟩ := List.mem_filterMap.mp hp
  cases q : h.get? b with
  | none => rw [q] at e; cases e
  | some o =>
    rw [q] at e
    have e' : (b, o) = p := Option.some.inj e
    subst e'
    exact ⟨hb, q⟩
theorem Inv.pinned {pins : List (Addr × Obj)} {σ : St} {H : Hp} {s : Shared} {fp : List Addr} (I : Inv X pins σ H s) (hf : ∀ b ∈ fp, FpOk X pins H b) (ho : ∀ b ∈ fp, ∃ o, s.heap.get? b = some o ∧ ∀ v, o.data ≠ .cell v) : Inv X (pins ++ pinsAt fp s.heap) σ H s :=
  I.pins_of fun p hp => (List.mem_append.mp hp).elim (fun z => I.pin p (List.mem_append_right _ z)) fun z => by
    obtain ⟨hb, e⟩ := of_pinsAt z
    obtain ⟨f0, f1, f2, _⟩ := hf p.1 hb
    obtain ⟨o, e', d⟩ := ho p.1 hb
    rw [e] at e'; cases e'
    exact ⟨e, f0, f1, f2, d⟩
theorem Inv.unpinned {pins pl : List (Addr × Obj)} {σ : St} {H : Hp} {s : Shared} (I : Inv X (pins ++ pl) σ H s) : Inv X pins σ H s := I.pins_of fun p hp => I.pin p (List.mem_append_right _ (List.mem_append_left _ hp))
theorem ps_for {iter : Expr} {body : List Stmt} {wi : TI} {g : TG} {tb : TS} {pos : Pos} (hp : PassesOwn (model X.prog X.w) X.A X.env X.xe) (hc : X.calm = true) (hi : PI X tg iter wi) (hg : PG X tg g) (hb : PSs X body tb)
    (hs : ∀ x, foldedSetIterable iter X.env x = pure x := by intro _; rfl) : PS X (.For tg iter body [] pos) (tFor wi g tb) := by
  intro pins s σ H D I h
  refine wpAny_For (thn (hi pins s σ H _ I h) fun v s1 h1 => thn h1 fun itv s2 h2 => ?_) hs
  obtain ⟨it, fp, tn, J, H2, e, I2, T, st2, f2, W, ⟨m0, w0⟩, turn⟩ := h2
  subst e
  have stat : ∀ {H' : Hp}, (∀ b ∈ fp, H' b = none) → ∀ b ∈ fp, FpOk X pins H' b := fun hn b hb => ⟨hn b hb, (f2 b hb).2⟩
  refine codeAny_forLoop_any (fun n s' => ∃ i σ' H', Inv X pins σ' H' s' ∧ tn i s'.heap ∧ (∀ b ∈ fp, H' b = none) ∧ W i n σ' H') ?_ m0 ⟨0, σ, H2, I2, st2, fun b hb => (f2 b hb).1, w0⟩
  rintro n s3 ⟨i, σ3, H3, I3, st3, fr3, w3⟩
  rcases turn i n σ3 H3 w3 with ⟨stop, qn⟩ | ⟨go, N, hN, step⟩
  · refine wpAny_passesOwn hp (thn (T.done X rfl rfl rfl hc i pins s3 σ3 H3 X.xe I3 (stat fr3) st3 stop) fun r s4 ⟨hr, I4⟩ => ?_)
    subst hr
    exact wpAny_execs_nil ⟨σ3, H3, I4, qn⟩
  · refine wpAny_passesOwn hp (thn (T.item X rfl rfl rfl hc i pins s3 σ3 H3 X.xe I3 (stat fr3) st3 go) fun r s4 ⟨u, hr, h4⟩ => ?_)
    subst hr
    refine wpAny_passesOwn hp (thn h4 fun _ s5 ⟨x, H5, I5, r5, y5, st5, fr5⟩ => ?_)
    have I5' := I5.pinned (stat fr5) (T.obj _ _ st5)
    refine wpAny_passesOwn hp (thn (hg _ s5 σ3 H5 x u _ I5' r5 (step x H5 y5)) fun _ s6 ⟨σ6, H6, I6, q6⟩ => ?_)
    refine wpAny_passesOwn hp (thn (hb _ s6 σ6 H6 _ I6 q6) fun f s7 q7 => ?_)
    have again : ∀ {σ7 : St} {H7 : Hp}, Inv X (pins ++ pinsAt fp s5.heap) σ7 H7 s7 → N σ7 H7 → ∃ m, m < n ∧ ∃ i σ' H', Inv X pins σ' H' s7 ∧ tn i s7.heap ∧ (∀ b ∈ fp, H' b = none) ∧ W i m σ' H' := fun {σ7 H7} I7 n7 => by
      obtain ⟨m', hm, w7⟩ := hN σ7 H7 n7
      refine ⟨m', hm, i + 1, σ7, H7, I7.unpinned, T.keep _ _ _ st5 fun b hb o e => (I7.pin (b, o) (List.mem_append_right _ (List.mem_append_right _ (mem_pinsAt hb e)))).1, fun b hb => ?_, w7⟩
      obtain ⟨o, e, d⟩ := T.obj _ _ st5 b hb
      exact (I7.pin (b, o) (List.mem_append_right _ (List.mem_append_right _ (mem_pinsAt hb e)))).2.1
    cases f with
    | next => obtain ⟨σ7, H7, I7, n7⟩ := q7; exact again I7 n7
    | cont => obtain ⟨σ7, H7, I7, n7⟩ := q7; exact again I7 n7
    | brk => obtain ⟨σ7, H7, I7, q7⟩ := q7; exact ⟨σ7, H7, I7.unpinned, q7⟩
    | ret v => obtain ⟨x7, σ7, H7, I7, r7, q7⟩ := q7; exact ⟨x7, σ7, H7, I7.unpinned, r7, q7⟩
end
theorem for_list {K : PySem.W.Frag} {a : Addr} {xs : List V} {g : TG} {tb : TS} {D : Ends} {σ : St} {H : Hp} (Pv : Nat → St → Hp → Prop) (h0 : Pv 0 σ H) (hl : ∀ i σ H, i ≤ xs.length → Pv i σ H → SqL K H a xs)
    (hs : ∀ i x σ H, xs[i]? = some x → Pv i σ H → g x σ H fun σ2 H2 => tb { D with nx := Pv (i + 1), ct := Pv (i + 1), bk := D.nx } σ2 H2) (hd : ∀ σ H, Pv xs.length σ H → D.nx σ H) :
    ∃ W : Nat → Nat → St → Hp → Prop, (∃ m, W 0 m σ H) ∧ ∀ i m σ H, W i m σ H →
      ((Itl K a).stop i H ∧ D.nx σ H) ∨ ((Itl K a).go i H ∧ ∃ N : St → Hp → Prop, (∀ σ' H', N σ' H' → ∃ m', m' < m ∧ W (i + 1) m' σ' H') ∧ ∀ x H', (Itl K a).yld i H x H' → g x σ H' fun σ2 H2 => tb { D with nx := N, ct := N, bk := D.nx } σ2 H2) := by
  refine ⟨fun i m σ H => m = xs.length - i ∧ i ≤ xs.length ∧ Pv i σ H, ⟨xs.length, by simp, Nat.zero_le _, h0⟩, ?_⟩
  rintro i m σ H ⟨rfl, hi, p⟩
  have q := hl i σ H hi p
  by_cases hlt : i < xs.length
  · refine .inr ⟨⟨xs, xs[i], q, by simp [hlt]⟩, Pv (i + 1), fun σ' H' p' => ⟨xs.length - (i + 1), by omega, rfl, hlt, p'⟩, fun x H' y => ?_⟩
    obtain ⟨e, y⟩ := y
    subst e
    exact hs i x σ _ (y xs q) p
  · have e : i = xs.length := by omega
    subst e
    exact .inl ⟨⟨xs, q, Nat.le_refl _⟩, hd σ H p⟩
theorem for_tup {K : PySem.W.Frag} {a : Addr} {xs : List V} {g : TG} {tb : TS} {D : Ends} {σ : St} {H : Hp} (Pv : Nat → St → Hp → Prop) (h0 : Pv 0 σ H) (hl : ∀ i σ H, i ≤ xs.length → Pv i σ H → SqT K H a xs)
    (hs : ∀ i x σ H, xs[i]? = some x → Pv i σ H → g x σ H fun σ2 H2 => tb { D with nx := Pv (i + 1), ct := Pv (i + 1), bk := D.nx } σ2 H2) (hd : ∀ σ H, Pv xs.length σ H → D.nx σ H) :
    ∃ W : Nat → Nat → St → Hp → Prop, (∃ m, W 0 m σ H) ∧ ∀ i m σ H, W i m σ H →
      ((Itt K a).stop i H ∧ D.nx σ H) ∨ ((Itt K a).go i H ∧ ∃ N : St → Hp → Prop, (∀ σ' H', N σ' H' → ∃ m', m' < m ∧ W (i + 1) m' σ' H') ∧ ∀ x H', (Itt K a).yld i H x H' → g x σ H' fun σ2 H2 => tb { D with nx := N, ct := N, bk := D.nx } σ2 H2) := by
  refine ⟨fun i m σ H => m = xs.length - i ∧ i ≤ xs.length ∧ Pv i σ H, ⟨xs.length, by simp, Nat.zero_le _, h0⟩, ?_⟩
  rintro i m σ H ⟨rfl, hi, p⟩
  have q := hl i σ H hi p
  by_cases hlt : i < xs.length
  · refine .inr ⟨⟨xs, xs[i], q, by simp [hlt]⟩, Pv (i + 1), fun σ' H' p' => ⟨xs.length - (i + 1), by omega, rfl, hlt, p'⟩, fun x H' y => ?_⟩
    obtain ⟨e, y⟩ := y
    subst e
    exact hs i x σ _ (y xs q) p
  · have e : i = xs.length := by omega
    subst e
    exact .inl ⟨⟨xs, q, Nat.le_refl _⟩, hd σ H p⟩
theorem for_range {lo : Int} {n : Nat} {g : TG} {tb : TS} {D : Ends} {σ : St} {H : Hp} (Pv : Nat → St → Hp → Prop) (h0 : Pv 0 σ H)
    (hs : ∀ i σ H, i < n → Pv i σ H → g (.int (lo + i)) σ H fun σ2 H2 => tb { D with nx := Pv (i + 1), ct := Pv (i + 1), bk := D.nx } σ2 H2) (hd : ∀ σ H, Pv n σ H → D.nx σ H) :
    ∃ W : Nat → Nat → St → Hp → Prop, (∃ m, W 0 m σ H) ∧ ∀ i m σ H, W i m σ H →
      ((Itr lo n).stop i H ∧ D.nx σ H) ∨ ((Itr lo n).go i H ∧ ∃ N : St → Hp → Prop, (∀ σ' H', N σ' H' → ∃ m', m' < m ∧ W (i + 1) m' σ' H') ∧ ∀ x H', (Itr lo n).yld i H x H' → g x σ H' fun σ2 H2 => tb { D with nx := N, ct := N, bk := D.nx } σ2 H2) := by
  refine ⟨fun i m σ H => m = n - i ∧ i ≤ n ∧ Pv i σ H, ⟨n, by simp, Nat.zero_le _, h0⟩, ?_⟩
  rintro i m σ H ⟨rfl, hi, p⟩
  by_cases hlt : i < n
  · refine .inr ⟨hlt, Pv (i + 1), fun σ' H' p' => ⟨n - (i + 1), by omega, rfl, hlt, p'⟩, fun x H' y => ?_⟩
    obtain ⟨e, y⟩ := y
    subst e y
    exact hs i σ _ hlt p
  · have e : i = n := by omega
    subst e
    exact .inl ⟨Nat.le_refl _, hd σ H p⟩
end L2
namespace L2
open PySem PySem.Spec PyProof.Rows
noncomputable abbrev R2 := V → V → Hp → VK → Prop
noncomputable def OpR (X : Cx) (f : Value → Value → Sem Value) (r : R2) : Prop :=
  ∀ (pins : List (Addr × Obj)) (s : Shared) (σ : St) (H : Hp) (x y : V) (v u : Value) (Q : VK), Inv X pins σ H s → RelV x v → RelV y u → r x y H Q →
    wpAny (model X.prog X.w) X.A (f v u) (EP X pins σ Q) X.xe s
noncomputable def UnR (X : Cx) (f : Value → Sem Value) (r : V → Hp → VK → Prop) : Prop :=
  ∀ (pins : List (Addr × Obj)) (s : Shared) (σ : St) (H : Hp) (x : V) (v : Value) (Q : VK), Inv X pins σ H s → RelV x v → r x H Q →
    wpAny (model X.prog X.w) X.A (f v) (EP X pins σ Q) X.xe s
noncomputable def CallR (X : Cx) (f : Value) (r : List V → Hp → VK → Prop) : Prop :=
  ∀ (pins : List (Addr × Obj)) (s : Shared) (σ : St) (H : Hp) (xs : List V) (us : List Value) (Q : VK), Inv X pins σ H s → Vals xs us → r xs H Q →
    wpAny (model X.prog X.w) X.A (call f us) (EP X pins σ Q) X.xe s
noncomputable def tOp (r : R2) (ta tb : TE) : TE := fun σ H Q => ta σ H fun x H1 => tb σ H1 fun y H2 => r x y H2 Q
noncomputable def tUn (r : V → Hp → VK → Prop) (ta : TE) : TE := fun σ H Q => ta σ H fun x H1 => r x H1 Q
noncomputable def rI (C : Int → Int → Prop) (g : Int → Int → V) : R2 := fun x y H Q => ∃ i j, x = .int i ∧ y = .int j ∧ C i j ∧ Q (g i j) H
noncomputable def rI0 (g : Int → Int → V) : R2 := fun x y H Q => ∃ i j, x = .int i ∧ y = .int j ∧ Q (g i j) H
noncomputable def rU (g : Int → V) : V → Hp → VK → Prop := fun x H Q => ∃ i, x = .int i ∧ Q (g i) H
section
variable {X : Cx} {a b c : Expr} {ta tb tc : TE} {pos : Pos}
theorem binT (ha : PE X a ta) (hb : PE X b tb) {pins : List (Addr × Obj)} {s : Shared} {σ : St} {H : Hp} {R : V → V → Hp → Prop} (I : Inv X pins σ H s)
    (h : ta σ H fun x H1 => tb σ H1 fun y H2 => R x y H2) {Q : Value → Shared → Prop} {f : Value → Value → Sem Value}
    (hf : ∀ v u s2 x y H2, Inv X pins σ H2 s2 → RelV x v → RelV y u → R x y H2 → wpAny (model X.prog X.w) X.A (f v u) Q X.xe s2) :
    wpAny (model X.prog X.w) X.A (eval a X.env) (fun v s₁ => wpAny (model X.prog X.w) X.A (eval b X.env) (fun u s₂ => wpAny (model X.prog X.w) X.A (f v u) Q X.xe s₂) X.xe s₁) X.xe s := by
  refine thn (ha pins s σ H _ I h) fun v s1 ⟨x, H1, I1, r1, q1⟩ => ?_
  refine thn (hb pins s1 σ H1 _ I1 q1) fun u s2 ⟨y, H2, I2, r2, q2⟩ => ?_
  exact hf v u s2 x y H2 I2 r1 r2 q2
theorem pe_op {op : Operator} {r : R2} (ho : OpR X (binaryOp op) r) (ha : PE X a ta) (hb : PE X b tb) : PE X (.BinOp a op b pos) (tOp r ta tb) := by
  intro pins s σ H Q I h
  exact wpAny_BinOp (binT ha hb I h fun v u s2 x y H2 I2 rx ry q => ho pins s2 σ H2 x y v u Q I2 rx ry q)
theorem pe_un {op : UnaryOp} {r : V → Hp → VK → Prop} (ho : UnR X (unaryOp op) r) (ha : PE X a ta) : PE X (.UnaryOp op a pos) (tUn r ta) := by
  intro pins s σ H Q I h
  exact UnaryOp_ (thn (ha pins s σ H _ I h) fun v s1 ⟨x, H1, I1, r1, q1⟩ => ho pins s1 σ H1 x v Q I1 r1 q1)
theorem opI {f : Value → Value → Sem Value} {C : Int → Int → Prop} {g : Int → Int → Int}
    (rule : ∀ (i j : Int) (t u : Tok) (s : Shared) (Q : Value → Shared → Prop) (E : Value → Shared → Prop), C i j → Q (.int (g i j) s.toks) { s with toks := s.toks + 1 } → wpAny (model X.prog X.w) X.A (f (.int i t) (.int j u)) Q E s) :
    OpR X f (rI C fun i j => .int (g i j)) := by
  intro pins s σ H x y v u Q I rx ry h
  obtain ⟨i, j, rfl, rfl, hc, q⟩ := h
  obtain ⟨t, rfl⟩ := rx
  obtain ⟨t', rfl⟩ := ry
  exact rule i j t t' s _ _ hc ⟨.int (g i j), H, I.tok _, ⟨_, rfl⟩, q⟩
theorem opI0 {f : Value → Value → Sem Value} {g : Int → Int → Int}
    (rule : ∀ (i j : Int) (t u : Tok) (s : Shared) (Q : Value → Shared → Prop) (E : Value → Shared → Prop), Q (.int (g i j) s.toks) { s with toks := s.toks + 1 } → wpAny (model X.prog X.w) X.A (f (.int i t) (.int j u)) Q E s) :
    OpR X f (rI0 fun i j => .int (g i j)) := by
  intro pins s σ H x y v u Q I rx ry h
  obtain ⟨i, j, rfl, rfl, q⟩ := h
  obtain ⟨t, rfl⟩ := rx
  obtain ⟨t', rfl⟩ := ry
  exact rule i j t t' s _ _ ⟨.int (g i j), H, I.tok _, ⟨_, rfl⟩, q⟩
theorem opB0 {f : Value → Value → Sem Value} {g : Int → Int → Bool}
    (rule : ∀ (i j : Int) (t u : Tok) (s : Shared) (Q : Value → Shared → Prop) (E : Value → Shared → Prop), Q (.bool (g i j)) s → wpAny (model X.prog X.w) X.A (f (.int i t) (.int j u)) Q E s) :
    OpR X f (rI0 fun i j => .bl (g i j)) := by
  intro pins s σ H x y v u Q I rx ry h
  obtain ⟨i, j, rfl, rfl, q⟩ := h
  obtain ⟨t, rfl⟩ := rx
  obtain ⟨t', rfl⟩ := ry
  exact rule i j t t' s _ _ ⟨.bl (g i j), H, I, rfl, q⟩
noncomputable def CDiv (i j : Int) : Prop := 0 < j ∧ j < 1073741824
noncomputable def CDivN (i j : Int) : Prop := j ≠ 0 ∧ j.natAbs < 1073741824
noncomputable def CPow (i j : Int) : Prop := 0 ≤ j ∧ j ≤ 1000000 ∧ i.natAbs < 2 ^ 64
noncomputable def CMul (i j : Int) : Prop := (-(2 ^ 64) < i ∧ i < 2 ^ 64) ∨ (-(2 ^ 64) < j ∧ j < 2 ^ 64)
theorem CMul.ok {i j : Int} (h : CMul i j) : IntMulOk i j := by
  rcases h with ⟨h1, h2⟩ | ⟨h1, h2⟩
  · exact .of_left (intBits_le_64 h1 h2)
  · exact .of_right (intBits_le_64 h1 h2)
theorem two_pow_nn (k : Nat) : (0 : Int) ≤ 2 ^ k := by
  rw [two_pow_cast]
  exact Int.natCast_nonneg _
theorem op_add : OpR X (binaryOp .Add) (rI0 fun i j => .int (i + j)) := opI0 fun _ _ _ _ _ _ _ q => add_int q
theorem op_sub : OpR X (binaryOp .Sub) (rI0 fun i j => .int (i - j)) := opI0 fun _ _ _ _ _ _ _ q => sub_int q
theorem op_mul : OpR X (binaryOp .Mult) (rI CMul fun i j => .int (i * j)) := opI fun _ _ _ _ _ _ _ hc q => mul_int q hc.ok
theorem op_fdiv : OpR X (binaryOp .FloorDiv) (rI CDiv fun i j => .int (i / j)) := opI fun i j _ _ _ _ _ hc q => by
  have h1 : (0 : Int) < j := hc.1
  have h2 : j < 1073741824 := hc.2
  exact floordiv_int (by omega) (by rw [Int.fdiv_eq_ediv_of_nonneg i (by omega)]; exact q) (.inl (PyProof.noPylong_small (by omega)))
theorem op_mod : OpR X (binaryOp .Mod) (rI (fun _ j => 0 < j) fun i j => .int (i % j)) := opI fun i j _ _ _ _ _ hc q => by
  have h1 : (0 : Int) < j := hc
  exact mod_int' (by omega) (by rw [Int.fmod_eq_emod_of_nonneg i (by omega)]; exact q)
theorem op_pow : OpR X (binaryOp .Pow) (rI CPow fun i j => .int (i ^ j.toNat)) := opI fun _ _ _ _ _ _ _ hc q => pow_int_small hc.1 hc.2.1 hc.2.2 q
theorem op_shl : OpR X (binaryOp .LShift) (rI CPow fun i j => .int (i * 2 ^ j.toNat)) := opI fun _ _ _ _ _ _ _ hc q => lshift_int_small hc.1 hc.2.1 hc.2.2 q
theorem op_shr : OpR X (binaryOp .RShift) (rI (fun _ j => 0 ≤ j) fun i j => .int (i / 2 ^ j.toNat)) := opI fun i j _ _ _ _ _ hc q =>
  rshift_int hc (by rw [Int.fdiv_eq_ediv_of_nonneg i (two_pow_nn _)]; exact q)
theorem op_and : OpR X (binaryOp .BitAnd) (rI0 fun i j => .int (Builtin.bitAnd i j)) := opI0 fun _ _ _ _ _ _ _ q => and_int q
theorem op_xor : OpR X (binaryOp .BitXor) (rI0 fun i j => .int (Builtin.bitXor i j)) := opI0 fun _ _ _ _ _ _ _ q => xor_int q
theorem unI {f : Value → Sem Value} {g : Int → Int}
    (rule : ∀ (i : Int) (t : Tok) (s : Shared) (Q : Value → Shared → Prop) (E : Value → Shared → Prop), Q (.int (g i) s.toks) { s with toks := s.toks + 1 } → wpAny (model X.prog X.w) X.A (f (.int i t)) Q E s) :
    UnR X f (rU fun i => .int (g i)) := by
  intro pins s σ H x v Q I rx h
  obtain ⟨i, rfl, q⟩ := h
  obtain ⟨t, rfl⟩ := rx
  exact rule i t s _ _ ⟨.int (g i), H, I.tok _, ⟨_, rfl⟩, q⟩
theorem un_neg : UnR X (unaryOp .USub) (rU fun i => .int (-i)) := unI fun _ _ _ _ _ q => neg_int q
end
noncomputable def scal : V → V → Bool
  | .non, .non => true | .non, .int _ => true | .int _, .non => true | .non, .bl _ => true | .bl _, .non => true | .non, .str _ => true | .str _, .non => true
  | .int _, .int _ => true | .bl _, .bl _ => true | .str _, .str _ => true | .byt _, .byt _ => true
  | .int _, .str _ => true | .str _, .int _ => true | .bl _, .str _ => true | .str _, .bl _ => true
  | _, _ => false
noncomputable def rEq : R2 := fun x y H Q => scal x y = true ∧ Q (.bl (decide (x = y))) H
noncomputable def rNe : R2 := fun x y H Q => scal x y = true ∧ Q (.bl (!decide (x = y))) H
theorem dec_int {i j : Int} : decide (V.int i = V.int j) = (i == j) := by
  rw [Bool.eq_iff_iff]
  simp
theorem dec_bl {i j : Bool} : decide (V.bl i = V.bl j) = (i == j) := by
  rw [Bool.eq_iff_iff]
  simp
theorem dec_str {i j : Str} : decide (V.str i = V.str j) = (i == j) := by
  rw [Bool.eq_iff_iff]
  simp
theorem dec_byt {i j : Array UInt8} : decide (V.byt i = V.byt j) = (i.toList == j.toList) := by
  rw [Bool.eq_iff_iff]
  cases i
  cases j
  simp
section
variable {X : Cx} {a b c : Expr} {ta tb tc : TE} {pos : Pos}
theorem fin_bl {pins : List (Addr × Obj)} {σ : St} {H : Hp} {s : Shared} {Q : VK} {k k' : Bool} (I : Inv X pins σ H s) (q : Q (.bl k) H) (e : k = k') : EP X pins σ Q (.bool k') s := by
  subst e
  exact ⟨.bl k, H, I, rfl, q⟩
theorem op_eq : OpR X (compareOp .Eq) rEq := by
  intro pins s σ H x y v u Q I rx ry h
  obtain ⟨hs, q⟩ := h
  cases x with
  | non =>
    cases rx
    cases y with
    | non => cases ry; exact PySem.EqNone.eq_none_none (fin_bl I q (by simp))
    | bl j => cases ry; exact PySem.EqNone.eq_none_bool (fin_bl I q (by simp))
    | int j => obtain ⟨t', rfl⟩ := ry; exact PySem.EqNone.eq_none_int (fin_bl I q (by simp))
    | str j => obtain ⟨t', rfl⟩ := ry; exact PySem.EqNone.eq_none_str (fin_bl I q (by simp))
    | _ => exact absurd (show false = true from hs) Bool.false_ne_true
  | bl i =>
    cases rx
    cases y with
    | non => cases ry; exact PySem.EqNone.eq_bool_none (fin_bl I q (by simp))
    | bl j => cases ry; exact eq_bool (fin_bl I q dec_bl)
    | str j => obtain ⟨t', rfl⟩ := ry; exact PySem.EqMixed.eq_bool_str (fin_bl I q (by simp))
    | _ => exact absurd (show false = true from hs) Bool.false_ne_true
  | int i =>
    obtain ⟨t, rfl⟩ := rx
    cases y with
    | non => cases ry; exact PySem.EqNone.eq_int_none (fin_bl I q (by simp))
    | int j => obtain ⟨t', rfl⟩ := ry; exact eq_int (fin_bl I q dec_int)
    | str j => obtain ⟨t', rfl⟩ := ry; exact PySem.EqMixed.eq_int_str (fin_bl I q (by simp))
    | _ => exact absurd (show false = true from hs) Bool.false_ne_true
  | str i =>
    obtain ⟨t, rfl⟩ := rx
    cases y with
    | non => cases ry; exact PySem.EqNone.eq_str_none (fin_bl I q (by simp))
    | bl j => cases ry; exact PySem.EqMixed.eq_str_bool (fin_bl I q (by simp))
    | int j => obtain ⟨t', rfl⟩ := ry; exact PySem.EqMixed.eq_str_int (fin_bl I q (by simp))
    | str j => obtain ⟨t', rfl⟩ := ry; exact eq_str (fin_bl I q dec_str)
    | _ => exact absurd (show false = true from hs) Bool.false_ne_true
  | byt i =>
    obtain ⟨t, rfl⟩ := rx
    cases y with
    | byt j => obtain ⟨t', rfl⟩ := ry; exact PySem.W.eq_bytes (fin_bl I q dec_byt)
    | _ => exact absurd (show false = true from hs) Bool.false_ne_true
  | _ => cases y <;> exact absurd (show false = true from hs) Bool.false_ne_true
theorem op_ne : OpR X (compareOp .NotEq) rNe := by
  intro pins s σ H x y v u Q I rx ry h
  obtain ⟨hs, q⟩ := h
  cases x with
  | non =>
    cases rx
    cases y with
    | non => cases ry; exact PySem.EqNone.ne_none_none (fin_bl I q (by simp))
    | bl j => cases ry; exact PySem.EqNone.ne_none_bool (fin_bl I q (by simp))
    | int j => obtain ⟨t', rfl⟩ := ry; exact PySem.EqNone.ne_none_int (fin_bl I q (by simp))
    | str j => obtain ⟨t', rfl⟩ := ry; exact PySem.EqNone.ne_none_str (fin_bl I q (by simp))
    | _ => exact absurd (show false = true from hs) Bool.false_ne_true
  | bl i =>
    cases rx
    cases y with
    | non => cases ry; exact PySem.EqNone.ne_bool_none (fin_bl I q (by simp))
    | bl j => cases ry; exact ne_bool (fin_bl I q (congrArg not dec_bl))
    | str j => obtain ⟨t', rfl⟩ := ry; exact PySem.EqMixed.ne_bool_str (fin_bl I q (by simp))
    | _ => exact absurd (show false = true from hs) Bool.false_ne_true
  | int i =>
    obtain ⟨t, rfl⟩ := rx
    cases y with
    | non => cases ry; exact PySem.EqNone.ne_int_none (fin_bl I q (by simp))
    | int j => obtain ⟨t', rfl⟩ := ry; exact ne_int (fin_bl I q (congrArg not dec_int))
    | str j => obtain ⟨t', rfl⟩ := ry; exact PySem.EqMixed.ne_int_str (fin_bl I q (by simp))
    | _ => exact absurd (show false = true from hs) Bool.false_ne_true
  | str i =>
    obtain ⟨t, rfl⟩ := rx
    cases y with
    | non => cases ry; exact PySem.EqNone.ne_str_none (fin_bl I q (by simp))
    | bl j => cases ry; exact PySem.EqMixed.ne_str_bool (fin_bl I q (by simp))
    | int j => obtain ⟨t', rfl⟩ := ry; exact PySem.EqMixed.ne_str_int (fin_bl I q (by simp))
    | str j => obtain ⟨t', rfl⟩ := ry; exact ne_str (fin_bl I q (congrArg not dec_str))
    | _ => exact absurd (show false = true from hs) Bool.false_ne_true
  | byt i =>
    obtain ⟨t, rfl⟩ := rx
    cases y with
    | byt j => obtain ⟨t', rfl⟩ := ry; exact PySem.W.ne_bytes (fin_bl I q (congrArg not dec_byt))
    | _ => exact absurd (show false = true from hs) Bool.false_ne_true
  | _ => cases y <;> exact absurd (show false = true from hs) Bool.false_ne_true
theorem op_lt : OpR X (compareOp .Lt) (rI0 fun i j => .bl (decide (i < j))) := opB0 fun _ _ _ _ _ _ _ q => lt_int q
theorem op_le : OpR X (compareOp .LtE) (rI0 fun i j => .bl (decide (i ≤ j))) := opB0 fun _ _ _ _ _ _ _ q => le_int q
theorem op_gt : OpR X (compareOp .Gt) (rI0 fun i j => .bl (decide (j < i))) := opB0 fun _ _ _ _ _ _ _ q => gt_int q
theorem op_ge : OpR X (compareOp .GtE) (rI0 fun i j => .bl (decide (j ≤ i))) := opB0 fun _ _ _ _ _ _ _ q => ge_int q
theorem op_in_str : OpR X (compareOp .In) (fun x y H Q => ∃ i j, x = .str i ∧ y = .str j ∧ Q (.bl (!(Builtin.Str.occurrences j i 0 j.length 1).isEmpty)) H) := by
  intro pins s σ H x y v u Q I rx ry h
  obtain ⟨i, j, rfl, rfl, q⟩ := h
  obtain ⟨t, rfl⟩ := rx
  obtain ⟨t', rfl⟩ := ry
  exact in_str (fin_bl I q rfl)
theorem nomark (b : Expr) {op : CmpOp} (h : op ≠ .In := by decide) (h2 : op ≠ .NotIn := by decide) : behindInMarks op b = false := by
  have e1 : (op == CmpOp.In) = false := by cases op <;> first | rfl | exact absurd rfl h
  have e2 : (op == CmpOp.NotIn) = false := by cases op <;> first | rfl | exact absurd rfl h2
  cases b <;> simp [behindInMarks, e1, e2]
theorem pe_cmpR {op : CmpOp} {r : R2} (ho : OpR X (compareOp op) r) (ha : PE X a ta) (hb : PE X b tb) (hm : behindInMarks op b = false) : PE X (.Compare a [op] [b] pos) (tOp r ta tb) := by
  intro pins s σ H Q I h
  exact wpAny_Compare1 (binT ha hb I h fun v u s2 x y H2 I2 rx ry q => ho pins s2 σ H2 x y v u Q I2 rx ry q) hm
noncomputable def tTest (t : TE) : TT := fun σ H Q => t σ H fun x H' => ∃ k, x = .bl k ∧ Q k H'
theorem pt_cmpR {op : CmpOp} {r : R2} (ho : OpR X (compareOp op) r) (ha : PE X a ta) (hb : PE X b tb) (hm : behindInMarks op b = false) : PT X (.Compare a [op] [b] pos) (tTest (tOp r ta tb)) := by
  intro pins s σ H Q I h
  refine wpAny_isTrue_Compare1 (thn (ha pins s σ H _ I h) fun v s1 ⟨x, H1, I1, r1, q1⟩ => thn (hb pins s1 σ H1 _ I1 q1) fun u s2 ⟨y, H2, I2, r2, q2⟩ =>
    thn (ho pins s2 σ H2 x y v u _ I2 r1 r2 q2) fun c s3 ⟨z, H3, I3, r3, k, e, q3⟩ => ?_) hm
  subst e
  cases r3
  exact wpAny_truthy_bool ⟨H3, I3, q3⟩
theorem line63 : (sizeLine : Nat) < 2 ^ 63 := by rw [sizeLine_eq]; decide
theorem op_add_str : OpR X (binaryOp .Add) (fun x y H Q => ∃ i j, x = .str i ∧ y = .str j ∧ i.length + j.length ≤ sizeLine ∧ Q (.str (i ++ j)) H) := by
  intro pins s σ H x y v u Q I rx ry h
  obtain ⟨i, j, rfl, rfl, hz, q⟩ := h
  obtain ⟨t, rfl⟩ := rx
  obtain ⟨t', rfl⟩ := ry
  exact add_str (fun t' tk => ⟨.str (i ++ j), H, I.tok _, ⟨_, rfl⟩, q⟩) hz
theorem vals1 {x : V} {us : List Value} (r : Vals [x] us) : ∃ u, us = [u] ∧ RelV x u := by
  cases r with
  | cons r1 r2 => cases r2; exact ⟨_, rfl, r1⟩
theorem vals2 {x y : V} {us : List Value} (r : Vals [x, y] us) : ∃ u w', us = [u, w'] ∧ RelV x u ∧ RelV y w' := by
  cases r with
  | cons r1 r2 =>
    cases r2 with
    | cons r3 r4 => cases r4; exact ⟨_, _, rfl, r1, r3⟩
theorem call_str_int : CallR X (.type "str") (fun xs H Q => ∃ i, xs = [.int i] ∧ i.natAbs.log2 < 1920 ∧ Q (.str (toString i)) H) := by
  intro pins s σ H xs us Q I r h
  obtain ⟨i, rfl, hz, q⟩ := h
  obtain ⟨u, rfl, t, rfl⟩ := vals1 r
  exact PySem.P.str_of_int hz ⟨.str _, H, I.tok _, ⟨_, rfl⟩, q⟩
noncomputable def LenV (K : PySem.W.Frag) (x : V) (H : Hp) (n : Nat) : Prop :=
  match x with
  | .str y => y.length ≤ sizeLine ∧ n = y.length
  | .byt y => y.size ≤ sizeLine ∧ n = y.size
  | .ref p => (∃ xs, SqL K H p xs ∧ n = xs.length) ∨ ∃ xs, SqT K H p xs ∧ n = xs.length
  | _ => False
theorem call_len : CallR X (.builtin "len") (fun xs H Q => ∃ x n, xs = [x] ∧ LenV X.K x H n ∧ Q (.int n) H) := by
  intro pins s σ H xs us Q I r h
  obtain ⟨x, n, rfl, e, q⟩ := h
  obtain ⟨u, rfl, rx⟩ := vals1 r
  have hl := line63
  have hs : sizeLine = 16777216 := sizeLine_eq
  cases x with
  | str y =>
    obtain ⟨t, rfl⟩ := rx
    obtain ⟨hy, e'⟩ : y.length ≤ sizeLine ∧ n = y.length := e
    subst e'
    exact len_str (by omega) ⟨.int _, H, I.tok _, ⟨_, rfl⟩, q⟩
  | byt y =>
    obtain ⟨t, rfl⟩ := rx
    obtain ⟨hy, e'⟩ : y.size ≤ sizeLine ∧ n = y.size := e
    subst e'
    exact PySem.W.len_bytes (by omega) ⟨.int _, H, I.tok _, ⟨_, rfl⟩, q⟩
  | ref p =>
    cases rx
    have e' : (∃ xs, SqL X.K H p xs ∧ n = xs.length) ∨ ∃ xs, SqT X.K H p xs ∧ n = xs.length := e
    rcases e' with ⟨xs, hx, e'⟩ | ⟨xs, hx, e'⟩
    · subst e'
      obtain ⟨its, r', pl, hz⟩ := I.list hx
      have hlen := r'.length
      exact Calls.call_len_list pl.isList (by simp only [List.size_toArray]; omega) ⟨.int xs.length, H, I.tok _, ⟨_, by simp only [List.size_toArray]; rw [hlen]⟩, q⟩
    · subst e'
      obtain ⟨its, r', pl, hz⟩ := I.tuple hx
      have hlen := r'.length
      exact len_tuple pl (by simp only [List.size_toArray]; omega) ⟨.int xs.length, H, I.tok _, ⟨_, by simp only [List.size_toArray]; rw [hlen]⟩, q⟩
  | _ => exact (show False from e).elim
end
end L2
namespace L2
open PySem PySem.Spec PyProof.Rows
structure ObjM (h : Heap) (x dx C : Addr) (mA : Str → Option Value) : Prop where
  obj : h.get? x = some (PySem.W.instObj C dx)
  ns : h.Ns1 dx mA
  ne : dx ≠ x
theorem lookIn_ns {h : Heap} {dx : Addr} {mA : Str → Option Value} (n : h.Ns1 dx mA) : ∃ od, h.get? dx = some od ∧ ∀ name, PySem.W.lookIn name od = some (mA name) := by
  obtain ⟨o, es, ep, ho, hd, hk, _, hm⟩ := n
  refine ⟨o, ho, fun name => ?_⟩
  have e := hm name
  unfold nsFind findBy at e
  rw [← Array.find?_toList] at e
  unfold PySem.W.lookIn
  rw [hd]
  dsimp only
  split
  · rename_i y q
    rw [q] at e
    exact congrArg some e
  · rename_i q
    rw [q] at e
    have a : es.toList.any (·.refKey) = false := by
      rw [List.any_eq_false]
      intro y hy
      obtain ⟨z, t, hkey⟩ := hk y (Array.mem_toList_iff.mp hy)
      simp [DictEntry.refKey, hkey]
    have a' : ¬ es.toList.any (·.refKey) = true := by rw [a]; exact Bool.false_ne_true
    rw [if_neg a']
    exact congrArg some e
theorem ObjM.look {h : Heap} {x dx C : Addr} {mA : Str → Option Value} (I : ObjM h x dx C mA) : ∃ od, PySem.W.InstAt h x (PySem.W.instObj C dx) C (some od) ∧ ∀ name, PySem.W.lookIn name od = some (mA name) :=
  let ⟨od, ho, hl⟩ := lookIn_ns I.ns
  ⟨od, ⟨I.obj, rfl, rfl, ho⟩, hl⟩
section
variable {prog : Program} {w : World} {A : Around} {E : Value → Shared → Prop} {s : Shared} {K : PySem.W.Frag} {x dx C f : Addr} {mA : Str → Option Value} {name : Str} {v : Value}
theorem get_map {expr : Bool} {Q : Value → Shared → Prop} (X : K.In s.heap) (I : ObjM s.heap x dx C mA) (hg : PySem.W.plainGet K C name = true) (hh : PySem.W.hasDictIn K C = true)
    (ha : PySem.W.findIn K (.ref C) name = some none) (hv : mA name = some v) (hv' : PySem.W.handedIn v = true) (h : Q v { s with toks := s.toks + 1 }) :
    wpAny (model prog w) A (getAttr (.ref x) name expr) Q E s := by
  obtain ⟨od, J, hl⟩ := I.look
  exact PySem.W.get_value X J (PySem.W.plainGet_of hg).1 (PySem.W.findObj_own hh ha rfl (by rw [hl, hv])) hv' h
theorem get_meth {pl : Sem Bool} {Q : Value × List Value → Shared → Prop} (X : K.In s.heap) (I : ObjM s.heap x dx C mA) (hg : PySem.W.plainGet K C name = true)
    (hf : PySem.W.findIn K (.ref C) name = some (some (.ref f))) (ht : PySem.W.isFn K (.ref f) = true) (hv : mA name = none) (h : Q (.ref f, [.ref x]) s) :
    wpAny (model prog w) A (getMethod (.ref x) name pl) Q E s := by
  obtain ⟨od, J, hl⟩ := I.look
  exact PySem.W.method_fn X J (PySem.W.plainGet_of hg).1 (PySem.W.plainGet_of hg).2 hf (beq_iff_eq.mp ht) (by show (PySem.W.lookIn name od).map (·.isSome) = some false; rw [hl, hv]; rfl) h
theorem set_map {ns : List Str} {Q : Unit → Shared → Prop} (X : K.In s.heap) (I : ObjM s.heap x dx C mA)
    (hs : PySem.W.findIn K (.ref C) "__setattr__" = some (some (.builtin "object.__setattr__"))) (hp : PySem.W.plainOver K C = true) (ht : PySem.W.takerIn K C name = some none) (hh : PySem.W.hasDictIn K C = true)
    (hw : PySem.Within mA ns) (hsz : ns.length ≤ sizeLine)
    (h : ∀ h', ObjM h' x dx C (fun y => if y = name then some v else mA y) → Heap.SameBut dx s.heap h' → Q () { s with heap := h', toks := s.toks + 2 }) :
    wpAny (model prog w) A (setAttr (.ref x) name v) Q E s := by
  obtain ⟨od, J, hl⟩ := I.look
  refine PySem.W.set_plain X J hs (PySem.W.osa_open (s := { s with toks := s.toks + 1 }) (r := none) X J hp ht fun b => ?_)
  obtain ⟨cd, hc, hd'⟩ := PySem.W.any_some hh
  have hx : s.heap.get? x = some ⟨.ref C, some dx, .plain, #[]⟩ := I.obj
  refine wpAny_bind (wpAny_pure (wpAny_bind (wpAny_bind (wpAny_loadPart hx (wpAny_bind (PySem.W.Looks.here (s := { s with toks := s.toks + 1 }) (PySem.W.looks_clsIn X hc) ?_))))))
  rw [hd']
  refine wpAny_pure (a := some dx) (wpAny_bind (wpAny_pure (wpAny_bind ?_)))
  refine wpAny_nsSet1 (s := { s with toks := s.toks + 1 }) I.ns fun h' hn2 hs2 => ?_
  obtain ⟨oD, esD, epD, hoD, hdD, hcD⟩ := hn2.count (PySem.Within.cons name v hw)
  refine wpAny_bind (wpAny_lookBehind hoD (by rw [hdD]; exact pastItsLine_dict (Nat.le_trans hcD (by rw [List.length_cons]; omega))) ?_)
  exact wpAny_pure (h _ ⟨(hs2.2 _ (Ne.symm I.ne)).trans I.obj, hn2, I.ne⟩ hs2)
theorem make_map {R : Result → Shared → Prop} {vs : List Value} {kw : List (Str × Value)} (X : K.In s.heap) (hm : PySem.W.makesIn K C = true)
    (hi : PySem.W.findIn K (.ref C) "__init__" = some (some (.ref f))) (hf : PySem.W.typeIn K (.ref f) = some (.type "function"))
    (h : codeAny (model prog w) (A.under (.builtin "type.__call__" ⟨.ref C :: vs, kw⟩)) (.call (.ref f) ⟨.ref (s.heap.objs.size + 1) :: vs, kw⟩) (PySem.W.InitBack (s.heap.objs.size + 1) R)
      { s with heap := (s.heap.push PySem.W.emptyDict).push (PySem.W.instObj C s.heap.objs.size) }) :
    codeAny (model prog w) A (.call (.ref C) ⟨vs, kw⟩) R s := by
  obtain ⟨hh, g, d, t, os⟩ := s
  exact PySem.W.make_core (PySem.W.makes_of X hm) (PySem.W.looks_findIn X hi) (fun self => PySem.W.bind_fn X self hf) (.inl rfl) h
end
noncomputable def putF (f : Str) (v : V) : List (Str × V) → List (Str × V)
  | [] => [(f, v)]
  | (g, x) :: r => if g = f then (g, v) :: r else (g, x) :: putF f v r
theorem lookup_putF (f g : Str) (v : V) : ∀ fs : List (Str × V), (putF f v fs).lookup g = if g = f then some v else fs.lookup g
  | [] => by
    show List.lookup g [(f, v)] = _
    by_cases h : g = f
    · have hb : (g == f) = true := beq_iff_eq.mpr h
      simp only [List.lookup, hb, if_pos h]
    · have hb : (g == f) = false := beq_eq_false_iff_ne.mpr h
      simp only [List.lookup, hb, if_neg h]
  | (k, x) :: r => by
    have ih := lookup_putF f g v r
    rw [show putF f v ((k, x) :: r) = (if k = f then (k, v) :: r else (k, x) :: putF f v r) from rfl]
    by_cases hk : k = f
    · rw [if_pos hk]
      by_cases h : g = k
      · have hb : (g == k) = true := beq_iff_eq.mpr h
        simp only [List.lookup, hb, if_pos (h.trans hk)]
      · have hb : (g == k) = false := beq_eq_false_iff_ne.mpr h
        simp only [List.lookup, hb, if_neg (fun e : g = f => h (e.trans hk.symm))]
    · rw [if_neg hk]
      by_cases h : g = k
      · have hb : (g == k) = true := beq_iff_eq.mpr h
        simp only [List.lookup, hb, if_neg (fun e : g = f => hk (h.symm.trans e))]
      · have hb : (g == k) = false := beq_eq_false_iff_ne.mpr h
        simp only [List.lookup, hb]
        exact ih
theorem keys_putF (f : Str) (v : V) : ∀ fs : List (Str × V), f ∈ (putF f v fs).map (·.1) ∧ ∀ g, g ∈ fs.map (·.1) → g ∈ (putF f v fs).map (·.1)
  | [] => ⟨by simp [putF], fun g h => by simp at h⟩
  | (k, x) :: r => by
    obtain ⟨i1, i2⟩ := keys_putF f v r
    rw [show putF f v ((k, x) :: r) = (if k = f then (k, v) :: r else (k, x) :: putF f v r) from rfl]
    by_cases hk : k = f
    · rw [if_pos hk]
      subst hk
      exact ⟨by simp, fun g h => by simpa using h⟩
    · rw [if_neg hk]
      refine ⟨?_, fun g h => ?_⟩
      · rw [List.map_cons]
        exact List.mem_cons_of_mem _ i1
      · rw [List.map_cons] at h ⊢
        rcases List.mem_cons.mp h with e | e
        · exact List.mem_cons.mpr (.inl e)
        · exact List.mem_cons_of_mem _ (i2 g e)
theorem length_putF (f : Str) (v : V) : ∀ fs : List (Str × V), (putF f v fs).length ≤ fs.length + 1
  | [] => by simp [putF]
  | (k, x) :: r => by
    have ih := length_putF f v r
    rw [show putF f v ((k, x) :: r) = (if k = f then (k, v) :: r else (k, x) :: putF f v r) from rfl]
    by_cases hk : k = f
    · rw [if_pos hk, List.length_cons, List.length_cons]; omega
    · rw [if_neg hk, List.length_cons, List.length_cons]; omega
theorem RelO.some_of {v : V} {o : Option Value} (r : RelO (some v) o) : ∃ u, o = some u ∧ RelV v u := by
  cases o with
  | none => exact (show False from r).elim
  | some u => exact ⟨u, rfl, r⟩
theorem RelO.none_of {o : Option Value} (r : RelO none o) : o = none := by
  cases o with
  | none => rfl
  | some u => exact (show False from r).elim
theorem handed_of {v : V} {u : Value} (r : RelV v u) : PySem.W.handedIn u = true := by
  cases v with
  | non => cases (show u = Value.none from r); rfl
  | bl b => cases (show u = Value.bool b from r); rfl
  | int i => obtain ⟨t, e⟩ := (show ∃ t, u = Value.int i t from r); cases e; rfl
  | str x => obtain ⟨t, e⟩ := (show ∃ t, u = Value.str x t from r); cases e; rfl
  | byt b => obtain ⟨t, e⟩ := (show ∃ t, u = Value.bytes b t from r); cases e; rfl
  | flt b => obtain ⟨t, e⟩ := (show ∃ t, u = Value.float b t from r); cases e; rfl
  | ref a => cases (show u = Value.ref a from r); rfl
  | ty n => cases (show u = Value.type n from r); rfl
section
variable {P : Program} {w : World} {H H' : Hp} {h h' : Heap} {a C dx : Addr} {fs fs' : List (Str × V)}
theorem ins_get (hok : HOk P w H h) (e : H a = some (.ins C dx fs)) : ∃ mA, ObjM h a dx C mA ∧ (∀ f, RelO (fs.lookup f) (mA f)) ∧ PySem.Within mA (fs.map (·.1)) ∧ fs.length ≤ 1000 ∧ H dx = some (.own a) := by
  obtain ⟨d, z, ne, ob, mA, n, r, q⟩ := (show ObjOk P w H h a (.ins C dx fs) from hok a _ e)
  exact ⟨mA, ⟨ob, n, ne⟩, r, q, z, d⟩
end
structure Cls (K : PySem.W.Frag) (C : Addr) : Prop where
  pg : PySem.W.plainGet K C Str.empty = true
  hd : PySem.W.hasDictIn K C = true
  po : PySem.W.plainOver K C = true
  sa : PySem.W.findIn K (.ref C) "__setattr__" = some (some (.builtin "object.__setattr__"))
theorem Cls.get {K : PySem.W.Frag} {C : Addr} (c : Cls K C) (f : Str) : PySem.W.plainGet K C f = true := c.pg
noncomputable def NoAttr (K : PySem.W.Frag) (C : Addr) (f : Str) : Prop := PySem.W.findIn K (.ref C) f = some none
theorem NoAttr.taker {K : PySem.W.Frag} {C : Addr} {f : Str} (n : NoAttr K C f) : PySem.W.takerIn K C f = some none := by
  unfold PySem.W.takerIn
  rw [show PySem.W.findIn K (.ref C) f = some none from n]
  rfl
structure Con (K : PySem.W.Frag) (C : Addr) (f : Str) (v : V) (u : Value) : Prop where
  at_ : PySem.W.findIn K (.ref C) f = some (some u)
  rel : RelV v u
  get : PySem.W.specialIn K u "__get__" = some none
  cp : PySem.W.copiedNames.contains f = false
structure Meth (K : PySem.W.Frag) (C : Addr) (m : Str) (f : Addr) : Prop where
  at_ : PySem.W.findIn K (.ref C) m = some (some (.ref f))
  fn : PySem.W.isFn K (.ref f) = true
  kp : PySem.W.keepIn K (.ref f) = true
section
variable {X : Cx} {pins : List (Addr × Obj)} {σ : St} {H : Hp} {s : Shared} {a C dx : Addr} {fs : List (Str × V)} {f : Str} {v : V} {A : Around} {E : Value → Shared → Prop}
theorem getattr_ok {b : Bool} {Q : Value → Shared → Prop} (I : Inv X pins σ H s) (e : H a = some (.ins C dx fs)) (c : Cls X.K C) (n : NoAttr X.K C f) (l : fs.lookup f = some v)
    (h : ∀ u s', Inv X pins σ H s' → RelV v u → Q u s') : wpAny (model X.prog X.w) A (getAttr (.ref a) f b) Q E s := by
  obtain ⟨mA, O, r, _, _, _⟩ := ins_get I.hok e
  obtain ⟨u, hu, ru⟩ := RelO.some_of (v := v) (o := mA f) (by rw [← l]; exact r f)
  exact get_map I.kIn O (c.get f) c.hd n hu (handed_of ru) (h u _ (I.tok _) ru)
theorem getmeth_ok {m : Str} {g : Addr} {pl : Sem Bool} {Q : Value × List Value → Shared → Prop} (I : Inv X pins σ H s) (e : H a = some (.ins C dx fs)) (c : Cls X.K C) (k : Meth X.K C m g) (l : fs.lookup m = none)
    (h : Q (.ref g, [.ref a]) s) : wpAny (model X.prog X.w) A (getMethod (.ref a) m pl) Q E s := by
  obtain ⟨mA, O, r, _, _, _⟩ := ins_get I.hok e
  have hn : mA m = none := RelO.none_of (by rw [← l]; exact r m)
  exact get_meth I.kIn O (c.get m) k.at_ k.fn hn h
theorem setattr_ok {y : V} {u : Value} {Q : Unit → Shared → Prop} (I : Inv X pins σ H s) (e : H a = some (.ins C dx fs)) (c : Cls X.K C) (n : NoAttr X.K C f) (hl : fs.length < 1000) (ry : RelV y u)
    (h : ∀ s', Inv X pins σ (upd H a (.ins C dx (putF f y fs))) s' → Q () s') : wpAny (model X.prog X.w) A (setAttr (.ref a) f u) Q E s := by
  obtain ⟨mA, O, r, wi, _, ho⟩ := ins_get I.hok e
  have hz : (fs.map (·.1)).length ≤ sizeLine := by rw [List.length_map, sizeLine_eq]; omega
  refine set_map I.kIn O c.sa c.po n.taker c.hd wi hz fun h' O' sb => h _ ?_
  have hd : ∃ o, h'.get? dx = some o := let ⟨o, _, _, e', _⟩ := O'.ns; ⟨o, e'⟩
  refine I.write (x := a) (e := dx) (by rw [e]; exact True.intro) (.inr ho) (fun b q hb z => (sb.2 b hb).trans z) hd ?_
  refine ⟨by rw [upd_ne O.ne]; exact ho, ?_, O.ne, O'.obj, _, O'.ns, fun g => ?_, fun g hg => ?_⟩
  · have := length_putF f y fs; omega
  · show RelO ((putF f y fs).lookup g) (if g = f then some u else mA g)
    rw [lookup_putF]
    by_cases q : g = f
    · rw [if_pos q, if_pos q]; exact ry
    · rw [if_neg q, if_neg q]; exact r g
  · by_cases q : g = f
    · rw [q]; exact (keys_putF f y fs).1
    · refine (keys_putF f y fs).2 g (wi g fun z => hg ?_)
      show (if g = f then some u else mA g) = none
      rw [if_neg q]; exact z
theorem Inv.made (I : Inv X pins σ H s) : Inv X pins σ (upd (upd H s.heap.objs.size (.own (s.heap.objs.size + 1))) (s.heap.objs.size + 1) (.ins C s.heap.objs.size []))
    { s with heap := (s.heap.push PySem.W.emptyDict).push (PySem.W.instObj C s.heap.objs.size) } := by
  have e1 : (s.heap.push PySem.W.emptyDict).get? s.heap.objs.size = some PySem.W.emptyDict := Heap.get?_push_size s.heap rfl
  have e2 : ((s.heap.push PySem.W.emptyDict).push (PySem.W.instObj C s.heap.objs.size)).get? (s.heap.objs.size + 1) = some (PySem.W.instObj C s.heap.objs.size) := by
    have := Heap.get?_push_size (s.heap.push PySem.W.emptyDict) (o := PySem.W.instObj C s.heap.objs.size) rfl
    rwa [Heap.size_push] at this
  have e3 : (s.heap.push PySem.W.emptyDict).Ns s.heap.objs.size (fun _ => none) := ⟨PySem.W.emptyDict, #[], _, e1, rfl, (fun e he => absurd he (by simp)), fun _ => rfl⟩
  have I1 := I.laid (a := s.heap.objs.size) (o := .own (s.heap.objs.size + 1)) (h' := s.heap.push PySem.W.emptyDict) (t' := s.toks) (fun b u q => Heap.get?_push_of_some _ q) (Nat.le_refl _) ⟨_, e1⟩
  refine I1.laid (a := s.heap.objs.size + 1) (o := .ins C s.heap.objs.size []) (t' := s.toks) (fun b u q => Heap.get?_push_of_some _ q) (Nat.le_of_eq (Heap.size_push _ _)) ?_
  have ne : s.heap.objs.size ≠ s.heap.objs.size + 1 := Nat.ne_of_lt (Nat.lt_succ_self _)
  refine ⟨by rw [upd_ne ne, upd_same], Nat.zero_le _, ne, e2, fun _ => none, (Heap.Ns1.of_empty e3).at fun o q => Heap.get?_push_of_some _ q, fun _ => True.intro, fun y hy => absurd rfl hy⟩
theorem attr_of {prog : Program} {w : World} {env : Env} {e : Expr} {f : Str} {pos : Pos} {s : Shared} {Q : Value → Shared → Prop} (hb : attributeBase e f env (eval e env) = eval e env)
    (h : wpAny (model prog w) A (eval e env) (fun o s₁ => wpAny (model prog w) A (getAttr o f true) Q E s₁) E s) : wpAny (model prog w) A (eval (.Attribute e f pos) env) Q E s :=
  Attribute_any_ h (by rw [arm_eval_Attribute, hb])
end
noncomputable def tFld (K : PySem.W.Frag) (ta : TE) (f : Str) : TE := fun σ H Q => ta σ H fun x H1 => ∃ a C dx fs v, x = .ref a ∧ H1 a = some (.ins C dx fs) ∧ Cls K C ∧ NoAttr K C f ∧ fs.lookup f = some v ∧ Q v H1
noncomputable def sFld (K : PySem.W.Frag) (ta tv : TE) (f : Str) : TS := fun D σ H => tv σ H fun y H1 => ta σ H1 fun x H2 => ∃ a C dx fs, x = .ref a ∧ H2 a = some (.ins C dx fs) ∧ Cls K C ∧ NoAttr K C f ∧ fs.length < 1000 ∧
  D.nx σ (upd H2 a (.ins C dx (putF f y fs)))
section
variable {X : Cx} {o e value : Expr} {f : Str} {pos pos' tpos : Pos} {ta tv : TE}
theorem pe_fld (he : PE X e ta) (hb : attributeBase e f X.env (eval e X.env) = eval e X.env) : PE X (.Attribute e f pos) (tFld X.K ta f) := by
  intro pins s σ H Q I h
  refine attr_of hb (thn (he pins s σ H _ I h) fun u s1 ⟨x, H1, I1, rx, a, C, dx, fs, v, ex, ea, c, n, l, q⟩ => ?_)
  subst ex
  obtain rfl : u = Value.ref a := rx
  exact getattr_ok I1 ea c n l fun u' s2 I2 ru => ⟨v, H1, I2, ru, q⟩
theorem ps_fld (ha : PE X o ta) (hv : PE X value tv) (hs : swapsWith value (some (.Attribute o f pos')) pos.line X.env = pure false) : PS X (.Assign [.Attribute o f pos'] value pos) (sFld X.K ta tv f) := by
  intro pins s σ H D I h
  refine plainObj_wpAny_Assign_Attribute (thn (hv pins s σ H _ I h) fun u s1 ⟨y, H1, I1, ry, q⟩ => thn (ha pins s1 σ H1 _ I1 q) fun ov s2 ⟨x, H2, I2, rx, a, C, dx, fs, ex, ea, c, n, l, q2⟩ => ?_) hs
  subst ex
  obtain rfl : ov = Value.ref a := rx
  exact setattr_ok I2 ea c n l ry fun s3 I3 => ⟨σ, _, I3, q2⟩
end
section
variable {X : Cx} {pins : List (Addr × Obj)} {σ : St} {H : Hp} {s : Shared} {A : Around} {E : Value → Shared → Prop} {Q : Value → Shared → Prop} {c : Value} {b : Bool}
inductive TyOf (K : PySem.W.Frag) (H : Hp) : V → Value → Prop where
  | non : TyOf K H .non (.type "NoneType")
  | bl (x : Bool) : TyOf K H (.bl x) (.type "bool")
  | int (i : Int) : TyOf K H (.int i) (.type "int")
  | str (x : Str) : TyOf K H (.str x) (.type "str")
  | flt (x : UInt64) : TyOf K H (.flt x) (.type "float")
  | lst {a : Addr} {xs : List V} (e : H a = some (.lst xs)) : TyOf K H (.ref a) (.type "list")
  | frz {a : Addr} {o : Obj} {xs : List V} (e : H a = some (.frz o (.lst xs))) : TyOf K H (.ref a) (.type "list")
  | tup {a : Addr} {xs : List V} (e : H a = some (.tup xs)) : TyOf K H (.ref a) (.type "tuple")
  | dK {a : Addr} {kvs : List (Key × V)} (e : H a = some (.dK kvs)) : TyOf K H (.ref a) (.type "dict")
  | dT {a : Addr} {kvs : List (List Key × V)} (e : H a = some (.dT kvs)) : TyOf K H (.ref a) (.type "dict")
  | ins {a C dx : Addr} {fs : List (Str × V)} (e : H a = some (.ins C dx fs)) (cl : Cls K C) (ha : PySem.W.findIn K (.ref C) "__class__" = some (some (.builtin "object.__class__")))
      (hn : PySem.W.specialIn K (.builtin "object.__class__") "__get__" = some (some (.builtin "getset_descriptor.__get__"))) (htk : PySem.W.takesIn K (.builtin "object.__class__") = some true)
      (hm : PySem.W.mroIn K C (.type "object") = some true) : TyOf K H (.ref a) (.ref C)
end
end L2
namespace L2
open PySem PySem.Spec PyProof.Rows
structure Room (k : Nat) (A : Around) : Prop where
  hd : A.handled = none
  dp : A.depth + 3 * k + 5 < recursionLimit
  un : A.units + 16 * k + 200 < cLine
theorem Room.mono {j k : Nat} {A : Around} (r : Room k A) (h : j ≤ k) : Room j A := ⟨r.hd, by have := r.dp; omega, by have := r.un; omega⟩
theorem Room.deeper {k : Nat} {A : Around} (r : Room (k + 1) A) (env : Env) : Room k (A.deeper env) :=
  ⟨r.hd, by have := r.dp; show A.depth + 1 + 3 * k + 5 < _; omega, by have := r.un; show A.units + 3 + 16 * k + 200 < _; omega⟩
theorem make_depth {A : Around} {C : Addr} {us : List Value} {kw : List (Str × Value)} : (A.under (.builtin "type.__call__" ⟨.ref C :: us, kw⟩)).depth = A.depth + 1 := by
  first | rfl | simp [Around.under, Code.weight, Code.isCreation, Code.isGuard, Code.isCaller, Code.frames, Code.isFrame, guardIds]
theorem make_units {A : Around} {C : Addr} {us : List Value} {kw : List (Str × Value)} : (A.under (.builtin "type.__call__" ⟨.ref C :: us, kw⟩)).units = A.units + 1 := by
  first | rfl | simp [Around.under, Code.cUnits, Code.frames, Code.isFrame]
theorem Room.make {k : Nat} {A : Around} (r : Room (k + 1) A) (C : Addr) (us : List Value) (kw : List (Str × Value)) : Room k (A.under (.builtin "type.__call__" ⟨.ref C :: us, kw⟩)) :=
  ⟨r.hd, by have := r.dp; rw [make_depth]; omega, by have := r.un; rw [make_units]; omega⟩
theorem Room.depth {k : Nat} {A : Around} (r : Room k A) : A.depth < recursionLimit := by have := r.dp; omega
theorem Room.units {k : Nat} {A : Around} (r : Room k A) : A.units + 64 < cLine := by have := r.un; omega
noncomputable def tNil : TA := fun _ H Q => Q [] H
noncomputable def tCons (ta : TE) (tr : TA) : TA := fun σ H Q => ta σ H fun x H1 => tr σ H1 fun xs H2 => Q (x :: xs) H2
section
variable {X : Cx} {e : Expr} {es : List Expr} {te : TE} {t : TA} {pos : Pos}
theorem pa_nil : PA X [] tNil := fun _ _ _ _ H Q I h => Calls.spliced_nil ⟨[], H, I, .nil, h⟩
theorem pa_cons (ha : PE X e te) (hr : PA X es t) (hs : starEach (e :: es) X.env = (false, eval e X.env) :: starEach es X.env := by rfl) : PA X (e :: es) (tCons te t) := by
  intro pos pins s σ H Q I h
  rw [hs]
  show wpAny _ _ (spliced ((false, eval e X.env) :: backTo pos (starEach es X.env))) _ _ s
  refine Calls.spliced_cons (thn (ha pins s σ H _ I h) fun u s1 ⟨x, H1, I1, r1, q1⟩ => ?_)
  exact thn (hr pos pins s1 σ H1 _ I1 q1) fun us s2 ⟨xs, H2, I2, r2, q2⟩ => ⟨x :: xs, H2, I2, .cons r1 r2, q2⟩
noncomputable def tTup (t : TA) : TE := fun σ H Q => t σ H fun xs H1 => xs.length ≤ sizeLine ∧ ∀ p, H1 p = none → Q (.ref p) (upd H1 p (.tup xs))
noncomputable def tLst (t : TA) : TE := fun σ H Q => t σ H fun xs H1 => xs.length ≤ sizeLine ∧ ∀ p, H1 p = none → Q (.ref p) (upd H1 p (.lst xs))
theorem pe_tup {x1} (h : PA X es t) : PE X (.Tuple es x1 pos) (tTup t) := by
  intro pins s σ H Q I hq
  refine wpAny_Tuple_spliced (thn (h pos pins s σ H _ I hq) fun us s1 ⟨xs, H1, I1, r, z, q⟩ => ⟨by rw [← r.length]; exact z, ?_⟩)
  have hf : H1 s1.heap.objs.size = none := I1.hok.fresh (Nat.le_refl _)
  refine ⟨.ref s1.heap.objs.size, upd H1 s1.heap.objs.size (.tup xs), I1.laid (t' := s1.toks) (fun b u e => Heap.get?_push_of_some _ e) (Nat.le_refl _) ?_, rfl, q _ hf⟩
  exact ⟨z, us, r, ⟨_, Heap.get?_push_size _ rfl, rfl, _, rfl⟩⟩
theorem pe_lst (h : PA X es t) : PE X (.List es pos) (tLst t) := by
  intro pins s σ H Q I hq
  refine wpAny_List_spliced (thn (h pos pins s σ H _ I hq) fun us s1 ⟨xs, H1, I1, r, z, q⟩ => ⟨by rw [← r.length]; exact z, ?_⟩)
  have hf : H1 s1.heap.objs.size = none := I1.hok.fresh (Nat.le_refl _)
  refine ⟨.ref s1.heap.objs.size, upd H1 s1.heap.objs.size (.lst xs), I1.laid (t' := s1.toks) (fun b u e => Heap.get?_push_of_some _ e) (Nat.le_refl _) ?_, rfl, q _ hf⟩
  exact ⟨z, us, 0, r, Heap.get?_push_size _ rfl⟩
end
noncomputable abbrev Sp := List V → Hp → VK → XK → Prop
noncomputable abbrev CXT := List Env → Hp → Shared → XK → Value → Shared → Prop
structure Env0 (P : Program) (w : World) (K : PySem.W.Frag) (mg : Str → Option Value) (base : Heap) (A : Around) (outer : List Env) (s : Shared) (H : Hp) : Prop where
  frames : A.frames = some outer
  mod : Mod K mg base
  bs : ∀ b o, base.get? b = some o → s.heap.get? b = some o ∧ H b = none
  bsz : base.objs.size ≤ s.heap.objs.size
  funs : s.heap.FunFrames base outer
  frf : ∀ b ∈ frs outer, H b = none
  hok : HOk P w H s.heap
  bare : AllBare s.gens
noncomputable def CE (outer : List Env) (P : Program) (w : World) (H : Hp) (s : Shared) (Q : VK) (u : Value) (s' : Shared) : Prop :=
  ∃ v H', s'.os = s.os ∧ AllBare s'.gens ∧ Un (frs outer) [] H H' s.heap s'.heap ∧ HOk P w H' s'.heap ∧ RelV v u ∧ Q v H'
noncomputable def CR (CX : CXT) (outer : List Env) (P : Program) (w : World) (H : Hp) (s : Shared) (Q : VK) (E : XK) (r : Result) (s' : Shared) : Prop :=
  match r with
  | .ok (.ret u) => CE outer P w H s Q u s'
  | .ok _ => False
  | .error e => CX outer H s E e s'
structure FnOk (P : Program) (w : World) (K : PySem.W.Frag) (mg : Str → Option Value) (base : Heap) (CX : CXT) (k : Nat) (f : Addr) (fd : FuncData) (ps : List Str) (sp : Sp) : Prop where
  len : ∀ vs H Q E, sp vs H Q E → vs.length = ps.length
  run : ∀ (A : Around) (outer : List Env) (s : Shared) (H : Hp) (args : Args) (us : List Value) (vs : List V) (Q : VK) (E : XK), Room k A → Env0 P w K mg base A outer s H → BindsTo s fd args (ps.zip us) → Vals vs us → sp vs H Q E →
    codeAny (model P w) A (.call (.ref f) args) (CR CX outer P w H s Q E) s
theorem Env0.make {P : Program} {w : World} {K : PySem.W.Frag} {mg : Str → Option Value} {base : Heap} {A : Around} {outer : List Env} {s : Shared} {H : Hp} (e : Env0 P w K mg base A outer s H) (C : Addr) (us : List Value) (kw : List (Str × Value)) :
    Env0 P w K mg base (A.under (.builtin "type.__call__" ⟨.ref C :: us, kw⟩)) outer s H := ⟨by first | exact e.frames | (simpa [Around.under, Code.envs, Code.isFrame, pushEnvs] using e.frames), e.mod, e.bs, e.bsz, e.funs, e.frf, e.hok, e.bare⟩
section
variable {X : Cx} {pins : List (Addr × Obj)} {σ : St} {H : Hp} {s s' : Shared}
theorem Inv.env0 (I : Inv X pins σ H s) : Env0 X.prog X.w X.K X.mg X.base X.A X.stack s H :=
  ⟨I.ok.frames, I.ok.mod, I.bs, Nat.le_trans I.ok.bsz I.sz, I.stack, I.stkFree, I.hok, I.bare⟩
theorem Inv.after {Q : VK} {u : Value} (I : Inv X pins σ H s) (h : CE X.stack X.prog X.w H s Q u s') : EP X pins σ Q u s' := by
  obtain ⟨v, H', os, bare, un, hok, r, q⟩ := h
  obtain ⟨hh, g, d, t, os'⟩ := s'
  obtain rfl : os' = s.os := os
  exact ⟨v, H', I.call (h' := hh) (g' := g) (d' := d) (t' := t) (ch := []) un hok bare (fun b z => absurd z (by simp)), r, q⟩
end
noncomputable def tCall (sp : Sp) (dvs : List V) (E : XK) (t : TA) : TE := fun σ H Q => t σ H fun vs H1 => sp (vs ++ dvs) H1 Q E
noncomputable def tMeth (C : Addr) (m : Str) (sp : Sp) (dvs : List V) (E : XK) (ta : TE) (t : TA) : TE := fun σ H Q => ta σ H fun x H1 => ∃ a dx fs, x = .ref a ∧ H1 a = some (.ins C dx fs) ∧ fs.lookup m = none ∧
  t σ H1 fun vs H2 => sp (x :: (vs ++ dvs)) H2 Q E
noncomputable def tMake (C : Addr) (sp : Sp) (dvs : List V) (E : XK) (t : TA) : TE := fun σ H Q => t σ H fun vs H1 => ∀ x dx, H1 x = none → H1 dx = none → dx ≠ x →
  sp (.ref x :: (vs ++ dvs)) (upd (upd H1 dx (.own x)) x (.ins C dx [])) (fun v H2 => v = .non ∧ Q (.ref x) H2) E
noncomputable def Binds (K : PySem.W.Frag) (fd : FuncData) (ps : List Str) (ds : List Value) : Prop :=
  ∀ (s : Shared) (us : List Value), K.In s.heap → (us ++ ds).length = ps.length → BindsTo s fd ⟨us, []⟩ (ps.zip (us ++ ds))
theorem Binds.all {K : PySem.W.Frag} {fd : FuncData} {ps : List Str} (h : ∀ us : List Value, us.length = ps.length → bindArgs fd ⟨us, []⟩ = pure (ps.zip us)) : Binds K fd ps [] := fun s us _ hl => by
  rw [List.append_nil] at hl ⊢
  exact .of_eq (h us hl)
noncomputable def Passes (CX : CXT) (X : Cx) (E : XK) : Prop := ∀ (pins : List (Addr × Obj)) (σ : St) (H : Hp) (s : Shared) (e : Value) (s' : Shared), Inv X pins σ H s → CX X.stack H s E e s' → X.xe e s'
section
variable {X : Cx} {CX : CXT} {k : Nat} {f C : Addr} {fd : FuncData} {ps : List Str} {sp : Sp} {dvs : List V} {ds : List Value} {E : XK} {x m : Str} {p pos apos : Pos} {e o : Expr} {es : List Expr} {ta : TE} {t : TA}
theorem run_fn {pins : List (Addr × Obj)} {σ : St} {H : Hp} {s : Shared} {Q : VK} {us : List Value} {vs : List V} (F : FnOk X.prog X.w X.K X.mg X.base CX k f fd ps sp) (hr : Room k X.A) (hb : Binds X.K fd ps ds) (hd : Vals dvs ds) (hx : Passes CX X E)
    (I : Inv X pins σ H s) (r : Vals vs us) (h : sp (vs ++ dvs) H Q E) : wpAny (model X.prog X.w) X.A (call (.ref f) us) (EP X pins σ Q) X.xe s := by
  have r2 : Vals (vs ++ dvs) (us ++ ds) := r.append hd
  have hl : (us ++ ds).length = ps.length := by rw [← r2.length]; exact F.len _ _ _ _ h
  refine wpAny_call (codeAny_mono (F.run X.A X.stack s H ⟨us, []⟩ (us ++ ds) (vs ++ dvs) Q E hr I.env0 (hb s us I.kIn hl) r2 h) fun r s' hq => ?_)
  cases r with
  | error e => exact hx pins σ H s e s' I hq
  | ok fl =>
    cases fl with
    | ret u => exact I.after hq
    | next => exact False.elim hq
    | brk => exact False.elim hq
    | cont => exact False.elim hq
theorem pe_call (F : FnOk X.prog X.w X.K X.mg X.base CX k f fd ps sp) (hr : Room k X.A) (hg : Gl X x) (hm : X.mg x = some (.ref f)) (hk : PySem.W.keepIn X.K (.ref f) = true) (hb : Binds X.K fd ps ds) (hd : Vals dvs ds) (hx : Passes CX X E)
    (ha : PA X (e :: es) t) (hdb : (x == ("__debug__" : Str)) = false := by decide) (he : starEach (e :: es) X.env = (false, eval e X.env) :: starEach es X.env := by rfl) (hpl : (backTo pos (starEach es X.env)).any (·.1) = false := by rfl) :
    PE X (.Call (.Name x p) (e :: es) [] pos) (tCall sp dvs E t) := by
  intro pins s σ H Q I h
  refine wpAny_Call_Name_kw (ld_glob I hg hm ?_ hdb)
  refine PySem.W.callWith_K (h₀ := X.base) I.ok.mod.kin hk (thn (ha pos pins s σ H _ I h) fun us s1 ⟨vs, H1, I1, r, q⟩ => ⟨I1.kIn, ?_⟩) he hpl
  exact run_fn F hr hb hd hx I1 r q
theorem pe_meth {pl : Sem Bool} (he : PE X o ta) (c : Cls X.K C) (hm : Meth X.K C m f) (F : FnOk X.prog X.w X.K X.mg X.base CX k f fd ps sp) (hr : Room k X.A) (hb : Binds X.K fd ps ds) (hd : Vals dvs ds) (hx : Passes CX X E) (ha : PA X (e :: es) t)
    (hst : starEach (e :: es) X.env = (false, eval e X.env) :: starEach es X.env := by rfl) (hpl : (backTo pos (starEach es X.env)).any (·.1) = false := by rfl)
    (ht : eval (.Call (.Attribute o m apos) (e :: es) [] pos) X.env = (do
      let ov ← eval o X.env
      standAt apos.atName
      let (f, first) ← holding [ov] (getMethod ov m pl)
      callWith pos f first (backTo pos (starEach (e :: es) X.env)) (backToKw pos (keywordEach [] X.env))) := by rfl) :
    PE X (.Call (.Attribute o m apos) (e :: es) [] pos) (tMeth C m sp dvs E ta t) := by
  intro pins s σ H Q I h
  refine PySem.W.methodCall_KW (pl := pl) (thn (he pins s σ H _ I h) fun u s1 ⟨x, H1, I1, rx, a, dx, fs, ex, ea, l, q⟩ => ?_) ht
  subst ex
  obtain rfl : u = Value.ref a := rx
  refine getmeth_ok I1 ea c hm l ?_
  refine PySem.W.callWith_K (first := [.ref a]) (h₀ := X.base) I.ok.mod.kin hm.kp (thn (ha pos pins s1 σ H1 _ I1 q) fun us s2 ⟨vs, H2, I2, r, q2⟩ => ⟨I2.kIn, ?_⟩) hst hpl
  exact run_fn (us := .ref a :: us) (vs := .ref a :: vs) F hr hb hd hx I2 (.cons rfl r) q2
theorem pe_meth0 {pl : Sem Bool} (he : PE X o ta) (c : Cls X.K C) (hm : Meth X.K C m f) (F : FnOk X.prog X.w X.K X.mg X.base CX k f fd ps sp) (hr : Room k X.A) (hb : Binds X.K fd ps ds) (hd : Vals dvs ds) (hx : Passes CX X E)
    (ht : eval (.Call (.Attribute o m apos) [] [] pos) X.env = (do
      let ov ← eval o X.env
      standAt apos.atName
      let (f, first) ← holding [ov] (getMethod ov m pl)
      callWith pos f first (backTo pos (starEach [] X.env)) (backToKw pos (keywordEach [] X.env))) := by rfl) :
    PE X (.Call (.Attribute o m apos) [] [] pos) (tMeth C m sp dvs E ta tNil) := by
  intro pins s σ H Q I h
  refine PySem.W.methodCall_KW (pl := pl) (thn (he pins s σ H _ I h) fun u s1 ⟨x, H1, I1, rx, a, dx, fs, ex, ea, l, q⟩ => ?_) ht
  subst ex
  obtain rfl : u = Value.ref a := rx
  refine getmeth_ok I1 ea c hm l ?_
  exact PySem.W.callWith_K0 (first := [.ref a]) I1.kIn hm.kp (run_fn (us := [.ref a]) (vs := [.ref a]) F hr hb hd hx I1 (.cons rfl .nil) q)
structure Mk (K : PySem.W.Frag) (C f : Addr) : Prop where
  makes : PySem.W.makesIn K C = true
  init : PySem.W.findIn K (.ref C) "__init__" = some (some (.ref f))
  fn : PySem.W.isFn K (.ref f) = true
  kp : PySem.W.keepIn K (.ref C) = true
theorem run_make {pins : List (Addr × Obj)} {σ : St} {H : Hp} {s : Shared} {Q : VK} {us : List Value} {vs : List V} (M : Mk X.K C f) (F : FnOk X.prog X.w X.K X.mg X.base CX k f fd ps sp) (hr : Room (k + 1) X.A) (hb : Binds X.K fd ps ds) (hd : Vals dvs ds)
    (hx : Passes CX X E) (I : Inv X pins σ H s) (r : Vals vs us)
    (h : ∀ x dx, H x = none → H dx = none → dx ≠ x → sp (.ref x :: (vs ++ dvs)) (upd (upd H dx (.own x)) x (.ins C dx [])) (fun v H2 => v = .non ∧ Q (.ref x) H2) E) :
    wpAny (model X.prog X.w) X.A (call (.ref C) us) (EP X pins σ Q) X.xe s := by
  have hq := h (s.heap.objs.size + 1) s.heap.objs.size (I.hok.fresh (Nat.le_succ _)) (I.hok.fresh (Nat.le_refl _)) (Nat.ne_of_lt (Nat.lt_succ_self _))
  have I2 := Inv.made (C := C) I
  have r2 : Vals (V.ref (s.heap.objs.size + 1) :: (vs ++ dvs)) (Value.ref (s.heap.objs.size + 1) :: (us ++ ds)) := .cons rfl (r.append hd)
  have hl : (Value.ref (s.heap.objs.size + 1) :: us ++ ds).length = ps.length := by
    have e := r2.length
    rw [F.len _ _ _ _ hq] at e
    exact e.symm
  refine wpAny_call (make_map (f := f) I.kIn M.makes M.init (beq_iff_eq.mp M.fn) (codeAny_mono (F.run _ X.stack _ _ ⟨Value.ref (s.heap.objs.size + 1) :: us, []⟩ (Value.ref (s.heap.objs.size + 1) :: (us ++ ds)) _ _ E (hr.make C us [])
    (I2.env0.make C us []) (hb _ (Value.ref (s.heap.objs.size + 1) :: us) I2.kIn hl) r2 hq) fun r s' hq' => ?_))
  cases r with
  | error e => exact hx pins σ _ _ e s' I2 hq'
  | ok fl =>
    cases fl with
    | ret u =>
      obtain ⟨v, H', I3, rv, ev, q3⟩ := I2.after hq'
      subst ev
      exact ⟨rv, ⟨V.ref (s.heap.objs.size + 1), H', I3, rfl, q3⟩⟩
    | next => exact False.elim hq'
    | brk => exact False.elim hq'
    | cont => exact False.elim hq'
theorem pe_make (M : Mk X.K C f) (F : FnOk X.prog X.w X.K X.mg X.base CX k f fd ps sp) (hr : Room (k + 1) X.A) (hg : Gl X x) (hm : X.mg x = some (.ref C)) (hb : Binds X.K fd ps ds) (hd : Vals dvs ds) (hx : Passes CX X E)
    (ha : PA X (e :: es) t) (hdb : (x == ("__debug__" : Str)) = false := by decide) (he : starEach (e :: es) X.env = (false, eval e X.env) :: starEach es X.env := by rfl) (hpl : (backTo pos (starEach es X.env)).any (·.1) = false := by rfl) :
    PE X (.Call (.Name x p) (e :: es) [] pos) (tMake C sp dvs E t) := by
  intro pins s σ H Q I h
  refine wpAny_Call_Name_kw (ld_glob I hg hm ?_ hdb)
  refine PySem.W.callWith_K (h₀ := X.base) I.ok.mod.kin M.kp (thn (ha pos pins s σ H _ I h) fun us s1 ⟨vs, H1, I1, r, q⟩ => ⟨I1.kIn, ?_⟩) he hpl
  exact run_make M F hr hb hd hx I1 r q
end
section
variable {X : Cx} {CX : CXT} {k : Nat} {f C : Addr} {fd : FuncData} {ps ks : List Str} {sp : Sp} {E : XK} {x m : Str} {p pos apos kpos : Pos} {e o : Expr} {es : List Expr} {kws : List Keyword} {te ta : TE} {t tk : TA} {nm : Option Str}
structure KBinds (K : PySem.W.Frag) (fd : FuncData) (ps ks : List Str) (g : List Value → List Value → List Value) (gV : List V → List V → List V) : Prop where
  to : ∀ (s : Shared) (us ws : List Value), K.In s.heap → (g us ws).length = ps.length → BindsTo s fd ⟨us, ks.zip ws⟩ (ps.zip (g us ws))
  rel : ∀ {vs : List V} {us : List Value} {zs : List V} {ws : List Value}, Vals vs us → Vals zs ws → Vals (gV vs zs) (g us ws)
variable {g : List Value → List Value → List Value} {gV : List V → List V → List V}
end
structure FnScope (N P : List Str) (sc : Scope) : Prop where
  kind : sc.kind = .function
  co : sc.isCoroutine = false
  gen : sc.isGenerator = false
  nd : N.Nodup
  pre : N.take P.length = P
  par : ∀ x ∈ P, sc.names.lookup x = some .local ∨ sc.names.lookup x = some .cell
  nofree : ∀ y ∈ sc.names, y.2 ≠ .free
theorem bindL_out {kindOf : Str → Option NameKind} {x : Str} : ∀ {binds : List (Str × Value)} {m : Str → Option Value}, (∀ v, (x, v) ∉ binds) → bindL kindOf binds m x = m x
  | [], _, _ => rfl
  | (n, v) :: r, m, h => by
    unfold bindL
    rw [bindL_out fun w hw => h w (List.mem_cons_of_mem _ hw)]
    split
    · have : x ≠ n := by rintro rfl; exact h v List.mem_cons_self
      simp [this]
    · rfl
theorem bindC_out {kindOf : Str → Option NameKind} {x : Str} : ∀ {binds : List (Str × Value)} {m : Str → Option Value}, (∀ v, (x, v) ∉ binds) → bindC kindOf binds m x = m x
  | [], _, _ => rfl
  | (n, v) :: r, m, h => by
    unfold bindC
    rw [bindC_out fun w hw => h w (List.mem_cons_of_mem _ hw)]
    split
    · rfl
    · have : x ≠ n := by rintro rfl; exact h v List.mem_cons_self
      simp [this]
theorem bindL_get {kindOf : Str → Option NameKind} {x : Str} {v : Value} : ∀ {P : List Str} {vs : List Value} {i : Nat} {m : Str → Option Value}, P.Nodup → P[i]? = some x → vs[i]? = some v → kindOf x = some .local →
    bindL kindOf (P.zip vs) m x = some v
  | [], _, _, _, _, h, _, _ => by simp at h
  | _ :: _, [], _, _, _, _, h, _ => by simp at h
  | p :: P, w :: vs, 0, m, nd, h1, h2, hk => by
    simp at h1 h2; subst h1; subst h2
    show bindL kindOf ((p, w) :: P.zip vs) m p = _
    unfold bindL
    rw [bindL_out fun v hv => (List.nodup_cons.mp nd).1 (List.of_mem_zip hv).1, if_pos hk]
    simp
  | p :: P, w :: vs, i + 1, m, nd, h1, h2, hk => by
    show bindL kindOf ((p, w) :: P.zip vs) m x = _
    unfold bindL
    exact bindL_get (i := i) (List.nodup_cons.mp nd).2 (by simpa using h1) (by simpa using h2) hk
theorem bindC_get {kindOf : Str → Option NameKind} {x : Str} {v : Value} : ∀ {P : List Str} {vs : List Value} {i : Nat} {m : Str → Option Value}, P.Nodup → P[i]? = some x → vs[i]? = some v → kindOf x ≠ some .local →
    bindC kindOf (P.zip vs) m x = some v
  | [], _, _, _, _, h, _, _ => by simp at h
  | _ :: _, [], _, _, _, _, h, _ => by simp at h
  | p :: P, w :: vs, 0, m, nd, h1, h2, hk => by
    simp at h1 h2; subst h1; subst h2
    show bindC kindOf ((p, w) :: P.zip vs) m p = _
    unfold bindC
    rw [bindC_out fun v hv => (List.nodup_cons.mp nd).1 (List.of_mem_zip hv).1, if_neg hk]
    simp
  | p :: P, w :: vs, i + 1, m, nd, h1, h2, hk => by
    show bindC kindOf ((p, w) :: P.zip vs) m x = _
    unfold bindC
    exact bindC_get (i := i) (List.nodup_cons.mp nd).2 (by simpa using h1) (by simpa using h2) hk
noncomputable def start (N : List Str) (vs : List V) : St := vs.map some ++ List.replicate (N.length - vs.length) none
noncomputable def cxOf (CX : CXT) (P : Program) (w : World) (K : PySem.W.Frag) (mg : Str → Option Value) (base : Heap) (N : List Str) (qual : Str) (scope : Scope) (f : Addr) (cd : Value) (A : Around) (outer : List Env) (s : Shared) (H : Hp) (E : XK) : Cx where
  prog := P
  w := w
  K := K
  mg := mg
  base := base
  A := A.deeper (envOfC qual scope s.heap.objs.size f cd)
  N := N
  s₀ := s
  H₀ := H
  env := envOfC qual scope s.heap.objs.size f cd
  outer := outer
  stack := envOfC qual scope s.heap.objs.size f cd :: outer
  ex := []
  calm := true
  fn := fun _ => true
  pn := []
  xe := fun e s' => wpAny (model P w) (A.deeper (envOfC qual scope s.heap.objs.size f cd)) (leaving (envOfC qual scope s.heap.objs.size f cd) e) (fun _ s'' => CX outer H s E e s'') (fun e' s'' => CX outer H s E e' s'') s'
theorem cell_has {sc : Scope} {n : Nat} {x : Str} (h : sc.names.lookup x = some .cell) : ∃ c, (cellsFrom n sc.names []).lookup x = some c := by
  have q := PySem.W.cellsFrom_some sc.names n [] (.inl h)
  exact Option.isSome_iff_exists.mp q
theorem inv_start {CX : CXT} {P : Program} {w : World} {K : PySem.W.Frag} {mg : Str → Option Value} {base : Heap} {N ps : List Str} {qual : Str} {scope : Scope} {f : Addr} {cd : Value} {A : Around} {outer : List Env} {s s1 : Shared} {H : Hp} {E : XK} {us : List Value} {vs : List V}
    (S : FnScope N ps scope) (hd : A.handled = none) (e0 : Env0 P w K mg base A outer s H) (hl : vs.length = ps.length) (r : Vals vs us)
    (x : InCallC s s.heap.objs.size (bindL (envOfC qual scope s.heap.objs.size f cd).kindOf (ps.zip us) fun _ => none) (cellsFrom (s.heap.objs.size + 1) scope.names []) (bindC (envOfC qual scope s.heap.objs.size f cd).kindOf (ps.zip us) fun _ => none) s1) :
    Inv (cxOf CX P w K mg base N qual scope f cd A outer s H E) [] (start N vs) H s1 := by
  have hpl : ps.length ≤ N.length := by have := congrArg List.length S.pre; rw [List.length_take] at this; omega
  obtain ⟨h1, tk, rfl, hk⟩ := x.done
  have noA : ∀ b : Addr, b ∉ (cxOf CX P w K mg base N qual scope f cd A outer s H E).ex := fun b z => absurd (show b ∈ ([] : List Addr) from z) (by simp)
  refine ⟨⟨e0.mod, S.kind, rfl, rfl, Nat.le_refl _, fun y z c h1 h2 => ?_, fun y hy => ?_, fun y c _ h => ?_, fun _ => hd, Around.frames_deeper e0.frames, .inr ⟨rfl, rfl⟩, fun b z => absurd z (noA b), e0.bs, e0.bsz, fun b _ _ => noA b, fun b z => absurd z (noA b), e0.funs, e0.frf⟩,
    rfl, e0.bare, Un.kept hk, ⟨_, x.toInCall.ns, fun i y v h1 h2 h3 => ?_⟩, fun y c h => ⟨_, x.cell y c h⟩, e0.hok.fresh (Nat.le_refl _), fun y c h => ?_, fun p hp => absurd (show p ∈ ([] : List (Addr × Obj)) from hp) (by simp), e0.hok.kept hk, ?_⟩
  · exact name_of_addr x.apart (PySem.mem_of_lookup h1) (PySem.mem_of_lookup h2)
  · have hy : scope.names.lookup y = some .cell ∨ scope.names.lookup y = some .free := hy
    rcases hy with hy | hy
    · exact cell_has hy
    · exact absurd rfl (S.nofree _ (PySem.mem_of_lookup hy))
  · exact Nat.le_of_lt (x.above y c (PySem.mem_of_lookup h))
  · have hi : i < vs.length := by
      unfold start at h2
      by_cases hi : i < vs.length
      · exact hi
      · rw [List.getElem?_append_right (by simpa using hi)] at h2
        rw [List.getElem?_replicate] at h2
        split at h2 <;> cases h2
    have ha : vs[i]? = some v := by
      unfold start at h2
      rw [List.getElem?_append_left (by simpa using hi), List.getElem?_map] at h2
      cases e : vs[i]? with
      | none => rw [e] at h2; cases h2
      | some a => rw [e] at h2; cases h2; rfl
    obtain ⟨u, hu, rv⟩ := r.get ha
    have hp : ps[i]? = some y := by
      rw [← S.pre, List.getElem?_take_of_lt (by omega)]; exact h1
    have ndP : ps.Nodup := by rw [← S.pre]; exact S.nd.sublist (List.take_sublist _ _)
    refine ⟨u, rv, ?_⟩
    rcases S.par y (List.mem_of_getElem? hp) with k | k
    · exact .inl ⟨k, bindL_get ndP hp hu k⟩
    · obtain ⟨c, e⟩ := cell_has (n := s.heap.objs.size + 1) k
      refine .inr ⟨.inl k, c, e, ?_⟩
      have q := x.cell y c e
      rw [bindC_get ndP hp hu (by show scope.names.lookup y ≠ _; rw [k]; decide)] at q
      exact q
  · exact e0.hok.fresh (Nat.le_of_lt (x.above y c (PySem.mem_of_lookup h)))
  · unfold start
    show _ = N.length
    rw [List.length_append, List.length_map, List.length_replicate]
    omega
theorem fn_of {CX : CXT} {P : Program} {w : World} {K : PySem.W.Frag} {mg : Str → Option Value} {base : Heap} {k : Nat} {f : Addr} {name qual : Str} {params : Arguments} {body : List Stmt} {scope : Scope} {dV kV doc pm cdv ct oc : Value} {an od : Option Addr}
    {osl : Array (Option Value)} {N ps : List Str} {sp : Sp} (lk : K.lookup f = some ⟨oc, od, .func (PySem.W.fnOf name qual params body scope dV kV doc pm an cdv ct), osl⟩) (hcd : PySem.W.codeIn K cdv qual = true) (S : FnScope N ps scope)
    (len : ∀ vs H Q E, sp vs H Q E → vs.length = ps.length)
    (hbody : ∀ (A : Around) (outer : List Env) (s : Shared) (H : Hp) (vs : List V) (Q : VK) (E : XK), Room k (A.deeper (envOfC qual scope s.heap.objs.size f cdv)) → sp vs H Q E →
      ∃ t, PSs (cxOf CX P w K mg base N qual scope f cdv A outer s H E) body t ∧ t { nx := fun _ H' => Q .non H', rt := Q } (start N vs) H) :
    FnOk P w K mg base CX (k + 1) f (PySem.W.fnOf name qual params body scope dV kV doc pm an cdv ct) ps sp := by
  refine ⟨len, fun A outer s H args us vs Q E hr e0 hb r hsp => ?_⟩
  have hl := len _ _ _ _ hsp
  have KX : K.In s.heap := e0.mod.kin.keeps fun b o e => (e0.bs b o e).1
  have lim : s.heap.NoLimit := e0.mod.nolimit.keeps fun b o e => (e0.bs b o e).1
  have hkind : ∀ y ∈ ps.zip us, scope.names.lookup y.1 = some .local ∨ (scope.names.lookup y.1 = some .cell ∧ ((cellsFrom (s.heap.objs.size + 1) scope.names []).lookup y.1).isSome = true) := fun ⟨n, v⟩ hy => by
    rcases S.par n (List.of_mem_zip hy).1 with q | q
    · exact .inl q
    · exact .inr ⟨q, PySem.W.cellsFrom_some _ _ _ (.inl q)⟩
  refine codeAny_call_function hr.depth (KX _ _ lk) rfl S.co S.gen rfl (PySem.W.codeRec_of KX hcd) (hb _ _ _ _ ?_)
  refine wpAny_newFunctionEnv_cells S.kind hkind fun env he s1 x => ?_
  subst he
  refine ⟨lim.keeps x.toInCall.keep, codeAny_func ?_⟩
  obtain ⟨t, ht, hq⟩ := hbody A outer s H vs Q E (hr.deeper _) hsp
  have I : Inv (cxOf CX P w K mg base N qual scope f cdv A outer s H E) [] (start N vs) H s1 := inv_start S hr.hd e0 hl r x
  refine wpAny_mono (ht [] s1 (start N vs) H _ I hq) (fun fl s' hs => ?_) fun e s' hs => hs
  have fin : ∀ {σ' : St} {H' : Hp} {v : V} {u : Value}, Inv (cxOf CX P w K mg base N qual scope f cdv A outer s H E) [] σ' H' s' → RelV v u → Q v H' → CE outer P w H s Q u s' :=
    fun {σ' H' v u} J rv q => ⟨v, H', J.os, J.bare, J.base, J.hok, rv, q⟩
  cases fl with
  | ret u =>
    obtain ⟨v, σ', H', J, rv, q⟩ := hs
    exact fin J rv q
  | next =>
    obtain ⟨σ', H', J, q⟩ := hs
    exact fin (v := V.non) (u := Value.none) J rfl q
  | brk =>
    obtain ⟨_, _, _, q⟩ := hs
    exact False.elim q
  | cont =>
    obtain ⟨_, _, _, q⟩ := hs
    exact False.elim q
end L2
namespace L2
open PySem PySem.Spec PyProof.Rows
section
variable {X : Cx} {x : Str} {p pos : Pos} {e : Expr} {es : List Expr} {t : TA} {id T : String} {r : List V → Hp → VK → Prop}
noncomputable def tCB (r : List V → Hp → VK → Prop) (t : TA) : TE := fun σ H Q => t σ H fun vs H1 => r vs H1 Q
theorem pe_callB (hc : CallR X (.builtin id) r) (hg : Gl X x) (hm : X.mg x = none) (hv : bootBuiltins x = some (.builtin id)) (ha : PA X (e :: es) t) (hn : x ≠ "__name__" := by decide) (hdb : (x == ("__debug__" : Str)) = false := by decide)
    (he : starEach (e :: es) X.env = (false, eval e X.env) :: starEach es X.env := by rfl) (hpl : (backTo pos (starEach es X.env)).any (·.1) = false := by rfl) : PE X (.Call (.Name x p) (e :: es) [] pos) (tCB r t) := by
  intro pins s σ H Q I h
  refine wpAny_Call_Name_kw (ld_blt I hg hm hv ?_ hn hdb)
  exact PyProof.Rows.callWith_builtin1 (thn (ha pos pins s σ H _ I h) fun us s1 ⟨vs, H1, I1, r1, q1⟩ => hc pins s1 σ H1 vs us Q I1 r1 q1) he hpl
theorem pe_callTy (hc : CallR X (.type T) r) (hg : Gl X x) (hm : X.mg x = none) (hv : bootBuiltins x = some (.type T)) (ha : PA X (e :: es) t) (hn : x ≠ "__name__" := by decide) (hdb : (x == ("__debug__" : Str)) = false := by decide)
    (he : starEach (e :: es) X.env = (false, eval e X.env) :: starEach es X.env := by rfl) (hpl : (backTo pos (starEach es X.env)).any (·.1) = false := by rfl) : PE X (.Call (.Name x p) (e :: es) [] pos) (tCB r t) := by
  intro pins s σ H Q I h
  refine wpAny_Call_Name_kw (ld_blt I hg hm hv ?_ hn hdb)
  exact PyProof.Rows.callWith_type1 (thn (ha pos pins s σ H _ I h) fun us s1 ⟨vs, H1, I1, r1, q1⟩ => hc pins s1 σ H1 vs us Q I1 r1 q1) he hpl
end
end L2
namespace HT
open PySem PyProof.Rows
section
variable {prog : Program} {w : World} {A : Around} {E : Value → Shared → Prop} {s : Shared}
noncomputable def sIx (n d : Nat) : Option Int → Nat
  | none => d
  | some v => if v < 0 then (v + (n : Int)).toNat else min v.toNat n
theorem sIx_none (n d : Nat) : sIx n d none = d := rfl
theorem sIx_nat (n d k : Nat) : sIx n d (some (k : Int)) = min k n := by
  show (if (k : Int) < 0 then ((k : Int) + (n : Int)).toNat else min (k : Int).toNat n) = min k n
  rw [if_neg (by omega), Int.toNat_natCast]
end
end HT
namespace L2
open PySem PySem.Spec PyProof.Rows
noncomputable abbrev TO := St → Hp → (Option Int → Hp → Prop) → Prop
noncomputable def PO (X : Cx) (e : Option Expr) (t : TO) : Prop :=
  ∀ (pins : List (Addr × Obj)) (s : Shared) (σ : St) (H : Hp) (Q : Option Int → Hp → Prop), Inv X pins σ H s → t σ H Q →
    wpAny (model X.prog X.w) X.A (evalPart e X.env) (fun u s' => ∃ o H', Inv X pins σ H' s' ∧ IsPart u o ∧ Q o H') X.xe s
noncomputable def tNoPart : TO := fun _ H Q => Q none H
noncomputable def tPart (t : TE) : TO := fun σ H Q => t σ H fun x H1 => ∃ i, x = .int i ∧ Q (some i) H1
section
variable {X : Cx} {e : Expr} {te : TE} {lo hi : Option Expr} {tl th : TO} {pos p2 : Pos}
theorem po_none : PO X none tNoPart := by
  intro pins s σ H Q I h
  rw [evalPart_none]
  exact wpAny_pure ⟨none, H, I, .none, h⟩
theorem po_some (h : PE X e te) : PO X (some e) (tPart te) := by
  intro pins s σ H Q I hw
  rw [evalPart_some]
  refine thn (h pins s σ H _ I hw) fun u s1 ⟨x, H1, I1, r1, q1⟩ => ?_
  obtain ⟨i, rfl, q⟩ := q1
  obtain ⟨t, rfl⟩ := r1
  exact ⟨some i, H1, I1, .int i t, q⟩
noncomputable def SlR (X : Cx) (r : V → Option Int → Option Int → Hp → VK → Prop) : Prop :=
  ∀ (pins : List (Addr × Obj)) (s : Shared) (σ : St) (H : Hp) (x : V) (v vl vu : Value) (lo hi : Option Int) (sl : Addr) (Q : VK), Inv X pins σ H s → RelV x v → s.heap.IsSliceOf sl vl vu .none → IsPart vl lo → IsPart vu hi → r x lo hi H Q →
    ∃ T id, typeLookup (.type T) "__getitem__" = pure (some (.builtin id)) ∧ s.TypeIs v T ∧ wpAny (model X.prog X.w) X.A (getItem v (.ref sl)) (EP X pins σ Q) X.xe s
noncomputable def tSl (r : V → Option Int → Option Int → Hp → VK → Prop) (te : TE) (tl th : TO) : TE := fun σ H Q => te σ H fun x H1 => tl σ H1 fun l H2 => th σ H2 fun u H3 => r x l u H3 Q
theorem pe_slice {r : V → Option Int → Option Int → Hp → VK → Prop} (hr : SlR X r) (he : PE X e te) (hl : PO X lo tl) (hu : PO X hi th) : PE X (.Subscript e (.Slice lo hi none p2) pos) (tSl r te tl th) := by
  intro pins s σ H Q I h
  refine Subscript_ (thn (he pins s σ H _ I h) fun v s1 ⟨x, H1, I1, r1, q1⟩ => ?_)
  refine wpAny_Slice (thn (hl pins s1 σ H1 _ I1 q1) fun vl s2 ⟨l, H2, I2, pl, q2⟩ => thn (hu pins s2 σ H2 _ I2 q2) fun vu s3 ⟨u, H3, I3, pu, q3⟩ => ?_)
  rw [evalPart_none]
  refine wpAny_pure ?_
  have I4 : Inv X pins σ H3 { s3 with heap := s3.heap.push { cls := .type "slice", data := .fields #[vl, vu, .none] } } := I3.kept (t' := s3.toks) fun b ob q => Heap.get?_push_of_some _ q
  obtain ⟨T, id, hT, ht, hg⟩ := hr pins { s3 with heap := s3.heap.push { cls := .type "slice", data := .fields #[vl, vu, .none] } } σ H3 x v vl vu l u s3.heap.objs.size Q I4 r1 (Heap.IsSliceOf.new ..) pl pu q3
  show wpAny (model X.prog X.w) X.A (subscriptTail e (.Slice lo hi none p2) v (.ref s3.heap.objs.size)) (EP X pins σ Q) X.xe { s3 with heap := s3.heap.push { cls := .type "slice", data := .fields #[vl, vu, .none] } }
  exact tail_any (ops := [.ref s3.heap.objs.size, v]) ht hT hg (by with_unfolding_all rfl)
noncomputable def cutV (xs : List V) (lo hi : Option Int) : List V := (xs.drop (HT.sIx xs.length 0 lo)).take (HT.sIx xs.length xs.length hi - HT.sIx xs.length 0 lo)
theorem cutV_length (xs : List V) (lo hi : Option Int) : (cutV xs lo hi).length ≤ xs.length := by
  unfold cutV
  rw [List.length_take, List.length_drop]
  omega
end
end L2
namespace L2
open PySem PySem.Spec PyProof.Rows
noncomputable def ixN (n : Nat) (i : Int) : Option Nat := if 0 ≤ i then (if i < n then some i.toNat else none) else if -(n : Int) ≤ i then some (i + n).toNat else none
noncomputable def atI {α : Type} (xs : List α) (i : Int) : Option α := (ixN xs.length i).bind fun j => xs[j]?
theorem ixN_seq {n : Nat} {i : Int} {j : Nat} (h : ixN n i = some j) : seqIndex? i n = some j ∧ j < n ∧ -(n : Int) ≤ i ∧ i < n := by
  unfold ixN at h
  by_cases h0 : 0 ≤ i
  · rw [if_pos h0] at h
    by_cases h1 : i < n
    · rw [if_pos h1] at h
      have e : i.toNat = j := Option.some.inj h
      exact ⟨by rw [seqIndex_of h0 h1, e], by omega, by omega, h1⟩
    · rw [if_neg h1] at h; cases h
  · rw [if_neg h0] at h
    by_cases h1 : -(n : Int) ≤ i
    · rw [if_pos h1] at h
      have e : (i + n).toNat = j := Option.some.inj h
      exact ⟨by rw [seqIndex_neg (by omega) h1, e], by omega, h1, by omega⟩
    · rw [if_neg h1] at h; cases h
theorem atI_get {α : Type} {xs : List α} {i : Int} {v : α} (h : atI xs i = some v) : ∃ j, seqIndex? i xs.length = some j ∧ xs[j]? = some v ∧ j < xs.length ∧ -(xs.length : Int) ≤ i ∧ i < xs.length := by
  unfold atI at h
  cases e : ixN xs.length i with
  | none => rw [e] at h; cases h
  | some j =>
    rw [e] at h
    obtain ⟨h1, h2, h3, h4⟩ := ixN_seq e
    exact ⟨j, h1, h, h2, h3, h4⟩
theorem atI_nat {α : Type} {xs : List α} {j : Nat} {v : α} (h : xs[j]? = some v) : atI xs (j : Int) = some v := by
  have hj : j < xs.length := (List.getElem?_eq_some_iff.mp h).1
  have e : ixN xs.length (j : Int) = some j := by
    unfold ixN
    rw [if_pos (by omega), if_pos (by omega)]; simp
  unfold atI; rw [e]; exact h
theorem atI_last {α : Type} (xs : List α) (v : α) : atI (xs ++ [v]) (-1) = some v := by
  have hl : (xs ++ [v]).length = xs.length + 1 := by simp
  have e : ixN (xs ++ [v]).length (-1) = some xs.length := by
    unfold ixN
    rw [hl, if_neg (by decide), if_pos (by omega)]
    congr 1
    omega
  unfold atI
  rw [e]
  show (xs ++ [v])[xs.length]? = some v
  simp
noncomputable def PlainIx (b : Expr) : Prop := ∀ o i, subscripted b false o i = operate [o, i] (getItem o i)
noncomputable def IxR (X : Cx) (r : R2) : Prop :=
  ∀ (value slice : Expr) (pins : List (Addr × Obj)) (s : Shared) (σ : St) (H : Hp) (x y : V) (v u : Value) (Q : VK), Inv X pins σ H s → RelV x v → RelV y u → r x y H Q →
    subscripted slice false v u = operate [v, u] (getItem v u) → wpAny (model X.prog X.w) X.A (subscriptTail value slice v u) (EP X pins σ Q) X.xe s
noncomputable def MtR (X : Cx) (id : String) (r : V → List V → Hp → VK → Prop) : Prop :=
  ∀ (pins : List (Addr × Obj)) (s : Shared) (σ : St) (H : Hp) (x : V) (xs : List V) (v : Value) (us : List Value) (Q : VK), Inv X pins σ H s → RelV x v → Vals xs us → r x xs H Q →
    wpAny (model X.prog X.w) X.A (call (.builtin id) (v :: us)) (EP X pins σ Q) X.xe s
section
variable {X : Cx} {a b : Expr} {ta tb : TE} {pos : Pos}
theorem pe_ix {r : R2} (hr : IxR X r) (ha : PE X a ta) (hb : PE X b tb) (hs : PlainIx b) : PE X (.Subscript a b pos) (tOp r ta tb) := by
  intro pins s σ H Q I h
  exact Subscript_ (binT ha hb I h fun v u s2 x y H2 I2 rx ry q => hr a b pins s2 σ H2 x y v u Q I2 rx ry q (hs _ _))
noncomputable def rIxL (K : PySem.W.Frag) : R2 := fun x y H Q => ∃ p xs i v, x = .ref p ∧ y = .int i ∧ SqL K H p xs ∧ atI xs i = some v ∧ Q v H
noncomputable def rIxT (K : PySem.W.Frag) : R2 := fun x y H Q => ∃ p xs i v, x = .ref p ∧ y = .int i ∧ SqT K H p xs ∧ atI xs i = some v ∧ Q v H
noncomputable def rIxS : R2 := fun x y H Q => ∃ z i c, x = .str z ∧ y = .int i ∧ z.length ≤ sizeLine ∧ atI z.cps.toList i = some c ∧ Q (.str ⟨#[c]⟩) H
theorem ix_list : IxR X (rIxL X.K) := by
  intro value slice pins s σ H x y v u Q I rx ry h hs
  obtain ⟨p, xs, i, z, rfl, rfl, hq, he, q⟩ := h
  cases rx
  obtain ⟨t, rfl⟩ := ry
  obtain ⟨its, r, pl, hz⟩ := I.list hq
  obtain ⟨j, h1, h2, h3, h4, h5⟩ := atI_get he
  obtain ⟨w, ew, rw'⟩ := r.get h2
  have hl := r.length
  have hn := line63
  have fin : EP X pins σ Q w s := ⟨z, H, I, rw', q⟩
  by_cases h0 : 0 ≤ i
  · have hj : i.toNat = j := by
      rw [seqIndex_of h0 h5] at h1
      exact Option.some.inj h1
    exact item_listR pl.isList h0 (by omega) (by rw [hj]; simpa using ew) fin hs
  · have hj : (i + (its.toArray.size : Int)).toNat = j := by
      rw [seqIndex_neg (by omega) h4] at h1
      rw [List.size_toArray, ← hl]
      exact Option.some.inj h1
    exact subscriptTail_builtinR (x := w) pl.isList.typeIs slot_list_getitem.lookup
      (wpAny_getItem_list_neg (Q := fun r s' => r = w ∧ EP X pins σ Q r s') pl.isList (by omega) (by rw [List.size_toArray] <;> omega) (by omega) (by rw [hj]; simpa using ew) ⟨rfl, fin⟩) hs
theorem ix_tup : IxR X (rIxT X.K) := by
  intro value slice pins s σ H x y v u Q I rx ry h hs
  obtain ⟨p, xs, i, z, rfl, rfl, hq, he, q⟩ := h
  cases rx
  obtain ⟨t, rfl⟩ := ry
  obtain ⟨its, r, pl, hz⟩ := I.tuple hq
  obtain ⟨j, h1, h2, h3, h4, h5⟩ := atI_get he
  obtain ⟨w, ew, rw'⟩ := r.get h2
  have hl := r.length
  have hn := line63
  have fin : EP X pins σ Q w s := ⟨z, H, I, rw', q⟩
  exact subscriptTail_builtinR (x := w) pl.typeIs slot_tuple_getitem.lookup
    (getItem_tuple (j := j) (Q := fun r s' => r = w ∧ EP X pins σ Q r s') pl (by omega) (by omega) (by rw [List.size_toArray, ← hl]; exact h1) (by simpa using ew) ⟨rfl, fin⟩) hs
theorem ix_str : IxR X rIxS := by
  intro value slice pins s σ H x y v u Q I rx ry h hs
  obtain ⟨z, i, c, rfl, rfl, hz, he, q⟩ := h
  obtain ⟨t, rfl⟩ := rx
  obtain ⟨t', rfl⟩ := ry
  obtain ⟨j, h1, h2, h3, h4, h5⟩ := atI_get he
  have hl : z.cps.toList.length = z.length := by simp [Str.length]
  rw [hl] at h1 h4 h5
  have hn := line63
  exact tail_any (typeIs_str s z t) slot_str_getitem.lookup (getItem_str (c := c) (by
    have e1 : decide (i < -(2 ^ 63 : Int)) = false := decide_eq_false (by omega)
    have e2 : decide (i ≥ 2 ^ 63) = false := decide_eq_false (by omega)
    rw [e1, e2, Bool.or_false]) (by rw [h1]; simpa using h2) ⟨.str ⟨#[c]⟩, H, I.tok _, ⟨_, rfl⟩, q⟩) hs
theorem slice_bounds (lo hi : Option Int) (n : Nat) : (sliceBounds lo hi none n).1 = ((HT.sIx n 0 lo : Nat) : Int) ∧ (sliceBounds lo hi none n).2.1 = ((HT.sIx n n hi : Nat) : Int) ∧ (sliceBounds lo hi none n).2.2 = 1 := by
  refine ⟨?_, ?_, rfl⟩
  · cases lo with
    | none => simp [sliceBounds, HT.sIx]
    | some i =>
      simp only [sliceBounds, HT.sIx, Option.getD_none, show (1 : Int) > 0 by decide, if_true]
      by_cases h : i < 0
      · simp only [h, if_true] <;> omega
      · simp only [h, if_false] <;> omega
  · cases hi with
    | none => simp [sliceBounds, HT.sIx]
    | some i =>
      simp only [sliceBounds, HT.sIx, Option.getD_none, show (1 : Int) > 0 by decide, if_true]
      by_cases h : i < 0
      · simp only [h, if_true] <;> omega
      · simp only [h, if_false] <;> omega
theorem slicePick_cut (its : List Value) (lo hi : Option Int) : slicePick its.toArray lo hi none = ((its.drop (HT.sIx its.length 0 lo)).take (HT.sIx its.length its.length hi - HT.sIx its.length 0 lo)).toArray := by
  obtain ⟨h1, h2, h3⟩ := slice_bounds lo hi its.toArray.size
  unfold slicePick
  rw [h1, h2, h3]
  simp only [sliceRange_one, pick_run, List.size_toArray] <;> rfl
noncomputable def rSlL (K : PySem.W.Frag) : V → Option Int → Option Int → Hp → VK → Prop := fun x lo hi H Q => ∃ a xs, x = .ref a ∧ SqL K H a xs ∧ ∀ p, H p = none → Q (.ref p) (upd H p (.lst (cutV xs lo hi)))
theorem sl_list : SlR X (rSlL X.K) := by
  intro pins s σ H x v vl vu lo hi sl Q I rx hs pl pu h
  obtain ⟨a, xs, rfl, hx, q⟩ := h
  cases rx
  obtain ⟨its, r, ht, hz⟩ := I.list hx
  have hlen := r.length
  refine ⟨"list", _, slot_list_getitem.lookup, ht.isList.typeIs, ?_⟩
  refine wpAny_getItem_list_slice ht.isList hs pl pu .none (by simp) ?_ (by rw [List.size_toArray] <;> omega)
  rw [slicePick_cut, ← hlen]
  refine ⟨.ref s.heap.objs.size, _, I.laid (t' := s.toks) (o := .lst (cutV xs lo hi)) (fun b ob q => Heap.get?_push_of_some _ q) (Nat.le_refl _) ?_, rfl, q _ (I.hok.fresh (Nat.le_refl _))⟩
  exact ⟨Nat.le_trans (cutV_length xs lo hi) hz, _, 0, (r.drop (HT.sIx xs.length 0 lo)).take (HT.sIx xs.length xs.length hi - HT.sIx xs.length 0 lo), Heap.get?_push_size _ rfl⟩
noncomputable def flatV : V → Bool
  | .non => true
  | .bl _ => true
  | .int _ => true
  | .str _ => true
  | _ => false
noncomputable def eqV : V → V → Bool
  | .non, .non => true
  | .bl a, .bl b => a == b
  | .bl a, .int b => (if a then 1 else 0) == b
  | .int a, .bl b => a == (if b then 1 else 0)
  | .int a, .int b => a == b
  | .str a, .str b => a == b
  | _, _ => false
theorem eqAt_V {A : Around} {s : Shared} {y x : V} {u v : Value} (ry : RelV y u) (rx : RelV x v) (fy : flatV y = true) (fx : flatV x = true) : SeqAt.EqAt A s u v (eqV y x) := by
  cases y with
  | non =>
    cases ry
    cases x with
    | non => cases rx; exact SeqAt.EqAt.same _
    | bl b => cases rx; exact SeqAt.EqAt.none_bool b
    | int b => obtain ⟨t, rfl⟩ := rx; exact SeqAt.EqAt.none_int b t
    | str b => obtain ⟨t, rfl⟩ := rx; exact SeqAt.EqAt.none_str b t
    | _ => exact absurd (show false = true from fx) Bool.false_ne_true
  | bl a =>
    cases ry
    cases x with
    | non => cases rx; exact SeqAt.EqAt.bool_none a
    | bl b => cases rx; exact SeqAt.EqAt.bool_bool a b
    | int b => obtain ⟨t, rfl⟩ := rx; exact SeqAt.EqAt.bool_int a b t
    | str b => obtain ⟨t, rfl⟩ := rx; exact SeqAt.EqAt.bool_str a b t
    | _ => exact absurd (show false = true from fx) Bool.false_ne_true
  | int a =>
    obtain ⟨t', rfl⟩ := ry
    cases x with
    | non => cases rx; exact SeqAt.EqAt.int_none a t'
    | bl b => cases rx; exact SeqAt.EqAt.int_bool a t' b
    | int b => obtain ⟨t, rfl⟩ := rx; exact SeqAt.EqAt.int_int a t' b t
    | str b => obtain ⟨t, rfl⟩ := rx; exact SeqAt.EqAt.int_str a t' b t
    | _ => exact absurd (show false = true from fx) Bool.false_ne_true
  | str a =>
    obtain ⟨t', rfl⟩ := ry
    cases x with
    | non => cases rx; exact SeqAt.EqAt.str_none a t'
    | bl b => cases rx; exact SeqAt.EqAt.str_bool a t' b
    | int b => obtain ⟨t, rfl⟩ := rx; exact SeqAt.EqAt.str_int a t' b t
    | str b => obtain ⟨t, rfl⟩ := rx; exact SeqAt.EqAt.str_str a t' b t
    | _ => exact absurd (show false = true from fx) Bool.false_ne_true
  | _ => exact absurd (show false = true from fy) Bool.false_ne_true
theorem call_list_of : CallR X (.type "list") (fun xs H Q => ∃ p ys, xs = [.ref p] ∧ (SqL X.K H p ys ∨ SqT X.K H p ys) ∧ ∀ l, H l = none → Q (.ref l) (upd H l (.lst ys))) := by
  intro pins s σ H xs us Q I r h
  obtain ⟨p, ys, rfl, hq, q⟩ := h
  obtain ⟨u, rfl, rx⟩ := vals1 r
  cases rx
  have fin : ∀ (its : List Value), Vals ys its → ys.length ≤ sizeLine → ∀ (h' : Heap) (c' : Nat), (∀ b o', s.heap.get? b = some o' → h'.get? b = some o') →
      h'.get? s.heap.objs.size = some { cls := .type "list", dict := none, data := .seq its.toArray c', slots := #[] } → EP X pins σ Q (.ref s.heap.objs.size) { s with heap := h' } := fun its r' hz h' c' kp e =>
    ⟨.ref s.heap.objs.size, _, I.laid (t' := s.toks) kp (Nat.le_refl _) (show ObjOk X.prog X.w _ h' _ (.lst ys) from ⟨hz, its, c', r', e⟩), rfl, q _ (I.hok.fresh (Nat.le_refl _))⟩
  rcases hq with hq | hq
  · obtain ⟨its, r', pl, hz⟩ := I.list hq
    have hlen := r'.length
    obtain ⟨o, ho, hc, n, hd⟩ := pl.isList
    exact call_list_seq p (.inl rfl) ho hc hd (fun h' c' kp e => fin its r' hz h' c' kp e) (by simp only [List.size_toArray] <;> omega)
  · obtain ⟨its, r', pl, hz⟩ := I.tuple hq
    have hlen := r'.length
    obtain ⟨o, ho, hc, n, hd⟩ := pl
    exact call_list_seq p (.inr rfl) ho hc hd (fun h' c' kp e => fin its r' hz h' c' kp e) (by simp only [List.size_toArray] <;> omega)
theorem call_tuple_of : CallR X (.type "tuple") (fun xs H Q => ∃ p ys, xs = [.ref p] ∧ ((SqL X.K H p ys ∧ ∀ l, H l = none → Q (.ref l) (upd H l (.tup ys))) ∨ (SqT X.K H p ys ∧ Q (.ref p) H))) := by
  intro pins s σ H xs us Q I r h
  obtain ⟨p, ys, rfl, h⟩ := h
  obtain ⟨u, rfl, rx⟩ := vals1 r
  cases rx
  rcases h with ⟨hq, q⟩ | ⟨hq, q⟩
  · obtain ⟨its, r', pl, hz⟩ := I.list hq
    have hlen := r'.length
    refine call_tuple_list pl.isList (fun h' kp => ?_) (by simp only [List.size_toArray] <;> omega)
    have I1 : Inv X pins σ H { s with heap := h' } := I.kept (t' := s.toks) kp
    have I2 : Inv X pins σ (upd H h'.objs.size (.tup ys)) { s with heap := h'.push { cls := .type "tuple", data := .seq its.toArray } } :=
      I1.laid (t' := s.toks) (fun b o e => Heap.get?_push_of_some _ e) (Nat.le_refl _) (show ObjOk X.prog X.w _ _ _ (.tup ys) from ⟨hz, its, r', IsTup.new _ _⟩)
    exact ⟨.ref h'.objs.size, _, I2, rfl, q _ (I1.hok.fresh (Nat.le_refl _))⟩
  · obtain ⟨its, r', pl, hz⟩ := I.tuple hq
    exact call_tuple_same pl ⟨.ref p, H, I, rfl, q⟩
noncomputable def tyV (K : PySem.W.Frag) (T : String) (x : V) (H : Hp) : Prop := match x with
  | .str _ => T = "str"
  | .int _ => T = "int"
  | .ref p => (T = "list" ∧ ∃ xs, SqL K H p xs) ∨ (T = "tuple" ∧ ∃ o, K.lookup p = some o ∧ o.cls = .type "tuple" ∧ o.dict = none) ∨
      (T = "dict" ∧ ((∃ kvs, H p = some (.dK kvs)) ∨ ∃ kvs, H p = some (.dT kvs))) ∨ (T = "set" ∧ ∃ S n, H p = some (.set S n))
  | _ => False
theorem tyV_is {pins : List (Addr × Obj)} {σ : St} {H : Hp} {s : Shared} {T : String} {x : V} {v : Value} (I : Inv X pins σ H s) (r : RelV x v) (ty : tyV X.K T x H) :
    s.TypeIs v T ∧ ∀ a, v = .ref a → ∃ ob, s.heap.get? a = some ob ∧ ob.dict = none := by
  cases x with
  | str z =>
    obtain ⟨t, rfl⟩ := r
    cases (show T = "str" from ty)
    exact ⟨typeIs_str s z t, fun _ e => nomatch e⟩
  | int i =>
    obtain ⟨t, rfl⟩ := r
    cases (show T = "int" from ty)
    exact ⟨typeIs_int s i t, fun _ e => nomatch e⟩
  | ref p =>
    cases r
    rcases ty with ⟨rfl, xs, hq⟩ | ⟨rfl, o, hk, hc, hd⟩ | ⟨rfl, hk⟩ | ⟨rfl, S, n, hk⟩
    · obtain ⟨its, _, pl, _⟩ := I.list hq
      refine ⟨pl.isList.typeIs, fun a e => ?_⟩
      cases e
      obtain ⟨o, n, e, c, hd, _⟩ := pl
      exact ⟨o, e, hd⟩
    · refine ⟨⟨o, I.kIn p o hk, hc⟩, fun a e => ?_⟩
      cases e
      exact ⟨o, I.kIn _ o hk, hd⟩
    · have z : ∃ o, s.heap.get? p = some o ∧ o.ExactDict := by
        rcases hk with ⟨kvs, hk⟩ | ⟨kvs, hk⟩
        · obtain ⟨_, _, _, _, o, _, _, e, ex, _⟩ := I.hok p _ hk
          exact ⟨o, e, ex⟩
        · obtain ⟨_, _, _, _, o, _, _, e, ex, _⟩ := I.hok p _ hk
          exact ⟨o, e, ex⟩
      obtain ⟨o, e, ex⟩ := z
      refine ⟨⟨o, e, ex.1⟩, fun a e2 => ?_⟩
      cases e2
      exact ⟨o, e, ex.2.1⟩
    · obtain ⟨o, _, _, _, e, ex, _⟩ := I.hok p _ hk
      refine ⟨⟨o, e, ex.1⟩, fun a e2 => ?_⟩
      cases e2
      exact ⟨o, e, ex.2.1⟩
  | _ => exact False.elim ty
noncomputable def tBM0 (K : PySem.W.Frag) (T : String) (r : V → List V → Hp → VK → Prop) (to : TE) : TE := fun σ H Q => to σ H fun x H1 => tyV K T x H1 ∧ r x [] H1 Q
noncomputable def tBM (K : PySem.W.Frag) (T : String) (r : V → List V → Hp → VK → Prop) (to : TE) (t : TA) : TE := fun σ H Q => to σ H fun x H1 => tyV K T x H1 ∧ t σ H1 fun xs H2 => r x xs H2 Q
variable {o e : Expr} {es : List Expr} {to : TE} {t : TA} {name : Str} {apos cpos : Pos} {T id : String} {r : V → List V → Hp → VK → Prop}
theorem pe_bm0 (pa : PlainAttrs T) (slot : Slot T name id) (hty : typeOf (.builtin id) = pure (.type "method_descriptor")) (hm : MtR X id r) (ho : PE X o to)
    (hbase : attributeBase o name X.env (eval o X.env) = eval o X.env := by rfl) (hline : (apos.endLine == cpos.line) = true := by rfl) : PE X (.Call (.Attribute o name apos) [] [] cpos) (tBM0 X.K T r to) := by
  intro pins s σ H Q I h
  refine wpAny_Call_method0_late hbase hline (thn (ho pins s σ H _ I h) fun v s1 ⟨x, H1, I1, r1, ty, q1⟩ => ?_)
  obtain ⟨h1, h2⟩ := tyV_is I1 r1 ty
  exact ⟨T, id, pa, slot, hty, h1, h2, Calls.callWith_builtin rfl (PySem.evalArgs_none (hm pins s1 σ H1 x [] v [] Q I1 r1 .nil q1))⟩
theorem pe_bm (pa : PlainAttrs T) (slot : Slot T name id) (hty : typeOf (.builtin id) = pure (.type "method_descriptor")) (hm : MtR X id r) (ho : PE X o to) (ha : PA X (e :: es) t)
    (hbase : attributeBase o name X.env (eval o X.env) = eval o X.env := by rfl)
    (hfew : ((backTo cpos (starEach (e :: es) X.env)).all (fun x => !x.1) && (backToKw cpos (keywordEach [] X.env)).all (fun x => x.1.isSome)
      && decide ((e :: es).length + ([] : List Keyword).length + (if ([] : List Keyword).isEmpty then 0 else 1) < 30)) = true := by rfl)
    (hline : (apos.endLine == cpos.line) = true := by rfl) (hs : starEach (e :: es) X.env = (false, eval e X.env) :: starEach es X.env := by rfl) (hplain : (backTo cpos (starEach es X.env)).any (·.1) = false := by rfl) :
    PE X (.Call (.Attribute o name apos) (e :: es) [] cpos) (tBM X.K T r to t) := by
  intro pins s σ H Q I h
  refine wpAny_Call_method_late hbase hfew hline rfl (thn (ho pins s σ H _ I h) fun v s1 ⟨x, H1, I1, r1, ty, q1⟩ => ?_)
  obtain ⟨h1, h2⟩ := tyV_is I1 r1 ty
  refine ⟨T, id, pa, slot, hty, h1, h2, ?_⟩
  have hA := ha cpos pins s1 σ H1 _ I1 q1
  rw [hs] at hA ⊢
  refine Calls.callWith_builtin (by show (false || (backTo cpos (starEach es X.env)).any (·.1)) = false; rw [hplain] <;> rfl) (Calls.evalArgs_plain ?_)
  exact thn hA fun us s2 ⟨vs, H2, I2, r2, q2⟩ => hm pins s2 σ H2 x vs v us Q I2 r1 r2 q2
end
end L2
namespace L2
open PySem PySem.Spec PyProof.Rows
noncomputable def MtM (X : Cx) (id : String) (r : V → List V → Hp → VK → Prop) : Prop :=
  ∀ (pins : List (Addr × Obj)) (s : Shared) (σ : St) (H : Hp) (x : V) (xs : List V) (v : Value) (us : List Value) (Q : VK), Inv X pins σ H s → RelV x v → Vals xs us → r x xs H Q →
    wpAny (model X.prog X.w) X.A (call (.builtin id) (v :: us)) (EP X pins σ Q) X.xe s
theorem Vals.one : ∀ {x : V} {us : List Value}, Vals [x] us → ∃ u, us = [u] ∧ RelV x u
  | _, _, .cons r .nil => ⟨_, rfl, r⟩
theorem Vals.two : ∀ {x y : V} {us : List Value}, Vals [x, y] us → ∃ u v, us = [u, v] ∧ RelV x u ∧ RelV y v
  | _, _, _, .cons r (.cons q .nil) => ⟨_, _, rfl, r, q⟩
theorem Vals.reverse {xs : List V} {us : List Value} (h : Vals xs us) : Vals xs.reverse us.reverse := by
  induction h with
  | nil => exact .nil
  | cons r t ih => rw [List.reverse_cons, List.reverse_cons]; exact Vals.append ih (.cons r .nil)
section
variable {X : Cx} {pins : List (Addr × Obj)} {σ : St} {H : Hp} {s : Shared} {l b : Addr} {xs ys zs : List V}
theorem Inv.lset {its its' : List Value} {n : Nat} {f : Array Value → Array Value} {t' : Nat} (I : Inv X pins σ H s) (hH : H l = some (.lst xs))
    (e : s.heap.get? l = some { cls := .type "list", data := .seq its.toArray n }) (hf : f its.toArray = its'.toArray) (hv : Vals ys its') (hz : ys.length ≤ sizeLine) :
    Inv X pins σ (upd H l (.lst ys)) { s with heap := s.heap.update l (Obj.mapSeq f), toks := t' } := by
  have q := PySem.IsL.update e f
  rw [hf] at q
  refine I.write (x := l) (e := l) (by rw [hH]; exact trivial) (.inl rfl) (fun b' u hb hu => (Heap.get?_update_other s.heap (Obj.mapSeq f) (Ne.symm hb)).trans hu) ⟨_, q⟩ ?_
  exact ⟨hz, its', _, hv, q⟩
theorem Inv.lnew {its : List Value} {t' : Nat} (I : Inv X pins σ H s) (hv : Vals ys its) (hz : ys.length ≤ sizeLine) :
    Inv X pins σ (upd H s.heap.objs.size (.lst ys)) { s with heap := s.heap.push { cls := .type "list", data := .seq its.toArray }, toks := t' } :=
  I.laid (fun _ _ q => Heap.get?_push_of_some _ q) (Nat.le_refl _) ⟨hz, its, 0, hv, Heap.get?_push_size _ rfl⟩
theorem Inv.fresh (I : Inv X pins σ H s) : H s.heap.objs.size = none := I.hok.fresh (Nat.le_refl _)
theorem Inv.lstM (I : Inv X pins σ H s) (hH : H l = some (.lst xs)) : xs.length ≤ sizeLine ∧ ∃ (its : List Value) (n : Nat), Vals xs its ∧ xs.length = its.length ∧ s.heap.get? l = some { cls := .type "list", data := .seq its.toArray n } := by
  obtain ⟨z, its, n, r, e⟩ := I.hok l _ hH
  exact ⟨z, its, n, r, r.length, e⟩
theorem notLongL {n : Nat} (h : n ≤ sizeLine) : Builtin.List.listTooLong n = false := by
  unfold Builtin.List.listTooLong
  exact decide_eq_false (by omega)
end
section
variable {X : Cx}
noncomputable def rAppend : V → List V → Hp → VK → Prop := fun x vs H Q => ∃ l xs y, x = .ref l ∧ vs = [y] ∧ H l = some (.lst xs) ∧ xs.length < sizeLine ∧ Q .non (upd H l (.lst (xs ++ [y])))
theorem mt_append : MtM X "list.append" rAppend := by
  intro pins s σ H x vs v us Q I rx rv h
  obtain ⟨l, xs, y, rfl, rfl, hH, hz, q⟩ := h
  cases rx
  obtain ⟨u, rfl, ru⟩ := rv.one
  obtain ⟨z, its, n, r, hl, e⟩ := I.lstM hH
  refine call_meets F.slot_list_append ⟨_, e, rfl⟩ F.entry_list_append (F.args_list_append_2 _ _) (PySem.list_append l its.toArray n u (by rw [List.size_toArray]; omega)) ⟨e, ?_⟩
  refine ⟨.non, _, I.lset (its' := its ++ [u]) hH e (by simp) (r.append (.cons ru .nil)) ?_, rfl, q⟩
  rw [List.length_append, List.length_singleton]
  omega
noncomputable def rExtend : V → List V → Hp → VK → Prop := fun x vs H Q => ∃ l b xs zs, x = .ref l ∧ vs = [.ref b] ∧ H l = some (.lst xs) ∧ H b = some (.lst zs) ∧ xs.length + zs.length ≤ sizeLine ∧ Q .non (upd H l (.lst (xs ++ zs)))
theorem mt_extend : MtM X "list.extend" rExtend := by
  intro pins s σ H x vs v us Q I rx rv h
  obtain ⟨l, b, xs, zs, rfl, rfl, hH, hB, hz, q⟩ := h
  cases rx
  obtain ⟨u, rfl, ru⟩ := rv.one
  cases ru
  obtain ⟨z, its, n, r, hl, e⟩ := I.lstM hH
  obtain ⟨z2, its2, n2, r2, hl2, e2⟩ := I.lstM hB
  have hsz : its.toArray.size + its2.toArray.size ≤ sizeLine := by rw [List.size_toArray, List.size_toArray]; omega
  have hlong : ¬ (!its.toArray.isEmpty && Builtin.List.listTooLong (its.toArray.size + its2.toArray.size)) = true := by
    rw [notLongL hsz, Bool.and_false]
    exact Bool.false_ne_true
  refine call_meets F.slot_list_extend ⟨_, e, rfl⟩ F.entry_list_extend (F.args_list_extend_2 _ _)
    (AutoSeq1.list_extend_list_list_0 l its.toArray n b its2.toArray n2 hlong (by rw [List.size_toArray]; omega) (by omega)) ⟨e, e2, ?_⟩
  refine ⟨.non, _, I.lset (its' := its ++ its2) hH e (by simp) (r.append r2) ?_, rfl, q⟩
  rw [List.length_append]
  omega
noncomputable def rCat : R2 := fun x y H Q => ∃ l b xs zs, x = .ref l ∧ y = .ref b ∧ H l = some (.lst xs) ∧ H b = some (.lst zs) ∧ xs.length + zs.length ≤ sizeLine ∧ ∀ p, H p = none → Q (.ref p) (upd H p (.lst (xs ++ zs)))
theorem op_cat : OpR X (binaryOp .Add) rCat := by
  intro pins s σ H x y v u Q I rx ry h
  obtain ⟨l, b, xs, zs, rfl, rfl, hH, hB, hz, q⟩ := h
  cases rx
  cases ry
  obtain ⟨z, its, n, r, hl, e⟩ := I.lstM hH
  obtain ⟨z2, its2, n2, r2, hl2, e2⟩ := I.lstM hB
  refine PySem.P.add_list e e2 ?_ (by rw [List.size_toArray, List.size_toArray]; omega)
  have ea : its.toArray ++ its2.toArray = (its ++ its2).toArray := by simp
  rw [ea]
  exact ⟨.ref _, _, I.lnew (t' := s.toks) (r.append r2) (by rw [List.length_append]; omega), rfl, q _ I.fresh⟩
end
end L2
namespace Att
open PySem PySem.W PySem.Calls PyProof.Rows
theorem ints_of_wellAll {P : Params} {h : Heap} : ∀ (ns : List Int) (vs : List Value), WellAll P h vs (ns.map WData.int) → IntsAre vs ns := by
  intro ns
  induction ns with
  | nil =>
    intro vs w
    rw [List.map_nil] at w
    cases w
    exact .nil
  | cons n ns ih =>
    intro vs w
    rw [List.map_cons] at w
    cases w with
    | cons a b =>
      cases a
      exact .cons _ _ (ih _ b)
theorem script_of {l : OpenLaw} {n : Nat} (hn : l.most = some n) {P : Params} {h : Heap} {args : List WData} {vals : List Value}
    (hpre : l.row.toRowW.claim.pre args = true) (hwl : WellAll P h vals args) :
    ∃ a vs ns, vals = [Value.ref a] ∧ args = [WData.list (ns.map WData.int)] ∧ h.get? a = some { cls := .type "list", data := .seq vs.toArray } ∧ IntsAre vs ns ∧ ns.length ≤ n := by
  have hsh : WShape.hasAll [] args [.list .int] = true := (pre_splitW hpre).1
  have hc : l.pre.holds [] { args := args } = true := (pre_splitW hpre).2
  obtain ⟨d, r, rfl, h1, h2⟩ := hasAllW_cons hsh
  obtain rfl := hasAllW_nil h2
  obtain ⟨xs, rfl, h3⟩ := hasW_list h1
  obtain ⟨ns, rfl⟩ := items_int h3
  have hlen : ns.length ≤ n := by
    unfold OpenLaw.pre at hc
    have h4 : (WTm.not (.lt (.lit (.int (n : Int))) (.len (.arg 0)))).holds [] { args := [.list (ns.map .int)] } = true := by
      have h4 := (holds_andW hc).1
      rw [hn] at h4
      exact h4
    have h5 := condW_of h4 (w_not (w_lt w_lit (w_len_list (w_arg rfl))))
    rw [List.length_map] at h5
    refine Nat.le_of_not_lt fun q => ?_
    have q' : (n : Int) < ((ns.length : Nat) : Int) := by omega
    first
      | (rw [decide_eq_true q'] at h5; exact absurd h5 (by decide))
      | (simp at h5; omega)
  cases hwl with
  | cons w1 w2 =>
    cases w2
    cases w1 with
    | list ho hall => exact ⟨_, _, ns, rfl, rfl, ho, ints_of_wellAll ns _ hall, hlen⟩
theorem post_true (l : OpenLaw) (args : List WData) : l.row.toRowW.claim.post args (.bool true) args = true :=
  postW_of (r := l.row.toRowW) (X := (true == true))
    (show WShape.has [] (.bool true) .bool = true by first | rfl | decide | simp [WShape.has, WShape.arms, WShape.armsAll])
    (show (WTm.eq .res (.lit (.bool true))).value [] { args := args, res := some (.bool true), after := args } = some (.bool (true == true)) from w_eq_bool (w_res rfl) w_lit) rfl
theorem attach_call {l : OpenLaw} {n : Nat} {q : Program} {loose : List Str} {XP : (Str → Option Value) → Heap → Prop} {YP : World → Heap → Prop} {d : DefRec}
    (hn : l.most = some n) (hdf : d.params.defaults = [])
    (call : ∀ (w : World) (s₀ s₁ : Shared) (mg mb : Str → Option Value) (fa : Addr) (o : Obj) (pm cd doc : Value) (a : Addr) (vs : List Value) (ns : List Int),
      Ground q loose [] XP w s₀ mg mb s₁.heap → YP w s₁.heap →
      s₁.heap.get? fa = some o → o.data = .func (docDef d.name d.params d.body d.scope pm cd doc) → s₁.heap.CodeRec cd d.name → mg d.name = some (.ref fa) →
      s₁.heap.get? a = some { cls := .type "list", data := .seq vs.toArray } → IntsAre vs ns → ns.length ≤ n → s₁.gens = #[] →
      codeAny (model l.prog w) callerA (.call (.ref fa) ⟨[.ref a], []⟩) (fun r s' => r = .ok (.ret (.bool true)) ∧ OldK s₁.heap s'.heap ∧ s'.os = s₁.os ∧ AllBare s'.gens) s₁) :
    WalkO q loose XP YP l.row.toRowW d [] (fun f vs => PySem.call f vs) := by
  intro w s₀ s₁ mg mb G Y fa o pm cd doc dV kV ho hd hcd hD hmg hg args vals as hpre hlay hrd hwl hlo
  obtain rfl : dV = .none := Dflts.none hD hdf
  obtain rfl : kV = .none := Dflts.noKw hD
  obtain ⟨a, vs, ns, rfl, rfl, hobj, hints, hlen⟩ := script_of hn hpre hwl
  refine enter_call (codeAny_mono (call w s₀ s₁ mg mb fa o pm cd doc a vs ns G Y ho (fd_plain hd) hcd hmg hobj hints hlen hg) fun r s' hq => ?_)
  obtain ⟨rfl, h2, h3, h4⟩ := hq
  exact ⟨.inl ⟨.bool true, .bool true, [], rfl, fun _ => rfl, .bool true, post_true l _, fun _ => ⟨List.Pairwise.nil, fun _ hm => (nomatch hm)⟩⟩, h2, h3, h4⟩
end Att
namespace L2
open PySem PySem.Spec PyProof.Rows
theorem vals_ints : ∀ {vs : List Value} {ns : List Int}, IntsAre vs ns → Vals (ns.map V.int) vs
  | _, _, .nil => .nil
  | _, _, .cons n t h => .cons ⟨t, rfl⟩ (vals_ints h)
noncomputable def Only (H : Hp) : Prop := ∀ b, H b = none ∨ ∃ o xs, H b = some (.frz o (.lst xs))
theorem law_call {P : Program} {w : World} {K : PySem.W.Frag} {mg mb : Str → Option Value} {CX : CXT} {k : Nat} {fa a : Addr} {fd : FuncData} {x : Str} {sp : Sp} {s₁ : Shared} {vs : List Value} {ns : List Int}
    (KX : K.In s₁.heap) (hns : s₁.heap.Ns mainGlobals mg) (hb : s₁.heap.Ns builtinsNs mb) (hbb : ∀ x : Str, x ≠ "__name__" → mb x = bootBuiltins x) (hlim : s₁.heap.NoLimit) (hg : s₁.gens = #[])
    (ha : s₁.heap.get? a = some { cls := .type "list", data := .seq vs.toArray }) (hi : IntsAre vs ns) (hl : ns.length ≤ sizeLine) (hr : Room k callerA)
    (F : ∀ base : Heap, K.In base → base.Ns mainGlobals mg → FnOk P w K mg base CX k fa fd [x] sp) (hbind : ∀ (s : Shared) (u : Value), BindsTo s fd ⟨[u], []⟩ [(x, u)])
    (hsp : ∀ H : Hp, Only H → SqL K H a (ns.map V.int) → sp [.ref a] H (fun v _ => v = .bl true) fun _ _ _ => False)
    (hCX : ∀ H e s', CX [] H s₁ (fun _ _ _ => False) e s' → False) :
    codeAny (model P w) callerA (.call (.ref fa) ⟨[.ref a], []⟩) (fun r s' => r = .ok (.ret (.bool true)) ∧ OldK s₁.heap s'.heap ∧ s'.os = s₁.os ∧ AllBare s'.gens) s₁ := by
  have rv := vals_ints hi
  have lenV := hi.length
  have core : ∀ H : Hp, Only H → SqL K H a (ns.map V.int) → HOk P w H s₁.heap → (∀ b, H b ≠ none → b = a) → (H a ≠ none → K.lookup a = none) →
      codeAny (model P w) callerA (.call (.ref fa) ⟨[.ref a], []⟩) (fun r s' => r = .ok (.ret (.bool true)) ∧ OldK s₁.heap s'.heap ∧ s'.os = s₁.os ∧ AllBare s'.gens) s₁ := by
    intro H hO hS hok hA hK
    have base_of : ∀ {b : Addr} {o : Obj}, s₁.heap.get? b = some o → H b = none → (hidT s₁.heap H).get? b = some o := fun e n => hidT_get e n
    have noA : ∀ {b : Addr} {o : Obj} {es : Array DictEntry} {ep : Nat}, s₁.heap.get? b = some o → o.data = .dict es ep → H b = none := fun {b o es ep} e d => by
      cases q : H b with
      | none => rfl
      | some u =>
        have e' : b = a := hA b (by rw [q]; simp)
        subst e'
        rw [ha] at e; cases e
        have d' : Data.seq vs.toArray _ = Data.dict es ep := d
        cases d'
    have nsK : ∀ {b : Addr} {m : Str → Option Value}, s₁.heap.Ns b m → (hidT s₁.heap H).Ns b m := fun {b m} ⟨o, es, ep, e, d, r⟩ => ⟨o, es, ep, base_of e (noA e d), d, r⟩
    have hKb : K.In (hidT s₁.heap H) := fun b o e => base_of (KX b o e) (by
      cases q : H b with
      | none => rfl
      | some u =>
        have e' : b = a := hA b (by rw [q]; simp)
        subst e'
        rw [hK (by rw [q]; simp)] at e; cases e)
    have hM : Mod K mg (hidT s₁.heap H) := ⟨hKb, nsK hns, ⟨mb, nsK hb, hbb⟩, let ⟨mc, h1, h2⟩ := hlim; ⟨mc, nsK h1, h2⟩⟩
    have e0 : Env0 P w K mg (hidT s₁.heap H) callerA [] s₁ H := ⟨rfl, hM, fun b o e => of_hidT e, Nat.le_of_eq (hidT_size _ _), trivial, fun b hb => absurd (show b ∈ ([] : List Addr) from hb) (by simp), hok, .of_eq hg⟩
    refine codeAny_mono ((F _ hKb (nsK hns)).run callerA [] s₁ H ⟨[.ref a], []⟩ [.ref a] [.ref a] _ _ hr e0 (hbind s₁ (.ref a)) (.cons rfl .nil) (hsp H hO hS)) fun r s' h => ?_
    cases r with
    | error e => exact (hCX H e s' h).elim
    | ok fl =>
      cases fl with
      | next => exact False.elim h
      | brk => exact False.elim h
      | cont => exact False.elim h
      | ret u =>
        obtain ⟨v, H', os, bare, un, hok', r', q⟩ := h
        have q' : v = .bl true := q
        subst q'
        obtain rfl : u = Value.bool true := r'
        refine ⟨rfl, OldK.of_keep fun b o e => ?_, os, bare⟩
        cases q : H b with
        | none => exact un.keep b o e q (by intro z; exact absurd (show b ∈ ([] : List Addr) from z) (by simp)) (by simp)
        | some u =>
          rcases hO b with z | ⟨ob, xs, z⟩
          · rw [q] at z; cases z
          · have z2 := un.frzs b ob _ z
            obtain ⟨e1, _⟩ := hok b _ z
            obtain ⟨e2, _⟩ := hok' b _ z2
            rw [e] at e1; cases e1
            exact e2
  cases hk : K.lookup a with
  | some o =>
    have e := KX a o hk
    rw [ha] at e
    cases e
    refine core (fun _ => none) (fun _ => .inl rfl) (.inr ⟨_, vs.toArray, _, hk, rfl, rfl, rfl, by rw [List.size_toArray, lenV]; exact hl, by simpa using rv⟩) (fun b u z => by have z' : (none : Option HO) = some u := z; cases z') (fun b z => absurd rfl z) fun z => absurd rfl z
  | none =>
    refine core (fun b => if b = a then some (.frz { cls := .type "list", data := .seq vs.toArray } (.lst (ns.map V.int))) else none) (fun b => ?_) (.inl (.inr ⟨{ cls := .type "list", data := .seq vs.toArray }, if_pos rfl⟩)) (fun b u z => ?_) (fun b z => ?_) fun _ => hk
    · by_cases hb : b = a
      · exact .inr ⟨_, _, if_pos hb⟩
      · exact .inl (if_neg hb)
    · by_cases hb : b = a
      · have z' := (if_pos hb).symm.trans z
        cases z'
        subst hb
        exact ⟨ha, by rw [List.length_map]; exact hl, vs, _, rv, ha⟩
      · have z' := (if_neg hb).symm.trans z
        cases z'
    · by_cases hb : b = a
      · exact hb
      · exact absurd (if_neg hb) z
end L2
namespace L2
open PySem PySem.Spec PyProof.Rows
theorem walk_of {l : PySem.W.OpenLaw} {n k : Nat} {q : Program} {loose : List Str} {XP : (Str → Option Value) → Heap → Prop} {YP : World → Heap → Prop} {d : DefRec} {K : Params → PySem.W.Frag} {CX : World → CXT} {sp : World → Sp} {x : Str}
    (hn : l.most = some n) (hn2 : n ≤ sizeLine) (hdf : d.params.defaults = []) (hr : Room k callerA)
    (hY : ∀ (w : World) (h : Heap), YP w h → (K w.params).In h)
    (F : ∀ (w : World) (mg : Str → Option Value) (fa : Addr) (h : Heap), (K w.params).In h → h.Ns mainGlobals mg → mg d.name = some (.ref fa) →
      ∃ fd : FuncData, (∀ (s : Shared) (u : Value), BindsTo s fd ⟨[u], []⟩ [(x, u)]) ∧
        ∀ base : Heap, (K w.params).In base → base.Ns mainGlobals mg → FnOk l.prog w (K w.params) mg base (CX w) k fa fd [x] (sp w))
    (hsp : ∀ (w : World) (H : Hp) (a : Addr) (ns : List Int), ns.length ≤ n → Only H → SqL (K w.params) H a (ns.map V.int) → sp w [.ref a] H (fun v _ => v = .bl true) fun _ _ _ => False)
    (hCX : ∀ (w : World) (H : Hp) (s : Shared) (e : Value) (s' : Shared), CX w [] H s (fun _ _ _ => False) e s' → False) :
    PySem.W.WalkO q loose XP YP l.row.toRowW d [] (fun f vs => PySem.call f vs) := by
  refine Att.attach_call hn hdf fun w s₀ s₁ mg mb fa o pm cd doc a vs ns G Y ho hd hcd hmg hobj hints hlen hg => ?_
  have KX := hY w _ Y
  obtain ⟨fd, hb, hF⟩ := F w mg fa _ KX G.T.g hmg
  exact law_call KX G.T.g G.T.b G.T.builtins G.T.nolimit hg hobj hints (Nat.le_trans hlen hn2) hr hF hb (fun H hO hS => hsp w H a ns hlen hO hS) fun H e s' => hCX w H s₁ e s'
end L2
namespace L2
open PySem PySem.Spec PyProof.Rows
noncomputable def inClass (s : Stmt) (j : Nat) : Stmt := match s with
  | .ClassDef _ _ _ body _ _ _ _ _ _ _ => body.getD j (.Pass ⟨0, 0, 0, 0⟩)
  | _ => .Pass ⟨0, 0, 0, 0⟩
noncomputable def defArgs (s : Stmt) : Arguments := match s with
  | .FunctionDef _ a _ _ _ _ _ _ _ _ => a
  | _ => { posonlyargs := [], args := [], vararg := none, kwonlyargs := [], kw_defaults := [], kwarg := none, defaults := [] }
noncomputable def defBody (s : Stmt) : List Stmt := match s with
  | .FunctionDef _ _ b _ _ _ _ _ _ _ => b
  | _ => []
noncomputable def defScope (s : Stmt) : Scope := match s with
  | .FunctionDef _ _ _ _ _ _ sc _ _ _ => sc
  | _ => { kind := .function, names := [], isGenerator := false, isCoroutine := false }
noncomputable abbrev CX0 : CXT := fun _ _ _ _ _ _ => False
noncomputable abbrev E0 : XK := fun _ _ _ => False
theorem pass0 {X : Cx} : Passes CX0 X E0 := fun _ _ _ _ _ _ _ h => h.elim
structure Fun (K : PySem.W.Frag) (x qual : Str) (st : Stmt) (f : Addr) (fd : FuncData) : Prop where
  ex : ∃ (oc : Value) (od : Option Addr) (kV doc pm : Value) (an : Option Addr) (cdv ct : Value) (osl : Array (Option Value)),
    fd = PySem.W.fnOf x qual (defArgs st) (defBody st) (defScope st) .none kV doc pm an cdv ct ∧ K.lookup f = some ⟨oc, od, .func fd, osl⟩ ∧ PySem.W.codeIn K cdv qual = true
  kp : PySem.W.keepIn K (.ref f) = true
section
variable {P : Program} {w : World} {K : PySem.W.Frag} {mg : Str → Option Value} {base : Heap}
theorem Fun.ok {x qual : Str} {st : Stmt} {f : Addr} {fd : FuncData} {N ps : List Str} {k : Nat} {sp : Sp} (F : Fun K x qual st f fd) (S : FnScope N ps (defScope st)) (len : ∀ vs H Q E, sp vs H Q E → vs.length = ps.length)
    (hbody : ∀ (cdv : Value) (A : Around) (outer : List Env) (s : Shared) (H : Hp) (vs : List V) (Q : VK) (E : XK), Room k (A.deeper (envOfC qual (defScope st) s.heap.objs.size f cdv)) → sp vs H Q E →
      ∃ t, PSs (cxOf CX0 P w K mg base N qual (defScope st) f cdv A outer s H E).nox (defBody st) t ∧ t { nx := fun _ H' => Q .non H', rt := Q } (start N vs) H) : FnOk P w K mg base CX0 (k + 1) f fd ps sp := by
  obtain ⟨oc, od, kV, doc, pm, an, cdv, ct, osl, rfl, lk, hcd⟩ := F.ex
  refine fn_of lk hcd S len fun A outer s H vs Q E hr hsp => ?_
  obtain ⟨t, h, q⟩ := hbody cdv A outer s H vs Q E hr hsp
  exact ⟨t, h.nox, q⟩
theorem Fun.binds {x qual : Str} {st : Stmt} {f : Addr} {fd : FuncData} {ps : List Str} (F : Fun K x qual st f fd)
    (h : ∀ (kV doc pm : Value) (an : Option Addr) (cdv ct : Value) (us : List Value), us.length = ps.length → bindArgs (PySem.W.fnOf x qual (defArgs st) (defBody st) (defScope st) .none kV doc pm an cdv ct) ⟨us, []⟩ = pure (ps.zip us)) : Binds K fd ps [] := by
  obtain ⟨oc, od, kV, doc, pm, an, cdv, ct, osl, rfl, lk, hcd⟩ := F.ex
  exact .all (h kV doc pm an cdv ct)
theorem fun_mk {x qual : Str} {st : Stmt} {f : Addr} {oc : Value} {od an : Option Addr} {osl : Array (Option Value)} {kV doc pm cdv ct : Value} (l : K.lookup f = some ⟨oc, od, .func (PySem.W.fnOf x qual (defArgs st) (defBody st) (defScope st) .none kV doc pm an cdv ct), osl⟩)
    (c : PySem.W.codeIn K cdv qual = true) (k : PySem.W.keepIn K (.ref f) = true) : Fun K x qual st f (PySem.W.fnOf x qual (defArgs st) (defBody st) (defScope st) .none kV doc pm an cdv ct) := ⟨⟨oc, od, kV, doc, pm, an, cdv, ct, osl, rfl, l, c⟩, k⟩
end
theorem hu_of {A : Around} {k : Nat} (hr : Room k A) : A.units + 1 < cLine := Nat.lt_of_le_of_lt (Nat.add_le_add_left (by decide : 1 ≤ 64) _) hr.units
theorem small1000 {n : Nat} (h : n ≤ 1000) : n < sizeLine := Nat.lt_of_le_of_lt h (by decide)
section
variable {X : Cx}
theorem pv (i : Nat) {x : Str} {pos : Pos} (hN : X.N[i]? = some x := by rfl) (hv : Vis X.env.scope x := by first | exact Or.inl rfl | exact Or.inr (Or.inl rfl) | exact Or.inr (Or.inr rfl)) (hd : (x == ("__debug__" : Str)) = false := by decide)
    (hcd : (x == ("__classdict__" : Str)) = false := by decide) : PE X (.Name x pos) (tVar i) := pe_var hN hv hd hcd
end
theorem ite2 {c A B : Prop} [Decidable c] (h1 : c → A) (h2 : ¬ c → B) : if c then A else B := by
  by_cases h : c
  · rw [if_pos h]
    exact h1 h
  · rw [if_neg h]
    exact h2 h
noncomputable def Same (H H' : Hp) : Prop := ∀ b o, H b = some o → H' b = some o
theorem Same.refl (H : Hp) : Same H H := fun _ _ h => h
theorem Same.trans {H H1 H2 : Hp} (a : Same H H1) (b : Same H1 H2) : Same H H2 := fun c o h => b c o (a c o h)
theorem Same.free {H H' : Hp} (e : Same H H') {l : Addr} (h : H' l = Option.none) : H l = Option.none := by
  cases q : H l with
  | none => rfl
  | some o =>
    rw [e l o q] at h
    cases h
theorem Same.seq {K : PySem.W.Frag} {H H' : Hp} {a : Addr} {xs : List V} (e : Same H H') (h : SqL K H a xs) : SqL K H' a xs := by
  rcases h with (h | ⟨o, h⟩) | h
  · exact .inl (.inl (e _ _ h))
  · exact .inl (.inr ⟨o, e _ _ h⟩)
  · exact .inr h
end L2
namespace L2
open PySem PySem.Spec PyProof.Rows
section
variable {κ : Type} [DecidableEq κ]
noncomputable def valV (kvs : List (κ × V)) (k : κ) : Option V := (kvs.find? fun kv => decide (kv.1 = k)).map (·.2)
noncomputable def putK (kvs : List (κ × V)) (k : κ) (v : V) : List (κ × V) :=
  if (kvs.any fun kv => decide (kv.1 = k)) = true then kvs.map (fun kv => if kv.1 = k then (kv.1, v) else kv) else kvs ++ [(k, v)]
theorem valV_pos {p : κ × V} {r : List (κ × V)} {k : κ} (e : p.1 = k) : valV (p :: r) k = some p.2 := by simp [valV, List.find?_cons, e]
theorem valV_neg {p : κ × V} {r : List (κ × V)} {k : κ} (e : ¬ p.1 = k) : valV (p :: r) k = valV r k := by simp [valV, List.find?_cons, e]
theorem valV_any (k : κ) : ∀ kvs : List (κ × V), (kvs.any fun kv => decide (kv.1 = k)) = (valV kvs k).isSome
  | [] => rfl
  | p :: r => by
    rw [List.any_cons]
    by_cases e : p.1 = k
    · simp only [valV_pos e, decide_eq_true e, Bool.true_or, Option.isSome_some]
    · rw [valV_neg e, decide_eq_false e, Bool.false_or]; exact valV_any k r
theorem length_putK (kvs : List (κ × V)) (k : κ) (v : V) : (putK kvs k v).length ≤ kvs.length + 1 := by
  unfold putK
  split
  · rw [List.length_map]; omega
  · rw [List.length_append, List.length_cons, List.length_nil]; omega
theorem RelO.isSome_eq {o : Option V} {u : Option Value} (r : RelO o u) : o.isSome = u.isSome := by
  cases o with
  | none => cases u with
    | none => rfl
    | some _ => exact (show False from r).elim
  | some _ => cases u with
    | none => exact (show False from r).elim
    | some _ => rfl
theorem KV.val {kvs : List (κ × V)} {vs : List (κ × Value)} (r : KV kvs vs) (k : κ) : RelO (valV kvs k) (valueAt vs k) := by
  unfold KV at r
  induction r with
  | nil => exact True.intro
  | @cons p q ps qs h t ih =>
    obtain ⟨h1, h2⟩ := h
    by_cases e : p.1 = k
    · have e' : q.1 = k := h1.symm.trans e
      have b : valueAt (q :: qs) k = some q.2 := by simp [valueAt, List.find?_cons, e']
      rw [valV_pos e, b]; exact h2
    · have e' : ¬ q.1 = k := fun z => e (h1.trans z)
      have b : valueAt (q :: qs) k = valueAt qs k := by simp [valueAt, List.find?_cons, e']
      rw [valV_neg e, b]; exact ih
theorem KV.any {kvs : List (κ × V)} {vs : List (κ × Value)} (r : KV kvs vs) (k : κ) : (kvs.any fun kv => decide (kv.1 = k)) = vs.any fun kv => decide (kv.1 = k) := by
  unfold KV at r
  induction r with
  | nil => rfl
  | cons h t ih => rw [List.any_cons, List.any_cons, ih, h.1]
theorem KV.repl {kvs : List (κ × V)} {vs : List (κ × Value)} (r : KV kvs vs) (k : κ) {y : V} {u : Value} (ry : RelV y u) :
    KV (kvs.map fun kv => if kv.1 = k then (kv.1, y) else kv) (vs.map fun kv => if kv.1 = k then (kv.1, u) else kv) := by
  unfold KV at r ⊢
  induction r with
  | nil => exact .nil
  | @cons p q ps qs h t ih =>
    rw [List.map_cons, List.map_cons]
    refine .cons ?_ ih
    obtain ⟨h1, h2⟩ := h
    by_cases e : p.1 = k
    · rw [if_pos e, if_pos (h1.symm.trans e)]; exact ⟨h1, ry⟩
    · rw [if_neg e, if_neg (fun z => e (h1.trans z))]; exact ⟨h1, h2⟩
theorem KV.put {kvs : List (κ × V)} {vs : List (κ × Value)} (r : KV kvs vs) (k : κ) {y : V} {u : Value} (ry : RelV y u) : KV (putK kvs k y) (stored vs k u) := by
  unfold putK stored
  rw [r.any k]
  by_cases e : (vs.any fun kv => decide (kv.1 = k)) = true
  · rw [if_pos e, if_pos e]; exact r.repl k ry
  · rw [if_neg e, if_neg e]; exact Paired.snoc r ⟨rfl, ry⟩
theorem KV.keys {kvs : List (κ × V)} {vs : List (κ × Value)} (r : KV kvs vs) : kvs.map (·.1) = vs.map (·.1) := by
  unfold KV at r
  induction r with
  | nil => rfl
  | cons h t ih => rw [List.map_cons, List.map_cons, ih, h.1]
theorem KV.length {kvs : List (κ × V)} {vs : List (κ × Value)} (r : KV kvs vs) : kvs.length = vs.length := Paired.length r
end
theorem kV_is {P : Program} {w : World} {k : Key} {u : Value} (r : RelV (kV k) u) : (mixKind P w).is k u = true := by
  cases k with
  | inl i => obtain ⟨t, e⟩ := (show ∃ t, u = Value.int i t from r); subst e; exact mixKind_int P w i t
  | inr x => obtain ⟨t, e⟩ := (show ∃ t, u = Value.str x t from r); subst e; exact mixKind_str P w x t
theorem items_are {P : Program} {w : World} : ∀ {ks : List Key} {us : List Value}, Vals (ks.map kV) us → ItemsAre (mixKind P w) ks us
  | [], _, r => by rw [List.map_nil] at r; cases r; exact .nil
  | k :: ks, _, r => by
    rw [List.map_cons] at r
    cases r with
    | cons h t => exact .cons (kV_is h) (items_are t)
noncomputable abbrev KT (H : Hp) : List (List Key × V) → List (List Key × Addr × Value) → Prop := Paired fun p q => p.1 = q.1 ∧ H q.2.1 = some (.tup (p.1.map kV)) ∧ RelV p.2 q.2.2
theorem KT.val {H : Hp} {kvs : List (List Key × V)} {xs : List (List Key × Addr × Value)} (r : KT H kvs xs) (k : List Key) : RelO (valV kvs k) ((atKey xs k).map (·.2)) := by
  induction r with
  | nil => exact True.intro
  | @cons p q ps qs h t ih =>
    obtain ⟨h1, _, h2⟩ := h
    by_cases e : p.1 = k
    · have e' : q.1 = k := h1.symm.trans e
      have b : atKey (q :: qs) k = some q.2 := by simp [atKey, List.find?_cons, e']
      rw [valV_pos e, b]; exact h2
    · have e' : ¬ q.1 = k := fun z => e (h1.trans z)
      have b : atKey (q :: qs) k = atKey qs k := by simp [atKey, List.find?_cons, e']
      rw [valV_neg e, b]; exact ih
theorem KT.repl {H : Hp} {kvs : List (List Key × V)} {xs : List (List Key × Addr × Value)} (r : KT H kvs xs) (k : List Key) {y : V} {u : Value} (ry : RelV y u) :
    KT H (kvs.map fun kv => if kv.1 = k then (kv.1, y) else kv) (xs.map (putAt k u)) := by
  induction r with
  | nil => exact .nil
  | @cons p q ps qs h t ih =>
    rw [List.map_cons, List.map_cons]
    refine .cons ?_ ih
    obtain ⟨h1, h2, h3⟩ := h
    unfold putAt
    by_cases e : p.1 = k
    · rw [if_pos e, if_pos (h1.symm.trans e)]; exact ⟨h1, h2, ry⟩
    · rw [if_neg e, if_neg (fun z => e (h1.trans z))]; exact ⟨h1, h2, h3⟩
theorem KT.put {H : Hp} {kvs : List (List Key × V)} {xs : List (List Key × Addr × Value)} (r : KT H kvs xs) (k : List Key) {b : Addr} {y : V} {u : Value} (hb : H b = some (.tup (k.map kV))) (ry : RelV y u) :
    KT H (putK kvs k y) (storedH xs k b u) := by
  have e : (kvs.any fun kv => decide (kv.1 = k)) = (atKey xs k).isSome := by
    rw [valV_any, (r.val k).isSome_eq, Option.isSome_map]
  unfold putK storedH
  rw [e]
  by_cases q : (atKey xs k).isSome = true
  · rw [if_pos q, if_pos q]; exact r.repl k ry
  · rw [if_neg q, if_neg q]; exact Paired.snoc r ⟨rfl, hb, ry⟩
theorem KT.keeps {H H' : Hp} {kvs : List (List Key × V)} {xs : List (List Key × Addr × Value)} (r : KT H kvs xs) (ht : ∀ b ys, H b = some (.tup ys) → H' b = some (.tup ys)) : KT H' kvs xs :=
  Paired.mapP r fun _ _ z => ⟨z.1, ht _ _ z.2.1, z.2.2⟩
section
variable {P : Program} {w : World} {H : Hp} {h : Heap} {a : Addr}
theorem rd_of {u : HO} (ok : HOk P w H h) (e : Rd H a u) : ObjOk P w H h a u := e.ok ok
theorem dk_rd {kvs : List (Key × V)} (ok : HOk P w H h) (e : Rd H a (.dK kvs)) : kvs.length ≤ sizeLine ∧ (a == sysModules) = false ∧ ∃ vs, KV kvs vs ∧ h.DictOf (mixKind P w) a vs :=
  show ObjOk P w H h a (.dK kvs) from rd_of ok e
theorem dk_of {kvs : List (Key × V)} (ok : HOk P w H h) (e : H a = some (.dK kvs)) : kvs.length ≤ sizeLine ∧ (a == sysModules) = false ∧ ∃ vs, KV kvs vs ∧ h.DictOf (mixKind P w) a vs := dk_rd ok (.inl e)
theorem key_of {ks : List Key} (ok : HOk P w H h) (e : H a = some (.tup (ks.map kV))) : (tupleKind (mixKind P w)).is h ks a := by
  obtain ⟨_, its, r, o, h1, h2, n, h3⟩ := (show ObjOk P w H h a (.tup (ks.map kV)) from ok a _ e)
  exact ⟨o, its.toArray, n, h1, h2, h3, by simpa using items_are r⟩
theorem dt_rd {kvs : List (List Key × V)} (ok : HOk P w H h) (e : Rd H a (.dT kvs)) : kvs.length ≤ sizeLine ∧ (a == sysModules) = false ∧
    ∃ xs, KT H kvs xs ∧ h.DictOfH (tupleKind (mixKind P w)) a xs := by
  obtain ⟨z, y, xs, r, o, es, ep, h1, h2, h3, h4, h5⟩ := (show ObjOk P w H h a (.dT kvs) from rd_of ok e)
  refine ⟨z, y, xs, r, o, es, ep, h1, h2, h3, h4, fun x hx => ?_, h5⟩
  have all : ∀ {l : List (List Key × V)} {m : List (List Key × Addr × Value)}, KT H l m → ∀ x ∈ m, (tupleKind (mixKind P w)).is h x.1 x.2.1 := by
    intro l m q
    induction q with
    | nil => intro x hx; exact nomatch hx
    | @cons p q ps qs hq t ih =>
      intro x hx
      rcases List.mem_cons.mp hx with e | hx
      · subst e
        exact key_of ok (by rw [← hq.1]; exact hq.2.1)
      · exact ih x hx
  exact all r x hx
theorem dt_of {kvs : List (List Key × V)} (ok : HOk P w H h) (e : H a = some (.dT kvs)) : kvs.length ≤ sizeLine ∧ (a == sysModules) = false ∧
    ∃ xs, KT H kvs xs ∧ h.DictOfH (tupleKind (mixKind P w)) a xs := dt_rd ok (.inl e)
end
noncomputable def DGet (H : Hp) (a : Addr) (y : V) (r : Option V) : Prop :=
  (∃ kvs k, Rd H a (.dK kvs) ∧ y = kV k ∧ r = valV kvs k) ∨ ∃ kvs k b, Rd H a (.dT kvs) ∧ y = .ref b ∧ H b = some (.tup (k.map kV)) ∧ r = valV kvs k
noncomputable def DPut (H : Hp) (a : Addr) (y v : V) (H' : Hp) : Prop :=
  (∃ kvs k, H a = some (.dK kvs) ∧ y = kV k ∧ kvs.length < sizeLine ∧ H' = upd H a (.dK (putK kvs k v))) ∨
  ∃ kvs k b, H a = some (.dT kvs) ∧ y = .ref b ∧ H b = some (.tup (k.map kV)) ∧ kvs.length < sizeLine ∧ H' = upd H a (.dT (putK kvs k v))
theorem DGet.k {H : Hp} {a : Addr} {kvs : List (Key × V)} {k : Key} (e : H a = some (.dK kvs)) : DGet H a (kV k) (valV kvs k) := .inl ⟨kvs, k, .inl e, rfl, rfl⟩
theorem DPut.k {H : Hp} {a : Addr} {kvs : List (Key × V)} {k : Key} {v : V} (e : H a = some (.dK kvs)) (hl : kvs.length < sizeLine) : DPut H a (kV k) v (upd H a (.dK (putK kvs k v))) := .inl ⟨kvs, k, e, rfl, hl, rfl⟩
section
variable {X : Cx} {pins : List (Addr × Obj)} {σ : St} {H : Hp} {s : Shared} {a : Addr} {y v : V} {u r : Value} {o : Option V} {A : Around} {E : Value → Shared → Prop}
theorem Inv.big (I : Inv X pins σ H s) : sysModules < s.heap.objs.size := by
  have h : mainGlobals < s.heap.objs.size := (I.mod.glob.keeps I.bk).lt
  exact Nat.lt_trans (by decide) h
theorem d_getItem {Q : Value → Shared → Prop} (hu : A.units + 1 < cLine) (I : Inv X pins σ H s) (g : DGet H a y (some v)) (ry : RelV y u) (h : ∀ w' s', Inv X pins σ H s' → RelV v w' → Q w' s') :
    wpAny (model X.prog X.w) A (getItem (.ref a) u) Q E s := by
  rcases g with ⟨kvs, k, e, ey, l⟩ | ⟨kvs, k, b, e, ey, eb, l⟩
  · subst ey
    obtain ⟨z, hd, vs, rel, dd⟩ := dk_rd I.hok e
    obtain ⟨w', hw, rw'⟩ := RelO.some_of (v := v) (o := valueAt vs k) (by rw [l]; exact rel.val k)
    exact wpAny_getItem_of (kV_is ry) dd.mapOf hw (h w' _ (I.tok _) rw')
  · subst ey
    cases (show u = Value.ref b from ry)
    obtain ⟨z, hd, xs, rel, dd⟩ := dt_rd I.hok e
    obtain ⟨w', hw, rw'⟩ := RelO.some_of (v := v) (o := (atKey xs k).map (·.2)) (by rw [l]; exact rel.val k)
    obtain ⟨p, hp, hp2⟩ := Option.map_eq_some_iff.mp hw
    refine wpAny_getItem_heap (tupleKind_room_in1 hu) (key_of I.hok eb) dd hp ?_
    rw [hp2]
    exact h w' _ (I.tok _) rw'
theorem d_in {Q : Value → Shared → Prop} (hu : A.units + 1 < cLine) (I : Inv X pins σ H s) (g : DGet H a y o) (ry : RelV y u) (h : ∀ s', Inv X pins σ H s' → Q (.bool o.isSome) s') :
    wpAny (model X.prog X.w) A (compareOp .In u (.ref a)) Q E s := by
  rcases g with ⟨kvs, k, e, ey, l⟩ | ⟨kvs, k, b, e, ey, eb, l⟩
  · subst ey
    obtain ⟨z, hd, vs, rel, dd⟩ := dk_rd I.hok e
    refine wpAny_in_of (kV_is ry) hd dd.mapOf ?_
    rw [← (rel.val k).isSome_eq, ← l]
    exact h _ (I.tok _)
  · subst ey
    cases (show u = Value.ref b from ry)
    obtain ⟨z, hd, xs, rel, dd⟩ := dt_rd I.hok e
    refine wpAny_in_heap (tupleKind_room_in1 hu) (key_of I.hok eb) hd dd ?_
    have q := (rel.val k).isSome_eq
    rw [Option.isSome_map] at q
    rw [← q, ← l]
    exact h _ (I.tok _)
theorem d_notIn {Q : Value → Shared → Prop} (hu : A.units + 1 < cLine) (I : Inv X pins σ H s) (g : DGet H a y o) (ry : RelV y u) (h : ∀ s', Inv X pins σ H s' → Q (.bool (!o.isSome)) s') :
    wpAny (model X.prog X.w) A (compareOp .NotIn u (.ref a)) Q E s := by
  rcases g with ⟨kvs, k, e, ey, l⟩ | ⟨kvs, k, b, e, ey, eb, l⟩
  · subst ey
    obtain ⟨z, hd, vs, rel, dd⟩ := dk_rd I.hok e
    refine wpAny_notIn_of (kV_is ry) hd dd.mapOf ?_
    rw [← (rel.val k).isSome_eq, ← l]
    exact h _ (I.tok _)
  · subst ey
    cases (show u = Value.ref b from ry)
    obtain ⟨z, hd, xs, rel, dd⟩ := dt_rd I.hok e
    refine wpAny_notIn_heap (tupleKind_room_in1 hu) (key_of I.hok eb) hd dd ?_
    have q := (rel.val k).isSome_eq
    rw [Option.isSome_map] at q
    rw [← q, ← l]
    exact h _ (I.tok _)
theorem d_write {h' : Heap} {t' : Nat} {ob : HO} (I : Inv X pins σ H s) (mu : Mut (H a)) (hs : Heap.SameBut a s.heap h') (he : ∃ q, h'.get? a = some q) (new : ObjOk X.prog X.w (upd H a ob) h' a ob) :
    Inv X pins σ (upd H a ob) { s with heap := h', toks := t' } :=
  I.write (x := a) (e := a) mu (.inl rfl) (fun b q hb z => (hs.2 b hb).trans z) he new
theorem dk_new {P : Program} {w : World} {H' : Hp} {h' : Heap} {kvs : List (Key × V)} {vs : List (Key × Value)} (z : kvs.length ≤ sizeLine) (hd : (a == sysModules) = false) (rel : KV kvs vs) (dd : h'.DictOf (mixKind P w) a vs) :
    ObjOk P w H' h' a (.dK kvs) := ⟨z, hd, vs, rel, dd⟩
theorem d_setItem {H' : Hp} {Q : Unit → Shared → Prop} (hu : A.units + 1 < cLine) (I : Inv X pins σ H s) (g : DPut H a y v H') (ry : RelV y u) (rv : RelV v r) (h : ∀ s', Inv X pins σ H' s' → Q () s') :
    wpAny (model X.prog X.w) A (setItem (.ref a) u r) Q E s := by
  rcases g with ⟨kvs, k, e, ey, l, eH⟩ | ⟨kvs, k, b, e, ey, eb, l, eH⟩
  · subst ey eH
    obtain ⟨z, hd, vs, rel, dd⟩ := dk_of I.hok e
    have hz : vs.length ≤ sizeLine := by rw [← rel.length]; exact z
    have hl : (putK kvs k v).length ≤ sizeLine := by have := length_putK kvs k v; omega
    refine wpAny_setItem_pairs (hsz := hz) (kV_is ry) dd fun h' dd' hs => h _ ?_
    have he : ∃ q, h'.get? a = some q := let ⟨q, _, _, hq, _⟩ := dd'; ⟨q, hq⟩
    exact d_write I (by rw [e]; exact True.intro) hs he (dk_new hl hd (rel.put k rv) dd')
  · subst ey eH
    cases (show u = Value.ref b from ry)
    obtain ⟨z, hd, xs, rel, dd⟩ := dt_of I.hok e
    have hz : xs.length ≤ sizeLine := by rw [← Paired.length rel]; exact z
    have hl : (putK kvs k v).length ≤ sizeLine := by have := length_putK kvs k v; omega
    refine wpAny_setItem_heap (hsz := hz) (tupleKind_room_in1 hu) (key_of I.hok eb) dd fun h' dd' hs => h _ ?_
    obtain ⟨q, es, ep, hq, h2, h3, h4, _, h5⟩ := dd'
    refine d_write I (by rw [e]; exact True.intro) hs ⟨q, hq⟩ ⟨hl, hd, _, (rel.put k eb rv).keeps fun c ys ec => ?_, q, es, ep, hq, h2, h3, h4, h5⟩
    rw [upd_ne (ne_of ec e (fun z => nomatch z))]
    exact ec
end
noncomputable def NoSl (i : Expr) : Prop := ∀ ov iv, subscripted i false ov iv = operate [ov, iv] (getItem ov iv)
theorem subD_of {prog : Program} {w : World} {A : Around} {E : Value → Shared → Prop} {s : Shared} {env : Env} {value slice : Expr} {pos : Pos} {T id : String} {Q : Value → Shared → Prop}
    (hl : typeLookup (.type T) "__getitem__" = pure (some (.builtin id))) (hs : NoSl slice)
    (h : wpAny (model prog w) A (eval value env) (fun o s₁ => wpAny (model prog w) A (eval slice env) (fun i s₂ => s₂.TypeIs o T ∧ wpAny (model prog w) A (getItem o i) Q E s₂) E s₁) E s) :
    wpAny (model prog w) A (eval (.Subscript value slice pos) env) Q E s := by
  refine Subscript_ (wpAny_mono h (fun o s₁ h₁ => wpAny_mono h₁ (fun i s₂ h₂ => ?_) fun _ _ x => x) fun _ _ x => x)
  obtain ⟨hT, h₂⟩ := h₂
  unfold subscriptTail
  refine wpAny_bind ?_
  rw [getitemInPython_of_ne hT.not_modules]
  refine wpAny_bind (wpAny_specialOf hT hl ?_)
  have fin : wpAny (model prog w) A (subscripted slice false o i) (fun r s₃ => wpAny (model prog w) A (letTemporaryGo value o r >>= fun _ => pure r) Q E s₃) E s₂ := by
    rw [hs o i]
    exact wpAny_operating (wpAny_mono h₂ (fun r s₃ h₃ => wpAny_bind (wpAny_letTemporaryGo (wpAny_pure h₃))) fun _ _ x => x)
  first
    | exact wpAny_pure (wpAny_bind fin)
    | exact wpAny_bind (wpAny_pure (wpAny_bind fin))
    | exact wpAny_bind fin
theorem dict_typeIs {X : Cx} {pins : List (Addr × Obj)} {σ : St} {H : Hp} {s : Shared} {a : Addr} {y : V} {o : Option V} (I : Inv X pins σ H s) (g : DGet H a y o) : s.TypeIs (.ref a) "dict" := by
  rcases g with ⟨kvs, k, e, _, _⟩ | ⟨kvs, k, b, e, _, _, _⟩
  · obtain ⟨_, _, vs, _, dd⟩ := dk_rd I.hok e
    exact dd.typeIs
  · obtain ⟨_, _, xs, _, dd⟩ := dt_rd I.hok e
    exact dd.typeIs
noncomputable def tDGet (td ty : TE) : TE := fun σ H Q => td σ H fun x H1 => ty σ H1 fun y H2 => ∃ a v, x = .ref a ∧ DGet H2 a y (some v) ∧ Q v H2
noncomputable def tDIn (ty td : TE) : TE := fun σ H Q => ty σ H fun y H1 => td σ H1 fun x H2 => ∃ a o, x = .ref a ∧ DGet H2 a y o ∧ Q (.bl o.isSome) H2
noncomputable def tDNotIn (ty td : TE) : TE := fun σ H Q => ty σ H fun y H1 => td σ H1 fun x H2 => ∃ a o, x = .ref a ∧ DGet H2 a y o ∧ Q (.bl (!o.isSome)) H2
noncomputable def sDPut (td ty tv : TE) : TS := fun D σ H => tv σ H fun v H1 => td σ H1 fun x H2 => ty σ H2 fun y H3 => ∃ a H4, x = .ref a ∧ DPut H3 a y v H4 ∧ D.nx σ H4
section
variable {X : Cx} {o i e value : Expr} {pos pos' tpos : Pos} {td ty tv : TE}
theorem pe_dget (hu : X.A.units + 1 < cLine) (ho : PE X o td) (hi : PE X i ty) (hs : NoSl i) : PE X (.Subscript o i pos) (tDGet td ty) := by
  intro pins s σ H Q I h
  refine subD_of PySem.F.slot_dict_getitem.lookup hs (thn (ho pins s σ H _ I h) fun u s1 ⟨x, H1, I1, rx, q1⟩ => thn (hi pins s1 σ H1 _ I1 q1) fun iv s2 ⟨y, H2, I2, ry, a, v, ex, g, q2⟩ => ?_)
  subst ex
  obtain rfl : u = Value.ref a := rx
  exact ⟨dict_typeIs I2 g, d_getItem hu I2 g ry fun w' s3 I3 rw' => ⟨v, H2, I3, rw', q2⟩⟩
theorem pc_din (hu : X.A.units + 1 < cLine) (hi : PE X i ty) (ho : PE X o td) : PC X .In i o (tDIn ty td) := by
  intro pins s σ H Q I h
  refine thn (hi pins s σ H _ I h) fun iv s1 ⟨y, H1, I1, ry, q1⟩ => thn (ho pins s1 σ H1 _ I1 q1) fun u s2 ⟨x, H2, I2, rx, a, ov, ex, g, q2⟩ => ?_
  subst ex
  obtain rfl : u = Value.ref a := rx
  exact d_in hu I2 g ry fun s3 I3 => ⟨.bl ov.isSome, H2, I3, rfl, q2⟩
theorem pc_dnotin (hu : X.A.units + 1 < cLine) (hi : PE X i ty) (ho : PE X o td) : PC X .NotIn i o (tDNotIn ty td) := by
  intro pins s σ H Q I h
  refine thn (hi pins s σ H _ I h) fun iv s1 ⟨y, H1, I1, ry, q1⟩ => thn (ho pins s1 σ H1 _ I1 q1) fun u s2 ⟨x, H2, I2, rx, a, ov, ex, g, q2⟩ => ?_
  subst ex
  obtain rfl : u = Value.ref a := rx
  exact d_notIn hu I2 g ry fun s3 I3 => ⟨.bl (!ov.isSome), H2, I3, rfl, q2⟩
theorem ps_dput (hu : X.A.units + 1 < cLine) (ho : PE X o td) (hi : PE X i ty) (hv : PE X value tv) (hs : swapsWith value (some (.Subscript o i pos')) pos.line X.env = pure false) :
    PS X (.Assign [.Subscript o i pos'] value pos) (sDPut td ty tv) := by
  intro pins s σ H D I h
  refine wpAny_Assign_Subscript (thn (hv pins s σ H _ I h) fun r s1 ⟨v, H1, I1, rv, q1⟩ => thn (ho pins s1 σ H1 _ I1 q1) fun u s2 ⟨x, H2, I2, rx, q2⟩ => thn (hi pins s2 σ H2 _ I2 q2) fun iv s3 ⟨y, H3, I3, ry, a, H4, ex, g, q3⟩ => ?_) hs
  subst ex
  obtain rfl : u = Value.ref a := rx
  exact d_setItem hu I3 g ry rv fun s4 I4 => ⟨σ, H4, I4, q3⟩
end
theorem dk_empty {P : Program} {w : World} {H : Hp} (h : Heap) (hb : sysModules < h.objs.size) : ObjOk P w H (h.push { cls := .type "dict", data := .dict #[] }) h.objs.size (.dK []) :=
  ⟨Nat.zero_le _, beq_eq_false_iff_ne.mpr (Ne.symm (Nat.ne_of_lt hb)), [], .nil, Heap.DictOf.new h⟩
noncomputable def tDNewK : TE := fun _ H Q => ∀ p, H p = none → Q (.ref p) (upd H p (.dK []))
section
variable {X : Cx} {pos : Pos}
theorem pe_dnewK : PE X (.Dict [] [] pos) tDNewK := fun pins s σ H Q I h =>
  wpAny_Dict_empty ⟨.ref s.heap.objs.size, _, I.laid (a := s.heap.objs.size) (o := .dK []) (t' := s.toks) (fun _ _ q => Heap.get?_push_of_some _ q) (Nat.le_refl _) (dk_empty s.heap I.big), rfl, h _ (I.hok.fresh (Nat.le_refl _))⟩
end
structure M1 (X : Cx) (o : Expr) (m : Str) (apos : Pos) (e : Expr) (cpos : Pos) : Prop where
  base : attributeBase o m X.env (eval o X.env) = eval o X.env
  few : ((backTo cpos (starEach [e] X.env)).all (fun x => !x.1) && (backToKw cpos (keywordEach [] X.env)).all (fun x => x.1.isSome)
    && decide (([e] : List Expr).length + ([] : List Keyword).length + (if ([] : List Keyword).isEmpty then 0 else 1) < 30)) = true
  line : (apos.endLine == cpos.line) = true
  trees : backTo cpos (starEach [e] X.env) = [(false, eval e X.env)]
structure M2 (X : Cx) (o : Expr) (m : Str) (apos : Pos) (e f : Expr) (cpos : Pos) : Prop where
  base : attributeBase o m X.env (eval o X.env) = eval o X.env
  few : ((backTo cpos (starEach [e, f] X.env)).all (fun x => !x.1) && (backToKw cpos (keywordEach [] X.env)).all (fun x => x.1.isSome)
    && decide (([e, f] : List Expr).length + ([] : List Keyword).length + (if ([] : List Keyword).isEmpty then 0 else 1) < 30)) = true
  line : (apos.endLine == cpos.line) = true
  trees : backTo cpos (starEach [e, f] X.env) = [(false, eval e X.env), (false, eval f X.env)]
end L2
namespace L2
open PySem PySem.Spec PyProof.Rows
section
variable {κ : Type} [DecidableEq κ]
theorem valV_not {kvs : List (κ × V)} {k : κ} (h : valV kvs k = none) : ¬ k ∈ kvs.map (·.1) := by
  intro m
  obtain ⟨p, hp, e⟩ := List.mem_map.mp m
  have q : (kvs.any fun kv => decide (kv.1 = k)) = true := List.any_eq_true.mpr ⟨p, hp, decide_eq_true e⟩
  rw [valV_any, h] at q
  exact absurd q (by simp)
theorem valV_in {kvs : List (κ × V)} {k : κ} {v : V} (h : valV kvs k = some v) : k ∈ kvs.map (·.1) := by
  have q : (kvs.any fun kv => decide (kv.1 = k)) = true := by
    rw [valV_any, h]
    all_goals rfl
  obtain ⟨p, hp, e⟩ := List.any_eq_true.mp q
  exact List.mem_map.mpr ⟨p, hp, of_decide_eq_true e⟩
end
end L2
set_option Elab.async false
set_option linter.all false
set_option maxRecDepth 100000
set_option maxHeartbeats 4000000
namespace L2
open PySem PySem.Spec PyProof.Rows
section
variable {P0 : Program} {w0 : World} {A0 : Around} {R0 : Result → Shared → Prop} {t0 : Shared}
theorem comp_turns {elt tg iter : Expr} {ifs : List Expr} {sc : Scope} {pos : Pos} {it acc : Value} {ce : Env} (J : Nat → Shared → Prop)
    (turn : ∀ n s, J n s → wpAny (model P0 w0) A0 (pyNext it) (fun r s₁ => match r with
      | none => R0 (.ok .next) s₁
      | some v => wpAny (model P0 w0) A0 (letOwnedTupleGo tg it v) (fun _ s₂ => wpAny (model P0 w0) A0 (assign tg ce v) (fun _ s₃ =>
          wpAny (model P0 w0) A0 (forIn ifs true fun c r => if r = true then do let ok ← isTrue c ce (eval c ce); pure (ForInStep.yield ok) else pure (ForInStep.yield r)) (fun ok s₄ =>
            if ok = true then wpAny (model P0 w0) A0 (eval elt ce) (fun x s₅ =>
              wpAny (model P0 w0) A0 (call (.builtin "list.append") [acc, x]) (fun _ s₆ => ∃ m, m < n ∧ J m s₆) (fun _ _ => False) s₅) (fun _ _ => False) s₄
            else ∃ m, m < n ∧ J m s₄) (fun _ _ => False) s₃) (fun _ _ => False) s₂) (fun _ _ => False) s₁) (fun _ _ => False) s)
    (n : Nat) (h : J n t0) :
    codeAny (model P0 w0) A0 (.compLoop (.ListComp elt [⟨tg, iter, ifs, 0⟩] sc pos) 0 it acc ce) R0 t0 := by
  have no : ∀ {α : Type} {t : Sem α} {Q : α → Shared → Prop} {E : Value → Shared → Prop} {s : Shared}, wpAny (model P0 w0) A0 t Q (fun _ _ => False) s → wpAny (model P0 w0) A0 t Q E s :=
    fun h => wpAny_mono h (fun _ _ q => q) fun _ _ z => z.elim
  refine codeAny_loop rfl J (fun n s hJ => ?_) n h
  show wpAny _ A0 ((compTurn (.ListComp elt [⟨tg, iter, ifs, 0⟩] sc pos) 0 it acc ce).onRaise (fun x => do noteFrame x ce; theTreesLotGoes x)) _ _ s
  refine wpAny_noted ?_
  rw [compTurn_list]
  refine wpAny_bind (wpAny_standAt (wpAny_bind (thn (no (turn n s hJ)) fun r s₁ h₁ => ?_)))
  cases r with
  | none => exact wpAny_pure h₁
  | some v =>
    refine wpAny_bind (thn (no h₁) fun _ s₂ h₂ => ?_)
    refine wpAny_bind (thn (no h₂) fun _ s₃ h₃ => wpAny_bind (thn (no h₃) fun ok s₄ h₄ => ?_))
    cases ok with
    | false => exact wpAny_pure ⟨rfl, h₄⟩
    | true =>
      rw [if_pos rfl] at h₄
      refine wpAny_bind (wpAny_bind (thn (no h₄) fun x s₅ h₅ => ?_))
      refine wpAny_bind (thn (no h₅) fun _ s₆ h₆ => ?_)
      exact wpAny_pure (wpAny_pure ⟨rfl, h₆⟩)
end
theorem closure_go (env : Env) : ∀ (l : List (Str × NameKind)) (cs : List (Str × Addr)), (∀ y ∈ l, y.2 = .free → ∃ c, env.cells.lookup y.1 = some c) →
    ∃ r : List (Str × Addr), (forIn l cs (fun (x : Str × NameKind) (r : List (Str × Addr)) => if x.2 == NameKind.free then (do let c ← cellOf env x.1; pure (ForInStep.yield ((x.1, c) :: r))) else pure (ForInStep.yield r)) : Sem (List (Str × Addr))) = pure r ∧
      (∀ p ∈ r, p ∈ cs ∨ env.cells.lookup p.1 = some p.2) ∧ (∀ p ∈ cs, p ∈ r) ∧ (∀ y ∈ l, y.2 = .free → ∃ c, (y.1, c) ∈ r)
  | [], cs, _ => ⟨cs, rfl, fun p hp => .inl hp, fun p hp => hp, fun y hy => nomatch hy⟩
  | (x, k) :: l, cs, h => by
    by_cases hk : k = .free
    · subst hk
      obtain ⟨c, hc⟩ := h (x, .free) List.mem_cons_self rfl
      obtain ⟨r, e, h1, h2, h3⟩ := closure_go env l ((x, c) :: cs) fun y hy => h y (List.mem_cons_of_mem _ hy)
      refine ⟨r, ?_, fun p hp => ?_, fun p hp => h2 p (List.mem_cons_of_mem _ hp), fun y hy hf => ?_⟩
      · rw [List.forIn_cons]
        have e2 : cellOf env x = pure c := by unfold cellOf; rw [hc]
        simp only [beq_self_eq_true, if_true, e2, pure_bind]
        exact e
      · rcases h1 p hp with q | q
        · rcases List.mem_cons.mp q with z | z
          · subst z; exact .inr hc
          · exact .inl z
        · exact .inr q
      · rcases List.mem_cons.mp hy with z | z
        · subst z; exact ⟨c, h2 _ List.mem_cons_self⟩
        · exact h3 y z hf
    · obtain ⟨r, e, h1, h2, h3⟩ := closure_go env l cs fun y hy => h y (List.mem_cons_of_mem _ hy)
      refine ⟨r, ?_, h1, h2, fun y hy hf => ?_⟩
      · rw [List.forIn_cons]
        have hb : (k == NameKind.free) = false := by cases k <;> first | rfl | exact absurd rfl hk
        simp only [hb, Bool.false_eq_true, if_false, pure_bind]
        exact e
      · rcases List.mem_cons.mp hy with z | z
        · subst z; exact absurd hf hk
        · exact h3 y z hf
theorem closure_is (sc : Scope) (env : Env) (h : ∀ y ∈ sc.names, y.2 = .free → ∃ c, env.cells.lookup y.1 = some c) :
    ∃ cl, closureFor sc env = pure cl ∧ (∀ p ∈ cl, env.cells.lookup p.1 = some p.2) ∧ ∀ y ∈ sc.names, y.2 = .free → ∃ c, (y.1, c) ∈ cl := by
  obtain ⟨r, e, h1, h2, h3⟩ := closure_go env sc.names [] h
  refine ⟨r, ?_, fun p hp => (h1 p hp).resolve_left (fun z => nomatch z), h3⟩
  unfold closureFor
  have := e
  simp only [bind_pure] at *
  exact e
theorem mem_look {κ β : Type} [BEq κ] [LawfulBEq κ] : ∀ {l : List (κ × β)} {x : κ} {c : β}, (x, c) ∈ l → ∃ c', l.lookup x = some c'
  | [], _, _, h => nomatch h
  | (y, d) :: l, x, c, h => by
    by_cases e : x = y
    · subst e; exact ⟨d, by simp [List.lookup_cons]⟩
    · have hb : (x == y) = false := beq_eq_false_iff_ne.mpr e
      rcases List.mem_cons.mp h with z | z
      · exact absurd (congrArg Prod.fst z) e
      · obtain ⟨c', q⟩ := mem_look z
        exact ⟨c', by rw [List.lookup_cons, hb]; exact q⟩
theorem relabel_cases {env : Env} : ∀ {names : List (Str × NameKind)} {x : Str} {k' : NameKind},
    (names.map fun (n, k) => if (k == NameKind.free && env.scope.kind == .function && env.kindOf n == some .cell) then (n, NameKind.cell) else (n, k)).lookup x = some k' → ∃ k, (x, k) ∈ names ∧ (k' = k ∨ k = .free)
  | [], _, _, h => by cases h
  | (y, k) :: l, x, k', h => by
    rw [List.map_cons, List.lookup_cons] at h
    by_cases e : x = y
    · subst e
      by_cases hc : (k == NameKind.free && env.scope.kind == .function && env.kindOf x == some .cell) = true
      · refine ⟨k, List.mem_cons_self, .inr ?_⟩
        rw [Bool.and_eq_true, Bool.and_eq_true] at hc
        exact eq_of_beq hc.1.1
      · refine ⟨k, List.mem_cons_self, .inl ?_⟩
        simp only [if_neg hc, beq_self_eq_true] at h
        exact (Option.some.inj h).symm
    · have hb : (x == y) = false := beq_eq_false_iff_ne.mpr e
      have h' : (l.map fun (n, k) => if (k == NameKind.free && env.scope.kind == .function && env.kindOf n == some .cell) then (n, NameKind.cell) else (n, k)).lookup x = some k' := by
        by_cases hc : (k == NameKind.free && env.scope.kind == .function && env.kindOf y == some .cell) = true
        · simp only [if_pos hc, hb] at h; exact h
        · simp only [if_neg hc, hb] at h; exact h
      obtain ⟨q, hm, z⟩ := relabel_cases h'
      exact ⟨q, List.mem_cons_of_mem _ hm, z⟩
theorem relabel_free {env : Env} : ∀ {names : List (Str × NameKind)} {x : Str}, names.lookup x = some .free →
    (names.map fun (n, k) => if (k == NameKind.free && env.scope.kind == .function && env.kindOf n == some .cell) then (n, NameKind.cell) else (n, k)).lookup x = some .cell ∨
    (names.map fun (n, k) => if (k == NameKind.free && env.scope.kind == .function && env.kindOf n == some .cell) then (n, NameKind.cell) else (n, k)).lookup x = some .free
  | [], _, h => by cases h
  | (y, k) :: l, x, h => by
    rw [List.lookup_cons] at h
    rw [List.map_cons, List.lookup_cons]
    by_cases e : x = y
    · subst e
      simp only [beq_self_eq_true] at h
      cases h
      by_cases hc : (NameKind.free == NameKind.free && env.scope.kind == .function && env.kindOf x == some .cell) = true
      · refine .inl ?_
        rw [if_pos hc]
        simp only [beq_self_eq_true]
      · refine .inr ?_
        rw [if_neg hc]
        simp only [beq_self_eq_true]
    · have hb : (x == y) = false := beq_eq_false_iff_ne.mpr e
      simp only [hb] at h
      have q := relabel_free (env := env) h
      by_cases hc : (k == NameKind.free && env.scope.kind == .function && env.kindOf y == some .cell) = true
      · simp only [if_pos hc, hb]; exact q
      · simp only [if_neg hc, hb]; exact q
structure CompScope (osc : Scope) (ON N : List Str) (n : Nat) (fx : List Nat) (sc : Scope) : Prop where
  kind : sc.kind = .function
  noc : ∀ y ∈ sc.names, y.2 ≠ .cell
  own : ∀ y ∈ sc.names, y.2 = .local → sc.names.lookup y.1 = some .local
  fre : ∀ y ∈ sc.names, y.2 = .free → osc.names.lookup y.1 = some .cell ∨ osc.names.lookup y.1 = some .free
  len : N.length = n + fx.length
  frn : ∀ k, k < fx.length → ∃ x j, N[n + k]? = some x ∧ fx[k]? = some j ∧ ON[j]? = some x ∧ sc.names.lookup x = some .free
noncomputable def frnOk (ON : List Str) (sc : Scope) : List Str → List Nat → Bool
  | [], [] => true
  | x :: xs, j :: js => decide (ON[j]? = some x) && decide (sc.names.lookup x = some .free) && frnOk ON sc xs js
  | _, _ => false
theorem frnOk_get {ON : List Str} {sc : Scope} : ∀ {xs : List Str} {js : List Nat}, frnOk ON sc xs js = true → xs.length = js.length ∧ ∀ k, k < js.length → ∃ x j, xs[k]? = some x ∧ js[k]? = some j ∧ ON[j]? = some x ∧ sc.names.lookup x = some .free
  | [], [], _ => ⟨rfl, fun k h => absurd h (Nat.not_lt_zero k)⟩
  | [], _ :: _, h => by cases h
  | _ :: _, [], h => by cases h
  | x :: xs, j :: js, h => by
    simp only [frnOk, Bool.and_eq_true, decide_eq_true_eq] at h
    obtain ⟨l, q⟩ := frnOk_get h.2
    refine ⟨congrArg Nat.succ l, fun k hk => ?_⟩
    cases k with
    | zero => exact ⟨x, j, rfl, rfl, h.1.1, h.1.2⟩
    | succ k =>
      obtain ⟨x', j', a, b, c⟩ := q k (Nat.lt_of_succ_lt_succ hk)
      exact ⟨x', j', by simpa using a, by simpa using b, c⟩
noncomputable def compOk (osc : Scope) (ON N : List Str) (n : Nat) (fx : List Nat) (sc : Scope) : Bool :=
  decide (sc.kind = .function) && decide (∀ y ∈ sc.names, y.2 ≠ .cell) && decide (∀ y ∈ sc.names, y.2 = .local → sc.names.lookup y.1 = some .local) &&
  decide (∀ y ∈ sc.names, y.2 = .free → osc.names.lookup y.1 = some .cell ∨ osc.names.lookup y.1 = some .free) && decide (n ≤ N.length) && frnOk ON sc (N.drop n) fx
theorem CompScope.of {osc : Scope} {ON N : List Str} {n : Nat} {fx : List Nat} {sc : Scope} (h : compOk osc ON N n fx sc = true) : CompScope osc ON N n fx sc := by
  simp only [compOk, Bool.and_eq_true, decide_eq_true_eq] at h
  obtain ⟨⟨⟨⟨⟨h1, h2⟩, h3⟩, h4⟩, h5⟩, h6⟩ := h
  obtain ⟨l, q⟩ := frnOk_get h6
  refine ⟨h1, h2, h3, h4, ?_, fun k hk => ?_⟩
  · rw [List.length_drop] at l; omega
  · obtain ⟨x, j, a, b⟩ := q k hk
    exact ⟨x, j, by rw [List.getElem?_drop] at a; exact a, b⟩
noncomputable def cxComp (X : Cx) (N : List Str) (sc : Scope) (cl : List (Str × Addr)) (C : Addr) (fp : List Addr) (s : Shared) (H : Hp) : Cx where
  prog := X.prog
  w := X.w
  K := X.K
  mg := X.mg
  base := X.base
  A := X.A
  N := N
  s₀ := s
  H₀ := H
  env := compEnvC sc cl C X.env
  outer := X.stack
  stack := X.stack
  ex := fp
  fn := fun _ => false
  calm := X.calm
  pn := []
  xe := fun _ _ => False
noncomputable def compSt (n : Nat) (fx : List Nat) (σ : St) : St := List.replicate n none ++ fx.map fun j => (σ[j]?).join
noncomputable def GKeep (n : Nat) (g : TG) : Prop := ∀ v σ H (Q Q' : St → Hp → Prop), (∀ σ' H', Q σ' H' → σ'.drop n = σ.drop n → σ'.length = σ.length → Q' σ' H') → g v σ H Q → g v σ H Q'
noncomputable def GsKeep (n : Nat) (g : TGs) : Prop := ∀ vs σ H (Q Q' : St → Hp → Prop), (∀ σ' H', Q σ' H' → σ'.drop n = σ.drop n → σ'.length = σ.length → Q' σ' H') → g vs σ H Q → g vs σ H Q'
theorem gk_name {n i : Nat} (h : i < n) : GKeep n (gName i) := fun v σ H Q Q' k q => k _ _ q (by rw [List.drop_set_of_lt h]) (by rw [List.length_set])
theorem gks_nil {n : Nat} : GsKeep n gNil := fun vs σ H Q Q' k ⟨e, q⟩ => ⟨e, k _ _ q rfl rfl⟩
theorem gks_cons {n : Nat} {t : TG} {u : TGs} (ht : GKeep n t) (hu : GsKeep n u) : GsKeep n (gCons t u) := fun vs σ H Q Q' k ⟨v, r, e, q⟩ =>
  ⟨v, r, e, ht v σ H _ _ (fun σ1 H1 q1 e1 l1 => hu r σ1 H1 Q Q' (fun σ2 H2 q2 e2 l2 => k σ2 H2 q2 (e2.trans e1) (l2.trans l1)) q1) q⟩
theorem gk_tup {K : PySem.W.Frag} {n m : Nat} {t : TGs} (h : GsKeep n t) : GKeep n (gTup K m t) := fun v σ H Q Q' k ⟨a, xs, e, hs, hl, q⟩ => ⟨a, xs, e, hs, hl, h xs σ H Q Q' k q⟩
noncomputable def PTs (X : Cx) (ifs : List Expr) (t : TT) : Prop :=
  ∀ (pins : List (Addr × Obj)) (s : Shared) (σ : St) (H : Hp) (Q : Bool → Hp → Prop), Inv X pins σ H s → t σ H Q →
    wpAny (model X.prog X.w) X.A (forIn ifs true fun c r => if r = true then do let ok ← isTrue c X.env (eval c X.env); pure (ForInStep.yield ok) else pure (ForInStep.yield r)) (TP X pins σ Q) X.xe s
noncomputable def tYes : TT := fun _ H Q => Q true H
theorem pts_nil {X : Cx} : PTs X [] tYes := fun _ _ _ H _ I h => wpAny_tests_nil ⟨H, I, h⟩
theorem pts_one {X : Cx} {c : Expr} {t : TT} (h : PT X c t) : PTs X [c] t := fun pins s σ H Q I q => wpAny_tests_one (h pins s σ H Q I q)
noncomputable def tComp (n : Nat) (fx : List Nat) (wi : TI) (g : TG) (tc : TT) (te : TE) : TE := fun σ H Q => wi σ H fun J H1 => ∀ D, H1 D = none →
  ∃ W : Nat → Nat → List V → Hp → Prop, (∃ m, W 0 m [] (upd H1 D (.lst []))) ∧ ∀ i m ys H2, W i m ys H2 → (J.stop i H2 ∧ Q (.ref D) H2) ∨
    (J.go i H2 ∧ ∃ N : List V → Hp → Prop, (∀ ys' H', N ys' H' → ∃ m', m' < m ∧ W (i + 1) m' ys' H') ∧ ∀ x H3, J.yld i H2 x H3 → g x (compSt n fx σ) H3 fun σ4 H4 => tc σ4 H4 fun b H5 =>
      if b = true then te σ4 H5 fun v H6 => H6 D = some (.lst ys) ∧ ys.length < sizeLine ∧ N (ys ++ [v]) (upd H6 D (.lst (ys ++ [v]))) else N ys H5)
section
variable {X : Cx} {pins : List (Addr × Obj)} {σ : St} {H : Hp} {s : Shared}
theorem compSt_len {n : Nat} {fx : List Nat} : (compSt n fx σ).length = n + fx.length := by unfold compSt; simp
theorem compSt_get {n : Nat} {fx : List Nat} {i : Nat} {v : V} (e : (compSt n fx σ)[i]? = some (some v)) : ∃ k j, i = n + k ∧ fx[k]? = some j ∧ σ[j]? = some (some v) := by
  unfold compSt at e
  by_cases h : i < n
  · rw [List.getElem?_append_left (by simpa using h), List.getElem?_replicate, if_pos h] at e
    cases e
  · rw [List.getElem?_append_right (by simpa using h), List.length_replicate, List.getElem?_map] at e
    cases q : fx[i - n]? with
    | none => rw [q] at e; cases e
    | some j =>
      rw [q] at e
      have e' : (σ[j]?).join = some v := Option.some.inj e
      refine ⟨i - n, j, by omega, q, ?_⟩
      cases z : σ[j]? with
      | none => rw [z] at e'; cases e'
      | some o => rw [z] at e'; have : o = some v := e'; rw [this]
theorem comp_inv {osc : Scope} {ON N : List Str} {n : Nat} {fx : List Nat} {sc : Scope} {cl : List (Str × Addr)} {fp : List Addr} {h4 : Heap} {tk : Nat}
    (ho : X.env.scope = osc) (hN : X.N = ON) (S : CompScope osc ON N n fx sc)
    (hcl1 : ∀ p ∈ cl, X.env.cells.lookup p.1 = some p.2) (hcl2 : ∀ y ∈ sc.names, y.2 = .free → ∃ c, (y.1, c) ∈ cl)
    (I : Inv X pins σ H s) (hf : ∀ b ∈ fp, FpOk X pins H b) (hfo : ∀ b ∈ fp, b < s.heap.objs.size)
    (hns : ∃ m, h4.Ns s.heap.objs.size m) (old : ∀ b o, s.heap.get? b = some o → h4.get? b = some o) :
    Inv (cxComp X N sc cl s.heap.objs.size fp s H) [] (compSt n fx σ) H { s with heap := h4, toks := tk } := by
  have look : ∀ {x : Str} {c : Addr}, cl.lookup x = some c → X.env.cells.lookup x = some c := fun {x c} e => hcl1 (x, c) (PySem.mem_of_lookup e)
  have ok : (cxComp X N sc cl s.heap.objs.size fp s H).Ok := by
    refine ⟨I.ok.mod, S.kind, I.ok.glob, I.ok.blt, Nat.le_refl _, fun x y c h1 h2 => I.ok.inj x y c (look h1) (look h2), fun x hx => ?_, fun x c z => (by cases z), I.ok.hd, I.ok.frames, .inl rfl, fun b hb => ⟨Nat.ne_of_lt (hfo b hb), fun x c e => (hf b hb).2.2.2.2.1 x c (look e)⟩,
      I.bs, Nat.le_trans I.ok.bsz I.sz, fun b o e hb => ?_, fun b hb z => ?_, I.stack, I.stkFree⟩
    · have hx' : ∃ k', (k' = NameKind.cell ∨ k' = NameKind.free) ∧ (sc.names.map fun (n, k) => if (k == NameKind.free && X.env.scope.kind == .function && X.env.kindOf n == some .cell) then (n, NameKind.cell) else (n, k)).lookup x = some k' := by
        rcases hx with hx | hx
        · exact ⟨_, .inl rfl, hx⟩
        · exact ⟨_, .inr rfl, hx⟩
      obtain ⟨k', hk, e⟩ := hx'
      obtain ⟨k, hm, z⟩ := relabel_cases e
      have kf : k = .free := by
        rcases z with z | z
        · subst z
          rcases hk with q | q
          · exact absurd q (S.noc _ hm)
          · exact q
        · exact z
      subst kf
      obtain ⟨c, hc⟩ := hcl2 _ hm rfl
      exact mem_look hc
    · rcases (hf b hb).2.2.2.1 with z | z
      · exact I.ok.noex b o e z
      · exact absurd (Nat.lt_of_lt_of_le (Heap.lt_size (I.ok.bs b o e).1) z) (Nat.lt_irrefl _)
    · rcases List.mem_cons.mp (I.stkSub b z) with q | q
      · exact (hf b hb).2.1 q
      · exact (hf b hb).2.2.1 q
  obtain ⟨m, hns⟩ := hns
  refine ⟨ok, rfl, I.bare, Un.kept old, ⟨m, hns, fun i x v e1 e2 e3 => ?_⟩, fun x c e => ?_, I.hok.fresh (Nat.le_refl _), fun x c e => I.freeC x c (look e), fun p hp => absurd (show p ∈ ([] : List (Addr × Obj)) from hp) (by simp), I.hok.kept old, ?_⟩
  · obtain ⟨k, j, rfl, hj, hv⟩ := compSt_get e2
    obtain ⟨x', j', a1, a2, a3, a4⟩ := S.frn k (List.getElem?_eq_some_iff.mp hj).1
    have ex : x' = x := Option.some.inj (a1.symm.trans e1)
    have ej : j' = j := Option.some.inj (a2.symm.trans hj)
    subst ex; subst ej
    obtain ⟨m', _, hl⟩ := I.loc
    have hk : X.env.scope.names.lookup x' = some .cell ∨ X.env.scope.names.lookup x' = some .free := by rw [ho]; exact S.fre _ (PySem.mem_of_lookup a4) rfl
    have vis : Vis X.env.scope x' := by rcases hk with z | z; exact .inr (.inl z); exact .inr (.inr z)
    obtain ⟨u, r, q⟩ := hl j' x' v (by rw [hN]; exact a3) hv vis
    rcases q with ⟨z, _⟩ | ⟨_, c, ec, ic⟩
    · have z' : X.env.scope.names.lookup x' = some .local := z
      rcases hk with q | q <;> (rw [q] at z'; cases z')
    · refine ⟨u, r, .inr ⟨relabel_free a4, c, ?_, ic.keeps old⟩⟩
      obtain ⟨c0, hc0⟩ := hcl2 _ (PySem.mem_of_lookup a4) rfl
      obtain ⟨c1, hc1⟩ := mem_look hc0
      have := look hc1
      rw [ec] at this
      cases this
      exact hc1
  · obtain ⟨v, q⟩ := I.cell x c (look e)
    exact ⟨v, q.keeps old⟩
  · show _ = N.length
    rw [compSt_len, S.len]
theorem comp_core {osc : Scope} {ON N : List Str} {n : Nat} {fx : List Nat} {sc : Scope} {cl : List (Str × Addr)} {elt tg iter : Expr} {ifs : List Expr} {pos : Pos} {wi : TI} {g : TG} {tc : TT} {te : TE} {Q : VK} {RR : Value → Addr → Result → Shared → Prop}
    (hcalm : X.calm = true) (ho : X.env.scope = osc) (hN : X.N = ON) (S : CompScope osc ON N n fx sc)
    (hcl1 : ∀ p ∈ cl, X.env.cells.lookup p.1 = some p.2) (hcl2 : ∀ y ∈ sc.names, y.2 = .free → ∃ c, (y.1, c) ∈ cl)
    (hi : PI X tg iter wi) (gk : GKeep n g) (hb : ∀ cl C fp s H, PG (cxComp X N sc cl C fp s H) tg g ∧ PTs (cxComp X N sc cl C fp s H) ifs tc ∧ PE (cxComp X N sc cl C fp s H) elt te)
    (I : Inv X pins σ H s) (h : tComp n fx wi g tc te σ H Q)
    (hRR : ∀ D C H' s', Inv X pins σ H' s' → (∃ m, s'.heap.Ns C m) → FpOk X pins H' C → Q (.ref D) H' → RR (.ref D) C (.ok .next) s') :
    wpAny (model X.prog X.w) X.A (eval iter X.env) (fun x s₁ => wpAny (model X.prog X.w) X.A (pyIter x) (fun it s₂ => wpAny (model X.prog X.w) X.A (newList []) (fun acc s₃ =>
      wpAny (model X.prog X.w) X.A (newFunctionEnv sc X.env.globals cl [] X.env.qual none .none (some X.env)) (fun cenv s₄ =>
        codeAny (model X.prog X.w) X.A (.compStart (.ListComp elt [⟨tg, iter, ifs, 0⟩] sc pos) 0 it acc { cenv with scope := relabel sc X.env }) (RR acc cenv.locals) s₄) X.xe s₃) X.xe s₂) X.xe s₁) X.xe s := by
  refine thn (hi pins s σ H _ I h) fun v s1 h1 => thn h1 fun itv s2 h2 => ?_
  obtain ⟨it, fp, tn, J, H2, e2, I2, T, st2, f2, hW⟩ := h2
  subst e2
  obtain ⟨W, ⟨m0, w0⟩, hturn⟩ := hW s2.heap.objs.size I2.fresh
  refine wpAny_newObj_type ?_
  have I3 : Inv X pins σ (upd H2 s2.heap.objs.size (.lst [])) { s2 with heap := s2.heap.push { cls := .type "list", data := .seq ([] : List Value).toArray } } := I2.lnew (t' := s2.toks) (its := []) .nil (Nat.zero_le _)
  have f3 : ∀ b ∈ fp, FpOk X pins (upd H2 s2.heap.objs.size (.lst [])) b ∧ b < s2.heap.objs.size := fun b hb => by
    obtain ⟨o, e, _⟩ := T.obj _ _ st2 b hb
    have l := Heap.lt_size e
    obtain ⟨a1, a2⟩ := f2 b hb
    exact ⟨⟨by rw [upd_ne (Nat.ne_of_lt l)]; exact a1, a2⟩, l⟩
  have sz : ({ s2 with heap := s2.heap.push { cls := .type "list", data := .seq ([] : List Value).toArray } } : Shared).heap.objs.size = s2.heap.objs.size + 1 := Heap.size_push ..
  generalize hs3 : ({ s2 with heap := s2.heap.push { cls := .type "list", data := .seq ([] : List Value).toArray } } : Shared) = s3 at I3 sz ⊢
  generalize hH3 : upd H2 s2.heap.objs.size (.lst []) = H3 at I3 f3 w0
  have old3 : ∀ b o, s2.heap.get? b = some o → s3.heap.get? b = some o := fun b o e => by rw [← hs3]; exact Heap.get?_push_of_some _ e
  refine wpAny_newFunctionEnv (fun y hy => S.noc y hy) (fun y hy => nomatch hy) (fun h4 hns hsb => ?_) S.kind
  have old4 : ∀ b o, s3.heap.get? b = some o → h4.get? b = some o := fun b o e => hsb.extBut b o (Nat.ne_of_lt (Heap.lt_size e)) (Heap.get?_push_of_some _ e)
  have I4 := comp_inv (tk := s3.toks + ([] : List (Str × Value)).length) ho hN S hcl1 hcl2 I3 (fun b hb => (f3 b hb).1) (fun b hb => by rw [sz]; exact Nat.lt_succ_of_lt (f3 b hb).2) ⟨_, hns⟩ old4
  have hb' := hb cl s3.heap.objs.size fp s3 H3
  generalize hY : cxComp X N sc cl s3.heap.objs.size fp s3 H3 = Y at I4 hb'
  have stat : ∀ {H' : Hp}, (∀ b ∈ fp, H' b = none) → ∀ b ∈ fp, FpOk Y [] H' b := fun {H'} hn b hb => by
    subst hY
    obtain ⟨⟨a1, a2, a3, a4, a5, a6⟩, l⟩ := f3 b hb
    refine ⟨hn b hb, Nat.ne_of_lt (show b < s3.heap.objs.size by rw [sz]; exact Nat.lt_succ_of_lt l), fun z => ?_, .inl hb, fun x c e => a5 x c (hcl1 (x, c) (PySem.mem_of_lookup e)), fun p hp => absurd (show p ∈ ([] : List (Addr × Obj)) from hp) (by simp)⟩
    rcases List.mem_cons.mp (I3.stkSub b z) with q | q
    · exact a2 q
    · exact a3 q
  have fin : ∀ {σ6 : St} {H6 : Hp} {s6 : Shared}, Inv Y [] σ6 H6 s6 → Q (.ref s2.heap.objs.size) H6 → RR (.ref s2.heap.objs.size) s3.heap.objs.size (.ok .next) s6 := fun {σ6 H6 s6} I6 q => by
    subst hY
    refine hRR _ _ H6 s6 ?_ (let ⟨m, hm, _⟩ := I6.loc; ⟨m, hm⟩) (I3.fpOk (Nat.le_refl _) I6.free) q
    obtain ⟨hh, gg, dd, tt, os'⟩ := s6
    obtain rfl : os' = s3.os := I6.os
    exact I3.call (h' := hh) (g' := gg) (d' := dd) (t' := tt) (ch := fp) I6.base I6.hok I6.bare fun b hb => by
      obtain ⟨⟨a1, a2, a3, a4, a5, a6⟩, l⟩ := f3 b hb
      exact ⟨a4, a2, a5, a6⟩
  have pY : Y.prog = X.prog := by subst hY; rfl
  have wY : Y.w = X.w := by subst hY; rfl
  have kY : Y.K = X.K := by subst hY; rfl
  have aY : Y.A = X.A := by subst hY; rfl
  have cY : Y.calm = true := by subst hY; exact hcalm
  have eY : Y.env = compEnvC sc cl s3.heap.objs.size X.env := by subst hY; rfl
  have xY : Y.xe = fun _ _ => False := by subst hY; rfl
  have T' : Turn Y.prog Y.w Y.K tg J fp it tn := by rw [pY, wY, kY]; exact T
  have tn4 : tn 0 h4 := T.keep _ _ _ st2 fun b hb o e => old4 b o (old3 b o e)
  have loop : codeAny (model X.prog X.w) X.A (.compLoop (.ListComp elt [⟨tg, iter, ifs, 0⟩] sc pos) 0 (.ref it) (.ref s2.heap.objs.size) (compEnvC sc cl s3.heap.objs.size X.env)) (RR (.ref s2.heap.objs.size) s3.heap.objs.size)
      { s3 with heap := h4, toks := s3.toks + ([] : List (Str × Value)).length } := by
    rw [← pY, ← wY, ← aY, ← eY]
    refine comp_turns (fun k s' => ∃ i ys σ' H', Inv Y [] σ' H' s' ∧ σ'.drop n = (compSt n fx σ).drop n ∧ σ'.length = (compSt n fx σ).length ∧ tn i s'.heap ∧ (∀ b ∈ fp, H' b = none) ∧ W i k ys H') ?_ m0 ⟨0, [], _, H3, I4, rfl, rfl, tn4, fun b hb => (f3 b hb).1.1, w0⟩
    rintro k s5 ⟨i, ys, σ5, H5, I5, ed, el, st5, fr5, w5⟩
    have I5 : Inv Y [] (compSt n fx σ) H5 s5 := I5.weak el.symm fun j v e => by
      obtain ⟨k', j', rfl, _, _⟩ := compSt_get e
      have q := congrArg (fun l => l[k']?) ed
      simp only [List.getElem?_drop] at q
      rw [q]; exact e
    rcases hturn i k ys H5 w5 with ⟨stop, q⟩ | ⟨go, N', hN', step⟩
    · refine wpAny_mono (T'.done Y rfl rfl rfl cY i [] s5 _ H5 (fun _ _ => False) I5 (stat fr5) st5 stop) (fun r s6 ⟨hr, I6⟩ => ?_) fun _ _ z => z
      subst hr
      exact fin I6 q
    · rw [← xY]
      refine thn (T'.item Y rfl rfl rfl cY i [] s5 _ H5 Y.xe I5 (stat fr5) st5 go) fun r s6 ⟨u, hr, h6⟩ => ?_
      subst hr
      show wpAny _ _ _ _ _ _
      refine thn h6 fun _ s7 ⟨x, H7, I7, r7, y7, st7, fr7⟩ => ?_
      have I7' := I7.pinned (stat fr7) (T.obj _ _ st7)
      refine thn (hb'.1 _ s7 _ H7 x u _ I7' r7 (gk _ _ _ _ _ (fun σ' H' q e l => (⟨q, e, l⟩ : _ ∧ _ ∧ _)) (step x H7 y7))) fun _ s8 ⟨σ8, H8, I8, q8, ed8, el8⟩ => ?_
      refine thn (hb'.2.1 _ s8 σ8 H8 _ I8 q8) fun ok s9 ⟨H9, I9, q9⟩ => ?_
      have again : ∀ {H10 : Hp} {s10 : Shared} {zs : List V}, Inv Y ([] ++ pinsAt fp s7.heap) σ8 H10 s10 → N' zs H10 →
          ∃ m, m < k ∧ ∃ i ys σ' H', Inv Y [] σ' H' s10 ∧ σ'.drop n = (compSt n fx σ).drop n ∧ σ'.length = (compSt n fx σ).length ∧ tn i s10.heap ∧ (∀ b ∈ fp, H' b = none) ∧ W i m ys H' := fun {H10 s10 zs} I10 n10 => by
        obtain ⟨m', hm, w10⟩ := hN' _ _ n10
        refine ⟨m', hm, i + 1, zs, σ8, H10, I10.unpinned, ed8, el8, T.keep _ _ _ st7 fun b hb o e => (I10.pin (b, o) (List.mem_append_right _ (List.mem_append_right _ (mem_pinsAt hb e)))).1, fun b hb => ?_, w10⟩
        obtain ⟨o, e, d⟩ := T.obj _ _ st7 b hb
        exact (I10.pin (b, o) (List.mem_append_right _ (List.mem_append_right _ (mem_pinsAt hb e)))).2.1
      cases ok with
      | false => exact again I9 q9
      | true =>
        rw [if_pos rfl]
        refine thn (hb'.2.2 _ s9 σ8 H9 _ I9 q9) fun y s10 ⟨v', H10, I10, r10, hD10, hl10, n10⟩ => ?_
        refine thn (mt_append (X := Y) _ s10 σ8 H10 (.ref s2.heap.objs.size) [v'] (.ref s2.heap.objs.size) [y] (fun _ H' => H' = upd H10 s2.heap.objs.size (.lst (ys ++ [v']))) I10 rfl (.cons r10 .nil) ⟨_, ys, v', rfl, rfl, hD10, hl10, rfl⟩) fun _ s11 ⟨_, H11, I11, _, e11⟩ => ?_
        subst e11
        exact again I11 n10
  exact codeAny_compStart_list loop (T.self X.A 0 _ _ _ tn4 loop)
theorem pe_comp {osc : Scope} {ON N : List Str} {n : Nat} {fx : List Nat} {sc : Scope} {elt tg iter : Expr} {ifs : List Expr} {pos : Pos} {wi : TI} {g : TG} {tc : TT} {te : TE}
    (hcalm : X.calm = true) (ho : X.env.scope = osc) (hN : X.N = ON) (S : compOk osc ON N n fx sc = true) (hi : PI X tg iter wi) (gk : GKeep n g)
    (hb : ∀ cl C fp s H, PG (cxComp X N sc cl C fp s H) tg g ∧ PTs (cxComp X N sc cl C fp s H) ifs tc ∧ PE (cxComp X N sc cl C fp s H) elt te)
    (hs : ∀ x, foldedSetIterable iter X.env x = pure x := by intro _; rfl) : PE X (.ListComp elt [⟨tg, iter, ifs, 0⟩] sc pos) (tComp n fx wi g tc te) := by
  intro pins s σ H Q I h
  have S := CompScope.of S
  obtain ⟨cl, hcl, hcl1, hcl2⟩ := closure_is sc X.env fun y hy hf => I.ok.has y.1 (by show X.env.scope.names.lookup y.1 = some .cell ∨ X.env.scope.names.lookup y.1 = some .free; rw [ho]; exact S.fre y hy hf)
  rw [eval_ListComp]
  refine wpAny_comprehension_free (use := none) rfl hs hcl S.kind S.own (comp_core (RR := fun acc C => compPost (model X.prog X.w) X.A X.xe none (EP X pins σ Q) acc C) hcalm ho hN S hcl1 hcl2 hi gk hb I h ?_)
  intro D C H' s' I' hm hf q
  obtain ⟨m, hm⟩ := hm
  obtain ⟨f0, f1, f2, f3, f4, f5⟩ := hf
  exact ⟨m, hm, fun h' hsb => ⟨.ref D, H', I'.turned (t' := s'.toks) (fun b o hb e => (hsb.2 b hb).trans e) f0 f1 f3 f4 f5, rfl, q⟩⟩
theorem ps_comp {i : Nat} {x : Str} {px : Pos} {spos : Pos} {osc : Scope} {ON N : List Str} {n : Nat} {fx : List Nat} {sc : Scope} {elt tg iter : Expr} {ifs : List Expr} {pos : Pos} {wi : TI} {g : TG} {tc : TT} {te : TE}
    (hnd : X.N.Nodup) (hx : X.N[i]? = some x) (hl : X.env.scope.names.lookup x = some .local) (hsw : swapsWith (.ListComp elt [⟨tg, iter, ifs, 0⟩] sc pos) (some (.Name x px)) spos.line X.env = pure true)
    (hcalm : X.calm = true) (ho : X.env.scope = osc) (hN : X.N = ON) (S : compOk osc ON N n fx sc = true) (hi : PI X tg iter wi) (gk : GKeep n g)
    (hb : ∀ cl C fp s H, PG (cxComp X N sc cl C fp s H) tg g ∧ PTs (cxComp X N sc cl C fp s H) ifs tc ∧ PE (cxComp X N sc cl C fp s H) elt te)
    (hs : ∀ x, foldedSetIterable iter X.env x = pure x := by intro _; rfl) : PS X (.Assign [.Name x px] (.ListComp elt [⟨tg, iter, ifs, 0⟩] sc pos) spos) (tAsg (tComp n fx wi g tc te) (gName i)) := by
  intro pins s σ H D I h
  have S := CompScope.of S
  obtain ⟨cl, hcl, hcl1, hcl2⟩ := closure_is sc X.env fun y hy hf => I.ok.has y.1 (by show X.env.scope.names.lookup y.1 = some .cell ∨ X.env.scope.names.lookup y.1 = some .free; rw [ho]; exact S.fre y hy hf)
  rw [exec_Assign_Name_used _ _ _ _ hsw]
  refine wpAny_bind (wpAny_standAt (wpAny_bind ?_))
  show wpAny _ X.A (do let _ ← comprehension (.ListComp elt [⟨tg, iter, ifs, 0⟩] sc pos) sc X.env _ (newList []) false (eval iter X.env) (some (assign (.Name x px) X.env))) _ _ s
  refine wpAny_bind (thn (wpAny_comprehension_free (use := some (assign (.Name x px) X.env)) (Q := fun _ s' => SP X pins D .next s') rfl hs hcl S.kind S.own
    (comp_core (RR := fun acc C => compPost (model X.prog X.w) X.A X.xe (some (assign (.Name x px) X.env)) (fun _ s' => SP X pins D .next s') acc C) hcalm ho hN S hcl1 hcl2 hi gk hb I h ?_)) fun _ s' q => wpAny_pure (wpAny_pure q))
  intro D' C H' s' I' hm hf q
  obtain ⟨m, hm⟩ := hm
  obtain ⟨f0, f1, f2, f3, f4, f5⟩ := hf
  show wpAny _ X.A (assign (.Name x px) X.env (.ref D')) _ _ _
  refine wpAny_assign_Name (store_ok2 I' hnd hx (.inl hl) (v := .ref D') rfl (fun s2 I2 hch => ?_) (.inr hl))
  obtain ⟨a, hsb, ha⟩ := hch
  have hCa : C ≠ a := by
    rcases ha with z | z
    · rw [z]; exact f1
    · exact fun e => f4 _ _ z e.symm
  exact ⟨m, hm.sameBut hsb hCa, fun h' hsb' => ⟨_, H', I2.turned (t' := s2.toks) (fun b o hb e => (hsb'.2 b hb).trans e) f0 f1 f3 f4 f5, q⟩⟩
end
section
variable {K : PySem.W.Frag} {n : Nat} {fx : List Nat} {g : TG} {tc : TT} {te : TE} {σ : St} {H1 : Hp} {D : Addr} {Q : Hp → Prop}
theorem comp_range {lo : Int} {k : Nat} (Pv : Nat → List V → Hp → Prop) (h0 : Pv 0 [] (upd H1 D (.lst [])))
    (hs : ∀ i ys H, i < k → Pv i ys H → g (.int (lo + i)) (compSt n fx σ) H fun σ4 H4 => tc σ4 H4 fun b H5 => if b = true then te σ4 H5 fun v H6 => H6 D = some (.lst ys) ∧ ys.length < sizeLine ∧ Pv (i + 1) (ys ++ [v]) (upd H6 D (.lst (ys ++ [v]))) else Pv (i + 1) ys H5)
    (hd : ∀ ys H, Pv k ys H → Q H) :
    ∃ W : Nat → Nat → List V → Hp → Prop, (∃ m, W 0 m [] (upd H1 D (.lst []))) ∧ ∀ i m ys H2, W i m ys H2 → ((Itr lo k).stop i H2 ∧ Q H2) ∨
      ((Itr lo k).go i H2 ∧ ∃ N : List V → Hp → Prop, (∀ ys' H', N ys' H' → ∃ m', m' < m ∧ W (i + 1) m' ys' H') ∧ ∀ x H3, (Itr lo k).yld i H2 x H3 → g x (compSt n fx σ) H3 fun σ4 H4 => tc σ4 H4 fun b H5 =>
        if b = true then te σ4 H5 fun v H6 => H6 D = some (.lst ys) ∧ ys.length < sizeLine ∧ N (ys ++ [v]) (upd H6 D (.lst (ys ++ [v]))) else N ys H5) := by
  refine ⟨fun i m ys H => m = k - i ∧ i ≤ k ∧ Pv i ys H, ⟨k, by simp, Nat.zero_le _, h0⟩, ?_⟩
  rintro i m ys H ⟨rfl, hi, p⟩
  by_cases hlt : i < k
  · refine .inr ⟨hlt, Pv (i + 1), fun ys' H' p' => ⟨k - (i + 1), by omega, rfl, hlt, p'⟩, fun x H' y => ?_⟩
    obtain ⟨e, y⟩ := y
    subst e; subst y
    exact hs i ys _ hlt p
  · have e : i = k := by omega
    subst e
    exact .inl ⟨Nat.le_refl _, hd ys H p⟩
theorem comp_list {a : Addr} {xs : List V} (Pv : Nat → List V → Hp → Prop) (h0 : Pv 0 [] (upd H1 D (.lst []))) (hl : ∀ i ys H, i ≤ xs.length → Pv i ys H → SqL K H a xs)
    (hs : ∀ i x ys H, xs[i]? = some x → Pv i ys H → g x (compSt n fx σ) H fun σ4 H4 => tc σ4 H4 fun b H5 => if b = true then te σ4 H5 fun v H6 => H6 D = some (.lst ys) ∧ ys.length < sizeLine ∧ Pv (i + 1) (ys ++ [v]) (upd H6 D (.lst (ys ++ [v]))) else Pv (i + 1) ys H5)
    (hd : ∀ ys H, Pv xs.length ys H → Q H) :
    ∃ W : Nat → Nat → List V → Hp → Prop, (∃ m, W 0 m [] (upd H1 D (.lst []))) ∧ ∀ i m ys H2, W i m ys H2 → ((Itl K a).stop i H2 ∧ Q H2) ∨
      ((Itl K a).go i H2 ∧ ∃ N : List V → Hp → Prop, (∀ ys' H', N ys' H' → ∃ m', m' < m ∧ W (i + 1) m' ys' H') ∧ ∀ x H3, (Itl K a).yld i H2 x H3 → g x (compSt n fx σ) H3 fun σ4 H4 => tc σ4 H4 fun b H5 =>
        if b = true then te σ4 H5 fun v H6 => H6 D = some (.lst ys) ∧ ys.length < sizeLine ∧ N (ys ++ [v]) (upd H6 D (.lst (ys ++ [v]))) else N ys H5) := by
  refine ⟨fun i m ys H => m = xs.length - i ∧ i ≤ xs.length ∧ Pv i ys H, ⟨xs.length, by simp, Nat.zero_le _, h0⟩, ?_⟩
  rintro i m ys H ⟨rfl, hi, p⟩
  have q := hl i ys H hi p
  by_cases hlt : i < xs.length
  · refine .inr ⟨⟨xs, xs[i], q, by simp [hlt]⟩, Pv (i + 1), fun ys' H' p' => ⟨xs.length - (i + 1), by omega, rfl, hlt, p'⟩, fun x H' y => ?_⟩
    obtain ⟨e, y⟩ := y
    subst e
    exact hs i x ys _ (y xs q) p
  · have e : i = xs.length := by omega
    subst e
    exact .inl ⟨⟨xs, q, Nat.le_refl _⟩, hd ys H p⟩
theorem comp_tup {a : Addr} {xs : List V} (Pv : Nat → List V → Hp → Prop) (h0 : Pv 0 [] (upd H1 D (.lst []))) (hl : ∀ i ys H, i ≤ xs.length → Pv i ys H → SqT K H a xs)
    (hs : ∀ i x ys H, xs[i]? = some x → Pv i ys H → g x (compSt n fx σ) H fun σ4 H4 => tc σ4 H4 fun b H5 => if b = true then te σ4 H5 fun v H6 => H6 D = some (.lst ys) ∧ ys.length < sizeLine ∧ Pv (i + 1) (ys ++ [v]) (upd H6 D (.lst (ys ++ [v]))) else Pv (i + 1) ys H5)
    (hd : ∀ ys H, Pv xs.length ys H → Q H) :
    ∃ W : Nat → Nat → List V → Hp → Prop, (∃ m, W 0 m [] (upd H1 D (.lst []))) ∧ ∀ i m ys H2, W i m ys H2 → ((Itt K a).stop i H2 ∧ Q H2) ∨
      ((Itt K a).go i H2 ∧ ∃ N : List V → Hp → Prop, (∀ ys' H', N ys' H' → ∃ m', m' < m ∧ W (i + 1) m' ys' H') ∧ ∀ x H3, (Itt K a).yld i H2 x H3 → g x (compSt n fx σ) H3 fun σ4 H4 => tc σ4 H4 fun b H5 =>
        if b = true then te σ4 H5 fun v H6 => H6 D = some (.lst ys) ∧ ys.length < sizeLine ∧ N (ys ++ [v]) (upd H6 D (.lst (ys ++ [v]))) else N ys H5) := by
  refine ⟨fun i m ys H => m = xs.length - i ∧ i ≤ xs.length ∧ Pv i ys H, ⟨xs.length, by simp, Nat.zero_le _, h0⟩, ?_⟩
  rintro i m ys H ⟨rfl, hi, p⟩
  have q := hl i ys H hi p
  by_cases hlt : i < xs.length
  · refine .inr ⟨⟨xs, xs[i], q, by simp [hlt]⟩, Pv (i + 1), fun ys' H' p' => ⟨xs.length - (i + 1), by omega, rfl, hlt, p'⟩, fun x H' y => ?_⟩
    obtain ⟨e, y⟩ := y
    subst e
    exact hs i x ys _ (y xs q) p
  · have e : i = xs.length := by omega
    subst e
    exact .inl ⟨⟨xs, q, Nat.le_refl _⟩, hd ys H p⟩
end
end L2
set_option Elab.async false
set_option linter.all false
set_option maxRecDepth 100000
set_option maxHeartbeats 4000000
namespace L2
open PySem PySem.Spec PyProof.Rows
noncomputable def kindV (K : PySem.W.Frag) (H : Hp) (x : V) (k : String) : Prop := match x with
  | .non => k = "NoneType"
  | .bl _ => k = "bool"
  | .int _ => k = "int"
  | .str _ => k = "str"
  | .ref p => (k = "list" ∧ ∃ xs, SqL K H p xs) ∨ (k = "tuple" ∧ ∃ xs, SqT K H p xs) ∨ (k = "dict" ∧ ∃ kvs, Rd H p (.dK kvs))
  | _ => False
noncomputable def subB (k T : String) : Bool := k == T || (k == "bool" && T == "int")
noncomputable def rIsi (K : PySem.W.Frag) : List V → Hp → VK → Prop := fun xs H Q => ∃ x k T, xs = [x, .ty T] ∧ kindV K H x k ∧ T ∈ ["int", "bool", "str", "list", "tuple", "dict"] ∧ Q (.bl (subB k T)) H
section
variable {X : Cx}
theorem call_isi : CallR X (.builtin "isinstance") (rIsi X.K) := by
  intro pins s σ H xs us Q I r h
  obtain ⟨x, k, T, rfl, hk, hT, q⟩ := h
  obtain ⟨u, v, rfl, rx, rt⟩ := vals2 r
  cases rt
  have f0 : ∀ b, b = subB k T → EP X pins σ Q (.bool b) s := fun b e => ⟨.bl b, H, I, rfl, by rw [e]; exact q⟩
  have f1 : ∀ b, b = subB k T → EP X pins σ Q (.bool b) { s with toks := s.toks + 1 } := fun b e => ⟨.bl b, H, I.tok _, rfl, by rw [e]; exact q⟩
  simp only [List.mem_cons, List.not_mem_nil, or_false] at hT
  cases x with
  | non =>
    cases rx; cases hk
    rcases hT with rfl | rfl | rfl | rfl | rfl | rfl
    · exact IsiPair.NoneType_int (f1 _ (by decide))
    · exact IsiPair.NoneType_bool (f1 _ (by decide))
    · exact IsiPair.NoneType_str (f1 _ (by decide))
    · exact IsiPair.NoneType_list (f1 _ (by decide))
    · exact IsiPair.NoneType_tuple (f1 _ (by decide))
    · exact IsiPair.NoneType_dict (f1 _ (by decide))
  | bl b =>
    cases rx; cases hk
    rcases hT with rfl | rfl | rfl | rfl | rfl | rfl
    · exact IsiPair.bool_int (f0 _ (by decide))
    · exact IsiPair.bool_bool (f0 _ (by decide))
    · exact IsiPair.bool_str (f1 _ (by decide))
    · exact IsiPair.bool_list (f1 _ (by decide))
    · exact IsiPair.bool_tuple (f1 _ (by decide))
    · exact IsiPair.bool_dict (f1 _ (by decide))
  | int i =>
    obtain ⟨t, rfl⟩ := rx; cases hk
    rcases hT with rfl | rfl | rfl | rfl | rfl | rfl
    · exact IsiPair.int_int (f0 _ (by decide))
    · exact IsiPair.int_bool (f1 _ (by decide))
    · exact IsiPair.int_str (f1 _ (by decide))
    · exact IsiPair.int_list (f1 _ (by decide))
    · exact IsiPair.int_tuple (f1 _ (by decide))
    · exact IsiPair.int_dict (f1 _ (by decide))
  | str z =>
    obtain ⟨t, rfl⟩ := rx; cases hk
    rcases hT with rfl | rfl | rfl | rfl | rfl | rfl
    · exact IsiPair.str_int (f1 _ (by decide))
    · exact IsiPair.str_bool (f1 _ (by decide))
    · exact IsiPair.str_str (f0 _ (by decide))
    · exact IsiPair.str_list (f1 _ (by decide))
    · exact IsiPair.str_tuple (f1 _ (by decide))
    · exact IsiPair.str_dict (f1 _ (by decide))
  | ref p =>
    cases rx
    rcases hk with ⟨rfl, xs, hq⟩ | ⟨rfl, xs, hq⟩ | ⟨rfl, kvs, hq⟩
    · obtain ⟨its, _, pl, _⟩ := I.list hq
      obtain ⟨o, ho, hc, _⟩ := pl.isList
      rcases hT with rfl | rfl | rfl | rfl | rfl | rfl
      · exact IsiPair.list_int ho hc (f1 _ (by decide))
      · exact IsiPair.list_bool ho hc (f1 _ (by decide))
      · exact IsiPair.list_str ho hc (f1 _ (by decide))
      · exact IsiPair.list_list ho hc (f0 _ (by decide))
      · exact IsiPair.list_tuple ho hc (f1 _ (by decide))
      · exact IsiPair.list_dict ho hc (f1 _ (by decide))
    · obtain ⟨its, _, pl, _⟩ := I.tuple hq
      obtain ⟨o, ho, hc, _⟩ := pl
      rcases hT with rfl | rfl | rfl | rfl | rfl | rfl
      · exact IsiPair.tuple_int ho hc (f1 _ (by decide))
      · exact IsiPair.tuple_bool ho hc (f1 _ (by decide))
      · exact IsiPair.tuple_str ho hc (f1 _ (by decide))
      · exact IsiPair.tuple_list ho hc (f1 _ (by decide))
      · exact IsiPair.tuple_tuple ho hc (f0 _ (by decide))
      · exact IsiPair.tuple_dict ho hc (f1 _ (by decide))
    · obtain ⟨_, _, _, _, o, _, _, ho, ex, _⟩ := hq.ok I.hok
      have hc : o.cls = .type "dict" := ex.1
      rcases hT with rfl | rfl | rfl | rfl | rfl | rfl
      · exact IsiPair.dict_int ho hc (f1 _ (by decide))
      · exact IsiPair.dict_bool ho hc (f1 _ (by decide))
      · exact IsiPair.dict_str ho hc (f1 _ (by decide))
      · exact IsiPair.dict_list ho hc (f1 _ (by decide))
      · exact IsiPair.dict_tuple ho hc (f1 _ (by decide))
      · exact IsiPair.dict_dict ho hc (f0 _ (by decide))
  | _ => exact False.elim hk
noncomputable def rBits : V → List V → Hp → VK → Prop := fun x xs H Q => ∃ i, x = .int i ∧ xs = [] ∧ Q (.int (Builtin.Int.intBits i : Nat)) H
theorem mt_bits : MtR X "int.bit_length" rBits := by
  intro pins s σ H x xs v us Q I rx rs h
  obtain ⟨i, rfl, rfl, q⟩ := h
  obtain ⟨t, rfl⟩ := rx
  cases rs
  exact call_int_bit_length ⟨.int _, H, I.tok _, ⟨_, rfl⟩, q⟩
noncomputable def eqVs (xs ys : List V) : Bool := xs.length == ys.length && (List.range xs.length).all fun j => eqV (xs.getD j .non) (ys.getD j .non)
noncomputable def rEqL (K : PySem.W.Frag) (neg : Bool) : R2 := fun x y H Q => ∃ a b xs ys, x = .ref a ∧ y = .ref b ∧ SqL K H a xs ∧ SqL K H b ys ∧ xs.all flatV = true ∧ ys.all flatV = true ∧ Q (.bl (if neg then !eqVs xs ys else eqVs xs ys)) H
theorem vals_at {xs : List V} {us : List Value} (r : Vals xs us) {j : Nat} (h : j < us.toArray.size) : RelV (xs.getD j .non) (us.toArray[j]) := by
  have hl := r.length
  have h' : j < us.length := by simpa using h
  obtain ⟨u, e, ru⟩ := r.get (i := j) (x := xs.getD j .non) (by rw [List.getD_eq_getElem?_getD, List.getElem?_eq_getElem (by omega)]; rfl)
  have e2 : us.toArray[j] = u := by
    rw [List.getElem?_eq_getElem h'] at e
    have := Option.some.inj e
    simpa using this
  rw [e2]; exact ru
theorem flat_at {xs : List V} (f : xs.all flatV = true) (j : Nat) : flatV (xs.getD j .non) = true := by
  rw [List.getD_eq_getElem?_getD]
  cases e : xs[j]? with
  | none => rfl
  | some x => exact List.all_eq_true.mp f x (List.mem_of_getElem? e)
theorem rc_lists {pins : List (Addr × Obj)} {σ : St} {H : Hp} {s : Shared} {a b : Addr} {xs ys : List V} {A : Around} (hu : A.units < cLine) (I : Inv X pins σ H s) (ha : SqL X.K H a xs) (hb : SqL X.K H b ys) (fx : xs.all flatV = true) (fy : ys.all flatV = true) :
    SeqAt.RcAt A s (.ref a) (.ref b) (eqVs xs ys) ∧ SeqAt.RcNeAt A s (.ref a) (.ref b) (!eqVs xs ys) := by
  obtain ⟨its, r, pl, _⟩ := I.list ha
  obtain ⟨jts, r', pl', _⟩ := I.list hb
  have l1 := r.length
  have l2 := r'.length
  by_cases hl : xs.length = ys.length
  · have e : eqVs xs ys = (List.range its.toArray.size).all fun j => eqV (xs.getD j .non) (ys.getD j .non) := by
      unfold eqVs
      rw [hl, beq_self_eq_true, Bool.true_and, List.size_toArray, ← l1, hl]
    rw [e]
    have hz : its.toArray.size = jts.toArray.size := by simp; omega
    have he : ∀ j (h1 : j < its.toArray.size) (h2 : j < jts.toArray.size), SeqAt.EqAt A.in1 s its.toArray[j] jts.toArray[j] (eqV (xs.getD j .non) (ys.getD j .non)) := fun j h1 h2 =>
      eqAt_V (vals_at r h1) (vals_at r' h2) (flat_at fx j) (flat_at fy j)
    exact ⟨SeqAt.RcAt.lists pl.isList pl'.isList hz hu he, SeqAt.RcNeAt.lists pl.isList pl'.isList hz hu he⟩
  · have e : eqVs xs ys = false := by
      unfold eqVs
      rw [beq_eq_false_iff_ne.mpr hl, Bool.false_and]
    rw [e]
    have hz : (its.toArray.size != jts.toArray.size) = true := by simp; omega
    exact ⟨SeqAt.RcAt.lists_lengths pl.isList pl'.isList hz hu, SeqAt.RcNeAt.lists_lengths pl.isList pl'.isList hz hu⟩
theorem op_eqL (hu : X.A.units < cLine) : OpR X (compareOp .Eq) (rEqL X.K false) := by
  intro pins s σ H x y v u Q I rx ry h
  obtain ⟨a, b, xs, ys, rfl, rfl, ha, hb, fx, fy, q⟩ := h
  cases rx; cases ry
  exact (rc_lists hu I ha hb fx fy).1 X.prog X.w X.xe _ ⟨.bl _, H, I, rfl, q⟩
theorem op_neL (hu : X.A.units < cLine) : OpR X (compareOp .NotEq) (rEqL X.K true) := by
  intro pins s σ H x y v u Q I rx ry h
  obtain ⟨a, b, xs, ys, rfl, rfl, ha, hb, fx, fy, q⟩ := h
  cases rx; cases ry
  exact (rc_lists hu I ha hb fx fy).2 X.prog X.w X.xe _ ⟨.bl _, H, I, rfl, q⟩
end
theorem eqVs_refl {xs : List V} (f : xs.all flatV = true) : eqVs xs xs = true := by
  unfold eqVs
  rw [beq_self_eq_true, Bool.true_and, List.all_eq_true]
  intro j _
  have := flat_at f j
  generalize xs.getD j .non = x at this
  cases x <;> first | rfl | exact beq_self_eq_true _ | cases this
theorem bitAnd_nat (a b : Nat) : Builtin.bitAnd (a : Int) (b : Int) = ((a &&& b : Nat) : Int) := by
  unfold Builtin.bitAnd
  rw [decide_eq_true (Int.natCast_nonneg a), decide_eq_true (Int.natCast_nonneg b)]
  simp
end L2
set_option Elab.async false
set_option linter.all false
set_option maxRecDepth 100000
set_option maxHeartbeats 4000000
namespace L2
open PySem PySem.Spec PyProof.Rows
theorem nolen_lri : typeLookup (.type "list_reverseiterator") "__len__" = pure none := by rw [typeLookup_type, builtinLookup_eq_fast]; kernel_rfl
theorem hint_lri : typeLookup (.type "list_reverseiterator") "__length_hint__" = pure (some (.builtin "list_reverseiterator.__length_hint__")) := by rw [typeLookup_type, builtinLookup_eq_fast]; kernel_rfl
section
variable {P0 : Program} {w0 : World} {A0 : Around} {E0' : Value → Shared → Prop} {t0 : Shared}
theorem extend_rev {R : Result → Shared → Prop} {it l : Addr} {items : Array Value} (hh : A0.handled = none) (hne : l ≠ it) (hit : t0.heap.IsRevIter it l ((items.size : Int) - 1)) (hl : t0.heap.IsList l items) (hz : items.size ≤ sizeLine)
    (S : Addr) (res : Value) (c₀ : Nat) (hS : t0.heap.get? S = some { cls := .type "list", data := .seq #[] c₀ }) (hSi : S ≠ it) (hSl : S ≠ l)
    (hR : ∀ h' tk acc' c', (∀ b o, b ≠ S → b ≠ it → t0.heap.get? b = some o → h'.get? b = some o) → h'.get? S = some { cls := .type "list", dict := none, data := .seq acc' c', slots := #[] } →
      ItemsOf (fun i v => items[items.size - 1 - i]? = some v) acc' items.size → R (.ok (.ret res)) { t0 with heap := h', toks := tk }) :
    wpAny (model P0 w0) A0.in1 (Builtin.List.listExtendWith (.ref S) (.ref it) res)
      (fun fin s' => match fin with | .done f => R (.ok f) s' | .again c' => c'.quiet = true ∧ codeAny (model P0 w0) A0 c' R s') (fun e s' => R (.error e) s') t0 := by
  have W := (Walks.listRev (prog := P0) (w := w0) (A := A0.in1) hh it l hne items).toS
  have st0 : (0 : Nat) ≤ items.size ∧ t0.heap.IsRevIter it l ((items.size : Int) - 1 - ((0 : Nat) : Int)) ∧ t0.heap.IsList l items := ⟨Nat.zero_le _, by simpa using hit, hl⟩
  have h1 : Builtin.List.listSameRef (.ref S) (.ref it) = false := by simp [Builtin.List.listSameRef, hSi]
  have hSf : S ∉ [it, l] := by simp [hSi, hSl]
  unfold Builtin.List.listExtendWith
  refine wpAny_bind (wpAny_typeOf hit.typeIs ?_)
  rw [if_neg (by rw [h1]; decide)]
  refine wpAny_bind (wpAny_pyIter_revIter hit ?_)
  refine wpAny_bind (wpAny_holding ?_)
  unfold Builtin.List.listLengthHint
  refine wpAny_bind (wpAny_specialOf hit.typeIs nolen_lri ?_)
  show wpAny _ A0.in1 (specialOf (Value.ref it) (Str.ofString "__length_hint__") >>= _) _ _ _
  refine wpAny_bind (wpAny_specialOf hit.typeIs hint_lri ?_)
  (generalize hid : ("list_reverseiterator.__length_hint__" : String) = id0; wp_delta; rw [show splitId id0 = some ("list_reverseiterator", "__length_hint__") from by subst hid; decide +kernel]; subst hid)
  refine wpAny_bind (wpAny_isInstance (b := true) hit.typeIs (by rw [isSubtype_type]; kernel_rfl) ?_)
  refine wpAny_pure ?_
  rw [if_neg (by decide)]
  refine wpAny_pure ⟨plainId_quiet F.plain_extend_loop _, codeAny_extend_loopS W hz S hSf res items.size 0 t0 #[] c₀ rfl (Nat.zero_le _) st0 hS (ItemsOf.nil _) fun s' acc' c' hm hS' hacc => ?_⟩
  rw [Moved.eq_with hm]
  refine hR s'.heap s'.toks acc' c' (fun b o hb hb2 e => hm.heap b o (fun hmem => ?_) e) hS' hacc
  rcases List.mem_cons.mp hmem with z | z
  · exact hb z
  · exact hb2 (List.mem_singleton.mp z)
theorem init_rev {R : Result → Shared → Prop} {it l : Addr} {items : Array Value} (hh : A0.handled = none) (hne : l ≠ it) (hit : t0.heap.IsRevIter it l ((items.size : Int) - 1)) (hl : t0.heap.IsList l items) (hz : items.size ≤ sizeLine)
    (S : Addr) (hS : t0.heap.get? S = some { cls := .type "list", data := .seq #[] }) (hSi : S ≠ it) (hSl : S ≠ l)
    (hR : ∀ h' tk acc' c', (∀ b o, b ≠ S → b ≠ it → t0.heap.get? b = some o → h'.get? b = some o) → h'.get? S = some { cls := .type "list", dict := none, data := .seq acc' c', slots := #[] } →
      ItemsOf (fun i v => items[items.size - 1 - i]? = some v) acc' items.size → R (.ok (.ret .none)) { t0 with heap := h', toks := tk }) :
    wpAny (model P0 w0) A0.in1 (Builtin.«list.__init__» ⟨[.ref S, .ref it], []⟩)
      (fun fin s' => match fin with | .done f => R (.ok f) s' | .again c' => c'.quiet = true ∧ codeAny (model P0 w0) A0 c' R s') (fun e s' => R (.error e) s') t0 := by
  show wpAny _ _ (do let old ← Builtin.List.listItems (.ref S); Builtin.List.listUpdate (.ref S) (fun _ => #[]); letGo old.toList.reverse; Builtin.List.listExtendWith (.ref S) (.ref it) .none) _ _ t0
  refine wpAny_bind ?_
  unfold Builtin.List.listItems
  refine wpAny_bind (wpAny_seqItems hS rfl (wpAny_pure ?_))
  show wpAny _ _ (updateSeq S (fun _ => #[]) >>= fun _ => letGo (#[] : Array Value).toList.reverse >>= fun _ => Builtin.List.listExtendWith (.ref S) (.ref it) .none) _ _ t0
  refine wpAny_bind (wpAny_updateSeq hS rfl ?_)
  have hS2 := Heap.get?_update_self (Obj.mapSeq (fun _ => (#[] : Array Value))) hS rfl
  have oth : ∀ b o, b ≠ S → t0.heap.get? b = some o → (t0.heap.update S (Obj.mapSeq (fun _ => (#[] : Array Value)))).get? b = some o := fun b o hb e => (Heap.get?_update_other _ _ (Ne.symm hb)).trans e
  refine wpAny_bind (wpAny_letGo ?_)
  refine extend_rev hh hne (hit.at fun o e => oth it o (Ne.symm hSi) e) (let ⟨o, e, c⟩ := hl; ⟨o, oth l o (Ne.symm hSl) e, c⟩) hz S .none _ hS2 hSi hSl fun h' tk acc' c' hk hS' hacc => ?_
  exact hR h' tk acc' c' (fun b o hb hb2 e => hk b o hb hb2 (oth b o hb e)) hS' hacc
theorem call_list_rev {Q : Value → Shared → Prop} {it l : Addr} {items : Array Value} (hh : A0.handled = none) (hne : l ≠ it) (hit : t0.heap.IsRevIter it l ((items.size : Int) - 1)) (hl : t0.heap.IsList l items) (hz : items.size ≤ sizeLine)
    (hQ : ∀ h' tk acc' c', (∀ b o, b ≠ it → t0.heap.get? b = some o → h'.get? b = some o) → h'.get? t0.heap.objs.size = some { cls := .type "list", dict := none, data := .seq acc' c', slots := #[] } →
      ItemsOf (fun i v => items[items.size - 1 - i]? = some v) acc' items.size → Q (.ref t0.heap.objs.size) { t0 with heap := h', toks := tk }) :
    wpAny (model P0 w0) A0 (call (.type "list") [.ref it]) Q E0' t0 := by
  have lt1 : it < t0.heap.objs.size := let ⟨o, e, _⟩ := hit; Heap.lt_size e
  have lt2 : l < t0.heap.objs.size := let ⟨o, e, _⟩ := hl; Heap.lt_size e
  refine callType_codes (Q₁ := fun obj s₁ => obj = .ref t0.heap.objs.size ∧ s₁ = { t0 with heap := t0.heap.push { cls := .type "list", data := .seq #[] } }) F.called_list (F.typeCall_list_1 _) F.entry_list_init (code_list_new _ ⟨rfl, rfl⟩) fun obj s₁ h₁ => ?_
  obtain ⟨rfl, rfl⟩ := h₁
  have hS : (t0.heap.push { cls := .type "list", data := .seq #[] }).get? t0.heap.objs.size = some { cls := .type "list", data := .seq #[] } := Heap.get?_push_size _ rfl
  refine ⟨⟨_, hS, rfl⟩, F.args_list_init_2 _ _, init_rev (A0 := A0.in1) hh hne (hit.at fun o e => Heap.get?_push_of_some _ e) (let ⟨o, e, c⟩ := hl; ⟨o, Heap.get?_push_of_some _ e, c⟩) hz _ hS (Ne.symm (Nat.ne_of_lt lt1)) (Ne.symm (Nat.ne_of_lt lt2)) fun h' tk acc' c' hk hS' hacc => ?_⟩
  exact ⟨rfl, hQ h' tk acc' c' (fun b o hb e => hk b o (Nat.ne_of_lt (Heap.lt_size e)) hb (Heap.get?_push_of_some _ e)) hS' hacc⟩
end
theorem Inv.laidT {X : Cx} {pins : List (Addr × Obj)} {σ : St} {H : Hp} {s : Shared} {h' : Heap} {a it : Addr} {o : HO} {t' : Nat} (I : Inv X pins σ H s) (k : ∀ b u, b ≠ it → s.heap.get? b = some u → h'.get? b = some u) (hp : s.heap.objs.size ≤ a)
    (new : ObjOk X.prog X.w (upd H a o) h' a o) (fp : FpOk X pins H it) : Inv X pins σ (upd H a o) { s with heap := h', toks := t' } := by
  obtain ⟨f0, f1, f2, f3, f4, f5⟩ := fp
  have fr : H a = none := I.hok.fresh hp
  have nit : ∀ b u, H b = some u → b ≠ it := fun b u e z => by rw [z, f0] at e; cases e
  have nci : ∀ {b : Addr}, b ∉ [it] → b ≠ it := fun hb z => hb (by rw [z]; exact List.mem_singleton.mpr rfl)
  refine I.step (g' := s.gens) (d' := s.drawn) (ch := [it]) (fun b hb => ?_) (fun b ob _ _ hc e _ => k b ob (nci hc) e) (fun b ob _ _ hc e _ => ⟨ob.slots, k b ob (nci hc) e⟩) (fun b ob _ e n => ?_) (fun b ob hc e => ⟨ob, k b ob (nci hc) e⟩)
    (fun b xs e => by rw [upd_ne (ne_of_none e fr)]; exact e) (fun b ob u e => by rw [upd_ne (ne_of_none e fr)]; exact e) (fun b ps e => ⟨#[], by rw [upd_ne (ne_of_none e fr), e]; simp⟩) (fun m hm => ?_) (fun b u e => ?_) I.bare
  · have e : b = it := List.mem_singleton.mp hb
    subst e
    exact ⟨f3, f1, f4, f5⟩
  · rw [upd_ne (Nat.ne_of_lt (Nat.lt_of_lt_of_le (Heap.lt_size e) hp))]; exact n
  · obtain ⟨ob, es, ep, ho, r⟩ := hm
    exact ⟨ob, es, ep, k _ ob (Ne.symm f1) ho, r⟩
  · by_cases hb : b = a
    · subst hb; rw [upd_same] at e; cases e; exact new
    · rw [upd_ne hb] at e
      refine (I.hok b u e).stay (fun c v hc q => k c v ?_ q) (fun c q => by rw [upd_ne (ne_of_none q fr)]; exact q) fun c xs q => by rw [upd_ne (ne_of_none q fr)]; exact q
      rcases hc with z | z
      · rw [z]; exact nit b u e
      · exact nit c _ z
theorem items_rev {its : List Value} {acc : Array Value} (h : ItemsOf (fun i v => its.toArray[its.toArray.size - 1 - i]? = some v) acc its.toArray.size) : acc = its.reverse.toArray := by
  obtain ⟨h1, h2⟩ := h
  apply Array.ext_getElem?
  intro i
  have hs : its.toArray.size = its.length := by simp
  by_cases hi : i < acc.size
  · have e := h2 i acc[i] (Array.getElem?_eq_getElem hi)
    rw [Array.getElem?_eq_getElem hi, ← e]
    rw [List.getElem?_toArray, List.getElem?_toArray, List.getElem?_reverse (by omega), hs]
  · rw [Array.getElem?_eq_none (by omega), Array.getElem?_eq_none (by simp; omega)]
noncomputable def tRev (K : PySem.W.Frag) (te : TE) : TE := fun σ H Q => te σ H fun x H1 => ∃ a xs, x = .ref a ∧ SqL K H1 a xs ∧ ∀ l, H1 l = none → Q (.ref l) (upd H1 l (.lst xs.reverse))
section
variable {X : Cx}
theorem pe_listrev {e : Expr} {te : TE} {p1 p2 q1 q2 : Pos} (g1 : Gl X "list") (g2 : Gl X "reversed") (n1 : X.mg "list" = none) (n2 : X.mg "reversed" = none) (hc : X.calm = true) (he : PE X e te)
    (h1 : starEach [Expr.Call (.Name "reversed" p1) [e] [] p2] X.env = [(false, eval (.Call (.Name "reversed" p1) [e] [] p2) X.env)] := by rfl) (h2 : starEach [e] X.env = [(false, eval e X.env)] := by rfl) :
    PE X (.Call (.Name "list" q1) [.Call (.Name "reversed" p1) [e] [] p2] [] q2) (tRev X.K te) := by
  intro pins s σ H Q I h
  have inner : ∀ Q' : Value → Shared → Prop, (∀ v s1, (∃ a xs its H1 r, v = .ref r ∧ SqL X.K H1 a xs ∧ Vals xs its ∧ a ≠ r ∧ Inv X pins σ H1 s1 ∧ s1.heap.IsRevIter r a ((its.toArray.size : Int) - 1) ∧ s1.heap.IsList a its.toArray ∧ its.length ≤ sizeLine ∧ H1 r = none ∧ FpOk X pins H1 r ∧ (∀ l, H1 l = none → Q (.ref l) (upd H1 l (.lst xs.reverse)))) → Q' v s1) →
      wpAny (model X.prog X.w) X.A (eval (.Call (.Name "reversed" p1) [e] [] p2) X.env) Q' X.xe s := fun Q' hQ' => by
    refine Call_ (ld_blt I g2 n2 PyProof.Rows.boot_reversed (PyProof.Rows.callWith_type1 (thn (pa_cons he pa_nil h2 p2 pins s σ H (fun vs H1 => match vs with | [x] => ∃ a xs, x = .ref a ∧ SqL X.K H1 a xs ∧ ∀ l, H1 l = none → Q (.ref l) (upd H1 l (.lst xs.reverse)) | _ => False) I h) fun us s1 ⟨vs, H1, I1, r1, q1⟩ => ?_) h2 rfl))
    match vs, r1, q1 with
    | [x], r1, ⟨a, xs, e1, hq, q⟩ =>
    obtain ⟨u, rfl, ru⟩ := r1.one
    subst e1
    cases ru
    obtain ⟨its, rv, pl, hz⟩ := I1.list hq
    have lt : a < s1.heap.objs.size := let ⟨o, e, _⟩ := pl.isList; Heap.lt_size e
    refine call_reversed_list pl.isList (hQ' _ _ ⟨a, xs, its, H1, s1.heap.objs.size, rfl, hq, rv, Nat.ne_of_lt lt, I1.kept (t' := s1.toks) fun b o e => Heap.get?_push_of_some _ e, ⟨_, Heap.get?_push_size _ rfl, rfl, rfl⟩, let ⟨o, e, c⟩ := pl.isList; ⟨o, Heap.get?_push_of_some _ e, c⟩, by rw [← rv.length]; exact hz, I1.fresh, I1.fpOk (Nat.le_refl _) I1.fresh, q⟩)
  refine Call_ (ld_blt I g1 n1 PyProof.Rows.boot_list (PyProof.Rows.callWith_type1 (Q := EP X pins σ Q) ?_ h1 rfl))
  rw [h1]
  show wpAny _ _ (spliced ((false, eval (.Call (.Name "reversed" p1) [e] [] p2) X.env) :: backTo q2 [])) _ _ s
  refine Calls.spliced_cons (inner _ fun v s1 hv => Calls.spliced_nil ?_)
  obtain ⟨a, xs, its, H1, r, rfl, hq, rv, hne, I1, hit, hl, hz, hf, fp, q⟩ := hv
  refine call_list_rev (I1.ok.hd hc) hne hit hl (by simpa using hz) fun h' tk acc c hk hS hacc => ?_
  have e := items_rev hacc
  subst e
  exact ⟨.ref s1.heap.objs.size, upd H1 s1.heap.objs.size (.lst xs.reverse), I1.laidT hk (Nat.le_refl _) ⟨by rw [List.length_reverse, rv.length]; exact hz, its.reverse, c, rv.reverse, hS⟩ fp, rfl, q _ I1.fresh⟩
end
end L2
set_option Elab.async false
set_option linter.all false
set_option maxRecDepth 100000
set_option maxHeartbeats 4000000
namespace L2
open PySem PySem.Spec PyProof.Rows
section
variable {X : Cx} {K : PySem.W.Frag}
theorem ix_listK (h : X.K = K) : IxR X (rIxL K) := by subst h; exact ix_list
theorem ix_tupK (h : X.K = K) : IxR X (rIxT K) := by subst h; exact ix_tup
theorem sl_listK (h : X.K = K) : SlR X (rSlL K) := by subst h; exact sl_list
theorem op_eqLK (h : X.K = K) (hu : X.A.units < cLine) : OpR X (compareOp .Eq) (rEqL K false) := by subst h; exact op_eqL hu
theorem op_neLK (h : X.K = K) (hu : X.A.units < cLine) : OpR X (compareOp .NotEq) (rEqL K true) := by subst h; exact op_neL hu
theorem call_isiK (h : X.K = K) : CallR X (.builtin "isinstance") (rIsi K) := by subst h; exact call_isi
noncomputable def rLen (K : PySem.W.Frag) : List V → Hp → VK → Prop := fun xs H Q => ∃ x n, xs = [x] ∧ LenV K x H n ∧ Q (.int n) H
theorem call_lenK (h : X.K = K) : CallR X (.builtin "len") (rLen K) := by subst h; exact call_len
noncomputable def rListOf (K : PySem.W.Frag) : List V → Hp → VK → Prop := fun xs H Q => ∃ p ys, xs = [.ref p] ∧ (SqL K H p ys ∨ SqT K H p ys) ∧ ∀ l, H l = none → Q (.ref l) (upd H l (.lst ys))
theorem call_listK (h : X.K = K) : CallR X (.type "list") (rListOf K) := by subst h; exact call_list_of
noncomputable def rTupOf (K : PySem.W.Frag) : List V → Hp → VK → Prop := fun xs H Q => ∃ p ys, xs = [.ref p] ∧ ((SqL K H p ys ∧ ∀ l, H l = none → Q (.ref l) (upd H l (.tup ys))) ∨ (SqT K H p ys ∧ Q (.ref p) H))
theorem call_tupleK (h : X.K = K) : CallR X (.type "tuple") (rTupOf K) := by subst h; exact call_tuple_of
theorem pi_listK {tg l : Expr} {tl : TE} (h : X.K = K) (hl : PE X l tl) : PI X tg l (iList K tl) := by subst h; exact pi_list hl
theorem pi_tupK {tg l : Expr} {tl : TE} (h : X.K = K) (hl : PE X l tl) : PI X tg l (iTup K tl) := by subst h; exact pi_tup hl
theorem pe_bm0K {o : Expr} {to : TE} {name : Str} {apos cpos : Pos} {T id : String} {r : V → List V → Hp → VK → Prop} (h : X.K = K) (pa : PlainAttrs T) (slot : Slot T name id) (hty : typeOf (.builtin id) = pure (.type "method_descriptor")) (hm : MtR X id r) (ho : PE X o to)
    (hbase : attributeBase o name X.env (eval o X.env) = eval o X.env := by rfl) (hline : (apos.endLine == cpos.line) = true := by rfl) : PE X (.Call (.Attribute o name apos) [] [] cpos) (tBM0 K T r to) := by subst h; exact pe_bm0 pa slot hty hm ho hbase hline
theorem pe_bmK {o e : Expr} {es : List Expr} {to : TE} {t : TA} {name : Str} {apos cpos : Pos} {T id : String} {r : V → List V → Hp → VK → Prop} (h : X.K = K) (pa : PlainAttrs T) (slot : Slot T name id) (hty : typeOf (.builtin id) = pure (.type "method_descriptor")) (hm : MtR X id r) (ho : PE X o to) (ha : PA X (e :: es) t)
    (hbase : attributeBase o name X.env (eval o X.env) = eval o X.env := by rfl)
    (hfew : ((backTo cpos (starEach (e :: es) X.env)).all (fun x => !x.1) && (backToKw cpos (keywordEach [] X.env)).all (fun x => x.1.isSome)
      && decide ((e :: es).length + ([] : List Keyword).length + (if ([] : List Keyword).isEmpty then 0 else 1) < 30)) = true := by rfl)
    (hline : (apos.endLine == cpos.line) = true := by rfl) (hs : starEach (e :: es) X.env = (false, eval e X.env) :: starEach es X.env := by rfl) (hplain : (backTo cpos (starEach es X.env)).any (·.1) = false := by rfl) :
    PE X (.Call (.Attribute o name apos) (e :: es) [] cpos) (tBM K T r to t) := by subst h; exact pe_bm pa slot hty hm ho ha hbase hfew hline hs hplain
end
end L2
set_option Elab.async false
set_option linter.all false
set_option maxRecDepth 100000
set_option maxHeartbeats 4000000
namespace L2
open PySem PySem.Spec PyProof.Rows
noncomputable def Its (x : Str) : It := ⟨fun i _ => i < x.cps.size, fun i H v H' => H' = H ∧ ∃ c, x.cps[i]? = some c ∧ v = .str ⟨#[c]⟩, fun i _ => i = x.cps.size⟩
theorem turn_str {P : Program} {w : World} {K : PySem.W.Frag} {tg : Expr} {it : Addr} {x : Str} {t : Tok} {n : String}
    (hn : ["enumerate", "zip", "dict_itemiterator", "dict_reverseitemiterator", "odict_iterator", "itertools.zip_longest", "itertools.pairwise"].contains n = false)
    (W : ∀ A : Around, A.handled = none → Walks P w A it [it] [it] x.cps.size (SignAt x) (fun i h => h.IsStrIter it n x t i))
    (hself : ∀ (A : Around) (i : Nat) (s : Shared) (Q : Value → Shared → Prop) (E : Value → Shared → Prop), s.heap.IsStrIter it n x t i → Q (.ref it) s → wpAny (model P w) A (pyIter (.ref it)) Q E s) :
    Turn P w K tg (Its x) [it] it (fun i h => h.IsStrIter it n x t i) where
  mem := by simp
  obj := fun i h st b hb => by
    have e : b = it := by simpa using hb
    subst e
    obtain ⟨o, e, c, d⟩ := st
    exact ⟨o, e, fun v z => by rw [d] at z; cases z⟩
  keep := fun i h h' st k => let ⟨o, e, r⟩ := st; ⟨o, k it (by simp) o e, r⟩
  item := by
    intro X hP hw hK hc i pins s σ H E I hf st hg
    subst hP hw hK
    obtain ⟨f0, f1, f2, f3, f4, f5⟩ := hf it (by simp)
    refine (W X.A (I.ok.hd hc)).item i s _ _ hg st fun v h' tk hv st' kk => ?_
    obtain ⟨c, u, hx, rfl⟩ := hv
    have I1 : Inv X pins σ H { s with heap := h', toks := tk } := I.turned (fun b o hb e => kk b o (by simpa using hb) e) f0 f1 f3 f4 f5
    obtain ⟨o, e, c', d⟩ := id st'
    exact ⟨_, rfl, go_of (s := { s with heap := h', toks := tk }) (n := n) e c' d hn ⟨.str ⟨#[c]⟩, H, I1, ⟨u, rfl⟩, ⟨rfl, c, hx, rfl⟩, st', fun b hb => (hf b hb).1⟩⟩
  done := by
    intro X hP hw hK hc i pins s σ H E I hf st hg
    subst hP hw hK
    obtain ⟨f0, f1, f2, f3, f4, f5⟩ := hf it (by simp)
    have hg : i = x.cps.size := hg
    subst hg
    exact (W X.A (I.ok.hd hc)).done s _ _ st fun h' tk kk => ⟨rfl, I.turned (fun b o hb e => kk b o (by simpa using hb) e) f0 f1 f3 f4 f5⟩
  self := hself
noncomputable def iStr (tl : TE) : TI := fun σ H R => tl σ H fun x H1 => ∃ z, x = .str z ∧ R (Its z) H1
section
variable {X : Cx} {tg : Expr}
theorem pi_str {l : Expr} {tl : TE} (hl : PE X l tl) : PI X tg l (iStr tl) := by
  intro pins s σ H R I h
  refine thn (hl pins s σ H _ I h) fun v s1 ⟨x, H1, I1, r1, q1⟩ => ?_
  obtain ⟨z, e, q⟩ := q1
  subst e
  obtain ⟨t, rfl⟩ := r1
  have fp : ∀ (o : Obj), ∀ b ∈ [s1.heap.objs.size], FpOk X pins H1 b := fun o b hb => by
    have e : b = s1.heap.objs.size := by simpa using hb
    subst e
    exact I1.fpOk (Nat.le_refl _) (I1.hok.fresh (Nat.le_refl _))
  cases ha : z.cps.all (· < 128)
  · refine wpAny_pyIter_wide ha ⟨s1.heap.objs.size, [s1.heap.objs.size], _, _, H1, rfl, I1.kept (t' := s1.toks) fun b o e => Heap.get?_push_of_some _ e,
      turn_str (n := "str_iterator") (t := t) (by decide) (fun A hA => Walks.strWide hA _ z t) (fun _ _ _ _ _ st h => wpAny_pyIter_striter_wide st h), ⟨_, Heap.get?_push_size _ rfl, rfl, rfl⟩, fp default, q⟩
  · refine wpAny_pyIter_ascii ha ⟨s1.heap.objs.size, [s1.heap.objs.size], _, _, H1, rfl, I1.kept (t' := s1.toks) fun b o e => Heap.get?_push_of_some _ e,
      turn_str (n := "str_ascii_iterator") (t := t) (by decide) (fun A hA => Walks.strAscii hA _ z t) (fun _ _ _ _ _ st h => wpAny_pyIter_striter_ascii st h), ⟨_, Heap.get?_push_size _ rfl, rfl, rfl⟩, fp default, q⟩
end
section
variable {n : Nat} {fx : List Nat} {g : TG} {tc : TT} {te : TE} {σ : St} {H1 : Hp} {D : Addr} {Q : Hp → Prop}
theorem comp_str {z : Str} (Pv : Nat → List V → Hp → Prop) (h0 : Pv 0 [] (upd H1 D (.lst [])))
    (hs : ∀ i c ys H, z.cps[i]? = some c → Pv i ys H → g (.str ⟨#[c]⟩) (compSt n fx σ) H fun σ4 H4 => tc σ4 H4 fun b H5 => if b = true then te σ4 H5 fun v H6 => H6 D = some (.lst ys) ∧ ys.length < sizeLine ∧ Pv (i + 1) (ys ++ [v]) (upd H6 D (.lst (ys ++ [v]))) else Pv (i + 1) ys H5)
    (hd : ∀ ys H, Pv z.cps.size ys H → Q H) :
    ∃ W : Nat → Nat → List V → Hp → Prop, (∃ m, W 0 m [] (upd H1 D (.lst []))) ∧ ∀ i m ys H2, W i m ys H2 → ((Its z).stop i H2 ∧ Q H2) ∨
      ((Its z).go i H2 ∧ ∃ N : List V → Hp → Prop, (∀ ys' H', N ys' H' → ∃ m', m' < m ∧ W (i + 1) m' ys' H') ∧ ∀ x H3, (Its z).yld i H2 x H3 → g x (compSt n fx σ) H3 fun σ4 H4 => tc σ4 H4 fun b H5 =>
        if b = true then te σ4 H5 fun v H6 => H6 D = some (.lst ys) ∧ ys.length < sizeLine ∧ N (ys ++ [v]) (upd H6 D (.lst (ys ++ [v]))) else N ys H5) := by
  refine ⟨fun i m ys H => m = z.cps.size - i ∧ i ≤ z.cps.size ∧ Pv i ys H, ⟨z.cps.size, by simp, Nat.zero_le _, h0⟩, ?_⟩
  rintro i m ys H ⟨rfl, hi, p⟩
  by_cases hlt : i < z.cps.size
  · refine .inr ⟨hlt, Pv (i + 1), fun ys' H' p' => ⟨z.cps.size - (i + 1), by omega, rfl, hlt, p'⟩, fun x H' y => ?_⟩
    obtain ⟨e, c, hc, y⟩ := y
    subst e; subst y
    exact hs i c ys _ hc p
  · have e : i = z.cps.size := by omega
    subst e
    exact .inl ⟨rfl, hd ys H p⟩
end
noncomputable def rAllB (K : PySem.W.Frag) : List V → Hp → VK → Prop := fun xs H Q => ∃ (a : Addr) (bs : List Bool), xs = [.ref a] ∧ SqL K H a (bs.map V.bl) ∧ Q (.bl (bs.all id)) H
noncomputable def rAnyB (K : PySem.W.Frag) : List V → Hp → VK → Prop := fun xs H Q => ∃ (a : Addr) (bs : List Bool), xs = [.ref a] ∧ SqL K H a (bs.map V.bl) ∧ Q (.bl (bs.any id)) H
section
variable {X : Cx} {K : PySem.W.Frag}
theorem bool_at {bs : List Bool} {its : List Value} (rv : Vals (bs.map V.bl) its) {i : Nat} {v : Value} (h : its.toArray[i]? = some v) : v = .bool (bs.getD i false) := by
  have h' : its[i]? = some v := by simpa using h
  have hi : i < its.length := (List.getElem?_eq_some_iff.mp h').1
  have hl := rv.length
  rw [List.length_map] at hl
  obtain ⟨u, e, r⟩ := rv.get (i := i) (x := .bl (bs.getD i false)) (by rw [List.getElem?_map, List.getElem?_eq_getElem (by omega), List.getD_eq_getElem?_getD, List.getElem?_eq_getElem (by omega)]; rfl)
  rw [h'] at e
  cases e
  exact r
theorem all_at (bs : List Bool) : (List.range bs.length).all (fun i => bs.getD i false) = bs.all id := by
  rw [Bool.eq_iff_iff, List.all_eq_true, List.all_eq_true]
  constructor
  · intro h x hx
    obtain ⟨i, hi, e⟩ := List.mem_iff_getElem.mp hx
    have := h i (List.mem_range.mpr hi)
    rw [List.getD_eq_getElem?_getD, List.getElem?_eq_getElem hi, e] at this
    exact this
  · intro h i hi
    have hi := List.mem_range.mp hi
    rw [List.getD_eq_getElem?_getD, List.getElem?_eq_getElem hi]
    exact h _ (List.getElem_mem hi)
theorem any_at (bs : List Bool) : (List.range bs.length).any (fun i => bs.getD i false) = bs.any id := by
  rw [Bool.eq_iff_iff, List.any_eq_true, List.any_eq_true]
  constructor
  · rintro ⟨i, hi, h⟩
    have hi := List.mem_range.mp hi
    rw [List.getD_eq_getElem?_getD, List.getElem?_eq_getElem hi] at h
    exact ⟨_, List.getElem_mem hi, h⟩
  · rintro ⟨x, hx, h⟩
    obtain ⟨i, hi, e⟩ := List.mem_iff_getElem.mp hx
    refine ⟨i, List.mem_range.mpr hi, ?_⟩
    rw [List.getD_eq_getElem?_getD, List.getElem?_eq_getElem hi, e]
    exact h
theorem call_allK (h : X.K = K) (hc : X.calm = true) : CallR X (.builtin "all") (rAllB K) := by
  subst h
  intro pins s σ H xs us Q I r h
  obtain ⟨a, bs, rfl, hq, q⟩ := h
  obtain ⟨u, rfl, ru⟩ := vals1 r
  cases ru
  obtain ⟨its, rv, pl, hz⟩ := I.list hq
  have lt : a < s.heap.objs.size := let ⟨o, e, _⟩ := pl.isList; Heap.lt_size e
  have hl : its.toArray.size = bs.length := by have := rv.length; rw [List.length_map] at this; simp [this]
  refine call_all_walk (wpAny_pyIter_list pl.isList ⟨s.heap.objs.size, _, _, its.toArray.size, _, _, fun i => bs.getD i false, rfl, Walks.list (A := X.A.in1) (I.ok.hd hc) s.heap.objs.size a (Nat.ne_of_lt lt) its.toArray, ⟨⟨_, Heap.get?_push_size _ rfl, rfl, rfl⟩, let ⟨o, e, c⟩ := pl.isList; ⟨o, Heap.get?_push_of_some _ e, c⟩⟩, fun i v s Q E hv hQ => by rw [bool_at rv hv]; exact wpAny_truthy_bool hQ, fun h' tk kk => ?_⟩)
  rw [hl, all_at]
  exact ⟨.bl _, H, I.kept (fun b o e => kk b o (fun hm => by have := Heap.lt_size e; rw [List.mem_singleton.mp hm] at this; exact absurd this (Nat.lt_irrefl _)) (Heap.get?_push_of_some _ e)), rfl, q⟩
theorem call_anyK (h : X.K = K) (hc : X.calm = true) : CallR X (.builtin "any") (rAnyB K) := by
  subst h
  intro pins s σ H xs us Q I r h
  obtain ⟨a, bs, rfl, hq, q⟩ := h
  obtain ⟨u, rfl, ru⟩ := vals1 r
  cases ru
  obtain ⟨its, rv, pl, hz⟩ := I.list hq
  have lt : a < s.heap.objs.size := let ⟨o, e, _⟩ := pl.isList; Heap.lt_size e
  have hl : its.toArray.size = bs.length := by have := rv.length; rw [List.length_map] at this; simp [this]
  refine call_any_walk (wpAny_pyIter_list pl.isList ⟨s.heap.objs.size, _, _, its.toArray.size, _, _, fun i => bs.getD i false, rfl, Walks.list (A := X.A.in1) (I.ok.hd hc) s.heap.objs.size a (Nat.ne_of_lt lt) its.toArray, ⟨⟨_, Heap.get?_push_size _ rfl, rfl, rfl⟩, let ⟨o, e, c⟩ := pl.isList; ⟨o, Heap.get?_push_of_some _ e, c⟩⟩, fun i v s Q E hv hQ => by rw [bool_at rv hv]; exact wpAny_truthy_bool hQ, fun h' tk kk => ?_⟩)
  rw [hl, any_at]
  exact ⟨.bl _, H, I.kept (fun b o e => kk b o (fun hm => by have := Heap.lt_size e; rw [List.mem_singleton.mp hm] at this; exact absurd this (Nat.lt_irrefl _)) (Heap.get?_push_of_some _ e)), rfl, q⟩
end
inductive Dt where
  | non | bl (b : Bool) | int (i : Int) | str (x : Str) | lst (xs : List Dt) | tup (xs : List Dt)
inductive Rep (K : PySem.W.Frag) (H : Hp) : V → Dt → Prop where
  | non : Rep K H .non .non
  | bl (b : Bool) : Rep K H (.bl b) (.bl b)
  | int (i : Int) : Rep K H (.int i) (.int i)
  | str (x : Str) : Rep K H (.str x) (.str x)
  | lst {p : Addr} {xs : List V} {ds : List Dt} (h : SqL K H p xs) (l : xs.length = ds.length) (r : ∀ (i : Nat) x d, xs[i]? = some x → ds[i]? = some d → Rep K H x d) : Rep K H (.ref p) (.lst ds)
  | tup {p : Addr} {xs : List V} {ds : List Dt} (h : SqT K H p xs) (l : xs.length = ds.length) (r : ∀ (i : Nat) x d, xs[i]? = some x → ds[i]? = some d → Rep K H x d) : Rep K H (.ref p) (.tup ds)
mutual
noncomputable def eqD : Dt → Dt → Bool
  | .non, .non => true
  | .bl a, .bl b => a == b
  | .bl a, .int b => (if a then 1 else 0) == b
  | .int a, .bl b => a == (if b then 1 else 0)
  | .int a, .int b => a == b
  | .str a, .str b => a == b
  | .lst xs, .lst ys => eqDs xs ys
  | .tup xs, .tup ys => eqDs xs ys
  | _, _ => false
noncomputable def eqDs : List Dt → List Dt → Bool
  | [], [] => true
  | x :: xs, y :: ys => eqD x y && eqDs xs ys
  | _, _ => false
end
mutual
noncomputable def depD : Dt → Nat
  | .lst xs => depDs xs + 1
  | .tup xs => depDs xs + 1
  | _ => 0
noncomputable def depDs : List Dt → Nat
  | [] => 0
  | x :: xs => max (depD x) (depDs xs)
end
theorem dep_mem {ds : List Dt} {d : Dt} (h : d ∈ ds) : depD d ≤ depDs ds := by
  induction ds with
  | nil => cases h
  | cons x xs ih =>
    rw [depDs]
    rcases List.mem_cons.mp h with rfl | h
    · omega
    · have := ih h; omega
theorem eqDs_len : ∀ {xs ys : List Dt}, xs.length ≠ ys.length → eqDs xs ys = false
  | [], [], h => absurd rfl h
  | [], _ :: _, _ => rfl
  | _ :: _, [], _ => rfl
  | x :: xs, y :: ys, h => by rw [eqDs, eqDs_len (fun z => h (by simp [z])), Bool.and_false]
theorem eqDs_all : ∀ {xs ys : List Dt}, xs.length = ys.length → eqDs xs ys = (List.range xs.length).all fun i => eqD (xs.getD i .non) (ys.getD i .non)
  | [], [], _ => rfl
  | [], _ :: _, h => by cases h
  | _ :: _, [], h => by cases h
  | x :: xs, y :: ys, h => by
    rw [eqDs, eqDs_all (by simpa using h), List.length_cons, List.range_succ_eq_map, List.all_cons, List.all_map]
    rfl
theorem eqD_refl : ∀ d : Dt, eqD d d = true := by
  intro d
  refine Dt.rec (motive_1 := fun d => eqD d d = true) (motive_2 := fun ds => eqDs ds ds = true) ?_ ?_ ?_ ?_ ?_ ?_ ?_ ?_ d
  · rfl
  · intro b; simp [eqD]
  · intro b; simp [eqD]
  · intro b; simp [eqD]
  · intro xs h; rw [eqD]; exact h
  · intro xs h; rw [eqD]; exact h
  · rfl
  · intro x xs h1 h2; rw [eqDs, h1, h2]; rfl
theorem eqD_eq : ∀ {d e : Dt}, d = e → eqD d e = true := fun h => by subst h; exact eqD_refl _
section
variable {X : Cx} {pins : List (Addr × Obj)} {σ : St} {H : Hp} {s : Shared}
theorem Inv.notBoth (I : Inv X pins σ H s) {p : Addr} {xs ys : List V} (h1 : SqL X.K H p xs) (h2 : SqT X.K H p ys) : False := by
  obtain ⟨_, _, pl, _⟩ := I.list h1
  obtain ⟨_, _, ⟨o, ho, hc, _⟩, _⟩ := I.tuple h2
  obtain ⟨o', n, ho', hc', _⟩ := pl
  rw [ho] at ho'; cases ho'
  rw [hc] at hc'
  exact absurd hc' (by decide)
theorem Rep.fun (I : Inv X pins σ H s) {x : V} {d : Dt} (r : Rep X.K H x d) : ∀ {e : Dt}, Rep X.K H x e → d = e := by
  induction r with
  | non => intro e q; cases q; rfl
  | bl b => intro e q; cases q; rfl
  | int i => intro e q; cases q; rfl
  | str z => intro e q; cases q; rfl
  | lst h l r ih =>
    intro e q
    cases q with
    | lst h' l' r' =>
      have ex := I.list_inj h h'
      subst ex
      congr 1
      refine List.ext_getElem? fun i => ?_
      rename_i xs ds ds'
      by_cases hi : i < ds.length
      · rw [List.getElem?_eq_getElem hi, List.getElem?_eq_getElem (by omega)]
        have hx : i < xs.length := by omega
        rw [ih i _ _ (List.getElem?_eq_getElem hx) (List.getElem?_eq_getElem hi) (r' i _ _ (List.getElem?_eq_getElem hx) (List.getElem?_eq_getElem (by omega)))]
      · rw [List.getElem?_eq_none (by omega), List.getElem?_eq_none (by omega)]
    | tup h' l' r' => exact (I.notBoth h h').elim
  | tup h l r ih =>
    intro e q
    cases q with
    | tup h' l' r' =>
      have ex := I.tuple_inj h h'
      subst ex
      congr 1
      refine List.ext_getElem? fun i => ?_
      rename_i xs ds ds'
      by_cases hi : i < ds.length
      · rw [List.getElem?_eq_getElem hi, List.getElem?_eq_getElem (by omega)]
        have hx : i < xs.length := by omega
        rw [ih i _ _ (List.getElem?_eq_getElem hx) (List.getElem?_eq_getElem hi) (r' i _ _ (List.getElem?_eq_getElem hx) (List.getElem?_eq_getElem (by omega)))]
      · rw [List.getElem?_eq_none (by omega), List.getElem?_eq_none (by omega)]
    | lst h' l' r' => exact (I.notBoth h' h).elim
open SeqAt in
theorem rc_D (I : Inv X pins σ H s) {x : V} {d : Dt} (r : Rep X.K H x d) : ∀ {A : Around} {e : Dt} {y : V} {u v : Value} (n : Nat), Rep X.K H y e → RelV x u → RelV y v → depD d ≤ n → A.units + n < cLine →
    EqAt A s u v (eqD d e) ∧ RcAt A s u v (eqD d e) ∧ RcNeAt A s u v (!eqD d e) := by
  induction r with
  | non =>
    intro A e y u v n q ru rv hd hu
    cases ru
    cases q with
    | non => cases rv; exact ⟨EqAt.same _, RcAt.none_none, RcNeAt.none_none⟩
    | bl b => cases rv; exact ⟨EqAt.none_bool b, RcAt.none_bool b, RcNeAt.none_bool b⟩
    | int b => obtain ⟨t, rfl⟩ := rv; exact ⟨EqAt.none_int b t, RcAt.none_int b t, RcNeAt.none_int b t⟩
    | str b => obtain ⟨t, rfl⟩ := rv; exact ⟨EqAt.none_str b t, RcAt.none_str b t, RcNeAt.none_str b t⟩
    | lst h l r => cases rv; obtain ⟨_, _, pl, _⟩ := I.list h; exact ⟨EqAt.none_list pl.isList (by omega), RcAt.none_list pl.isList (by omega), RcNeAt.none_list pl.isList (by omega)⟩
    | tup h l r => cases rv; obtain ⟨_, _, pl, _⟩ := I.tuple h; exact ⟨EqAt.none_tuple pl (by omega), RcAt.none_tuple pl (by omega), RcNeAt.none_tuple pl (by omega)⟩
  | bl a =>
    intro A e y u v n q ru rv hd hu
    cases ru
    cases q with
    | non => cases rv; exact ⟨EqAt.bool_none a, RcAt.bool_none a, RcNeAt.bool_none a⟩
    | bl b => cases rv; exact ⟨EqAt.bool_bool a b, RcAt.bool_bool a b, RcNeAt.bool_bool a b⟩
    | int b => obtain ⟨t, rfl⟩ := rv; exact ⟨EqAt.bool_int a b t, RcAt.bool_int a b t, RcNeAt.bool_int a b t⟩
    | str b => obtain ⟨t, rfl⟩ := rv; exact ⟨EqAt.bool_str a b t, RcAt.bool_str a b t, RcNeAt.bool_str a b t⟩
    | lst h l r => cases rv; obtain ⟨_, _, pl, _⟩ := I.list h; exact ⟨EqAt.bool_list a pl.isList (by omega), RcAt.bool_list a pl.isList (by omega), RcNeAt.bool_list a pl.isList (by omega)⟩
    | tup h l r => cases rv; obtain ⟨_, _, pl, _⟩ := I.tuple h; exact ⟨EqAt.bool_tuple a pl (by omega), RcAt.bool_tuple a pl (by omega), RcNeAt.bool_tuple a pl (by omega)⟩
  | int a =>
    intro A e y u v n q ru rv hd hu
    obtain ⟨t', rfl⟩ := ru
    cases q with
    | non => cases rv; exact ⟨EqAt.int_none a t', RcAt.int_none a t', RcNeAt.int_none a t'⟩
    | bl b => cases rv; exact ⟨EqAt.int_bool a t' b, RcAt.int_bool a t' b, RcNeAt.int_bool a t' b⟩
    | int b => obtain ⟨t, rfl⟩ := rv; exact ⟨EqAt.int_int a t' b t, RcAt.int_int a t' b t, RcNeAt.int_int a t' b t⟩
    | str b => obtain ⟨t, rfl⟩ := rv; exact ⟨EqAt.int_str a t' b t, RcAt.int_str a t' b t, RcNeAt.int_str a t' b t⟩
    | lst h l r => cases rv; obtain ⟨_, _, pl, _⟩ := I.list h; exact ⟨EqAt.int_list a t' pl.isList (by omega), RcAt.int_list a t' pl.isList (by omega), RcNeAt.int_list a t' pl.isList (by omega)⟩
    | tup h l r => cases rv; obtain ⟨_, _, pl, _⟩ := I.tuple h; exact ⟨EqAt.int_tuple a t' pl (by omega), RcAt.int_tuple a t' pl (by omega), RcNeAt.int_tuple a t' pl (by omega)⟩
  | str a =>
    intro A e y u v n q ru rv hd hu
    obtain ⟨t', rfl⟩ := ru
    cases q with
    | non => cases rv; exact ⟨EqAt.str_none a t', RcAt.str_none a t', RcNeAt.str_none a t'⟩
    | bl b => cases rv; exact ⟨EqAt.str_bool a t' b, RcAt.str_bool a t' b, RcNeAt.str_bool a t' b⟩
    | int b => obtain ⟨t, rfl⟩ := rv; exact ⟨EqAt.str_int a t' b t, RcAt.str_int a t' b t, RcNeAt.str_int a t' b t⟩
    | str b => obtain ⟨t, rfl⟩ := rv; exact ⟨EqAt.str_str a t' b t, RcAt.str_str a t' b t, RcNeAt.str_str a t' b t⟩
    | lst h l r => cases rv; obtain ⟨_, _, pl, _⟩ := I.list h; exact ⟨EqAt.str_list a t' pl.isList (by omega), RcAt.str_list a t' pl.isList (by omega), RcNeAt.str_list a t' pl.isList (by omega)⟩
    | tup h l r => cases rv; obtain ⟨_, _, pl, _⟩ := I.tuple h; exact ⟨EqAt.str_tuple a t' pl (by omega), RcAt.str_tuple a t' pl (by omega), RcNeAt.str_tuple a t' pl (by omega)⟩
  | @lst p xs ds h l r ih =>
    intro A e y u v n q ru rv hd hu
    cases ru
    obtain ⟨its, rw1, pl, _⟩ := I.list h
    rw [depD] at hd
    cases q with
    | non => cases rv; exact ⟨EqAt.list_none pl.isList (by omega), RcAt.list_none pl.isList (by omega), RcNeAt.list_none pl.isList (by omega)⟩
    | bl b => cases rv; exact ⟨EqAt.list_bool b pl.isList (by omega), RcAt.list_bool b pl.isList (by omega), RcNeAt.list_bool b pl.isList (by omega)⟩
    | int b => obtain ⟨t, rfl⟩ := rv; exact ⟨EqAt.list_int b t pl.isList (by omega), RcAt.list_int b t pl.isList (by omega), RcNeAt.list_int b t pl.isList (by omega)⟩
    | str b => obtain ⟨t, rfl⟩ := rv; exact ⟨EqAt.list_str b t pl.isList (by omega), RcAt.list_str b t pl.isList (by omega), RcNeAt.list_str b t pl.isList (by omega)⟩
    | tup h' l' r' =>
      cases rv; obtain ⟨_, _, pl', _⟩ := I.tuple h'
      exact ⟨EqAt.list_tuple pl.isList pl' (by omega), RcAt.list_tuple pl.isList pl' (by omega), RcNeAt.list_tuple pl.isList pl' (by omega)⟩
    | @lst p' xs' ds' h' l' r' =>
      cases rv
      obtain ⟨its', rw2, pl', _⟩ := I.list h'
      have n1 := rw1.length
      have n2 := rw2.length
      have core : RcAt A s (.ref p) (.ref p') (eqDs ds ds') ∧ RcNeAt A s (.ref p) (.ref p') (!eqDs ds ds') := by
        by_cases hl : ds.length = ds'.length
        · have e : eqDs ds ds' = (List.range its.toArray.size).all fun i => eqD (ds.getD i .non) (ds'.getD i .non) := by
            rw [eqDs_all hl, List.size_toArray, ← n1, l]
          rw [e]
          have hz : its.toArray.size = its'.toArray.size := by simp; omega
          have he : ∀ j (h1 : j < its.toArray.size) (h2 : j < its'.toArray.size), EqAt A.in1 s its.toArray[j] its'.toArray[j] (eqD (ds.getD j .non) (ds'.getD j .non)) := fun j h1 h2 => by
            have h1' : j < its.length := by simpa using h1
            have h2' : j < its'.length := by simpa using h2
            have hx : j < xs.length := by omega
            have hx' : j < xs'.length := by omega
            have hds : j < ds.length := by omega
            have hds' : j < ds'.length := by omega
            have g1 : xs[j]? = some (xs.getD j .non) := by rw [List.getD_eq_getElem?_getD, List.getElem?_eq_getElem hx]; rfl
            have g2 : ds[j]? = some (ds.getD j .non) := by rw [List.getD_eq_getElem?_getD, List.getElem?_eq_getElem hds]; rfl
            have g3 : xs'[j]? = some (xs'.getD j .non) := by rw [List.getD_eq_getElem?_getD, List.getElem?_eq_getElem hx']; rfl
            have g4 : ds'[j]? = some (ds'.getD j .non) := by rw [List.getD_eq_getElem?_getD, List.getElem?_eq_getElem hds']; rfl
            have hn : n ≠ 0 := by omega
            exact (ih j _ _ g1 g2 (n - 1) (r' j _ _ g3 g4) (vals_at rw1 h1) (vals_at rw2 h2) (by have := dep_mem (List.mem_of_getElem? g2); omega) (by show A.units + 1 + (n - 1) < cLine; omega)).1
          exact ⟨RcAt.lists pl.isList pl'.isList hz (by omega) he, RcNeAt.lists pl.isList pl'.isList hz (by omega) he⟩
        · rw [eqDs_len hl]
          have hz : (its.toArray.size != its'.toArray.size) = true := by simp; omega
          exact ⟨RcAt.lists_lengths pl.isList pl'.isList hz (by omega), RcNeAt.lists_lengths pl.isList pl'.isList hz (by omega)⟩
      rw [eqD]
      refine ⟨?_, core⟩
      by_cases hp : p = p'
      · subst hp
        have e : Dt.lst ds = Dt.lst ds' := (Rep.lst h l r).fun I (.lst h' l' r')
        have e2 : eqDs ds ds' = true := by have := eqD_eq e; rw [eqD] at this; exact this
        rw [e2]
        exact EqAt.same _
      · exact EqAt.of_refs hp core.1
  | @tup p xs ds h l r ih =>
    intro A e y u v n q ru rv hd hu
    cases ru
    obtain ⟨its, rw1, pl, _⟩ := I.tuple h
    rw [depD] at hd
    cases q with
    | non => cases rv; exact ⟨EqAt.tuple_none pl (by omega), RcAt.tuple_none pl (by omega), RcNeAt.tuple_none pl (by omega)⟩
    | bl b => cases rv; exact ⟨EqAt.tuple_bool b pl (by omega), RcAt.tuple_bool b pl (by omega), RcNeAt.tuple_bool b pl (by omega)⟩
    | int b => obtain ⟨t, rfl⟩ := rv; exact ⟨EqAt.tuple_int b t pl (by omega), RcAt.tuple_int b t pl (by omega), RcNeAt.tuple_int b t pl (by omega)⟩
    | str b => obtain ⟨t, rfl⟩ := rv; exact ⟨EqAt.tuple_str b t pl (by omega), RcAt.tuple_str b t pl (by omega), RcNeAt.tuple_str b t pl (by omega)⟩
    | lst h' l' r' =>
      cases rv; obtain ⟨_, _, pl', _⟩ := I.list h'
      exact ⟨EqAt.tuple_list pl pl'.isList (by omega), RcAt.tuple_list pl pl'.isList (by omega), RcNeAt.tuple_list pl pl'.isList (by omega)⟩
    | @tup p' xs' ds' h' l' r' =>
      cases rv
      obtain ⟨its', rw2, pl', _⟩ := I.tuple h'
      have n1 := rw1.length
      have n2 := rw2.length
      have core : RcAt A s (.ref p) (.ref p') (eqDs ds ds') ∧ RcNeAt A s (.ref p) (.ref p') (!eqDs ds ds') := by
        have e : eqDs ds ds' = ((List.range (min its.toArray.size its'.toArray.size)).all (fun i => eqD (ds.getD i .non) (ds'.getD i .non)) && its.toArray.size == its'.toArray.size) := by
          by_cases hl : ds.length = ds'.length
          · have z1 : its.toArray.size = ds.length := by simp; omega
            have z2 : its'.toArray.size = ds.length := by simp; omega
            rw [eqDs_all hl, z1, z2, Nat.min_self, beq_self_eq_true, Bool.and_true]
          · have z : (its.toArray.size == its'.toArray.size) = false := by rw [beq_eq_false_iff_ne]; simp; omega
            rw [eqDs_len hl, z, Bool.and_false]
        rw [e]
        have he : ∀ j (h1 : j < its.toArray.size) (h2 : j < its'.toArray.size), EqAt A.in1 s its.toArray[j] its'.toArray[j] (eqD (ds.getD j .non) (ds'.getD j .non)) := fun j h1 h2 => by
          have h1' : j < its.length := by simpa using h1
          have h2' : j < its'.length := by simpa using h2
          have hx : j < xs.length := by omega
          have hx' : j < xs'.length := by omega
          have hds : j < ds.length := by omega
          have hds' : j < ds'.length := by omega
          have g1 : xs[j]? = some (xs.getD j .non) := by rw [List.getD_eq_getElem?_getD, List.getElem?_eq_getElem hx]; rfl
          have g2 : ds[j]? = some (ds.getD j .non) := by rw [List.getD_eq_getElem?_getD, List.getElem?_eq_getElem hds]; rfl
          have g3 : xs'[j]? = some (xs'.getD j .non) := by rw [List.getD_eq_getElem?_getD, List.getElem?_eq_getElem hx']; rfl
          have g4 : ds'[j]? = some (ds'.getD j .non) := by rw [List.getD_eq_getElem?_getD, List.getElem?_eq_getElem hds']; rfl
          have hn : n ≠ 0 := by omega
          exact (ih j _ _ g1 g2 (n - 1) (r' j _ _ g3 g4) (vals_at rw1 h1) (vals_at rw2 h2) (by have := dep_mem (List.mem_of_getElem? g2); omega) (by show A.units + 1 + (n - 1) < cLine; omega)).1
        exact ⟨RcAt.tuples pl pl' (by omega) he, RcNeAt.tuples pl pl' (by omega) he⟩
      rw [eqD]
      refine ⟨?_, core⟩
      by_cases hp : p = p'
      · subst hp
        have e : Dt.tup ds = Dt.tup ds' := (Rep.tup h l r).fun I (.tup h' l' r')
        have e2 : eqDs ds ds' = true := by have := eqD_eq e; rw [eqD] at this; exact this
        rw [e2]
        exact EqAt.same _
      · exact EqAt.of_refs hp core.1
end
noncomputable def rEqD (K : PySem.W.Frag) (neg : Bool) : R2 := fun x y H Q => ∃ d e, Rep K H x d ∧ Rep K H y e ∧ depD d ≤ 100 ∧ Q (.bl (if neg then !eqD d e else eqD d e)) H
section
variable {X : Cx} {K : PySem.W.Frag}
theorem op_neDK (h : X.K = K) (hu : X.A.units + 100 < cLine) : OpR X (compareOp .NotEq) (rEqD K true) := by
  subst h
  intro pins s σ H x y v u Q I rx ry h
  obtain ⟨d, e, r1, r2, hd, q⟩ := h
  exact (rc_D I r1 100 r2 rx ry hd hu).2.2 X.prog X.w X.xe _ ⟨.bl _, H, I, rfl, q⟩
end
end L2
set_option Elab.async false
set_option linter.all false
set_option maxRecDepth 100000
set_option maxHeartbeats 4000000
namespace L2
open PySem PySem.Spec PyProof.Rows
inductive SetTo : St → Nat → Option V → St → Prop where
  | z {a v : Option V} {l : St} : SetTo (a :: l) 0 v (v :: l)
  | s {a v : Option V} {l l' : St} {i : Nat} : SetTo l i v l' → SetTo (a :: l) (i + 1) v (a :: l')
theorem SetTo.eq {l l' : St} {i : Nat} {v : Option V} (h : SetTo l i v l') : l.set i v = l' := by
  induction h with
  | z => rfl
  | s _ ih => rw [List.set_cons_succ, ih]
inductive GetTo : St → Nat → V → Prop where
  | z {v : V} {l : St} : GetTo (some v :: l) 0 v
  | s {a : Option V} {v : V} {l : St} {i : Nat} : GetTo l i v → GetTo (a :: l) (i + 1) v
theorem GetTo.eq {l : St} {i : Nat} {v : V} (h : GetTo l i v) : l[i]? = some (some v) := by
  induction h with
  | z => rfl
  | s _ ih => rw [List.getElem?_cons_succ]; exact ih
section
variable {σ σ' : St} {H : Hp} {Q : VK} {D : Ends} {ta tb tc te : TE} {t u : TS} {tt tt' : TT} {r r' : R2} {x y v : V}
theorem s_start {N : List Str} {vs : List V} {t : TS} (e : start N vs = σ') (h : t D σ' H) : t D (start N vs) H := by rw [e]; exact h
theorem s_var {i : Nat} (e : GetTo σ i v) (h : Q v H) : tVar i σ H Q := ⟨v, e.eq, h⟩
theorem s_c (h : Q v H) : tC v σ H Q := h
theorem s_op (h : ta σ H fun x H1 => tb σ H1 fun y H2 => r x y H2 Q) : tOp r ta tb σ H Q := h
theorem s_un {r : V → Hp → VK → Prop} (h : ta σ H fun x H1 => r x H1 Q) : tUn r ta σ H Q := h
theorem s_rI {C : Int → Int → Prop} {g : Int → Int → V} {i j : Int} (c : C i j) (h : Q (g i j) H) : rI C g (.int i) (.int j) H Q := ⟨i, j, rfl, rfl, c, h⟩
theorem s_rI0 {g : Int → Int → V} {i j : Int} (h : Q (g i j) H) : rI0 g (.int i) (.int j) H Q := ⟨i, j, rfl, rfl, h⟩
theorem s_rU {g : Int → V} {i : Int} (h : Q (g i) H) : rU g (.int i) H Q := ⟨i, rfl, h⟩
theorem s_rEq (e : scal x y = true) (h : Q (.bl (decide (x = y))) H) : rEq x y H Q := ⟨e, h⟩
theorem s_rNe (e : scal x y = true) (h : Q (.bl (!decide (x = y))) H) : rNe x y H Q := ⟨e, h⟩
theorem s_test {Q : Bool → Hp → Prop} (h : te σ H fun x H' => ∃ k, x = .bl k ∧ Q k H') : tTest te σ H Q := h
theorem s_tB {Q : Bool → Hp → Prop} (h : te σ H fun x H' => ∃ k, x = .bl k ∧ Q k H') : tB te σ H Q := h
theorem s_and {Q : Bool → Hp → Prop} (h : tt σ H fun c H1 => if c = true then tt' σ H1 Q else Q false H1) : tAnd tt tt' σ H Q := h
theorem s_or {Q : Bool → Hp → Prop} (h : tt σ H fun c H1 => if c = true then Q true H1 else tt' σ H1 Q) : tOr tt tt' σ H Q := h
theorem s_not {Q : Bool → Hp → Prop} (h : tt σ H fun c H1 => Q (!c) H1) : tNot tt σ H Q := h
theorem s_andV (h : ta σ H fun x H1 => ∃ c, x = .bl c ∧ if c = true then tb σ H1 Q else Q (.bl false) H1) : tAndV ta tb σ H Q := h
theorem s_notV (h : ta σ H fun x H1 => ∃ c, x = .bl c ∧ Q (.bl (!c)) H1) : tNotV ta σ H Q := h
theorem s_next (h : D.nx σ H) : tNext D σ H := h
theorem s_seq (h : t { D with nx := u D } σ H) : tSeq t u D σ H := h
theorem s_drop (h : te σ H fun _ H1 => D.nx σ H1) : tDrop te D σ H := h
theorem s_ret (h : te σ H D.rt) : tRet te D σ H := h
theorem s_if (h : tt σ H fun b H1 => if b = true then t D σ H1 else u D σ H1) : tIfS tt t u D σ H := h
theorem s_asg {g : TG} (h : te σ H fun x H1 => g x σ H1 D.nx) : tAsg te g D σ H := h
theorem s_gname {i : Nat} {Q : St → Hp → Prop} (e : SetTo σ i (some v) σ') (h : Q σ' H) : gName i v σ H Q := by show Q (σ.set i (some v)) H; rw [e.eq]; exact h
theorem s_gnil {Q : St → Hp → Prop} (h : Q σ H) : gNil [] σ H Q := ⟨rfl, h⟩
theorem s_gcons {g : TG} {gs : TGs} {vs : List V} {Q : St → Hp → Prop} (h : g v σ H fun σ' H' => gs vs σ' H' Q) : gCons g gs (v :: vs) σ H Q := ⟨v, vs, rfl, h⟩
theorem s_gtup {K : PySem.W.Frag} {n : Nat} {gs : TGs} {p : Addr} {xs : List V} {Q : St → Hp → Prop} (e : SqT K H p xs) (l : xs.length = n) (h : gs xs σ H Q) : gTup K n gs (.ref p) σ H Q := ⟨p, xs, rfl, e, l, h⟩
theorem s_nil {Q : List V → Hp → Prop} (h : Q [] H) : tNil σ H Q := h
theorem s_cons {tr : TA} {Q : List V → Hp → Prop} (h : ta σ H fun x H1 => tr σ H1 fun xs H2 => Q (x :: xs) H2) : tCons ta tr σ H Q := h
noncomputable def NewT (Q : VK) (xs : List V) (H : Hp) : Prop := xs.length ≤ sizeLine ∧ ∀ p, H p = none → Q (.ref p) (upd H p (.tup xs))
noncomputable def NewL (Q : VK) (xs : List V) (H : Hp) : Prop := xs.length ≤ sizeLine ∧ ∀ p, H p = none → Q (.ref p) (upd H p (.lst xs))
theorem s_tup {tr : TA} (h : tr σ H (NewT Q)) : tTup tr σ H Q := h
theorem s_lst {tr : TA} (h : tr σ H (NewL Q)) : tLst tr σ H Q := h
theorem same_new {H : Hp} {D : Addr} {o : HO} (h : H D = none) : Same H (upd H D o) := fun b u e => by rw [upd_ne (ne_of_none e h)]; exact e
theorem s_alloc {o : HO} (h : ∀ p H2, H p = none → Same H H2 → H2 p = some o → Q (.ref p) H2) : ∀ p, H p = none → Q (.ref p) (upd H p o) := fun p hp => h p _ hp (same_new hp) upd_same
theorem Same.get {H H' : Hp} (e : Same H H') {b : Addr} {o : HO} (h : H b = some o) : H' b = some o := e b o h
theorem s_newT {xs : List V} (l : xs.length ≤ sizeLine) (h : ∀ p H2, H p = none → Same H H2 → H2 p = some (.tup xs) → Q (.ref p) H2) : NewT Q xs H := ⟨l, s_alloc h⟩
theorem s_newL {xs : List V} (l : xs.length ≤ sizeLine) (h : ∀ p H2, H p = none → Same H H2 → H2 p = some (.lst xs) → Q (.ref p) H2) : NewL Q xs H := ⟨l, s_alloc h⟩
theorem s_call0 {sp : Sp} {E : XK} {tr : TA} (h : tr σ H fun vs H1 => sp vs H1 Q E) : tCall sp [] E tr σ H Q := by unfold tCall; simp only [List.append_nil]; exact h
theorem s_cb {r : List V → Hp → VK → Prop} {tr : TA} (h : tr σ H fun vs H1 => r vs H1 Q) : tCB r tr σ H Q := h
theorem s_noPart {Q : Option Int → Hp → Prop} (h : Q none H) : tNoPart σ H Q := h
theorem s_part {Q : Option Int → Hp → Prop} (h : te σ H fun x H1 => ∃ i, x = .int i ∧ Q (some i) H1) : tPart te σ H Q := h
theorem s_sl {r : V → Option Int → Option Int → Hp → VK → Prop} {tl th : TO} (h : te σ H fun x H1 => tl σ H1 fun l H2 => th σ H2 fun u H3 => r x l u H3 Q) : tSl r te tl th σ H Q := h
theorem s_slL {K : PySem.W.Frag} {p : Addr} {xs : List V} {lo hi : Option Int} (e : SqL K H p xs) (h : ∀ q H2, H q = none → Same H H2 → H2 q = some (.lst (cutV xs lo hi)) → Q (.ref q) H2) : rSlL K (.ref p) lo hi H Q := ⟨p, xs, rfl, e, s_alloc h⟩
theorem s_ixL {K : PySem.W.Frag} {p : Addr} {xs : List V} {i : Int} (e : SqL K H p xs) (a : atI xs i = some v) (h : Q v H) : rIxL K (.ref p) (.int i) H Q := ⟨p, xs, i, v, rfl, rfl, e, a, h⟩
theorem s_ixT {K : PySem.W.Frag} {p : Addr} {xs : List V} {i : Int} (e : SqT K H p xs) (a : atI xs i = some v) (h : Q v H) : rIxT K (.ref p) (.int i) H Q := ⟨p, xs, i, v, rfl, rfl, e, a, h⟩
theorem s_ixS {z : Str} {i : Int} {c : Nat} (e : z.length ≤ sizeLine) (a : atI z.cps.toList i = some c) (h : Q (.str ⟨#[c]⟩) H) : rIxS (.str z) (.int i) H Q := ⟨z, i, c, rfl, rfl, e, a, h⟩
theorem s_bm0 {K : PySem.W.Frag} {T : String} {r : V → List V → Hp → VK → Prop} (h : te σ H fun x H1 => tyV K T x H1 ∧ r x [] H1 Q) : tBM0 K T r te σ H Q := h
theorem s_bm {K : PySem.W.Frag} {T : String} {r : V → List V → Hp → VK → Prop} {tr : TA} (h : te σ H fun x H1 => tyV K T x H1 ∧ tr σ H1 fun xs H2 => r x xs H2 Q) : tBM K T r te tr σ H Q := h
theorem le_line {n : Nat} (h : n ≤ 1000) : n ≤ sizeLine := Nat.le_of_lt (small1000 h)
theorem s_eqD {K : PySem.W.Frag} {neg : Bool} {d e : Dt} (r1 : Rep K H x d) (r2 : Rep K H y e) (hd : depD d ≤ 100) (h : Q (.bl (if neg then !eqD d e else eqD d e)) H) : rEqD K neg x y H Q := ⟨d, e, r1, r2, hd, h⟩
theorem s_ty {K : PySem.W.Frag} {T : String} {A : Prop} (e : tyV K T x H) (h : A) : tyV K T x H ∧ A := ⟨e, h⟩
theorem s_bits {i : Int} (h : Q (.int (Builtin.Int.intBits i : Nat)) H) : rBits (.int i) [] H Q := ⟨i, rfl, rfl, h⟩
theorem s_lenL {K : PySem.W.Frag} {p : Addr} {xs : List V} (e : SqL K H p xs) (h : Q (.int xs.length) H) : rLen K [.ref p] H Q := ⟨_, _, rfl, .inl ⟨xs, e, rfl⟩, h⟩
theorem s_lenS {K : PySem.W.Frag} {z : Str} (e : z.length ≤ sizeLine) (h : Q (.int z.length) H) : rLen K [.str z] H Q := ⟨_, _, rfl, ⟨e, rfl⟩, h⟩
theorem s_isi {K : PySem.W.Frag} {T k : String} (e : kindV K H x k) (m : T ∈ ["int", "bool", "str", "list", "tuple", "dict"]) (h : Q (.bl (subB k T)) H) : rIsi K [x, .ty T] H Q := ⟨x, k, T, rfl, e, m, h⟩
theorem s_dnew (h : ∀ p H2, H p = none → Same H H2 → H2 p = some (.dK []) → Q (.ref p) H2) : tDNewK σ H Q := s_alloc h
theorem s_for {wi : TI} {g : TG} {tb : TS} (h : wi σ H fun J H1 => ∃ W : Nat → Nat → St → Hp → Prop, (∃ m, W 0 m σ H1) ∧ ∀ i m σ H, W i m σ H → (J.stop i H ∧ D.nx σ H) ∨ (J.go i H ∧ ∃ N : St → Hp → Prop, (∀ σ' H', N σ' H' → ∃ m', m' < m ∧ W (i + 1) m' σ' H') ∧ ∀ x H', J.yld i H x H' → g x σ H' fun σ2 H2 => tb { D with nx := N, ct := N, bk := D.nx } σ2 H2)) : tFor wi g tb D σ H := h
theorem s_iList {K : PySem.W.Frag} {R : It → Hp → Prop} (h : te σ H fun x H1 => ∃ a, x = .ref a ∧ (∃ xs, SqL K H1 a xs) ∧ R (Itl K a) H1) : iList K te σ H R := h
theorem s_iTup {K : PySem.W.Frag} {R : It → Hp → Prop} (h : te σ H fun x H1 => ∃ a, x = .ref a ∧ (∃ xs, SqT K H1 a xs) ∧ R (Itt K a) H1) : iTup K te σ H R := h
theorem s_iStr {R : It → Hp → Prop} (h : te σ H fun x H1 => ∃ z, x = .str z ∧ R (Its z) H1) : iStr te σ H R := h
theorem s_rng1 {tr : TA} {R : It → Hp → Prop} (h : tr σ H fun vs H1 => ∃ j : Int, vs = [.int j] ∧ -(2 ^ 62) ≤ j ∧ j < 2 ^ 62 ∧ R (Itr 0 j.toNat) H1) : iRng1 tr σ H R := h
theorem s_yes {Q : Bool → Hp → Prop} (h : Q true H) : tYes σ H Q := h
theorem s_true {A B : Prop} (h : A) : if true = true then A else B := by rw [if_pos rfl]; exact h
theorem s_false {A B : Prop} (h : B) : if false = true then A else B := by rw [if_neg Bool.false_ne_true]; exact h
theorem s_ifT {c : Bool} {A B : Prop} (e : c = true) (h : A) : if c = true then A else B := by rw [if_pos e]; exact h
theorem s_ifF {c : Bool} {A B : Prop} (e : c = false) (h : B) : if c = true then A else B := by rw [e, if_neg Bool.false_ne_true]; exact h
theorem s_comp {n : Nat} {fx : List Nat} {wi : TI} {g : TG} (h : wi σ H fun J H1 => ∀ D, H1 D = none →
  ∃ W : Nat → Nat → List V → Hp → Prop, (∃ m, W 0 m [] (upd H1 D (.lst []))) ∧ ∀ i m ys H2, W i m ys H2 → (J.stop i H2 ∧ Q (.ref D) H2) ∨
    (J.go i H2 ∧ ∃ N : List V → Hp → Prop, (∀ ys' H', N ys' H' → ∃ m', m' < m ∧ W (i + 1) m' ys' H') ∧ ∀ x H3, J.yld i H2 x H3 → g x (compSt n fx σ) H3 fun σ4 H4 => tt σ4 H4 fun b H5 =>
      if b = true then te σ4 H5 fun v H6 => H6 D = some (.lst ys) ∧ ys.length < sizeLine ∧ N (ys ++ [v]) (upd H6 D (.lst (ys ++ [v]))) else N ys H5)) : tComp n fx wi g tt te σ H Q := h
theorem s_allB {K : PySem.W.Frag} {p : Addr} {bs : List Bool} (e : SqL K H p (bs.map V.bl)) (h : Q (.bl (bs.all id)) H) : rAllB K [.ref p] H Q := ⟨p, bs, rfl, e, h⟩
theorem s_anyB {K : PySem.W.Frag} {p : Addr} {bs : List Bool} (e : SqL K H p (bs.map V.bl)) (h : Q (.bl (bs.any id)) H) : rAnyB K [.ref p] H Q := ⟨p, bs, rfl, e, h⟩
theorem s_bounds {j : Int} {A : Prop} (h1 : -(2 ^ 62) ≤ j) (h2 : j < 2 ^ 62) (h : A) : -(2 ^ 62) ≤ j ∧ j < 2 ^ 62 ∧ A := ⟨h1, h2, h⟩
end
noncomputable def tCut (t u : TS) : TS := fun D σ H => ∃ P : St → Hp → Prop, t { D with nx := P } σ H ∧ ∀ σ' H', P σ' H' → u D σ' H'
theorem pss_cut {X : Cx} {st : Stmt} {rest : List Stmt} {t u : TS} (h1 : PS X st t) (h2 : PSs X rest u) : PSs X (st :: rest) (tCut t u) := by
  intro pins s σ H D I ⟨P, a, b⟩
  refine wpAny_execs_cons (thn (h1 pins s σ H { D with nx := P } I a) fun f s1 q => ?_)
  cases f with
  | next => obtain ⟨σ1, H1, I1, q1⟩ := q; exact h2 pins s1 σ1 H1 D I1 (b σ1 H1 q1)
  | brk => exact q
  | cont => exact q
  | ret v => exact q
theorem s_cut {t u : TS} {D : Ends} {σ : St} {H : Hp} (P : St → Hp → Prop) (h : t { D with nx := P } σ H) (k : ∀ σ' H', P σ' H' → u D σ' H') : tCut t u D σ H := ⟨P, h, k⟩
section
variable {K : PySem.W.Frag} {n : Nat} {fx : List Nat} {g : TG} {tc : TT} {te : TE} {σ : St} {H1 : Hp} {D : Addr} {Q : Hp → Prop}
structure Cs (Pv : Nat → List V → Prop) (H1 : Hp) (D : Addr) (i : Nat) (ys : List V) (H : Hp) : Prop where
  pv : Pv i ys
  same : Same H1 H
  at' : H D = some (.lst ys)
  len : ys.length ≤ i
theorem Cs.put {Pv : Nat → List V → Prop} {i : Nat} {ys : List V} {v : V} {H6 : Hp} (f : H1 D = none) (s : Same H1 H6) (e : H6 D = some (.lst ys)) (l : ys.length ≤ i) (hi : i < 16777216) (p : Pv (i + 1) (ys ++ [v])) :
    H6 D = some (.lst ys) ∧ ys.length < sizeLine ∧ Cs Pv H1 D (i + 1) (ys ++ [v]) (upd H6 D (.lst (ys ++ [v]))) :=
  ⟨e, by rw [sizeLine_eq]; omega, p, fun b o h => by rw [upd_ne (ne_of_none h f)]; exact s b o h, upd_same, by rw [List.length_append]; simpa using l⟩
theorem Cs.zero {Pv : Nat → List V → Prop} (f : H1 D = none) (p : Pv 0 []) : Cs Pv H1 D 0 [] (upd H1 D (.lst [])) := ⟨p, same_new f, upd_same, Nat.le_refl _⟩
end
end L2
set_option Elab.async false
set_option linter.all false
set_option maxRecDepth 100000
set_option maxHeartbeats 4000000
namespace L2
open PySem PySem.Spec PyProof.Rows
structure ClsDef (K : PySem.W.Frag) (C : Addr) (m : Str) (f : Addr) : Prop where
  ga : PySem.W.specialIn K (.ref C) "__getattribute__" = some (some (.builtin "type.__getattribute__"))
  rd : PySem.W.readsIn K C (.type "type") = true
  fd : PySem.W.findCls K (.ref C) (.type "type") m = some (.val (.ref f))
  hd : PySem.W.handedIn (.ref f) = true
  kp : PySem.W.keepIn K (.ref f) = true
section
variable {X : Cx} {CX : CXT} {k : Nat} {f C : Addr} {fd : FuncData} {ps : List Str} {sp : Sp} {dvs : List V} {ds : List Value} {E : XK} {x m : Str} {p pos apos : Pos} {e o : Expr} {es : List Expr} {ta : TE} {t : TA}
theorem pe_clsdef {pl : Sem Bool} (hg : Gl X x) (hx : X.mg x = some (.ref C)) (c : ClsDef X.K C m f) (F : FnOk X.prog X.w X.K X.mg X.base CX k f fd ps sp) (hr : Room k X.A) (hb : Binds X.K fd ps ds) (hd : Vals dvs ds) (hpass : Passes CX X E) (ha : PA X (e :: es) t)
    (hdb : (x == ("__debug__" : Str)) = false := by decide) (hst : starEach (e :: es) X.env = (false, eval e X.env) :: starEach es X.env := by rfl) (hpl : (backTo pos (starEach es X.env)).any (·.1) = false := by rfl)
    (ht : eval (.Call (.Attribute (.Name x p) m apos) (e :: es) [] pos) X.env = (do
      let ov ← eval (.Name x p) X.env
      standAt apos.atName
      let (f, first) ← holding [ov] (getMethod ov m pl)
      callWith pos f first (backTo pos (starEach (e :: es) X.env)) (backToKw pos (keywordEach [] X.env))) := by rfl) :
    PE X (.Call (.Attribute (.Name x p) m apos) (e :: es) [] pos) (tCall sp dvs E t) := by
  intro pins s σ H Q I h
  refine PySem.W.methodCall_KW (pl := pl) (ld_glob I hg hx ?_ hdb) ht
  refine PySem.W.method_cls I.kIn c.ga (PySem.W.cls_value I.kIn c.rd c.fd c.hd ?_)
  have I1 := I.tok (s.toks + 1)
  refine PySem.W.callWith_K (first := []) (h₀ := X.base) I1.ok.mod.kin c.kp (thn (ha pos pins _ σ H _ I1 h) fun us s2 ⟨vs, H2, I2, r, q2⟩ => ⟨I2.kIn, ?_⟩) hst hpl
  exact run_fn (us := us) (vs := vs) F hr hb hd hpass I2 r q2
end
structure IsiOk (K : PySem.W.Frag) (D : Addr) : Prop where
  cls : Cls K D
  ha : PySem.W.findIn K (.ref D) "__class__" = some (some (.builtin "object.__class__"))
  hn : PySem.W.specialIn K (.builtin "object.__class__") "__get__" = some (some (.builtin "getset_descriptor.__get__"))
  tk : PySem.W.takesIn K (.builtin "object.__class__") = some true
  hm : PySem.W.mroIn K D (.type "object") = some true
section
variable {X : Cx} {K : PySem.W.Frag}
theorem pe_fldK {e : Expr} {ta : TE} {f : Str} {pos : Pos} (h : X.K = K) (he : PE X e ta) (hb : attributeBase e f X.env (eval e X.env) = eval e X.env) : PE X (.Attribute e f pos) (tFld K ta f) := by subst h; exact pe_fld he hb
theorem ps_fldK {o value : Expr} {ta tv : TE} {f : Str} {pos pos' : Pos} (h : X.K = K) (ha : PE X o ta) (hv : PE X value tv) (hs : swapsWith value (some (.Attribute o f pos')) pos.line X.env = pure false) : PS X (.Assign [.Attribute o f pos'] value pos) (sFld K ta tv f) := by subst h; exact ps_fld ha hv hs
theorem PE.or {e : Expr} {t u : TE} (h : PE X e t) (h' : PE X e u) : PE X e (fun σ H Q => t σ H Q ∨ u σ H Q) := by
  intro pins s σ H Q I q
  rcases q with q | q
  · exact h pins s σ H Q I q
  · exact h' pins s σ H Q I q
end
section
variable {σ : St} {H : Hp} {Q : VK} {D : Ends} {te tv ta : TE} {x y v : V}
noncomputable def FldAt (K : PySem.W.Frag) (f : Str) (Q : VK) (x : V) (H : Hp) : Prop := ∃ a C dx fs v, x = .ref a ∧ H a = some (.ins C dx fs) ∧ Cls K C ∧ NoAttr K C f ∧ fs.lookup f = some v ∧ Q v H
theorem s_fld {K : PySem.W.Frag} {f : Str} (h : te σ H (FldAt K f Q)) : tFld K te f σ H Q := h
theorem s_fldAt {K : PySem.W.Frag} {f : Str} {p C dx : Addr} {fs : List (Str × V)} (e : H p = some (.ins C dx fs)) (c : Cls K C) (n : NoAttr K C f) (l : fs.lookup f = some v) (h : Q v H) : FldAt K f Q (.ref p) H := ⟨p, C, dx, fs, v, rfl, e, c, n, l, h⟩
structure Upd (H H' : Hp) (p : Addr) (o : HO) : Prop where
  at' : H' p = some o
  oth : ∀ b u, b ≠ p → H b = some u → H' b = some u
  non : ∀ b, b ≠ p → H b = none → H' b = none
theorem Upd.of {H : Hp} {p : Addr} {o : HO} : Upd H (upd H p o) p o := ⟨upd_same, fun b u n h => by rw [upd_ne n]; exact h, fun b n h => by rw [upd_ne n]; exact h⟩
noncomputable def SetAt (K : PySem.W.Frag) (f : Str) (y : V) (D : Ends) (σ : St) (x : V) (H : Hp) : Prop := ∃ a C dx fs, x = .ref a ∧ H a = some (.ins C dx fs) ∧ Cls K C ∧ NoAttr K C f ∧ fs.length < 1000 ∧ D.nx σ (upd H a (.ins C dx (putF f y fs)))
theorem s_setfld {K : PySem.W.Frag} {f : Str} (h : tv σ H fun y H1 => te σ H1 (SetAt K f y D σ)) : sFld K te tv f D σ H := h
theorem s_setAt {K : PySem.W.Frag} {f : Str} {p C dx : Addr} {fs fs' : List (Str × V)} (e : H p = some (.ins C dx fs)) (c : Cls K C) (n : NoAttr K C f) (l : fs.length < 1000) (ef : putF f y fs = fs') (h : ∀ H2, Upd H H2 p (.ins C dx fs') → D.nx σ H2) :
    SetAt K f y D σ (.ref p) H := ⟨p, C, dx, fs, rfl, e, c, n, l, by rw [ef]; exact h _ Upd.of⟩
noncomputable def MakeAt (C : Addr) (sp : Sp) (E : XK) (Q : VK) (vs : List V) (H : Hp) : Prop := ∀ x dx, H x = none → H dx = none → dx ≠ x → sp (.ref x :: (vs ++ [])) (upd (upd H dx (.own x)) x (.ins C dx [])) (fun v H2 => v = .non ∧ Q (.ref x) H2) E
theorem s_make {C : Addr} {sp : Sp} {E : XK} {tr : TA} (h : tr σ H (MakeAt C sp E Q)) : tMake C sp [] E tr σ H Q := h
theorem s_makeAt {C : Addr} {sp : Sp} {E : XK} {vs : List V} (h : ∀ x dx H2, H x = none → Same H H2 → H2 x = some (.ins C dx []) → sp (.ref x :: vs) H2 (fun v H2 => v = .non ∧ Q (.ref x) H2) E) : MakeAt C sp E Q vs H := by
  intro x dx f1 f2 n
  rw [List.append_nil]
  exact h x dx _ f1 (fun b o e => by rw [upd_ne (ne_of_none e f1), upd_ne (ne_of_none e f2)]; exact e) upd_same
theorem Upd.trans {H2 H3 : Hp} {p : Addr} {o o' : HO} (u : Upd H H2 p o) (w : Upd H2 H3 p o') : Upd H H3 p o' := ⟨w.at', fun b q n e => w.oth b q n (u.oth b q n e), fun b n e => w.non b n (u.non b n e)⟩
end
end L2
set_option Elab.async false
set_option linter.all false
set_option maxRecDepth 100000
set_option maxHeartbeats 4000000
namespace L2
open PySem PySem.Spec PyProof.Rows
theorem Inv.laidCh {X : Cx} {pins : List (Addr × Obj)} {σ : St} {H : Hp} {s : Shared} {h' : Heap} {a : Addr} {o : HO} {t' : Nat} {ch : List Addr} (I : Inv X pins σ H s) (k : ∀ b u, b ∉ ch → s.heap.get? b = some u → h'.get? b = some u) (hp : s.heap.objs.size ≤ a)
    (new : ObjOk X.prog X.w (upd H a o) h' a o) (fp : ∀ b ∈ ch, FpOk X pins H b) : Inv X pins σ (upd H a o) { s with heap := h', toks := t' } := by
  have fr : H a = none := I.hok.fresh hp
  have nit : ∀ b u, H b = some u → b ∉ ch := fun b u e z => by rw [(fp b z).1] at e; cases e
  refine I.step (g' := s.gens) (d' := s.drawn) (ch := ch) (fun b hb => ?_) (fun b ob _ _ hc e _ => k b ob hc e) (fun b ob _ _ hc e _ => ⟨ob.slots, k b ob hc e⟩) (fun b ob _ e n => ?_) (fun b ob hc e => ⟨ob, k b ob hc e⟩)
    (fun b xs e => by rw [upd_ne (ne_of_none e fr)]; exact e) (fun b ob u e => by rw [upd_ne (ne_of_none e fr)]; exact e) (fun b ps e => ⟨#[], by rw [upd_ne (ne_of_none e fr), e]; simp⟩) (fun m hm => ?_) (fun b u e => ?_) I.bare
  · obtain ⟨f0, f1, f2, f3, f4, f5⟩ := fp b hb
    exact ⟨f3, f1, f4, f5⟩
  · rw [upd_ne (Nat.ne_of_lt (Nat.lt_of_lt_of_le (Heap.lt_size e) hp))]; exact n
  · obtain ⟨ob, es, ep, ho, r⟩ := hm
    exact ⟨ob, es, ep, k _ ob (fun z => (fp _ z).2.1 rfl) ho, r⟩
  · by_cases hb : b = a
    · subst hb; rw [upd_same] at e; cases e; exact new
    · rw [upd_ne hb] at e
      refine (I.hok b u e).stay (fun c v hc q => k c v ?_ q) (fun c q => by rw [upd_ne (ne_of_none q fr)]; exact q) fun c xs q => by rw [upd_ne (ne_of_none q fr)]; exact q
      rcases hc with z | z
      · rw [z]; exact nit b u e
      · exact nit c _ z
theorem Inv.turnedCh {X : Cx} {pins : List (Addr × Obj)} {σ : St} {H : Hp} {s : Shared} {h' : Heap} {t' : Nat} {ch : List Addr} (I : Inv X pins σ H s) (k : ∀ b u, b ∉ ch → s.heap.get? b = some u → h'.get? b = some u)
    (fp : ∀ b ∈ ch, FpOk X pins H b) : Inv X pins σ H { s with heap := h', toks := t' } := by
  have nit : ∀ b u, H b = some u → b ∉ ch := fun b u e z => by rw [(fp b z).1] at e; cases e
  refine I.step (g' := s.gens) (d' := s.drawn) (ch := ch) (fun b hb => ?_) (fun b ob _ _ hc e _ => k b ob hc e) (fun b ob _ _ hc e _ => ⟨ob.slots, k b ob hc e⟩) (fun b ob _ e n => n) (fun b ob hc e => ⟨ob, k b ob hc e⟩)
    (fun b xs e => e) (fun b ob u e => e) (fun b ps e => ⟨#[], by rw [e]; simp⟩) (fun m hm => ?_) (fun b u e => ?_) I.bare
  · obtain ⟨f0, f1, f2, f3, f4, f5⟩ := fp b hb
    exact ⟨f3, f1, f4, f5⟩
  · obtain ⟨ob, es, ep, ho, r⟩ := hm
    exact ⟨ob, es, ep, k _ ob (fun z => (fp _ z).2.1 rfl) ho, r⟩
  · refine (I.hok b u e).stay (fun c v hc q => k c v ?_ q) (fun c q => q) fun c xs q => q
    rcases hc with z | z
    · rw [z]; exact nit b u e
    · exact nit c _ z
noncomputable def Ite (K : PySem.W.Frag) (a : Addr) : It :=
  ⟨fun i H => ∃ xs x, SqL K H a xs ∧ xs[i]? = some x, fun i H x H' => ∃ p v, H p = none ∧ x = .ref p ∧ H' = upd H p (.tup [.int i, v]) ∧ ∀ xs, SqL K H a xs → xs[i]? = some v, fun i H => ∃ xs, SqL K H a xs ∧ xs.length = i⟩
theorem two_le : (2 : Nat) ≤ sizeLine := by rw [sizeLine_eq]; decide
theorem turn_enumL {P : Program} {w : World} {K : PySem.W.Frag} {elts : List Expr} {k : Nat} {pos : Pos} (a e it : Addr) (hei : e ≠ it) :
    Turn P w K (.Tuple elts k pos) (Ite K a) [e, it] e (fun i h => (∃ old, IsEnum h e it i old) ∧ h.IsListIter it a i) where
  mem := by simp
  obj := fun i h st b hb => by
    obtain ⟨⟨old, he⟩, ⟨o, ho, hc, hd⟩⟩ := st
    rcases List.mem_cons.mp hb with z | z
    · subst z; exact ⟨_, he, fun v z => by cases z⟩
    · rw [List.mem_singleton.mp z]; exact ⟨o, ho, fun v z => by rw [hd] at z; cases z⟩
  keep := fun i h h' st k => ⟨let ⟨old, he⟩ := st.1; ⟨old, k e (by simp) _ he⟩, st.2.at fun o z => k it (by simp) o z⟩
  item := by
    intro X hP hw hK hc i pins s σ H E I hf st hg
    subst hP hw hK
    obtain ⟨xs, x, hq, hx⟩ := hg
    obtain ⟨its, rv, p, hz⟩ := I.list hq
    obtain ⟨⟨old, he⟩, hl⟩ := st
    have hai : a ≠ it := fun z => by
      obtain ⟨o, ho, hcl, _⟩ := hl
      obtain ⟨o', n, ho', hcl', _⟩ := p
      rw [z, ho] at ho'; cases ho'; rw [hcl] at hcl'; exact absurd hcl' (by decide)
    have hae : a ≠ e := fun z => by
      obtain ⟨o', n, ho', hcl', _⟩ := p
      rw [z, he] at ho'; cases ho'; exact absurd (show Value.type "enumerate" = .type "list" from hcl') (by decide)
    have W := WalksT.enumerateD (prog := X.prog) (w := X.w) (A := X.A) (Draws.list (A := X.A.in1) (I.ok.hd hc) it a hai its.toArray) e hei (by simp [hei, Ne.symm hae]) (by simp)
    have hi : i < its.toArray.size := by have := rv.length; have := (List.getElem?_eq_some_iff.mp hx).1; simp; omega
    refine W.item i s _ _ hi ⟨⟨old, he⟩, hl, p.isList⟩ fun T vals h' tk hPt hT htup hmid hk => ⟨_, rfl, W.go elts k pos i T _ _ _ hmid fun h'' hst hk2 => ?_⟩
    obtain ⟨t, x', hx', rfl⟩ := hPt
    have hap := W.apart i T h' hmid
    have ru : RelV x x' := by
      obtain ⟨u, hu, r⟩ := rv.get hx
      have hx'' : its[i]? = some x' := by simpa using hx'
      rw [hu] at hx''; cases hx''; exact r
    have kk : ∀ b u, b ∉ [e, it] → s.heap.get? b = some u → h''.get? b = some u := fun b u hb q => hk2 b u hb (hk b u hb q)
    have fr : H T = none := I.hok.fresh hT
    refine ⟨.ref T, upd H T (.tup [.int i, x]), I.laidCh (t' := tk) kk hT ⟨two_le, [.int i t, x'], .cons ⟨t, rfl⟩ (.cons ru .nil), ?_⟩ hf, rfl, ⟨T, x, fr, rfl, rfl, fun ys hy => by rw [I.list_inj hy hq]; exact hx⟩, ⟨hst.1, hst.2.1⟩, fun b hb => ?_⟩
    · obtain ⟨o, ho, r⟩ := htup
      exact ⟨o, hk2 T o hap ho, r⟩
    · have fb := (hf b hb)
      rw [upd_ne (fun z => ?_)]
      · exact fb.1
      · have lt : b < s.heap.objs.size := by
          rcases List.mem_cons.mp hb with z | z
          · subst z; exact Heap.lt_size he
          · rw [List.mem_singleton.mp z]; obtain ⟨o, ho, _⟩ := hl; exact Heap.lt_size ho
        rw [z] at lt
        exact absurd (Nat.lt_of_lt_of_le lt hT) (Nat.lt_irrefl _)
  done := by
    intro X hP hw hK hc i pins s σ H E I hf st hg
    subst hP hw hK
    obtain ⟨xs, hq, hx⟩ := hg
    obtain ⟨its, rv, p, hz⟩ := I.list hq
    obtain ⟨⟨old, he⟩, hl⟩ := st
    have hai : a ≠ it := fun z => by
      obtain ⟨o, ho, hcl, _⟩ := hl
      obtain ⟨o', n, ho', hcl', _⟩ := p
      rw [z, ho] at ho'; cases ho'; rw [hcl] at hcl'; exact absurd hcl' (by decide)
    have hae : a ≠ e := fun z => by
      obtain ⟨o', n, ho', hcl', _⟩ := p
      rw [z, he] at ho'; cases ho'; exact absurd (show Value.type "enumerate" = .type "list" from hcl') (by decide)
    have W := WalksT.enumerateD (prog := X.prog) (w := X.w) (A := X.A) (Draws.list (A := X.A.in1) (I.ok.hd hc) it a hai its.toArray) e hei (by simp [hei, Ne.symm hae]) (by simp)
    have hn : its.toArray.size = i := by have := rv.length; simp; omega
    subst hn
    exact W.done s _ _ ⟨⟨old, he⟩, hl, p.isList⟩ fun h' tk hk => ⟨rfl, I.turnedCh hk hf⟩
  self := fun _ _ _ _ _ st h => let ⟨_, he⟩ := st.1; wpAny_pyIter_enum he h
theorem for_enum {K : PySem.W.Frag} {a : Addr} {xs : List V} {g : TG} {tb : TS} {D : Ends} {σ : St} {H : Hp} (Pv : Nat → St → Hp → Prop) (h0 : Pv 0 σ H) (hl : ∀ i σ H, i ≤ xs.length → Pv i σ H → SqL K H a xs)
    (hs : ∀ i x σ H p H', xs[i]? = some x → Pv i σ H → H p = none → Same H H' → H' p = some (.tup [.int i, x]) → g (.ref p) σ H' fun σ2 H2 => tb { D with nx := Pv (i + 1), ct := Pv (i + 1), bk := D.nx } σ2 H2) (hd : ∀ σ H, Pv xs.length σ H → D.nx σ H) :
    ∃ W : Nat → Nat → St → Hp → Prop, (∃ m, W 0 m σ H) ∧ ∀ i m σ H, W i m σ H →
      ((Ite K a).stop i H ∧ D.nx σ H) ∨ ((Ite K a).go i H ∧ ∃ N : St → Hp → Prop, (∀ σ' H', N σ' H' → ∃ m', m' < m ∧ W (i + 1) m' σ' H') ∧ ∀ x H', (Ite K a).yld i H x H' → g x σ H' fun σ2 H2 => tb { D with nx := N, ct := N, bk := D.nx } σ2 H2) := by
  refine ⟨fun i m σ H => m = xs.length - i ∧ i ≤ xs.length ∧ Pv i σ H, ⟨xs.length, by simp, Nat.zero_le _, h0⟩, ?_⟩
  rintro i m σ H ⟨rfl, hi, p⟩
  have q := hl i σ H hi p
  by_cases hlt : i < xs.length
  · refine .inr ⟨⟨xs, xs[i], q, by simp [hlt]⟩, Pv (i + 1), fun σ' H' p' => ⟨xs.length - (i + 1), by omega, rfl, hlt, p'⟩, fun x H' y => ?_⟩
    obtain ⟨r, v, f, e1, e2, y⟩ := y
    subst e1 e2
    exact hs i v σ H r _ (y xs q) p f (same_new f) upd_same
  · have e : i = xs.length := by omega
    subst e
    exact .inl ⟨⟨xs, q, rfl⟩, hd σ H p⟩
end L2
set_option Elab.async false
set_option linter.all false
set_option maxRecDepth 100000
set_option maxHeartbeats 4000000
namespace L2
open PySem PySem.Spec PyProof.Rows
noncomputable def rSplit : V → List V → Hp → VK → Prop := fun x xs H Q => ∃ z y, x = .str z ∧ xs = [.str y] ∧ y.length ≠ 0 ∧ z.length + 2 ≤ sizeLine ∧ ∀ D, H D = none → Q (.ref D) (upd H D (.lst ((Txt.split z y).map V.str)))
theorem vals_from : ∀ (ss : List Str) (n : Nat), Vals (ss.map V.str) (strsFrom n ss)
  | [], _ => .nil
  | x :: r, n => .cons ⟨n, rfl⟩ (vals_from r (n + 1))
section
variable {X : Cx}
theorem mt_split : MtR X "str.split" rSplit := by
  intro pins s σ H x xs v us Q I rx rs h
  obtain ⟨z, y, rfl, rfl, hy, hz, q⟩ := h
  obtain ⟨t, rfl⟩ := rx
  obtain ⟨u, rfl, ru⟩ := vals1 rs
  obtain ⟨t', rfl⟩ := ru
  have hy : (y.length == 0) = false := beq_eq_false_iff_ne.mpr hy
  have hle := split_le z y
  have fr := I.hok.fresh (Nat.le_refl s.heap.objs.size)
  have itself : Txt.split z y = [z] → EP X pins σ Q (.ref s.heap.objs.size) { s with heap := s.heap.push { cls := .type "list", data := .seq [Value.str z t].toArray } } := fun e =>
    ⟨.ref s.heap.objs.size, _, I.laid (t' := s.toks) (o := .lst ((Txt.split z y).map V.str)) (fun b o e => Heap.get?_push_of_some _ e) (Nat.le_refl _) ⟨by rw [List.length_map]; omega, [.str z t], 0, by rw [e]; exact .cons ⟨t, rfl⟩ .nil, Heap.get?_push_size _ rfl⟩, rfl, q _ fr⟩
  cases h1 : (decide (z.length < y.length) || decide (Builtin.Str.strKind z < Builtin.Str.strKind y)) with
  | true => exact call_meets F.slot_str_split (typeIs_str _ _ _) F.entry_str_split (F.args_str_split_2 _ _) (meets_str_split_cannot_occur z y t t' h1) (itself (if_pos h1))
  | false =>
    cases hf : (Builtin.Str.occurrences z y 0 z.length (z.length + 1)).isEmpty with
    | true => exact call_meets F.slot_str_split (typeIs_str _ _ _) F.entry_str_split (F.args_str_split_2 _ _) (meets_str_split_not_found z y t t' h1 hy hf) (itself ((if_neg (ne_true_of_eq_false h1)).trans (if_pos hf)))
    | false =>
      have e : Txt.split z y = Builtin.Str.partsBetween z (Builtin.Str.occurrences z y 0 z.length (z.length + 1)) y.length := (if_neg (ne_true_of_eq_false h1)).trans (if_neg (ne_true_of_eq_false hf))
      refine call_meets F.slot_str_split (typeIs_str _ _ _) F.entry_str_split (F.args_str_split_2 _ _) (meets_str_split_sep z y t t' h1 hy hf (by omega) (by rw [← e]; omega)) ?_
      refine ⟨.ref s.heap.objs.size, _, I.laid (fun b o e => Heap.get?_push_of_some _ e) (Nat.le_refl _) (o := .lst ((Txt.split z y).map V.str)) ⟨by rw [List.length_map]; omega, _, 0, ?_, Heap.get?_push_size _ rfl⟩, rfl, q _ fr⟩
      rw [e]
      exact vals_from _ _
end
section
variable {σ : St} {H : Hp} {Q : VK} {D : Ends} {te ty tv td : TE} {x y v : V}
theorem s_split {z w : Str} (hw : w.length ≠ 0) (hz : z.length + 2 ≤ sizeLine) (h : ∀ p H2, H p = none → Same H H2 → H2 p = some (.lst ((Txt.split z w).map V.str)) → Q (.ref p) H2) : rSplit (.str z) [.str w] H Q := ⟨z, w, rfl, rfl, hw, hz, s_alloc h⟩
theorem s_append {l : Addr} {xs : List V} (e : H l = some (.lst xs)) (hz : xs.length < sizeLine) (h : ∀ H2, Upd H H2 l (.lst (xs ++ [y])) → Q .non H2) : rAppend (.ref l) [y] H Q := ⟨l, xs, y, rfl, rfl, e, hz, h _ Upd.of⟩
noncomputable def DPutAt (v : V) (x : V) (D : Ends) (σ : St) (y : V) (H : Hp) : Prop := ∃ a H4, x = .ref a ∧ DPut H a y v H4 ∧ D.nx σ H4
theorem s_dput (h : tv σ H fun v H1 => td σ H1 fun x H2 => ty σ H2 (DPutAt v x D σ)) : sDPut td ty tv D σ H := h
theorem s_dputS {p : Addr} {kvs : List (Key × V)} {z : Str} (e : H p = some (.dK kvs)) (hl : kvs.length < sizeLine) (h : ∀ H2, Upd H H2 p (.dK (putK kvs (Sum.inr z) v)) → D.nx σ H2) : DPutAt v (.ref p) D σ (.str z) H := ⟨p, _, rfl, DPut.k (k := Sum.inr z) e hl, h _ Upd.of⟩
noncomputable def DGetAt (x : V) (Q : VK) (y : V) (H : Hp) : Prop := ∃ a v, x = .ref a ∧ DGet H a y (some v) ∧ Q v H
theorem s_dget (h : td σ H fun x H1 => ty σ H1 (DGetAt x Q)) : tDGet td ty σ H Q := h
theorem s_dgetS {p : Addr} {kvs : List (Key × V)} {z : Str} (e : H p = some (.dK kvs)) (l : valV kvs (Sum.inr z) = some v) (h : Q v H) : DGetAt (.ref p) Q (.str z) H := ⟨p, v, rfl, by rw [← l]; exact DGet.k (k := Sum.inr z) e, h⟩
noncomputable def MethAt (C : Addr) (m : Str) (sp : Sp) (E : XK) (tr : TA) (σ : St) (Q : VK) (x : V) (H : Hp) : Prop := ∃ a dx fs, x = .ref a ∧ H a = some (.ins C dx fs) ∧ fs.lookup m = none ∧ tr σ H fun vs H2 => sp (x :: (vs ++ [])) H2 Q E
theorem s_meth {C : Addr} {m : Str} {sp : Sp} {E : XK} {tr : TA} (h : te σ H (MethAt C m sp E tr σ Q)) : tMeth C m sp [] E te tr σ H Q := h
theorem s_methAt {C dx p : Addr} {m : Str} {fs : List (Str × V)} {sp : Sp} {E : XK} {tr : TA} (e : H p = some (.ins C dx fs)) (l : fs.lookup m = none) (h : tr σ H fun vs H2 => sp (.ref p :: vs) H2 Q E) : MethAt C m sp E tr σ Q (.ref p) H := ⟨p, dx, fs, rfl, e, l, by simp only [List.append_nil]; exact h⟩
theorem s_listL {K : PySem.W.Frag} {p : Addr} {xs : List V} (e : SqL K H p xs) (h : ∀ q H2, H q = none → Same H H2 → H2 q = some (.lst xs) → Q (.ref q) H2) : rListOf K [.ref p] H Q := ⟨p, xs, rfl, .inl e, s_alloc h⟩
theorem s_listT {K : PySem.W.Frag} {p : Addr} {xs : List V} (e : SqT K H p xs) (h : ∀ q H2, H q = none → Same H H2 → H2 q = some (.lst xs) → Q (.ref q) H2) : rListOf K [.ref p] H Q := ⟨p, xs, rfl, .inr e, s_alloc h⟩
theorem s_tupL {K : PySem.W.Frag} {p : Addr} {xs : List V} (e : SqL K H p xs) (h : ∀ q H2, H q = none → Same H H2 → H2 q = some (.tup xs) → Q (.ref q) H2) : rTupOf K [.ref p] H Q := ⟨p, xs, rfl, .inl ⟨e, s_alloc h⟩⟩
theorem s_tupT {K : PySem.W.Frag} {p : Addr} {xs : List V} (e : SqT K H p xs) (h : Q (.ref p) H) : rTupOf K [.ref p] H Q := ⟨p, xs, rfl, .inr ⟨e, h⟩⟩
end
end L2
set_option Elab.async false
set_option linter.all false
set_option maxRecDepth 100000
set_option maxHeartbeats 4000000
namespace L2
open PySem PySem.Spec PyProof.Rows
noncomputable def ExcAt (h : Heap) (e : Addr) (C : Value) (dx : Option Addr) (T : Option (Addr × Value)) : Prop :=
  ∃ oe vs, h.get? e = some oe ∧ oe.cls = C ∧ oe.dict = dx ∧ oe.data = .fields vs ∧ 1 < vs.size ∧
    match T with
    | none => vs[1]? = some .none
    | some (t, fl) => vs[1]? = some (.ref t) ∧ t ≠ e ∧ ∃ oT ts, h.get? t = some oT ∧ oT.data = .fields ts ∧ ts[3]? = some fl
section
variable {X : Cx} {pins : List (Addr × Obj)} {σ : St} {H : Hp} {s : Shared}
noncomputable def FpN (X : Cx) (pins : List (Addr × Obj)) (H : Hp) (b : Addr) : Prop :=
  H b = none ∧ b ≠ X.env.locals ∧ b ∉ X.fs ∧ (b ∈ X.ex ∨ X.s₀.heap.get? b = none) ∧ (∀ x c, X.env.cells.lookup x = some c → c ≠ b) ∧ ∀ p ∈ X.pn ++ pins, p.1 ≠ b
structure Fly (X : Cx) (pins : List (Addr × Obj)) (H : Hp) (e : Addr) (C : Value) (dx : Option Addr) (T : Option (Addr × Value)) (h : Heap) : Prop where
  at_ : ExcAt h e C dx T
  fe : FpN X pins H e
  ft : ∀ t fl, T = some (t, fl) → FpN X pins H t
end
end L2
set_option Elab.async false
set_option linter.all false
set_option maxRecDepth 100000
set_option maxHeartbeats 4000000
namespace L2
open PySem PySem.Spec PyProof.Rows
noncomputable abbrev XW := St → XK
end L2
set_option Elab.async false
set_option linter.all false
set_option maxRecDepth 100000
set_option maxHeartbeats 4000000
namespace L2
open PySem PySem.Spec PyProof.Rows
structure XCls (h : Heap) (C : Addr) (bmB : List Value) (newId : String) : Prop where
  obj : ∃ bm N nm q bs hdct sn sub ab col dd k0 k1 k2 k3 k5 mN, h.get? C = some (excClassObj nm q C N bs bm hdct sn sub ab col dd k0 k1 k2 k3 k5 newId) ∧ h.Ns N mN ∧ mN "__init__" = none ∧ OwnTail h bmB bm
end L2
set_option Elab.async false
set_option linter.all false
set_option maxRecDepth 100000
set_option maxHeartbeats 4000000
namespace L2
open PySem PySem.Spec PyProof.Rows
structure CatchOk (K : PySem.W.Frag) (G : Addr) : Prop where
  ty : PySem.W.typeIn K (.ref G) = some (.type "type")
  cls : PySem.W.isClsIn K G = true
  base : PySem.W.mroIn K G (.type "BaseException") = some true
noncomputable abbrev Cx.pin (X : Cx) (pins : List (Addr × Obj)) : Cx := { X with pn := X.pn ++ pins }
end L2
set_option Elab.async false
set_option linter.all false
set_option maxRecDepth 100000
set_option maxHeartbeats 400000
namespace L2
open PySem PySem.Spec PyProof.Rows
structure XIsi (K : PySem.W.Frag) (D : Addr) : Prop where
  cls : PySem.W.isClsIn K D = true
  ga : PySem.W.findIn K (.ref D) "__getattribute__" = some (some (.builtin "BaseException.__getattribute__"))
  gr : PySem.W.findIn K (.ref D) "__getattr__" = some none
  ha : PySem.W.findIn K (.ref D) "__class__" = some (some (.builtin "object.__class__"))
  hn : PySem.W.specialIn K (.builtin "object.__class__") "__get__" = some (some (.builtin "getset_descriptor.__get__"))
  tk : PySem.W.takesIn K (.builtin "object.__class__") = some true
  hm : PySem.W.mroIn K D (.type "object") = some true
  base : PySem.W.mroIn K D (.type "BaseException") = some true
noncomputable def dV : V → Value
  | .ref a => .ref a
  | .ty n => .type n
  | _ => .none
end L2
namespace L2
open PySem PySem.Spec PyProof.Rows
theorem pg_tupK {X : Cx} {K : PySem.W.Frag} {es : List Expr} {k : Nat} {t : TGs} {n : Nat} {pos : Pos} (h : X.K = K) (hc : X.calm = true) (ht : PGs X es t)
    (hn : (assignEach es X.env).length = n := by rfl) (hst : (assignEach es X.env).findIdx? (·.1) = none := by rfl) : PG X (.Tuple es k pos) (gTup K n t) := by subst h; exact pg_tup hc ht hn hst
end L2
set_option Elab.async false
set_option linter.all false
set_option maxRecDepth 100000
set_option maxHeartbeats 4000000
namespace L2
open PySem PySem.Spec PyProof.Rows
noncomputable def keysV (kvs : List (Key × V)) : List V := kvs.map fun kv => kV kv.1
theorem rel_key {k : Key} {v : Value} (h : keyIs k v = true) : RelV (kV k) v := by
  rcases keyIs_shape h with ⟨i, t, rfl, rfl⟩ | ⟨x, t, rfl, rfl⟩
  · exact ⟨t, rfl⟩
  · exact ⟨t, rfl⟩
theorem paired_of {α β : Type} {F : α → β → Prop} : ∀ {l : List α} {m : List β}, l.length = m.length → (∀ (i : Nat) (a : α) (b : β), l[i]? = some a → m[i]? = some b → F a b) → Paired F l m
  | [], [], _, _ => .nil
  | a :: l, b :: m, hl, h => .cons (h 0 a b rfl rfl) (paired_of (by simpa using hl) fun i x y hx hy => h (i + 1) x y (by simpa using hx) (by simpa using hy))
  | [], _ :: _, hl, _ => by simp at hl
  | _ :: _, [], hl, _ => by simp at hl
section
variable {σ : St} {H : Hp} {Q : VK} {D : Ends} {te ty tv td : TE} {x y v : V}
noncomputable def DInAt (y : V) (Q : VK) (x : V) (H : Hp) : Prop := ∃ a o, x = .ref a ∧ DGet H a y o ∧ Q (.bl o.isSome) H
theorem s_din (h : ty σ H fun y H1 => td σ H1 (DInAt y Q)) : tDIn ty td σ H Q := h
theorem s_dinS {p : Addr} {kvs : List (Key × V)} {z : Str} (e : H p = some (.dK kvs)) (h : Q (.bl (valV kvs (Sum.inr z)).isSome) H) : DInAt (.str z) Q (.ref p) H := ⟨p, _, rfl, DGet.k (k := Sum.inr z) e, h⟩
noncomputable def DNotAt (y : V) (Q : VK) (x : V) (H : Hp) : Prop := ∃ a o, x = .ref a ∧ DGet H a y o ∧ Q (.bl (!o.isSome)) H
theorem s_dnot (h : ty σ H fun y H1 => td σ H1 (DNotAt y Q)) : tDNotIn ty td σ H Q := h
theorem s_dnotS {p : Addr} {kvs : List (Key × V)} {z : Str} (e : H p = some (.dK kvs)) (h : Q (.bl (!(valV kvs (Sum.inr z)).isSome)) H) : DNotAt (.str z) Q (.ref p) H := ⟨p, _, rfl, DGet.k (k := Sum.inr z) e, h⟩
theorem s_cat {l b : Addr} {xs zs : List V} (e : H l = some (.lst xs)) (e' : H b = some (.lst zs)) (hz : xs.length + zs.length ≤ sizeLine) (h : ∀ p H2, H p = none → Same H H2 → H2 p = some (.lst (xs ++ zs)) → Q (.ref p) H2) : rCat (.ref l) (.ref b) H Q := ⟨l, b, xs, zs, rfl, rfl, e, e', hz, s_alloc h⟩
end
end L2
set_option Elab.async false
set_option linter.all false
set_option maxRecDepth 100000
set_option maxHeartbeats 4000000
namespace L2
open PySem PySem.Spec PyProof.Rows
theorem ints_are : ∀ {ns : List Int} {us : List Value}, Vals (ns.map V.int) us → IntsAre us ns
  | [], us, r => by cases r; exact .nil
  | n :: ns, us, r => by
    rw [List.map_cons] at r
    cases r with
    | cons h t => obtain ⟨t', rfl⟩ := h; exact .cons _ _ (ints_are t)
noncomputable def rSumL : List V → Hp → VK → Prop := fun xs H Q => ∃ (p : Addr) (ns : List Int), xs = [.ref p] ∧ H p = some (.lst (ns.map V.int)) ∧ Q (.int ns.sum) H
section
variable {X : Cx}
theorem preSum_sum (zs : Array (Int × Tok)) : preSum (numAt zs) zs.size = (zs.toList.map (·.1)).sum := by
  rw [preSum_eq, List.take_of_length_le (by rw [List.length_map, Array.length_toList]; exact Nat.le_refl _)]
theorem call_sumL (hc : X.calm = true) : CallR X (.builtin "sum") rSumL := by
  intro pins s σ H xs us Q I r h
  obtain ⟨p, ns, rfl, hp, q⟩ := h
  obtain ⟨u, rfl, rx⟩ := vals1 r
  cases rx
  obtain ⟨z, its, n, rv, hl, e⟩ := I.lstM hp
  have hi := ints_are rv
  obtain ⟨zs, ez⟩ := hi.allInts.items
  have hns : ns = zs.toList.map (·.1) := by rw [← hi.numsOf, ← nums_intItems, ← ez]
  have hL : s.heap.IsList p (intItems zs) := by rw [← ez]; exact ⟨_, e, rfl, n, rfl⟩
  refine call_sum_walkAnyS (iter_intList hL fun s₂ e2 st hfp hlI => ?_)
  subst e2
  refine ⟨_, _, _, _, _, _, _, numAt zs, rfl, (Walks.list (A := X.A.in1) (I.ok.hd hc) _ p hlI (intItems zs)).toS, st, hfp, (fun _ _ => intItems_at), fun s' t' hm => ?_⟩
  rw [Moved.eq_with hm]
  have hsz : (intItems zs).size = zs.size := by simp [intItems]
  rw [hsz, preSum_sum, ← hns]
  refine ⟨.int ns.sum, H, I.kept (fun b o e => hm.heap b o (fun hb => ?_) (Heap.get?_push_of_some _ e)), ⟨_, rfl⟩, q⟩
  rw [List.mem_singleton] at hb
  rw [hb] at e
  exact Nat.lt_irrefl _ (Heap.lt_size e)
end
end L2
namespace L2
open PySem PySem.Spec PyProof.Rows
end L2
set_option Elab.async false
set_option linter.all false
set_option maxRecDepth 100000
set_option maxHeartbeats 4000000
namespace L2
open PySem PySem.Spec PyProof.Rows
end L2
set_option Elab.async false
set_option linter.all false
set_option maxRecDepth 100000
set_option maxHeartbeats 4000000
namespace L2
open PySem PySem.Spec PyProof.Rows
open AutoSeq1 (wpAny_loadPart')
section
variable {prog : Program} {w : World} {A : Around} {E : Value → Shared → Prop} {s : Shared}
theorem nextOf_tuple_item {it t : Addr} {i : Nat} {items : Array Value} {x : Value} {Q : Value → Shared → Prop} (hit : s.heap.IsTupleIter it t i) (ht : s.heap.IsTuple t items) (hx : items[i]? = some x)
    (hQ : ∀ h', h'.IsTupleIter it t (i + 1) → Heap.SameBut it s.heap h' → Q x { s with heap := h' }) :
    wpAny (model prog w) A (Builtin.SmallTypes.nextOf (.ref it)) Q E s := by
  obtain ⟨o, ho, hc, hd⟩ := id hit
  obtain ⟨ol, hol, _, nl, hdl⟩ := ht
  unfold Builtin.SmallTypes.nextOf
  refine wpAny_bind (wpAny_callSpecial?_slot (name := Str.ofString "__next__") hit.typeIs F.slot_tuple_iterator_next
    (wpAny_call_entry F.slot_tuple_iterator_next hit.typeIs F.entry_tuple_iterator_next ?_ (F.args_tuple_iterator_next_1 _)))
  show wpAny _ _ (field (.ref it) 0 >>= _) _ _ s
  refine wpAny_bind (wpAny_field ho hd (x := .ref t) rfl ?_)
  show wpAny _ _ (if (Value.ref t == Value.none) = true then _ else _) _ _ s
  rw [if_neg (show ¬ ((Value.ref t == Value.none) = true) from Bool.false_ne_true)]
  show wpAny _ _ (field (.ref it) 1 >>= _) _ _ s
  refine wpAny_bind (wpAny_field ho hd (x := .int i 0) rfl ?_)
  show wpAny _ _ (seqItems? (.ref t) >>= _) _ _ s
  refine wpAny_bind (wpAny_seqItems hol hdl ?_)
  simp only [Int.toNat_natCast, hx]
  refine wpAny_bind (wpAny_setField ho hd (by simp) (wpAny_pure ⟨x, rfl, wpAny_pure (hQ _ ?_ (Heap.SameBut.update ..))⟩))
  exact ⟨_, Heap.get?_update_self _ ho (Obj.isFreed_of_fields (Obj.data_mapFields hd _)), (Obj.cls_mapFields ..).trans hc, by
    rw [Obj.data_mapFields hd]; simp [rawInt]⟩
theorem nextOf_tuple_end {it t : Addr} {i : Nat} {items : Array Value} {Q : Value → Shared → Prop} (hh : A.handled = none) (hit : s.heap.IsTupleIter it t i) (ht : s.heap.IsTuple t items) (hx : items[i]? = none)
    (hE : ∀ h' e, Heap.ExtBut it s.heap h' → (∃ o, h'.get? e = some o ∧ o.cls = .type "StopIteration") → E (.ref e) { s with heap := h' }) :
    wpAny (model prog w) A (Builtin.SmallTypes.nextOf (.ref it)) Q E s := by
  obtain ⟨o, ho, hc, hd⟩ := id hit
  obtain ⟨ol, hol, _, nl, hdl⟩ := ht
  unfold Builtin.SmallTypes.nextOf
  refine wpAny_bind (wpAny_callSpecial?_slot (name := Str.ofString "__next__") hit.typeIs F.slot_tuple_iterator_next
    (wpAny_call_entry F.slot_tuple_iterator_next hit.typeIs F.entry_tuple_iterator_next ?_ (F.args_tuple_iterator_next_1 _)))
  show wpAny _ _ (field (.ref it) 0 >>= _) _ _ s
  refine wpAny_bind (wpAny_field ho hd (x := .ref t) rfl ?_)
  show wpAny _ _ (if (Value.ref t == Value.none) = true then _ else _) _ _ s
  rw [if_neg (show ¬ ((Value.ref t == Value.none) = true) from Bool.false_ne_true)]
  show wpAny _ _ (field (.ref it) 1 >>= _) _ _ s
  refine wpAny_bind (wpAny_field ho hd (x := .int i 0) rfl ?_)
  show wpAny _ _ (seqItems? (.ref t) >>= _) _ _ s
  refine wpAny_bind (wpAny_seqItems hol hdl ?_)
  simp only [Int.toNat_natCast, hx]
  refine wpAny_bind (wpAny_rule (wpAny_bind (wpAny_setField ho hd (by simp) ?_)))
  show wpAny _ _ (newExc (.type "StopIteration") [] >>= _) _ _ _
  refine wpAny_bind ?_
  simp only [newExc, newTuple]
  refine wpAny_bind (wpAny_newObj_type ?_ (by size_fits))
  refine wpAny_bind (m := firstArgMember _ _) (wpAny_of_eq (a := Value.none) (by first | rfl | (simp only [firstArgMember]; rfl)) ?_)
  refine wpAny_newObj_type ?_ (by size_fits)
  simp only [raiseNew]
  refine wpAny_bind (wpAny_handled ?_)
  first | rw [show A.in1.handled = none from hh] | rw [hh]
  refine wpAny_bind (wpAny_pure (wpAny_throw ?_))
  exact hE _ _ (((Heap.SameBut.update ..).extBut.push _).push _) ⟨_, Heap.get?_push_size _ rfl, rfl⟩
end
theorem Draws.tuple {prog : Program} {w : World} {A : Around} (hh : A.handled = none) (it l : Addr) (hne : l ≠ it) (items : Array Value) :
    Draws prog w A it [it, l] items.size (fun i v => items[i]? = some v) (fun i h => h.IsTupleIter it l i ∧ h.IsTuple l items) where
  live := fun _ _ st => let ⟨o, ho, _⟩ := st.1; ⟨o, ho⟩
  frame := fun _ _ _ st hk => ⟨let ⟨o, ho, r⟩ := st.1; ⟨o, hk it (by simp) o ho, r⟩, let ⟨o, ho, r⟩ := st.2; ⟨o, hk l (by simp) o ho, r⟩⟩
  item := fun i s Q E hi st hQ => by
    refine nextOf_tuple_item st.1 st.2 (x := items[i]) (by simp [hi]) fun h' hit' hs' => ?_
    exact hQ _ h' s.toks (by simp [hi]) ⟨hit', st.2.extBut hs'.extBut hne⟩ hs'
  done := fun s Q E st hE => nextOf_tuple_end hh st.1 st.2 (by simp) hE
theorem meets_enumerate_newT (l : Addr) (items : Array Value) (n : Nat) (dct : Option Addr) (sl : Array (Option Value)) :
    Meets (Builtin.«enumerate.__new__» ⟨[.type "enumerate", .ref l], []⟩) (fun _ R s => s.heap.get? l = some { cls := .type "tuple", dict := dct, data := .seq items n, slots := sl } ∧
      R (.ok (.ret (.ref (s.heap.push { cls := .type "tuple_iterator", data := .fields #[.ref l, .int 0 0] }).objs.size)))
        { s with heap := (s.heap.push { cls := .type "tuple_iterator", data := .fields #[.ref l, .int 0 0] }).push { cls := .type "enumerate", data := .fields #[.none, .bool false, .ref s.heap.objs.size, rawInt 0, .none, .none] } }) :=
  .of_wp fun prog w A R s h => by
    obtain ⟨hp, g, d, tk, os⟩ := s; obtain ⟨hl, h⟩ := h
    have hsub := sub_enumerate
    have hL : Heap.IsTuple (Shared.heap ⟨hp, g, d, tk, os⟩) l items := ⟨_, hl, rfl, n, rfl⟩
    wp_walk using wpAny_loadPart' hl
    refine wpAny_stack_any fun st => wpAny_pure ?_
    split
    · rename_i c _ _ _ _ _
      cases (c == Value.type "enumerate")
      · wp_walk using wpAny_loadPart' hl, wpAny_pyIter_tuple hL
        exact ⟨_, rfl, h⟩
      · wp_walk using wpAny_loadPart' hl, wpAny_pyIter_tuple hL
        exact ⟨_, rfl, h⟩
    · wp_walk using wpAny_loadPart' hl, wpAny_pyIter_tuple hL
      exact ⟨_, rfl, h⟩
theorem call_enumerate_tuple {prog : Program} {w : World} {A : Around} {E : Value → Shared → Prop} {s : Shared} {l : Addr} {items : Array Value} {Q : Value → Shared → Prop} (hL : s.heap.IsTuple l items)
    (h : ∀ h', IsEnum h' (s.heap.objs.size + 1) s.heap.objs.size 0 .none → h'.IsTupleIter s.heap.objs.size l 0 → h'.objs.size = s.heap.objs.size + 2 →
      (∀ b o, s.heap.get? b = some o → h'.get? b = some o) → Q (.ref (s.heap.objs.size + 1)) { s with heap := h' }) :
    wpAny (model prog w) A (call (.type "enumerate") [.ref l]) Q E s := by
  obtain ⟨⟨c, dct, dt, sl⟩, hl, hc, n, hd⟩ := hL
  replace hc : c = .type "tuple" := hc
  replace hd : dt = .seq items n := hd
  subst hc hd
  refine callType_new F.called_enumerate (by decide) (F.typeCall_enumerate_1 _) (F.newCall_enumerate_1 _) (fun obj => F.args_object_init_2 obj _) F.entry_enumerate_new
    (meets_enumerate_newT l items n dct sl) ⟨hl, ?_⟩
  have hz : (s.heap.push { cls := .type "tuple_iterator", data := .fields #[.ref l, .int 0 0] }).objs.size = s.heap.objs.size + 1 := Heap.size_push ..
  show _ ∧ _
  rw [hz]
  have he : IsEnum ((s.heap.push { cls := .type "tuple_iterator", data := .fields #[.ref l, .int 0 0] }).push
      { cls := .type "enumerate", data := .fields #[.none, .bool false, .ref s.heap.objs.size, rawInt 0, .none, .none] }) (s.heap.objs.size + 1) s.heap.objs.size 0 .none := by
    have := Heap.get?_push_size (s.heap.push { cls := .type "tuple_iterator", data := .fields #[.ref l, .int 0 0] })
      (o := { cls := .type "enumerate", data := .fields #[.none, .bool false, .ref s.heap.objs.size, rawInt 0, .none, .none] }) rfl
    rw [hz] at this; exact this
  refine ⟨⟨_, he, rfl⟩, h _ he ⟨_, Heap.get?_push_of_some _ (Heap.get?_push_size _ rfl), rfl, rfl⟩ (by rw [Heap.size_push, hz]) fun b o x => Heap.get?_push_of_some _ (Heap.get?_push_of_some _ x)⟩
noncomputable def Itet (K : PySem.W.Frag) (a : Addr) : It :=
  ⟨fun i H => ∃ xs x, SqT K H a xs ∧ xs[i]? = some x, fun i H x H' => ∃ p v, H p = none ∧ x = .ref p ∧ H' = upd H p (.tup [.int i, v]) ∧ ∀ xs, SqT K H a xs → xs[i]? = some v, fun i H => ∃ xs, SqT K H a xs ∧ xs.length = i⟩
theorem turn_enumT {P : Program} {w : World} {K : PySem.W.Frag} {elts : List Expr} {k : Nat} {pos : Pos} (a e it : Addr) (hei : e ≠ it) :
    Turn P w K (.Tuple elts k pos) (Itet K a) [e, it] e (fun i h => (∃ old, IsEnum h e it i old) ∧ h.IsTupleIter it a i) where
  mem := by simp
  obj := fun i h st b hb => by
    obtain ⟨⟨old, he⟩, ⟨o, ho, hc, hd⟩⟩ := st
    rcases List.mem_cons.mp hb with z | z
    · subst z; exact ⟨_, he, fun v z => by cases z⟩
    · rw [List.mem_singleton.mp z]; exact ⟨o, ho, fun v z => by rw [hd] at z; cases z⟩
  keep := fun i h h' st k => ⟨let ⟨old, he⟩ := st.1; ⟨old, k e (by simp) _ he⟩, (let ⟨o, ho, r⟩ := st.2; ⟨o, k it (by simp) o ho, r⟩)⟩
  item := by
    intro X hP hw hK hc i pins s σ H E I hf st hg
    subst hP hw hK
    obtain ⟨xs, x, hq, hx⟩ := hg
    obtain ⟨its, rv, p, hz⟩ := I.tuple hq
    have pT : s.heap.IsTuple a its.toArray := p
    obtain ⟨⟨old, he⟩, hl⟩ := st
    have hai : a ≠ it := fun z => by
      obtain ⟨o, ho, hcl, _⟩ := hl
      obtain ⟨o', ho', hcl', _⟩ := pT
      rw [z, ho] at ho'; cases ho'; rw [hcl] at hcl'; exact absurd hcl' (by decide)
    have hae : a ≠ e := fun z => by
      obtain ⟨o', ho', hcl', _⟩ := pT
      rw [z, he] at ho'; cases ho'; exact absurd (show Value.type "enumerate" = .type "tuple" from hcl') (by decide)
    have W := WalksT.enumerateD (prog := X.prog) (w := X.w) (A := X.A) (Draws.tuple (A := X.A.in1) (I.ok.hd hc) it a hai its.toArray) e hei (by simp [hei, Ne.symm hae]) (by simp)
    have hi : i < its.toArray.size := by have := rv.length; have := (List.getElem?_eq_some_iff.mp hx).1; simp; omega
    refine W.item i s _ _ hi ⟨⟨old, he⟩, hl, pT⟩ fun T vals h' tk hPt hT htup hmid hk => ⟨_, rfl, W.go elts k pos i T _ _ _ hmid fun h'' hst hk2 => ?_⟩
    obtain ⟨t, x', hx', rfl⟩ := hPt
    have hap := W.apart i T h' hmid
    have ru : RelV x x' := by
      obtain ⟨u, hu, r⟩ := rv.get hx
      have hx'' : its[i]? = some x' := by simpa using hx'
      rw [hu] at hx''; cases hx''; exact r
    have kk : ∀ b u, b ∉ [e, it] → s.heap.get? b = some u → h''.get? b = some u := fun b u hb q => hk2 b u hb (hk b u hb q)
    have fr : H T = none := I.hok.fresh hT
    refine ⟨.ref T, upd H T (.tup [.int i, x]), I.laidCh (t' := tk) kk hT ⟨two_le, [.int i t, x'], .cons ⟨t, rfl⟩ (.cons ru .nil), ?_⟩ hf, rfl, ⟨T, x, fr, rfl, rfl, fun ys hy => by rw [I.tuple_inj hy hq]; exact hx⟩, ⟨hst.1, hst.2.1⟩, fun b hb => ?_⟩
    · obtain ⟨o, ho, r⟩ := htup
      exact ⟨o, hk2 T o hap ho, r⟩
    · have fb := (hf b hb)
      rw [upd_ne (fun z => ?_)]
      · exact fb.1
      · have lt : b < s.heap.objs.size := by
          rcases List.mem_cons.mp hb with z | z
          · subst z; exact Heap.lt_size he
          · rw [List.mem_singleton.mp z]; obtain ⟨o, ho, _⟩ := hl; exact Heap.lt_size ho
        rw [z] at lt
        exact absurd (Nat.lt_of_lt_of_le lt hT) (Nat.lt_irrefl _)
  done := by
    intro X hP hw hK hc i pins s σ H E I hf st hg
    subst hP hw hK
    obtain ⟨xs, hq, hx⟩ := hg
    obtain ⟨its, rv, p, hz⟩ := I.tuple hq
    have pT : s.heap.IsTuple a its.toArray := p
    obtain ⟨⟨old, he⟩, hl⟩ := st
    have hai : a ≠ it := fun z => by
      obtain ⟨o, ho, hcl, _⟩ := hl
      obtain ⟨o', ho', hcl', _⟩ := pT
      rw [z, ho] at ho'; cases ho'; rw [hcl] at hcl'; exact absurd hcl' (by decide)
    have hae : a ≠ e := fun z => by
      obtain ⟨o', ho', hcl', _⟩ := pT
      rw [z, he] at ho'; cases ho'; exact absurd (show Value.type "enumerate" = .type "tuple" from hcl') (by decide)
    have W := WalksT.enumerateD (prog := X.prog) (w := X.w) (A := X.A) (Draws.tuple (A := X.A.in1) (I.ok.hd hc) it a hai its.toArray) e hei (by simp [hei, Ne.symm hae]) (by simp)
    have hn : its.toArray.size = i := by have := rv.length; simp; omega
    subst hn
    exact W.done s _ _ ⟨⟨old, he⟩, hl, pT⟩ fun h' tk hk => ⟨rfl, I.turnedCh hk hf⟩
  self := fun _ _ _ _ _ st h => let ⟨_, he⟩ := st.1; wpAny_pyIter_enum he h
noncomputable def iEnumT (K : PySem.W.Frag) (tl : TE) : TI := fun σ H R => tl σ H fun x H1 => ∃ a, x = .ref a ∧ (((∃ xs, SqL K H1 a xs) ∧ R (Ite K a) H1) ∨ ((∃ xs, SqT K H1 a xs) ∧ R (Itet K a) H1))
section
variable {X : Cx} {K : PySem.W.Frag}
theorem pi_enumT {l : Expr} {tl : TE} {elts : List Expr} {k : Nat} {tpos p pos : Pos} (h : X.K = K) (hg : Gl X "enumerate") (hm : X.mg "enumerate" = none) (hl : PE X l tl) (hs : starEach [l] X.env = [(false, eval l X.env)] := by rfl) :
    PI X (.Tuple elts k tpos) (.Call (.Name "enumerate" p) [l] [] pos) (iEnumT K tl) := by
  subst h
  intro pins s σ H R I h
  refine Call_ (ld_blt I hg hm boot_enumerate (PyProof.Rows.callWith_type1 (thn (pa_cons hl pa_nil hs pos pins s σ H (fun vs H1 => match vs with | [x] => ∃ a, x = .ref a ∧ (((∃ xs, SqL X.K H1 a xs) ∧ R (Ite X.K a) H1) ∨ ((∃ xs, SqT X.K H1 a xs) ∧ R (Itet X.K a) H1)) | _ => False) I h) fun us s1 ⟨vs, H1, I1, r1, q1⟩ => ?_) hs rfl))
  match vs, r1, q1 with
  | [x], r1, q1 =>
  obtain ⟨u, rfl, ru⟩ := r1.one
  obtain ⟨a, rfl, q1⟩ := q1
  cases ru
  have fin : ∀ b ∈ [s1.heap.objs.size + 1, s1.heap.objs.size], FpOk X pins H1 b := fun b hb => by
    have hb' : s1.heap.objs.size ≤ b := (List.mem_cons.mp hb).elim (fun z => by rw [z]; exact Nat.le_succ _) (fun z => by rw [List.mem_singleton.mp z]; exact Nat.le_refl _)
    exact I1.fpOk hb' (I1.hok.fresh hb')
  rcases q1 with ⟨⟨xs, hq⟩, q⟩ | ⟨⟨xs, hq⟩, q⟩
  · obtain ⟨its, rv, pl, hz⟩ := I1.list hq
    refine call_enumerate_list pl.isList fun h' he hit hsz hk => wpAny_pyIter_enum he ?_
    exact ⟨s1.heap.objs.size + 1, [s1.heap.objs.size + 1, s1.heap.objs.size], _, _, H1, rfl, I1.kept (t' := s1.toks) hk, turn_enumL a _ _ (Nat.ne_of_gt (Nat.lt_succ_self _)), ⟨⟨_, he⟩, hit⟩, fin, q⟩
  · obtain ⟨its, rv, pl, hz⟩ := I1.tuple hq
    refine call_enumerate_tuple (show s1.heap.IsTuple a its.toArray from pl) fun h' he hit hsz hk => wpAny_pyIter_enum he ?_
    exact ⟨s1.heap.objs.size + 1, [s1.heap.objs.size + 1, s1.heap.objs.size], _, _, H1, rfl, I1.kept (t' := s1.toks) hk, turn_enumT a _ _ (Nat.ne_of_gt (Nat.lt_succ_self _)), ⟨⟨_, he⟩, hit⟩, fin, q⟩
end
theorem comp_enumL {K : PySem.W.Frag} {n : Nat} {fx : List Nat} {g : TG} {tc : TT} {te : TE} {σ : St} {H1 : Hp} {D : Addr} {Q : Hp → Prop} {a : Addr} {xs : List V} (Pv : Nat → List V → Hp → Prop) (h0 : Pv 0 [] (upd H1 D (.lst []))) (hl : ∀ i ys H, i ≤ xs.length → Pv i ys H → SqL K H a xs)
    (hs : ∀ i x ys H p H', xs[i]? = some x → Pv i ys H → H p = none → Same H H' → H' p = some (.tup [.int i, x]) → g (.ref p) (compSt n fx σ) H' fun σ4 H4 => tc σ4 H4 fun b H5 => if b = true then te σ4 H5 fun v H6 => H6 D = some (.lst ys) ∧ ys.length < sizeLine ∧ Pv (i + 1) (ys ++ [v]) (upd H6 D (.lst (ys ++ [v]))) else Pv (i + 1) ys H5)
    (hd : ∀ ys H, Pv xs.length ys H → Q H) :
    ∃ W : Nat → Nat → List V → Hp → Prop, (∃ m, W 0 m [] (upd H1 D (.lst []))) ∧ ∀ i m ys H2, W i m ys H2 → ((Ite K a).stop i H2 ∧ Q H2) ∨
      ((Ite K a).go i H2 ∧ ∃ N : List V → Hp → Prop, (∀ ys' H', N ys' H' → ∃ m', m' < m ∧ W (i + 1) m' ys' H') ∧ ∀ x H3, (Ite K a).yld i H2 x H3 → g x (compSt n fx σ) H3 fun σ4 H4 => tc σ4 H4 fun b H5 =>
        if b = true then te σ4 H5 fun v H6 => H6 D = some (.lst ys) ∧ ys.length < sizeLine ∧ N (ys ++ [v]) (upd H6 D (.lst (ys ++ [v]))) else N ys H5) := by
  refine ⟨fun i m ys H => m = xs.length - i ∧ i ≤ xs.length ∧ Pv i ys H, ⟨xs.length, by simp, Nat.zero_le _, h0⟩, ?_⟩
  rintro i m ys H ⟨rfl, hi, p⟩
  have q := hl i ys H hi p
  by_cases hlt : i < xs.length
  · refine .inr ⟨⟨xs, xs[i], q, by simp [hlt]⟩, Pv (i + 1), fun ys' H' p' => ⟨xs.length - (i + 1), by omega, rfl, hlt, p'⟩, fun x H' y => ?_⟩
    obtain ⟨r, v, f, e1, e2, y⟩ := y
    subst e1 e2
    exact hs i v ys H r _ (y xs q) p f (same_new f) upd_same
  · have e : i = xs.length := by omega
    subst e
    exact .inl ⟨⟨xs, q, rfl⟩, hd ys H p⟩
theorem comp_enumT {K : PySem.W.Frag} {n : Nat} {fx : List Nat} {g : TG} {tc : TT} {te : TE} {σ : St} {H1 : Hp} {D : Addr} {Q : Hp → Prop} {a : Addr} {xs : List V} (Pv : Nat → List V → Hp → Prop) (h0 : Pv 0 [] (upd H1 D (.lst []))) (hl : ∀ i ys H, i ≤ xs.length → Pv i ys H → SqT K H a xs)
    (hs : ∀ i x ys H p H', xs[i]? = some x → Pv i ys H → H p = none → Same H H' → H' p = some (.tup [.int i, x]) → g (.ref p) (compSt n fx σ) H' fun σ4 H4 => tc σ4 H4 fun b H5 => if b = true then te σ4 H5 fun v H6 => H6 D = some (.lst ys) ∧ ys.length < sizeLine ∧ Pv (i + 1) (ys ++ [v]) (upd H6 D (.lst (ys ++ [v]))) else Pv (i + 1) ys H5)
    (hd : ∀ ys H, Pv xs.length ys H → Q H) :
    ∃ W : Nat → Nat → List V → Hp → Prop, (∃ m, W 0 m [] (upd H1 D (.lst []))) ∧ ∀ i m ys H2, W i m ys H2 → ((Itet K a).stop i H2 ∧ Q H2) ∨
      ((Itet K a).go i H2 ∧ ∃ N : List V → Hp → Prop, (∀ ys' H', N ys' H' → ∃ m', m' < m ∧ W (i + 1) m' ys' H') ∧ ∀ x H3, (Itet K a).yld i H2 x H3 → g x (compSt n fx σ) H3 fun σ4 H4 => tc σ4 H4 fun b H5 =>
        if b = true then te σ4 H5 fun v H6 => H6 D = some (.lst ys) ∧ ys.length < sizeLine ∧ N (ys ++ [v]) (upd H6 D (.lst (ys ++ [v]))) else N ys H5) := by
  refine ⟨fun i m ys H => m = xs.length - i ∧ i ≤ xs.length ∧ Pv i ys H, ⟨xs.length, by simp, Nat.zero_le _, h0⟩, ?_⟩
  rintro i m ys H ⟨rfl, hi, p⟩
  have q := hl i ys H hi p
  by_cases hlt : i < xs.length
  · refine .inr ⟨⟨xs, xs[i], q, by simp [hlt]⟩, Pv (i + 1), fun ys' H' p' => ⟨xs.length - (i + 1), by omega, rfl, hlt, p'⟩, fun x H' y => ?_⟩
    obtain ⟨r, v, f, e1, e2, y⟩ := y
    subst e1 e2
    exact hs i v ys H r _ (y xs q) p f (same_new f) upd_same
  · have e : i = xs.length := by omega
    subst e
    exact .inl ⟨⟨xs, q, rfl⟩, hd ys H p⟩
section
variable {σ : St} {H : Hp} {te : TE} {R : It → Hp → Prop}
theorem s_iEnumT {K : PySem.W.Frag} (h : te σ H fun x H1 => ∃ a, x = .ref a ∧ (((∃ xs, SqL K H1 a xs) ∧ R (Ite K a) H1) ∨ ((∃ xs, SqT K H1 a xs) ∧ R (Itet K a) H1))) : iEnumT K te σ H R := h
end
end L2
set_option Elab.async false
set_option linter.all false
set_option maxRecDepth 100000
set_option maxHeartbeats 4000000
namespace L2
open PySem PySem.Spec PyProof.Rows
namespace ZP
noncomputable abbrev Busy (h : Heap) (z TI TO T : Addr) (fl : Bool) : Prop := h.get? z = some { cls := .type "zip", data := .fields #[rawInt T, .bool fl, .bool false, .ref TI, .ref TO] }
section
variable {prog : Program} {w : World} {A : Around} {E : Value → Shared → Prop} {s : Shared}
structure ZGot (h : Heap) (lo : Nat) (xs ys : Array Value) (as : List Addr) : Prop where
  rise : as.Pairwise (· < ·)
  above : ∀ a ∈ as, lo ≤ a ∧ a < h.objs.size
  pairs : ∀ (j : Nat) (a : Addr), as[j]? = some a → ∃ x y, xs[j]? = some x ∧ ys[j]? = some y ∧ h.IsTuple a #[x, y]
structure ZSt (h : Heap) (z TI TO i1 i2 l1 l2 : Addr) (lo : Nat) (xs ys : Array Value) (i : Nat) (as : List Addr) : Prop where
  zp : (i = 0 ∧ IsZip h z TI TO .none) ∨ ∃ T fl, Busy h z TI TO T fl ∧ as[0]? = some T
  hI : IsPair h TI (.ref i1) (.ref i2)
  hO : ∃ a b, IsPair h TO a b
  h1 : h.IsListIter i1 l1 i
  h2 : h.IsListIter i2 l2 i
  hl1 : h.IsList l1 xs
  hl2 : h.IsList l2 ys
  len : as.length = i
  got : ZGot h lo xs ys as
structure Und (z TI TO i1 i2 l1 l2 S : Addr) (lo : Nat) : Prop where
  ap : ZipApart z TI TO i1 i2 l1 l2
  Sz : S ≠ z
  STI : S ≠ TI
  STO : S ≠ TO
  Si1 : S ≠ i1
  Si2 : S ≠ i2
  Sl1 : S ≠ l1
  Sl2 : S ≠ l2
  z : z < lo
  TO : TO < lo
  i1 : i1 < lo
  i2 : i2 < lo
  S : S < lo
structure New (h : Heap) (z TI TO i1 i2 l1 l2 : Addr) (xs ys : Array Value) : Prop where
  ap : ZipApart z TI TO i1 i2 l1 l2
  hz : IsZip h z TI TO .none
  hI : IsPair h TI (.ref i1) (.ref i2)
  hO : ∃ a b, IsPair h TO a b
  h1 : h.IsListIter i1 l1 0
  h2 : h.IsListIter i2 l2 0
  hl1 : h.IsList l1 xs
  hl2 : h.IsList l2 ys
end
end ZP
end L2
set_option Elab.async false
set_option linter.all false
set_option maxRecDepth 100000
set_option maxHeartbeats 1000000
namespace L2
open PySem PySem.Spec PyProof.Rows
end L2
set_option Elab.async false
set_option linter.all false
set_option maxRecDepth 100000
set_option maxHeartbeats 1000000
namespace L2
open PySem PySem.Spec PyProof.Rows
structure FunD (K : PySem.W.Frag) (x qual : Str) (st : Stmt) (f : Addr) (fd : FuncData) (dv : Value) : Prop where
  ex : ∃ (oc : Value) (od : Option Addr) (T : Addr) (kV doc pm : Value) (an : Option Addr) (cdv ct : Value) (osl : Array (Option Value)) (tc : Value) (td : Option Addr) (n : Nat) (tsl : Array (Option Value)),
    fd = PySem.W.fnOf x qual (defArgs st) (defBody st) (defScope st) (.ref T) kV doc pm an cdv ct ∧ K.lookup f = some ⟨oc, od, .func fd, osl⟩ ∧ PySem.W.codeIn K cdv qual = true ∧ K.lookup T = some ⟨tc, td, .seq #[dv] n, tsl⟩
  kp : PySem.W.keepIn K (.ref f) = true
end L2
set_option Elab.async false
set_option linter.all false
set_option maxRecDepth 100000
set_option maxHeartbeats 4000000
namespace L2
open PySem PySem.Spec PyProof.Rows
end L2
set_option Elab.async false
set_option linter.all false
set_option maxRecDepth 100000
set_option maxHeartbeats 4000000
namespace L2
open PySem PySem.Spec PyProof.Rows
end L2
set_option Elab.async false
set_option linter.all false
set_option maxRecDepth 100000
set_option maxHeartbeats 4000000
namespace L2
open PySem PySem.Spec PyProof.Rows
noncomputable abbrev xBM : List Value := [.type "ValueError", .type "Exception", .type "BaseException", .type "object"]
structure XOwn (K : PySem.W.Frag) (C W f : Addr) : Prop where
  lk : ∃ nm q N bs sn sub ab col dd k0 k1 k2 k3 k5, K.lookup C = some (excClassObj nm q C N bs (.ref W :: xBM) true sn sub ab col dd k0 k1 k2 k3 k5 "ValueError.__new__")
  up : PySem.W.excIn K W xBM "ValueError.__new__" = true
  init : PySem.W.findIn K (.ref C) "__init__" = some (some (.ref f))
  fn : PySem.W.isFn K (.ref f) = true
  kp : PySem.W.keepIn K (.ref C) = true
  sa : PySem.W.findIn K (.ref C) "__setattr__" = some (some (.builtin "object.__setattr__"))
  mo : PySem.W.mroIn K C (.type "object") = some true
  mv : PySem.W.mroIn K C (.type "ValueError") = some true
section
variable {X : Cx} {pins : List (Addr × Obj)} {σ : St} {H : Hp} {s : Shared} {p C W f : Addr} {fs : List (Str × V)}
structure XInit (K : PySem.W.Frag) (W : Addr) : Prop where
  ga : PySem.W.specialIn K (.ref W) "__getattribute__" = some (some (.builtin "type.__getattribute__"))
  rd : PySem.W.readsIn K W (.type "type") = true
  fd : PySem.W.findCls K (.ref W) (.type "type") "__init__" = some (.val (.builtin "ValueError.__init__"))
theorem ps_dead {st : Stmt} : PS X st (fun _ _ _ => False) := fun _ _ _ _ _ _ h => h.elim
end
end L2
set_option Elab.async false
set_option linter.all false
set_option maxRecDepth 100000
set_option maxHeartbeats 4000000
namespace L2
open PySem PySem.Spec PyProof.Rows
end L2
set_option Elab.async false
set_option linter.all false
set_option maxRecDepth 100000
set_option maxHeartbeats 4000000
namespace PySem
theorem F.entry_dict_update_loop : entryFor table "dict.update.loop" = some Builtin.«dict.update.loop» := entryFor_of_fast (by kernel_rfl)
theorem F.plain_dict_update_loop : plainId "dict.update.loop" = true := by decide +kernel
theorem F.list_keys_none : typeLookup (.type "list") "keys" = pure none := by rw [typeLookup_type, builtinLookup_eq_fast]; kernel_rfl
theorem noAttr_list {prog : Program} {w : World} {A : Around} {E : Value → Shared → Prop} {s : Shared} {a : Addr} {xs : Array Value} {k : Nat} {name : Str} {Q : Option Value → Shared → Prop}
    (hx : s.heap.get? a = some { cls := .type "list", data := .seq xs k }) (hmiss : typeLookup (.type "list") name = pure none) (hname : (["__module__", "__name__", "__qualname__", "__doc__", "__annotations__"] : List Str).contains name = false) (hA : A.handled = none)
    (h : ∀ h' tk, (∀ b o, s.heap.get? b = some o → h'.get? b = some o) → Q none { s with heap := h', toks := tk }) (hsz : name.length + 100 ≤ sizeLine := by size_fits) :
    wpAny (model prog w) A (getAttr? (.ref a) name) Q E s := by
  obtain ⟨hp, g, d, tk, os⟩ := s
  have hT : ∀ tk', (⟨hp, g, d, tk', os⟩ : Shared).TypeIs (.ref a) "list" := fun _ => ⟨_, hx, rfl⟩
  have f1 := sub_AttributeError
  have f3 := F.slot_list_getattribute.lookup
  have f4 := F.slot_list_getattribute.bind (.ref a)
  have f5 := am_list_getattr_none
  unfold getAttr? getAttrBy? getAttrBy
  repeat (any_goals (first | assumption | exact hT _ | ((with_reducible show wpAny _ _ (call (Value.builtin "list.__getattribute__") _ _) _ _ _); refine call_meets F.slot_list_getattribute (hT _) am_entry_list_getattribute (F.args_list_getattribute_2 _ _) (meets_getattribute_miss_list a xs k #[] name _ hmiss hname hsz) ⟨hx, hA, fun h' tk' e hx' => ?_⟩) | wp_step))
  obtain ⟨t', u', he⟩ := hx'.there
  show wpAny _ _ (getattributeRaised _ _ _ _ _ _ _) _ _ _
  unfold getattributeRaised
  repeat (any_goals (first | assumption | wp_step))
  exact h _ _ hx'.keeps
section
variable {prog : Program} {w : World} {K : Type} [DecidableEq K] {knd : KeyKind prog w K} {A : Around} {R : Result → Shared → Prop} {I : Addr} {fp wr : List Addr} {n : Nat} {P : Nat → Value → Prop} {St : Nat → Heap → Prop}
noncomputable def PairAt (knd : KeyKind prog w K) (h : Heap) (a : Addr) (kv : K × Value) : Prop := ∃ key o n, h.get? a = some o ∧ o.cls = .type "tuple" ∧ o.data = .seq #[key, kv.2] n ∧ knd.is kv.1 key = true
theorem dict_kept {h h' : Heap} {d : Addr} {kvs : List (K × Value)} (hm : h.DictOf knd d kvs) (f : ∀ o, h.get? d = some o → h'.get? d = some o) : h'.DictOf knd d kvs := let ⟨o, es, ep, ho, r⟩ := hm; ⟨o, es, ep, f o ho, r⟩
theorem codeAny_update_loop (W : Walks prog w A.in1 I fp wr n P St) (d : Addr) (hdf : d ∉ fp) (more : List (K × Value)) (hn : more.length = n) (hsz : n ≤ sizeLine) (tup : Nat → Addr) (htw : ∀ i, i < n → tup i ∉ wr ∧ tup i ≠ d) (hP : ∀ i v, i < n → P i v → v = .ref (tup i)) :
    ∀ (k j : Nat) (s : Shared) (ix : Int) (t : Tok), n - j = k → j ≤ n → St j s.heap → s.heap.DictOf knd d (merged [] (more.take j)) → (∀ i kv, more[i]? = some kv → PairAt knd s.heap (tup i) kv) →
    (∀ h' tk, h'.DictOf knd d (merged [] more) → (∀ b o, b ∉ wr → b ≠ d → s.heap.get? b = some o → h'.get? b = some o) → R (.ok (.ret .none)) { s with heap := h', toks := tk }) →
    codeAny (model prog w) A (.builtin "dict.update.loop" ⟨[.ref d, .ref I, .int ix t, .none], []⟩) R s := by
  have hdw : d ∉ wr := fun h => hdf (W.sub _ h)
  intro k
  induction k with
  | zero =>
    intro j s ix t hk hj hst hd hp hR
    have hin : j = n := by omega
    subst hin
    refine codeAny_builtin F.entry_dict_update_loop ?_
    rw [Around.under_plainId F.plain_dict_update_loop _]
    show wpAny _ A.in1 (pyNext (.ref I) >>= _) _ _ s
    refine wpAny_bind (W.done s _ _ hst fun h' tk hk' => ?_)
    show wpAny _ A.in1 (Builtin.Dict.addKeywords d [] >>= _) _ _ _
    refine wpAny_bind (wpAny_pure (wpAny_pure ?_))
    rw [← hn, List.take_length] at hd
    exact hR h' tk (dict_kept hd fun o e => hk' d o hdw e) fun b o hb _ e => hk' b o hb e
  | succ k ih =>
    intro j s ix t hk hj hst hd hp hR
    have hlt : j < n := by omega
    refine codeAny_builtin F.entry_dict_update_loop ?_
    rw [Around.under_plainId F.plain_dict_update_loop _]
    show wpAny _ A.in1 (pyNext (.ref I) >>= _) _ _ s
    refine wpAny_bind (W.item j s _ _ hlt hst fun v h' tk hPv hst' hk' => ?_)
    have ev := hP j v hlt hPv
    subst ev
    obtain ⟨kv, hkv⟩ : ∃ kv, more[j]? = some kv := ⟨_, List.getElem?_eq_getElem (by omega)⟩
    obtain ⟨key, ob, m, ht, hcl, hda, hkey⟩ := hp j kv hkv
    have ht' := hk' _ _ (htw j hlt).1 ht
    show wpAny _ A.in1 (holding [Value.ref (tup j)] _ >>= _) _ _ _
    refine wpAny_bind (wpAny_holding (wpAny_bind (wpAny_tryCatch ?_)))
    unfold Builtin.Dict.pairItems
    refine wpAny_bind (wpAny_typeOf (T := "tuple") ⟨_, ht', hcl⟩ ?_)
    rw [if_pos (by decide)]
    refine wpAny_bind (wpAny_seqItems ht' hda ?_)
    refine wpAny_pure ?_
    show wpAny _ A.in1 (holding [key, kv.2] (dictSet d key kv.2)) _ _ _
    have hd' : h'.DictOf knd d (merged [] (more.take j)) := dict_kept hd fun o e => hk' d o hdw e
    refine wpAny_holding (wpAny_dictSet_pairs (s := { s with heap := h', toks := tk }) hkey hd' (fun h2 hd2 hs2 => ?_) (hsz := by have := merged_length_le [] (more.take j); rw [List.length_nil, List.length_take] at this; omega))
    rw [← merged_take_succ [] more j kv hkv] at hd2
    have kp : ∀ b o, b ∉ wr → b ≠ d → s.heap.get? b = some o → h2.get? b = some o := fun b o hb hbd e => (hs2.2 b hbd).trans (hk' b o hb e)
    refine wpAny_pure ⟨plainId_quiet F.plain_dict_update_loop _, ih (j + 1) _ _ _ (by omega) hlt (W.frame _ _ _ hst' fun b hb o e => ?_) hd2 (fun i kv' hi => ?_) fun h3 tk3 hd3 hk3 => ?_⟩
    · exact (hs2.2 b fun z => hdf (z ▸ hb)).trans e
    · obtain ⟨key', o', m', e', x'⟩ := hp i kv' hi
      have hi' : i < n := by rw [← hn]; exact (List.getElem?_eq_some_iff.mp hi).1
      exact ⟨key', o', m', kp _ _ (htw i hi').1 (htw i hi').2 e', x'⟩
    · exact hR h3 tk3 hd3 fun b o hb hbd e => hk3 b o hb hbd (kp b o hb hbd e)
end
section
variable {prog : Program} {w : World} {K : Type} [DecidableEq K] {knd : KeyKind prog w K} {A : Around} {E : Value → Shared → Prop} {s : Shared}
theorem call_dict_pairs {l : Addr} {its : Array Value} {c : Nat} {more : List (K × Value)} {tup : Nat → Addr} {Q : Value → Shared → Prop} (hA : A.handled = none) (hl : s.heap.get? l = some { cls := .type "list", data := .seq its c })
    (hn : more.length = its.size) (hsz : its.size ≤ sizeLine) (hit : ∀ (i : Nat) (v : Value), its[i]? = some v → v = .ref (tup i)) (hp : ∀ i kv, more[i]? = some kv → PairAt knd s.heap (tup i) kv) (nd : (more.map (·.1)).Nodup)
    (h : ∀ h' tk, h'.DictOf knd s.heap.objs.size more → (∀ b o, s.heap.get? b = some o → h'.get? b = some o) → Q (.ref s.heap.objs.size) { s with heap := h', toks := tk }) :
    wpAny (model prog w) A (call (.type "dict") [.ref l]) Q E s := by
  refine callType_codes (Q₁ := fun obj s₁ => obj = .ref s.heap.objs.size ∧ s₁ = { s with heap := s.heap.push { cls := .type "dict", data := .dict #[] } }) F.kt_called_dict (F.kt_typeCall_dict_1 _) F.entry_dict_init (kt_code_dict_new _ ⟨rfl, rfl⟩) ?_
  rintro obj s₁ ⟨rfl, rfl⟩
  have hnew : (s.heap.push { cls := .type "dict", data := .dict #[] }).DictOf knd s.heap.objs.size [] := Heap.DictOf.new s.heap
  have hl' : (s.heap.push { cls := .type "dict", data := .dict #[] }).get? l = some { cls := .type "list", data := .seq its c } := Heap.get?_push_of_some _ hl
  refine ⟨hnew.typeIs, F.args_dict_init_2 _ _, ?_⟩
  unfold Builtin.«dict.__init__»
  refine wpAny_bind ?_
  unfold Builtin.Dict.selfAndRest
  refine wpAny_bind (wpAny_notOrdered_dict hnew.typeIs ?_)
  show wpAny _ _ (pure (s.heap.objs.size, [Value.ref l])) _ _ _
  refine wpAny_pure ?_
  show wpAny _ _ (Builtin.Dict.updateFrom "dict.__init__" s.heap.objs.size (.ref l) [] .none) _ _ _
  unfold Builtin.Dict.updateFrom
  refine wpAny_bind (wpAny_typeOf (T := "list") ⟨_, hl', rfl⟩ ?_)
  rw [if_pos (by decide)]
  refine wpAny_bind (noAttr_list hl' F.list_keys_none (by decide) hA fun h' tk hk => ?_)
  rw [if_pos (show (none : Option Value).isNone = true from rfl)]
  have hl2 := hk _ _ hl'
  have hlt : l < s.heap.objs.size := Heap.lt_size hl
  have hd2 : h'.DictOf knd s.heap.objs.size [] := dict_kept hnew fun o e => hk _ _ e
  have hds : s.heap.objs.size < h'.objs.size := by obtain ⟨o, _, _, ho, _⟩ := hd2; exact Heap.lt_size ho
  have htl : ∀ i, i < its.size → tup i < s.heap.objs.size := fun i hi => by
    obtain ⟨kv, hkv⟩ : ∃ kv, more[i]? = some kv := ⟨_, List.getElem?_eq_getElem (by omega)⟩
    obtain ⟨_, _, _, e, _⟩ := hp i kv hkv
    exact Heap.lt_size e
  refine wpAny_bind (wpAny_rule ?_)
  refine wpAny_bind (wpAny_pyIter_list (items := its) ⟨_, hl2, rfl, c, rfl⟩ ?_)
  have W := Walks.list (prog := prog) (w := w) (A := A.in1.in1) hA h'.objs.size l (Nat.ne_of_lt (Nat.lt_trans hlt hds)) its
  refine wpAny_pure ⟨plainId_quiet F.plain_dict_update_loop _, codeAny_update_loop (knd := knd) (A := A.in1) W s.heap.objs.size ?_ more hn hsz tup (fun i hi => ⟨?_, ?_⟩) (fun i v _ e => hit i v e) _ 0 _ _ _ rfl (Nat.zero_le _) ⟨⟨_, Heap.get?_push_size _ rfl, rfl, rfl⟩, ?_⟩ ?_ (fun i kv hi => ?_) fun h3 tk3 hd3 hk3 => ?_⟩
  · intro hm
    rcases List.mem_cons.mp hm with e | hm
    · exact absurd e (Nat.ne_of_lt hds)
    · exact absurd (List.mem_singleton.mp hm).symm (Nat.ne_of_lt hlt)
  · intro hm
    exact absurd (List.mem_singleton.mp hm) (Nat.ne_of_lt (Nat.lt_trans (htl i hi) hds))
  · exact Nat.ne_of_lt (htl i hi)
  · exact ⟨_, Heap.get?_push_of_some _ hl2, rfl, c, rfl⟩
  · exact hd2.push _
  · obtain ⟨key, ob, m, e, x⟩ := hp i kv hi
    exact ⟨key, ob, m, Heap.get?_push_of_some _ (hk _ _ (Heap.get?_push_of_some _ e)), x⟩
  · rw [merged_nil_of_nodup more nd] at hd3
    refine ⟨rfl, h h3 tk3 hd3 fun b o e => hk3 b o (fun hm => ?_) ?_ (Heap.get?_push_of_some _ (hk _ _ (Heap.get?_push_of_some _ e)))⟩
    · exact absurd (List.mem_singleton.mp hm) (Nat.ne_of_lt (Nat.lt_trans (Heap.lt_size e) hds))
    · exact Nat.ne_of_lt (Heap.lt_size e)
end
end PySem
namespace L2
open PySem PySem.Spec PyProof.Rows
noncomputable def rDictP : List V → Hp → VK → Prop := fun xs H Q => ∃ (l : Addr) (ps : List (Addr × Key × V)), xs = [.ref l] ∧ H l = some (.lst (ps.map fun q => V.ref q.1)) ∧ (∀ q ∈ ps, H q.1 = some (.tup [kV q.2.1, q.2.2])) ∧ (ps.map fun q => q.2.1).Nodup ∧
  ∀ d, H d = none → Q (.ref d) (upd H d (.dK (ps.map (·.2))))
section
variable {X : Cx}
theorem call_dictP (hc : X.calm = true) : CallR X (.type "dict") rDictP := by
  intro pins s σ H xs us Q I r h
  obtain ⟨l, ps, rfl, hl, ht, nd, q⟩ := h
  obtain ⟨u, rfl, rx⟩ := vals1 r
  cases rx
  obtain ⟨z, its, c, rv, ll, el⟩ := I.lstM hl
  rw [List.length_map] at z ll
  have get : ∀ (i : Nat) q, ps[i]? = some q → its[i]? = some (.ref q.1) ∧ ∃ key v o n, s.heap.get? q.1 = some o ∧ o.cls = .type "tuple" ∧ o.data = .seq #[key, v] n ∧ (mixKind X.prog X.w).is q.2.1 key = true ∧ RelV q.2.2 v := fun i q hq => by
    obtain ⟨u, hu, ru⟩ := Vals.get (x := V.ref q.1) rv (by rw [List.getElem?_map, hq]; rfl)
    cases ru
    refine ⟨hu, ?_⟩
    have e := ht q (List.mem_of_getElem? hq)
    obtain ⟨_, us, rt, it⟩ := I.hok _ _ e
    obtain ⟨a, b, rfl, ra, rb⟩ := Vals.two rt
    obtain ⟨o, ho, hcl, n, hda⟩ := it
    exact ⟨a, b, o, n, ho, hcl, hda, kV_is ra, rb⟩
  obtain ⟨vs, hvs⟩ : ∃ vs : List (Key × Value), vs = (List.range ps.length).map fun i => match ps[i]? with
    | some q => (q.2.1, match s.heap.get? q.1 with | some o => (match o.data with | .seq xs _ => xs.getD 1 .none | _ => .none) | none => .none)
    | none => (.inl 0, .none) := ⟨_, rfl⟩
  have hv : ∀ (i : Nat) q, ps[i]? = some q → ∃ key v o n, vs[i]? = some (q.2.1, v) ∧ s.heap.get? q.1 = some o ∧ o.cls = .type "tuple" ∧ o.data = .seq #[key, v] n ∧ (mixKind X.prog X.w).is q.2.1 key = true ∧ RelV q.2.2 v := fun i q hq => by
    obtain ⟨_, key, v, o, n, e, e2, e3, k, rv⟩ := get i q hq
    have hi := (List.getElem?_eq_some_iff.mp hq).1
    refine ⟨key, v, o, n, ?_, e, e2, e3, k, rv⟩
    rw [hvs, List.getElem?_map, List.getElem?_range hi]
    show some (match ps[i]? with | some q => _ | none => _) = _
    rw [hq]
    show some (q.2.1, match s.heap.get? q.1 with | some o => _ | none => _) = _
    rw [e]
    show some (q.2.1, match o.data with | .seq xs _ => _ | _ => _) = _
    rw [e3]; rfl
  have lv : vs.length = ps.length := by rw [hvs, List.length_map, List.length_range]
  clear hvs
  have keys : vs.map (·.1) = ps.map fun q => q.2.1 := by
    apply List.ext_getElem?; intro i
    rw [List.getElem?_map, List.getElem?_map]
    cases hq : ps[i]? with
    | none => rw [List.getElem?_eq_none (by rw [lv]; exact List.getElem?_eq_none_iff.mp hq)]; rfl
    | some q => obtain ⟨_, v, _, _, e, _⟩ := hv i q hq; rw [e]; rfl
  have kv : KV (ps.map (·.2)) vs := by
    refine paired_of (by rw [List.length_map, lv]) fun i a b ha hb => ?_
    rw [List.getElem?_map] at ha
    obtain ⟨q, hq, rfl⟩ := Option.map_eq_some_iff.mp ha
    obtain ⟨_, v, _, _, e, _, _, _, _, rv⟩ := hv i q hq
    rw [e] at hb
    cases hb
    exact ⟨rfl, rv⟩
  refine call_dict_pairs (knd := mixKind X.prog X.w) (its := its.toArray) (c := c) (more := vs) (tup := fun i => match ps[i]? with | some q => q.1 | none => 0) (I.ok.hd hc) el (by rw [lv, ll]; simp) (by simpa using (ll ▸ z)) (fun i v e => ?_) (fun i kv' e => ?_) (by rw [keys]; exact nd) fun h' tk hd hk => ?_
  · have hi : i < ps.length := by rw [ll]; have := (Array.getElem?_eq_some_iff.mp e).1; simpa using this
    obtain ⟨q', hq⟩ : ∃ q', ps[i]? = some q' := ⟨_, List.getElem?_eq_getElem hi⟩
    have e2 := (get i q' hq).1
    have e : its[i]? = some v := by simpa using e
    rw [e2] at e
    cases e
    rw [hq]
  · have hi : i < ps.length := by rw [← lv]; exact (List.getElem?_eq_some_iff.mp e).1
    obtain ⟨q', hq⟩ : ∃ q', ps[i]? = some q' := ⟨_, List.getElem?_eq_getElem hi⟩
    obtain ⟨key, v, o, n, e1, e2, e3, e4, e5, _⟩ := hv i q' hq
    rw [e1] at e
    cases e
    rw [hq]
    exact ⟨key, o, n, e2, e3, e4, e5⟩
  · refine ⟨.ref s.heap.objs.size, _, I.laid (t' := tk) hk (Nat.le_refl _) (show ObjOk X.prog X.w _ h' _ (.dK (ps.map (·.2))) from ⟨by rw [List.length_map]; exact z, beq_eq_false_iff_ne.mpr fun e => absurd e.symm (Nat.ne_of_lt I.big), vs, kv, hd⟩), rfl, q _ (I.hok.fresh (Nat.le_refl _))⟩
end
section
variable {H : Hp} {Q : VK}
theorem s_dictP {l : Addr} {ps : List (Addr × Key × V)} (e : H l = some (.lst (ps.map fun q => V.ref q.1))) (ht : ∀ q ∈ ps, H q.1 = some (.tup [kV q.2.1, q.2.2])) (nd : (ps.map fun q => q.2.1).Nodup) (h : ∀ d H2, H d = none → Same H H2 → H2 d = some (.dK (ps.map (·.2))) → Q (.ref d) H2) : rDictP [.ref l] H Q := ⟨l, ps, rfl, e, ht, nd, s_alloc h⟩
end
end L2
set_option Elab.async false
set_option linter.all false
set_option maxRecDepth 100000
set_option maxHeartbeats 4000000
namespace L2
open PySem PySem.Spec PyProof.Rows
noncomputable def Itd (a : Addr) (o : Obj) (kvs : List (Key × V)) : It :=
  ⟨fun i H => H a = some (.frz o (.dK kvs)) ∧ i < kvs.length, fun i H x H' => H' = H ∧ (keysV kvs)[i]? = some x, fun i H => H a = some (.frz o (.dK kvs)) ∧ i = kvs.length⟩
theorem frz_at {P : Program} {w : World} {H : Hp} {h : Heap} {a : Addr} {o : Obj} {kvs : List (Key × V)} {es : Array DictEntry} {ep : Nat} (ok : HOk P w H h) (e : H a = some (.frz o (.dK kvs))) (hd : o.data = .dict es ep) :
    (a == sysModules) = false ∧ ∃ vs, KV kvs vs ∧ h.DictAt (mixKind P w) a vs ep := by
  obtain ⟨q, z, lo, vs, rel, o', es', ep', h1, h2, h3, r⟩ := (show ObjOk P w H h a (.frz o (.dK kvs)) from ok a _ e)
  rw [q] at h1; cases h1
  rw [hd] at h3; cases h3
  exact ⟨lo, vs, rel, o, es, q, h2, hd, r⟩
theorem turn_dict {P : Program} {w : World} {K : PySem.W.Frag} {tg : Expr} (a it : Addr) (o : Obj) (kvs : List (Key × V)) (es : Array DictEntry) (ep : Nat) (hd : o.data = .dict es ep) : Turn P w K tg (Itd a o kvs) [it] it (fun i h => h.IsKeyIter it a i kvs.length ep) where
  mem := by simp
  obj := fun i h st b hb => by
    have e : b = it := by simpa using hb
    subst e
    obtain ⟨o, e, c, d⟩ := st
    exact ⟨o, e, fun v z => by rw [d] at z; cases z⟩
  keep := fun i h h' st k => let ⟨o, e, r⟩ := st; ⟨o, k it (by simp) o e, r⟩
  item := by
    intro X hP hw hK hc i pins s σ H E I hf st hg
    subst hP hw hK
    obtain ⟨hq, hi⟩ := hg
    obtain ⟨lo, vs, rel, dd⟩ := frz_at I.hok hq hd
    have hlen := rel.length
    obtain ⟨f0, f1, f2, f3, f4, f5⟩ := hf it (by simp)
    rw [hlen] at st
    have hx : vs[i]? = some ((vs[i]'(by omega)).1, (vs[i]'(by omega)).2) := List.getElem?_eq_getElem (by omega)
    refine wpAny_pyNext_dict_item st dd hx fun key h' hk st' sb => ?_
    have I1 : Inv X pins σ H { s with heap := h' } := I.turned (t' := s.toks) (fun b o hb e => (sb.2 b hb).trans e) f0 f1 f3 f4 f5
    rw [← hlen] at st'
    obtain ⟨o, e, c, d⟩ := id st'
    have ek : (keysV kvs)[i]? = some (kV (vs[i]'(by omega)).1) := by
      unfold keysV
      rw [List.getElem?_map]
      have e1 : (kvs.map (·.1))[i]? = (vs.map (·.1))[i]? := by rw [rel.keys]
      rw [List.getElem?_map, List.getElem?_map, hx] at e1
      obtain ⟨kv, e2, e3⟩ := Option.map_eq_some_iff.mp e1
      rw [e2]; exact congrArg some (congrArg kV e3)
    exact ⟨key, rfl, go_of (s := { s with heap := h' }) e c d (by decide) ⟨_, H, I1, rel_key hk, ⟨rfl, ek⟩, st', fun b hb => (hf b hb).1⟩⟩
  done := by
    intro X hP hw hK hc i pins s σ H E I hf st hg
    subst hP hw hK
    obtain ⟨hq, hi⟩ := hg
    obtain ⟨lo, vs, rel, dd⟩ := frz_at I.hok hq hd
    have hlen := rel.length
    obtain ⟨f0, f1, f2, f3, f4, f5⟩ := hf it (by simp)
    rw [hlen] at st
    exact wpAny_pyNext_dict_end (I.ok.hd hc) st dd (List.getElem?_eq_none (by omega)) fun h' eb => ⟨rfl, I.turned (t' := s.toks) (fun b o hb e => eb b o hb e) f0 f1 f3 f4 f5⟩
  self := fun A i s Q E st h => wpAny_pyIter_keyiter st h
noncomputable def iDict (tl : TE) : TI := fun σ H R => tl σ H fun x H1 => ∃ a kvs, x = .ref a ∧ Rd H1 a (.dK kvs) ∧ ∀ o H2, H2 a = some (.frz o (.dK kvs)) → (∀ b, b ≠ a → H2 b = H1 b) → R (Itd a o kvs) H2
theorem s_iDict {tl : TE} {σ : St} {H : Hp} {R : It → Hp → Prop} (h : tl σ H fun x H1 => ∃ a kvs, x = .ref a ∧ Rd H1 a (.dK kvs) ∧ ∀ o H2, H2 a = some (.frz o (.dK kvs)) → (∀ b, b ≠ a → H2 b = H1 b) → R (Itd a o kvs) H2) : iDict tl σ H R := h
theorem pi_dict {X : Cx} {tg l : Expr} {tl : TE} (hl : PE X l tl) : PI X tg l (iDict tl) := by
  intro pins s σ H R I h
  refine thn (hl pins s σ H _ I h) fun v s1 ⟨x, H1, I1, r1, q1⟩ => ?_
  obtain ⟨a, kvs, rfl, hr, q⟩ := q1
  cases r1
  have fz : ∃ o H2, Inv X pins σ H2 s1 ∧ H2 a = some (.frz o (.dK kvs)) ∧ (∀ b, b ≠ a → H2 b = H1 b) ∧ ∃ es ep, o.data = .dict es ep := by
    rcases hr with hr | ⟨o, hr⟩
    · obtain ⟨z, lo, vs, rel, dd⟩ := dk_of I1.hok hr
      obtain ⟨o, es, ep, h1, h2, h3, r⟩ := id dd
      have I2 := I1.write (t' := s1.toks) (h' := s1.heap) (x := a) (e := a) (o := .frz o (.dK kvs)) (by rw [hr]; exact True.intro) (.inl rfl) (fun b u _ e => e) ⟨o, h1⟩ ⟨h1, z, lo, vs, rel, dd⟩
      exact ⟨o, _, I2, upd_same, fun b hb => upd_ne hb, es, ep, h3⟩
    · obtain ⟨q, z, lo, vs, rel, o', es, ep, h1, h2, h3, r⟩ := (show ObjOk X.prog X.w H1 s1.heap a (.frz o (.dK kvs)) from I1.hok a _ hr)
      rw [q] at h1; cases h1
      exact ⟨o, H1, I1, hr, fun _ _ => rfl, es, ep, h3⟩
  obtain ⟨o, H2, I2, e2, k2, es, ep, hd⟩ := fz
  obtain ⟨lo, vs, rel, dd⟩ := frz_at I2.hok e2 hd
  refine wpAny_pyIter_dict lo dd ?_
  refine ⟨s1.heap.objs.size, [s1.heap.objs.size], _, _, H2, rfl, I2.kept (t' := s1.toks) fun b o e => Heap.get?_push_of_some _ e, turn_dict a _ o kvs es ep hd, ⟨_, Heap.get?_push_size _ rfl, rfl, by rw [rel.length]; rfl⟩, fun b hb => ?_, q o H2 e2 k2⟩
  have e : b = s1.heap.objs.size := by simpa using hb
  subst e
  exact I2.fpOk (Nat.le_refl _) (I2.hok.fresh (Nat.le_refl _))
theorem for_dict {a : Addr} {o : Obj} {kvs : List (Key × V)} {g : TG} {tb : TS} {D : Ends} {σ : St} {H : Hp} (Pv : Nat → St → Hp → Prop) (h0 : Pv 0 σ H) (hl : ∀ i σ H, i ≤ kvs.length → Pv i σ H → H a = some (.frz o (.dK kvs)))
    (hs : ∀ i k v σ H, kvs[i]? = some (k, v) → Pv i σ H → g (kV k) σ H fun σ2 H2 => tb { D with nx := Pv (i + 1), ct := Pv (i + 1), bk := D.nx } σ2 H2) (hd : ∀ σ H, Pv kvs.length σ H → D.nx σ H) :
    ∃ W : Nat → Nat → St → Hp → Prop, (∃ m, W 0 m σ H) ∧ ∀ i m σ H, W i m σ H →
      ((Itd a o kvs).stop i H ∧ D.nx σ H) ∨ ((Itd a o kvs).go i H ∧ ∃ N : St → Hp → Prop, (∀ σ' H', N σ' H' → ∃ m', m' < m ∧ W (i + 1) m' σ' H') ∧ ∀ x H', (Itd a o kvs).yld i H x H' → g x σ H' fun σ2 H2 => tb { D with nx := N, ct := N, bk := D.nx } σ2 H2) := by
  refine ⟨fun i m σ H => m = kvs.length - i ∧ i ≤ kvs.length ∧ Pv i σ H, ⟨kvs.length, by simp, Nat.zero_le _, h0⟩, ?_⟩
  rintro i m σ H ⟨rfl, hi, p⟩
  have q := hl i σ H hi p
  by_cases hlt : i < kvs.length
  · refine .inr ⟨⟨q, hlt⟩, Pv (i + 1), fun σ' H' p' => ⟨kvs.length - (i + 1), by omega, rfl, hlt, p'⟩, fun x H' y => ?_⟩
    obtain ⟨e1, y⟩ := y
    subst e1
    unfold keysV at y
    rw [List.getElem?_map] at y
    obtain ⟨kv, e2, e3⟩ := Option.map_eq_some_iff.mp y
    subst e3
    exact hs i kv.1 kv.2 σ _ e2 p
  · have e : i = kvs.length := by omega
    subst e
    exact .inl ⟨⟨q, rfl⟩, hd σ H p⟩
section
variable {σ : St} {H : Hp} {Q : VK} {a : Addr} {kvs : List (Key × V)} {z : Str} {v : V}
theorem rd_frz {o : Obj} {u : HO} (e : H a = some (.frz o u)) : Rd H a u := .inr ⟨o, e⟩
theorem DGet.rd {k : Key} (e : Rd H a (.dK kvs)) : DGet H a (kV k) (valV kvs k) := .inl ⟨kvs, k, e, rfl, rfl⟩
theorem s_dgetSR (e : Rd H a (.dK kvs)) (l : valV kvs (Sum.inr z) = some v) (h : Q v H) : DGetAt (.ref a) Q (.str z) H := ⟨a, v, rfl, by rw [← l]; exact DGet.rd (k := Sum.inr z) e, h⟩
end
end L2
set_option autoImplicit false
namespace M
theorem half_or (a b : Nat) : (a ||| b) / 2 = a / 2 ||| b / 2 := by
  apply Nat.eq_of_testBit_eq; intro i
  simp [Nat.testBit_div_two, Nat.testBit_or]
theorem half_and (a b : Nat) : (a &&& b) / 2 = a / 2 &&& b / 2 := by
  apply Nat.eq_of_testBit_eq; intro i
  simp [Nat.testBit_div_two, Nat.testBit_and]
theorem half_xor (a b : Nat) : (a ^^^ b) / 2 = a / 2 ^^^ b / 2 := by
  apply Nat.eq_of_testBit_eq; intro i
  simp [Nat.testBit_div_two, Nat.testBit_xor]
theorem or_sum (a : Nat) : ∀ b : Nat, a ||| b = (a ^^^ b) + (a &&& b) := by
  induction a using Nat.strongRecOn with
  | ind a ih =>
    intro b
    by_cases ha : a = 0
    · subst ha; simp
    · have h := ih (a / 2) (by omega) (b / 2)
      have e1 := Nat.div_add_mod (a ||| b) 2
      have e2 := Nat.div_add_mod (a ^^^ b) 2
      have e3 := Nat.div_add_mod (a &&& b) 2
      rw [half_or] at e1
      rw [half_xor] at e2
      rw [half_and] at e3
      have m1 : (a ||| b) % 2 = (a % 2 ||| b % 2) := by have := @Nat.or_mod_two_pow a b 1; simpa using this
      have m2 : (a ^^^ b) % 2 = (a % 2 ^^^ b % 2) := by have := @Nat.xor_mod_two_pow a b 1; simpa using this
      have m3 : (a &&& b) % 2 = (a % 2 &&& b % 2) := by have := @Nat.and_mod_two_pow a b 1; simpa using this
      have c : (a % 2 ||| b % 2) = (a % 2 ^^^ b % 2) + (a % 2 &&& b % 2) := by
        rcases Nat.mod_two_eq_zero_or_one a with h1 | h1 <;> rcases Nat.mod_two_eq_zero_or_one b with h2 | h2 <;> rw [h1, h2] <;> decide
      omega
noncomputable def pb : Nat → Nat → Bool
  | 0, _ => false
  | w + 1, m => (m.testBit w) ^^ (pb w m)
noncomputable def pl (w m : Nat) : List Nat := (List.range w).filter m.testBit
noncomputable def xm (ps : List Nat) : Nat := ps.foldl (fun a p => a ^^^ 2 ^ p) 0
theorem xm_from (ps : List Nat) : ∀ (a k : Nat), (ps.foldl (fun a p => a ^^^ 2 ^ p) a).testBit k = (a.testBit k ^^ (ps.count k % 2 == 1)) := by
  induction ps with
  | nil => intro a k; simp
  | cons p ps ih =>
    intro a k
    rw [List.foldl_cons, ih, Nat.testBit_xor, Nat.testBit_two_pow, List.count_cons]
    by_cases h : p = k
    · subst h
      simp only [decide_true, beq_self_eq_true, if_true]
      rcases Nat.mod_two_eq_zero_or_one (List.count p ps) with z | z
      · have e : (List.count p ps + 1) % 2 = 1 := by omega
        rw [z, e]; cases a.testBit p <;> rfl
      · have e : (List.count p ps + 1) % 2 = 0 := by omega
        rw [z, e]; cases a.testBit p <;> rfl
    · have hb : (p == k) = false := beq_eq_false_iff_ne.mpr h
      simp [hb, h]
theorem xm_bit (ps : List Nat) (k : Nat) : (xm ps).testBit k = (ps.count k % 2 == 1) := by
  unfold xm; rw [xm_from]; simp
theorem count_filter_range (w k : Nat) (p : Nat → Bool) : ((List.range w).filter p).count k = if k < w ∧ p k = true then 1 else 0 := by
  have nd : ((List.range w).filter p).Nodup := List.Pairwise.filter p List.nodup_range
  by_cases h : k < w ∧ p k = true
  · rw [if_pos h]
    have hm : k ∈ (List.range w).filter p := List.mem_filter.mpr ⟨List.mem_range.mpr h.1, h.2⟩
    exact List.Nodup.count nd |>.trans (by rw [if_pos hm])
  · rw [if_neg h]
    refine List.count_eq_zero.mpr fun hm => h ?_
    obtain ⟨a, b⟩ := List.mem_filter.mp hm
    exact ⟨List.mem_range.mp a, b⟩
theorem pl_count (w m k : Nat) : (pl w m).count k = if k < w ∧ m.testBit k = true then 1 else 0 := count_filter_range w k m.testBit
theorem xm_ext {w m : Nat} {ps : List Nat} (hm : m < 2 ^ w) (h : ∀ k, ps.count k % 2 = (pl w m).count k % 2) : xm ps = m := by
  apply Nat.eq_of_testBit_eq; intro k
  rw [xm_bit, h, pl_count]
  by_cases hk : k < w
  · cases e : m.testBit k <;> simp [hk, e]
  · rw [Nat.testBit_lt_two_pow (Nat.lt_of_lt_of_le hm (Nat.pow_le_pow_right (by decide) (Nat.not_lt.mp hk)))]
    simp [hk]
end M
set_option autoImplicit false
namespace M
noncomputable def Span : List Nat → Nat → Prop
  | [], x => x = 0
  | r :: rs, x => Span rs x ∨ Span rs (x ^^^ r)
noncomputable def sm : List Nat → Nat → Nat
  | [], _ => 0
  | r :: rs, p => (if p.testBit 0 then r else 0) ^^^ sm rs (p / 2)
theorem xor_lt_pow {x y t : Nat} (h1 : x < 2 ^ t) (h2 : y < 2 ^ t) : x ^^^ y < 2 ^ t := Nat.xor_lt_two_pow h1 h2
noncomputable def Fre (rows : List Nat) (i : Nat) : Prop := i < rows.length ∧ ¬ Span (rows.take i) (rows.getD i 0)
noncomputable def Frs (rows : List Nat) (q : Nat) : Prop := ∀ i, q.testBit i = true → Fre rows i
structure Ech (es : List (Nat × Nat)) (rows : List Nat) : Prop where
  nz : ∀ e ∈ es, e.1 ≠ 0
  lt : ∀ e ∈ es, e.2 < 2 ^ rows.length
  sm : ∀ e ∈ es, sm rows e.2 = e.1
  nd : (es.map fun e => e.1.log2).Nodup
  all : ∀ y, Span rows y → y ≠ 0 → ∃ e ∈ es, e.1.log2 = y.log2
  sub : ∀ e ∈ es, Frs rows e.2
noncomputable def tt (p : Prop) : Bool := @decide p (Classical.propDecidable p)
noncomputable def fr (rows : List Nat) : List Nat := (List.range rows.length).filter fun i => !tt (Span (rows.take i) (rows.getD i 0))
structure Nul (nms rows : List Nat) : Prop where
  lt : ∀ x ∈ nms, x < 2 ^ rows.length
  nz : ∀ x ∈ nms, x ≠ 0
  sm : ∀ x ∈ nms, sm rows x = 0
  pw : nms.Pairwise fun a b => a.log2 < b.log2
  len : nms.length + (fr rows).length = rows.length
noncomputable def Inj (ws : List Nat) : Prop := ∀ p, p < 2 ^ ws.length → sm ws p = 0 → p = 0
structure Sums (ks rows : List Nat) : Prop where
  nd : ks.Nodup
  all : ∀ x, x ∈ ks ↔ Span rows x
end M
set_option autoImplicit false
namespace M
noncomputable def xs (rows ps : List Nat) : Nat := ps.foldl (fun a k => a ^^^ rows.getD k 0) 0
end M
set_option autoImplicit false
namespace M
noncomputable abbrev od (m : Nat) : Bool := pb 1000 m
structure Bar (rows : List Nat) (b m : Nat) : Prop where
  ev : ∀ y, Span rows y → od (m &&& y) = false
  bit : m.testBit b = true
  low : ∀ k, k < b → m.testBit k = false
  oth : ∀ k, k ≠ b → (∀ y, Span rows y → y ≠ 0 → y.log2 ≠ k) → m.testBit k = false
  lt : ∀ W, (∀ r ∈ rows, r < 2 ^ W) → b < W → m < 2 ^ W
structure BarI (es : List (Nat × Nat)) (ts : List Nat) (b m : Nat) : Prop where
  ev : ∀ e ∈ es, e.1.log2 ∈ ts → od (m &&& e.1) = false
  bit : m.testBit b = true
  low : ∀ k, k < b → m.testBit k = false
  oth : ∀ k, k ≠ b → (∀ e ∈ es, e.1.log2 ≠ k) → m.testBit k = false
  lt : ∀ W, (∀ e ∈ es, e.1 < 2 ^ W) → b < W → m < 2 ^ W
end M
set_option autoImplicit false
namespace M
end M
set_option autoImplicit false
namespace M
noncomputable def cm (a b : Nat) : Nat := if b = 0 then 0 else (if b % 2 = 1 then a else 0) ^^^ 2 * cm a (b / 2)
termination_by b
decreasing_by omega
noncomputable def Dv (d x : Nat) : Prop := ∃ q, cm q d = x
structure Rm (d x r : Nat) : Prop where
  lt : r < 2 ^ d.log2
  dv : Dv d (x ^^^ r)
end M
set_option autoImplicit false
namespace M
structure Ord (d e : Nat) : Prop where
  pos : 1 ≤ e
  one : Rm d (2 ^ e) 1
  least : ∀ j, 1 ≤ j → j < e → ¬ Rm d (2 ^ j) 1
  le : e ≤ 2 ^ d.log2
end M
set_option autoImplicit false
namespace M
noncomputable def bn (b : Bool) : Nat := if b then 1 else 0
noncomputable def pk (s : Nat → Bool) (t : Nat) : Nat → Nat
  | 0 => 0
  | L + 1 => pk s t L ^^^ (if s (t + L) then 2 ^ L else 0)
theorem pk_lt (s : Nat → Bool) (t : Nat) : ∀ L, pk s t L < 2 ^ L
  | 0 => Nat.one_pos
  | L + 1 => by
    have ih := pk_lt s t L
    refine xor_lt_pow (Nat.lt_of_lt_of_le ih (Nat.pow_le_pow_right (by decide) (by omega))) ?_
    split
    · exact Nat.pow_lt_pow_right (by decide) (by omega)
    · exact Nat.two_pow_pos _
theorem pk_bit (s : Nat → Bool) (t : Nat) : ∀ L p, (pk s t L).testBit p = (decide (p < L) && s (t + p))
  | 0, p => by simp [pk]
  | L + 1, p => by
    rw [pk, Nat.testBit_xor, pk_bit s t L p]
    rcases Nat.lt_trichotomy p L with h | h | h
    · have e : (if s (t + L) = true then 2 ^ L else 0 : Nat).testBit p = false := by
        cases s (t + L) <;> simp [Nat.testBit_two_pow]; omega
      rw [e]; simp [h, show p < L + 1 by omega]
    · subst h
      cases hs : s (t + p) <;> simp [Nat.testBit_two_pow_self]
    · have e : (if s (t + L) = true then 2 ^ L else 0 : Nat).testBit p = false := by
        cases s (t + L) <;> simp [Nat.testBit_two_pow]; omega
      rw [e]; simp [show ¬ p < L by omega, show ¬ p < L + 1 by omega]
noncomputable def lf (G : Nat) : Nat → (Nat → Bool) → Nat → Bool
  | 0, _, _ => false
  | L + 1, s, t => lf G L s t ^^ (G.testBit L && s (t + L))
noncomputable def tr (as : List Nat) (x : Nat) : Nat := pk (fun k => od (as.getD k 0 &&& x)) 0 as.length
noncomputable def lm (L G : Nat) : List Nat := (List.range (L - 1)).map (fun p => 2 ^ (p + 1)) ++ (if 0 < L then [G] else [])
end M
set_option autoImplicit false
namespace M
theorem rev_ind {α : Type} {P : List α → Prop} (h0 : P []) (h1 : ∀ l x, P l → P (l ++ [x])) (l : List α) : P l := by
  have : ∀ l : List α, P l.reverse := fun l => by
    induction l with
    | nil => exact h0
    | cons x l ih => rw [List.reverse_cons]; exact h1 _ _ ih
  have := this l.reverse
  rwa [List.reverse_reverse] at this
end M
namespace M
end M
set_option autoImplicit false
namespace M
end M
set_option Elab.async false
set_option linter.all false
set_option maxRecDepth 100000
set_option maxHeartbeats 4000000
namespace Sx
open PySem L2
noncomputable abbrev nat (k : Nat) : V := .int (k : Int)
theorem room100 {k : Nat} {A : Around} (r : Room k A) : A.units + 100 < cLine := by have := r.un; omega
theorem pow_cast (h : Nat) : (2 : Int) ^ h = ((2 ^ h : Nat) : Int) := by norm_cast
theorem shl1 (k : Nat) : (1 : Int) * 2 ^ ((k : Int).toNat) = ((2 ^ k : Nat) : Int) := by rw [Int.toNat_natCast, Int.one_mul]; norm_cast
theorem bitOr_nat (a b : Nat) : Builtin.bitOr (a : Int) (b : Int) = ((a ||| b : Nat) : Int) := by
  have e1 : Builtin.bitNot (a : Int) = -(a : Int) - 1 := by first | rfl | (unfold Builtin.bitNot; omega)
  have e2 : Builtin.bitNot (b : Int) = -(b : Int) - 1 := by first | rfl | (unfold Builtin.bitNot; omega)
  unfold Builtin.bitOr Builtin.bitAnd
  rw [decide_eq_false (show ¬ (0 : Int) ≤ Builtin.bitNot (a : Int) by rw [e1]; omega), decide_eq_false (show ¬ (0 : Int) ≤ Builtin.bitNot (b : Int) by rw [e2]; omega)]
  have n : ∀ x : Int, Builtin.bitNot (Builtin.bitNot x) = x := fun x => by unfold Builtin.bitNot; omega
  simp only [n, Int.toNat_natCast]
theorem bitXor_nat (a b : Nat) : Builtin.bitXor (a : Int) (b : Int) = ((a ^^^ b : Nat) : Int) := by
  unfold Builtin.bitXor
  rw [bitOr_nat, bitAnd_nat]
  have := M.or_sum a b
  omega
theorem bits_zero : Builtin.Int.intBits ((0 : Nat) : Int) = 0 := by decide
theorem bits_log {m : Nat} (h : m ≠ 0) : Builtin.Int.intBits (m : Int) = m.log2 + 1 := by
  unfold Builtin.Int.intBits
  have e : ((m : Int) == 0) = false := by rw [beq_eq_false_iff_ne]; omega
  rw [e, if_neg Bool.false_ne_true, Int.natAbs_natCast]
theorem bit_test (m i : Nat) : Builtin.bitAnd ((m : Int) / 2 ^ ((0 + (i : Int)).toNat)) 1 = if m.testBit i then 1 else 0 := by
  have e0 : (0 + (i : Int)).toNat = i := by omega
  rw [e0, pow_cast]
  have e1 : (m : Int) / ((2 ^ i : Nat) : Int) = ((m >>> i : Nat) : Int) := by rw [Nat.shiftRight_eq_div_pow]; norm_cast
  rw [e1, show (1 : Int) = ((1 : Nat) : Int) from rfl, bitAnd_nat, Nat.and_one_is_mod]
  have : m.testBit i = (m >>> i % 2 == 1) := by
    rw [Nat.testBit_eq_decide_div_mod_eq, Nat.shiftRight_eq_div_pow]
    rcases Nat.mod_two_eq_zero_or_one (m / 2 ^ i) with h | h <;> rw [h] <;> rfl
  rw [this]
  rcases Nat.mod_two_eq_zero_or_one (m >>> i) with h | h <;> rw [h] <;> rfl
structure En where
  a : Addr
  m : Nat
  p : Nat
noncomputable def kvsOf (es : List En) : List (Key × V) := es.map fun e => (Sum.inl ((e.m.log2 : Nat) : Int), V.ref e.a)
theorem putK_new {kvs : List (Key × V)} {k : Key} {v : V} (h : valV kvs k = none) : putK kvs k v = kvs ++ [(k, v)] := by
  unfold putK
  rw [valV_any, h]
  rfl
structure StA (H : Hp) (C p d f n : Addr) (rows : List Nat) : Prop where
  ho : ∃ dx, H p = some (.ins C dx [("by_top", .ref d), ("free_places", .ref f), ("null_masks", .ref n)])
  he : ∃ es : List En, H d = some (.dK (kvsOf es)) ∧ (∀ e ∈ es, H e.a = some (.tup [nat e.m, nat e.p])) ∧ M.Ech (es.map fun e => (e.m, e.p)) rows ∧ es.length = (M.fr rows).length
  hf : H f = some (.lst ((M.fr rows).map nat))
  hn : ∃ nms, H n = some (.lst (nms.map nat)) ∧ M.Nul nms rows
  ne : f ≠ n
theorem get_map {α : Type} {f : α → V} {ws : List α} {i : Nat} {x : V} (h : (ws.map f)[i]? = some x) : ∃ k, ws[i]? = some k ∧ x = f k := by
  rw [List.getElem?_map] at h
  cases e : ws[i]? with
  | none => rw [e] at h; cases h
  | some k => rw [e] at h; exact ⟨k, rfl, (Option.some.inj h).symm⟩
theorem take_succ {α : Type} {ws : List α} {i : Nat} {w : α} (h : ws[i]? = some w) : ws.take (i + 1) = ws.take i ++ [w] := by rw [List.take_succ, h]; rfl
theorem flat_nats (ns : List Nat) : (ns.map nat).all flatV = true := by simp [flatV]
theorem s_eqLT {K : PySem.W.Frag} {H : Hp} {Q : VK} {neg : Bool} {p q : Addr} {ns : List Nat} (e : SqL K H p (ns.map nat)) (e' : SqL K H q (ns.map nat)) (h : Q (.bl (!neg)) H) : rEqL K neg (.ref p) (.ref q) H Q := by
  refine ⟨p, q, _, _, rfl, rfl, e, e', flat_nats ns, flat_nats ns, ?_⟩
  rw [eqVs_refl (flat_nats ns)]
  cases neg <;> exact h
theorem hu0_of {A : Around} {k : Nat} (hr : Room k A) : A.units < cLine := by have := hr.un; omega
theorem cut_ints (ns : List Int) (lo hi : Option Int) : ∃ cs : List Int, cutV (ns.map V.int) lo hi = cs.map V.int ∧ cs.length ≤ ns.length := by
  refine ⟨(ns.drop (HT.sIx (ns.map V.int).length 0 lo)).take (HT.sIx (ns.map V.int).length (ns.map V.int).length hi - HT.sIx (ns.map V.int).length 0 lo), ?_, ?_⟩
  · unfold cutV
    rw [List.map_take, List.map_drop]
  · rw [List.length_take, List.length_drop]; omega
noncomputable def sp_law (K : PySem.W.Frag) : Sp := fun vs H Q _ => ∃ (a : Addr) (ns : List Int), vs = [.ref a] ∧ SqL K H a (ns.map V.int) ∧ ns.length ≤ 63 ∧ ∀ H', Q (.bl true) H'
structure Prs (H : Hp) (ws : List Nat) (D : Addr) (ps : List (Addr × Nat)) : Prop where
  l : H D = some (.lst (ps.map fun q => V.ref q.1))
  t : ∀ q ∈ ps, H q.1 = some (.tup [nat q.2, nat (M.sm ws q.2)])
  b : ∀ q ∈ ps, q.2 < 2 ^ ws.length
end Sx
set_option Elab.async false
set_option linter.all false
set_option maxRecDepth 100000
set_option maxHeartbeats 4000000
namespace Sx
open PySem L2
theorem nat_int (l : List Nat) : l.map nat = (l.map fun (k : Nat) => (k : Int)).map V.int := by rw [List.map_map]; rfl
section
variable {H : Hp} {Q : VK}
theorem sum_cast : ∀ l : List Nat, (l.map fun (k : Nat) => (k : Int)).sum = ((l.sum : Nat) : Int)
  | [] => rfl
  | x :: l => by rw [List.map_cons, List.sum_cons, List.sum_cons, sum_cast l]; push_cast; rfl
theorem s_sumN {p : Addr} {l : List Nat} (e : H p = some (.lst (l.map nat))) (h : Q (nat l.sum) H) : rSumL [.ref p] H Q := by
  refine ⟨p, l.map fun (k : Nat) => (k : Int), rfl, by rw [e, nat_int], ?_⟩
  rw [sum_cast]
  exact h
theorem eqVs_nil (l : List Nat) : eqVs (l.map nat) [] = l.isEmpty := by
  unfold eqVs
  cases l with
  | nil => rfl
  | cons x l => simp
theorem s_eqNil {K : PySem.W.Frag} {neg : Bool} {p q : Addr} {l : List Nat} (e : SqL K H p (l.map nat)) (e' : SqL K H q []) (h : Q (.bl (if neg then !l.isEmpty else l.isEmpty)) H) : rEqL K neg (.ref p) (.ref q) H Q := by
  refine ⟨p, q, _, _, rfl, rfl, e, e', flat_nats l, rfl, ?_⟩
  rw [eqVs_nil]
  exact h
end
theorem bits_le {m w : Nat} (hm : m < 2 ^ w) : Builtin.Int.intBits (m : Int) ≤ w := by
  by_cases h : m = 0
  · subst h; rw [bits_zero]; exact Nat.zero_le _
  · rw [bits_log h]; exact (Nat.log2_lt h).mpr hm
end Sx
set_option Elab.async false
set_option linter.all false
set_option maxRecDepth 100000
set_option maxHeartbeats 4000000
namespace Sx
open PySem L2
noncomputable def cell (ns : List Int) (k : Int) : Int := if k < ns.length then ns.getD k.toNat 0 else 41 * k + 3
noncomputable def sp_cell2 (K : PySem.W.Frag) : Sp := fun vs H Q _ => ∃ (p : Addr) (ns : List Int) (k : Int), vs = [.ref p, .int k] ∧ SqL K H p (ns.map V.int) ∧ 0 ≤ k ∧ Q (.int (cell ns k)) H
theorem c_cell2 {K : PySem.W.Frag} {H : Hp} {Q : VK} {E : XK} {p : Addr} {ns : List Int} {k : Int} (e : SqL K H p (ns.map V.int)) (h0 : 0 ≤ k) (q : Q (.int (cell ns k)) H) : sp_cell2 K [.ref p, .int k] H Q E := ⟨p, ns, k, rfl, e, h0, q⟩
structure Acr (rows : List Nat) (wd : Nat) (ms : List Nat) : Prop where
  len : ms.length + (M.fr rows).length = wd
  inj : M.Inj ms
  lt : ∀ m ∈ ms, m < 2 ^ wd
  ev : ∀ m ∈ ms, ∀ y, M.Span rows y → M.od (m &&& y) = false
  all : ∀ z, z < 2 ^ wd → (∀ y, M.Span rows y → M.od (z &&& y) = false) → M.Span ms z
end Sx
set_option Elab.async false
set_option linter.all false
set_option maxRecDepth 100000
set_option maxHeartbeats 4000000
namespace Sx
open PySem L2
noncomputable def dg (m : Nat) : Int := (Builtin.Int.intBits (m : Int) : Int) - 1
end Sx
set_option Elab.async false
set_option linter.all false
set_option maxRecDepth 100000
set_option maxHeartbeats 4000000
namespace Sx
open PySem L2
noncomputable def wholeB (k : String) : Bool := subB k "int" && !subB k "bool"
noncomputable def maskB (x : V) (w : Int) : Bool := match x with
  | .int i => decide (0 ≤ i) && decide (((Builtin.Int.intBits i : Nat) : Int) ≤ w)
  | _ => false
noncomputable def sp_whole (K : PySem.W.Frag) : Sp := fun vs H Q _ => ∃ x k, vs = [x] ∧ kindV K H x k ∧ Q (.bl (wholeB k)) H
noncomputable def sp_mask (K : PySem.W.Frag) : Sp := fun vs H Q _ => ∃ x k w, vs = [x, .int w] ∧ kindV K H x k ∧ Q (.bl (maskB x w)) H
theorem c_whole {K : PySem.W.Frag} {H : Hp} {Q : VK} {E : XK} {x : V} {k : String} (hk : kindV K H x k) (q : Q (.bl (wholeB k)) H) : sp_whole K [x] H Q E := ⟨x, k, rfl, hk, q⟩
theorem c_mask {K : PySem.W.Frag} {H : Hp} {Q : VK} {E : XK} {x : V} {k : String} {i : Int} (hk : kindV K H x k) (q : Q (.bl (maskB x i)) H) : sp_mask K [x, .int i] H Q E := ⟨x, k, i, rfl, hk, q⟩
theorem emod_nat {c m : Int} (h : 0 < m) : ∃ k : Nat, c % m = (k : Int) ∧ (k : Int) < m := by
  obtain ⟨k, hk⟩ := Int.eq_ofNat_of_zero_le (Int.emod_nonneg c (Int.ne_of_gt h))
  exact ⟨k, hk, by rw [← hk]; exact Int.emod_lt_of_pos c h⟩
end Sx
set_option Elab.async false
set_option linter.all false
set_option maxRecDepth 100000
set_option maxHeartbeats 4000000
namespace Sx
open PySem L2
noncomputable abbrev Pr3 := Addr × Nat × Nat
noncomputable def refs (ps : List Pr3) : List V := ps.map fun q => V.ref q.1
noncomputable def Prt (H : Hp) (ps : List Pr3) : Prop := ∀ q ∈ ps, H q.1 = some (.tup [nat q.2.1, nat q.2.2])
structure MaA (H : Hp) (C p : Addr) (m : Nat) (nx os : List Pr3) : Prop where
  ho : ∃ dx tn to, H p = some (.ins C dx [("inputs", nat m), ("nexts", .ref tn), ("outs", .ref to)]) ∧ H tn = some (.tup (refs nx)) ∧ H to = some (.tup (refs os))
  hn : Prt H nx
  hs : Prt H os
noncomputable def sq (bs : List Bool) : Nat → Bool := fun i => bs.getD i false
noncomputable def sp_maskof : Sp := fun vs H Q _ => ∃ (r : Addr) (ps : List Nat), vs = [.ref r] ∧ H r = some (.lst (ps.map nat)) ∧ (∀ p ∈ ps, p < 1000) ∧ Q (nat (M.xm ps)) H
structure Tab (H : Hp) (n o : Addr) (m : Nat) (nx os : List Pr3) : Prop where
  m6 : m ≤ 6
  n : H n = some (.lst (refs nx))
  o : H o = some (.lst (refs os))
  pn : Prt H nx
  po : Prt H os
  ln : nx.length ≤ 120
  lo : os.length ≤ 6
  bn : ∀ q ∈ nx ++ os, q.2.1 < 2 ^ nx.length ∧ q.2.2 < 2 ^ m
structure Lfsr (nx os : List Pr3) (L G : Nat) : Prop where
  nx : nx.map (fun q => q.2.1) = M.lm L G
  os : ∃ t, os = [(t, (if 0 < L then 1 else 0), 0)]
theorem maskB_nat {a n : Nat} (h : a < 2 ^ n) : maskB (nat a) (n : Int) = true := by
  have := bits_le h
  show (decide ((0 : Int) ≤ (a : Int)) && decide (((Builtin.Int.intBits (a : Int) : Nat) : Int) ≤ (n : Int))) = true
  rw [decide_eq_true (by omega), decide_eq_true (by omega)]; rfl
theorem xm_take {ps : List Nat} {i k : Nat} (h : ps[i]? = some k) : M.xm (ps.take (i + 1)) = M.xm (ps.take i) ^^^ 2 ^ k := by rw [take_succ h]; unfold M.xm; rw [List.foldl_append]; rfl
theorem xm_pl {w m : Nat} (h : m < 2 ^ w) : M.xm (M.pl w m) = m := M.xm_ext h fun k => rfl
end Sx
set_option Elab.async false
set_option linter.all false
set_option maxRecDepth 100000
set_option maxHeartbeats 4000000
namespace Sx
open PySem L2
noncomputable abbrev ms (nx : List Pr3) : List Nat := nx.map fun q => q.2.1
end Sx
set_option Elab.async false
set_option linter.all false
set_option maxRecDepth 100000
set_option maxHeartbeats 4000000
namespace Sx
open PySem L2
structure MaG (m : Nat) (nx os : List Pr3) : Prop where
  m6 : m ≤ 6
  ln : nx.length ≤ 120
  lo : os.length ≤ 6
  bn : ∀ q ∈ nx ++ os, q.2.1 < 2 ^ nx.length ∧ q.2.2 < 2 ^ m
noncomputable def Kinds (K : PySem.W.Frag) (H : Hp) (xs : List V) : Prop := ∀ x ∈ xs, ∃ k, kindV K H x k
theorem cut_take (xs : List V) (y : Nat) (hy : y ≤ xs.length) : cutV xs none (some (y : Int)) = xs.take y := by
  unfold cutV
  rw [HT.sIx_nat, HT.sIx_none, Nat.min_eq_left hy, Nat.sub_zero, List.drop_zero]
structure Asked (K : PySem.W.Frag) (H : Hp) (C p rr : Addr) (m : Nat) (nx os : List Pr3) (x : V) (xs : List V) : Prop where
  ma : MaA H C p m nx os
  g : MaG m nx os
  kx : ∃ k, kindV K H x k
  sq : SqL K H rr xs
  ks : Kinds K H xs
  ln : xs.length ≤ 1000
structure TabT (H : Hp) (t n o : Addr) (m : Nat) (nx os : List Pr3) : Prop where
  t : H t = some (.tup [nat m, .ref n, .ref o])
  tab : Tab H n o m nx os
theorem bit_test' (m i : Nat) : Builtin.bitAnd ((m : Int) / 2 ^ ((i : Int).toNat)) 1 = if m.testBit i then 1 else 0 := by
  have := bit_test m i
  rwa [show (0 : Int) + (i : Int) = (i : Int) from Int.zero_add _] at this
end Sx
set_option Elab.async false
set_option linter.all false
set_option maxRecDepth 100000
set_option maxHeartbeats 4000000
namespace Sx
open PySem L2
theorem cut_drop (xs : List V) (k : Nat) (h : k ≤ xs.length) : cutV xs (some (k : Int)) none = xs.drop k := by
  unfold cutV
  rw [HT.sIx_nat, HT.sIx_none, Nat.min_eq_left h]
  exact List.take_of_length_le (by rw [List.length_drop]; exact Nat.le_refl _)
end Sx
set_option Elab.async false
set_option linter.all false
set_option maxRecDepth 100000
set_option maxHeartbeats 4000000
namespace Sx
open PySem L2
theorem rep_items {K : PySem.W.Frag} {H : Hp} {α : Type} (f : α → V) (g : α → Dt) (r : ∀ x, Rep K H (f x) (g x)) (xs : List α) : ∀ (i : Nat) x d, (xs.map f)[i]? = some x → (xs.map g)[i]? = some d → Rep K H x d := by
  intro i x d h1 h2
  rw [List.getElem?_map] at h1 h2
  cases e : xs[i]? with
  | none => rw [e] at h1; cases h1
  | some y => rw [e] at h1 h2; cases h1; cases h2; exact r y
theorem s_revT {K : PySem.W.Frag} {te : TE} {σ : St} {H : Hp} {Q : VK} (h : te σ H fun x H1 => ∃ a xs, x = .ref a ∧ SqL K H1 a xs ∧ ∀ l, H1 l = none → Q (.ref l) (upd H1 l (.lst xs.reverse))) : tRev K te σ H Q := h
end Sx
set_option Elab.async false
set_option linter.all false
set_option maxRecDepth 100000
set_option maxHeartbeats 4000000
namespace Sx
open PySem L2
noncomputable def low (c : Nat) : Bool := decide (97 ≤ c) && decide (c ≤ 122)
noncomputable def fig (c : Nat) : Bool := decide (48 ≤ c) && decide (c ≤ 57)
noncomputable def nm (l : List Nat) : Bool := match l with
  | [] => false
  | c :: r => decide ((c :: r).length ≤ 6) && low c && (c :: r).all fun c => low c || fig c
noncomputable def nameB (x : V) : Bool := match x with
  | .str z => nm z.cps.toList
  | _ => false
noncomputable def Nm (z : Str) : Prop := nm z.cps.toList = true
noncomputable def sp_name (K : PySem.W.Frag) : Sp := fun vs H Q _ => ∃ x k, vs = [x] ∧ kindV K H x k ∧ (∀ z, x = .str z → z.length ≤ 1000) ∧ ∀ H', Same H H' → Q (.bl (nameB x)) H'
theorem memL (c : Nat) : decide (c ∈ ("abcdefghijklmnopqrstuvwxyz" : Str).cps.toList) = low c := by
  have e : ("abcdefghijklmnopqrstuvwxyz" : Str).cps.toList = List.range' 97 26 := by decide +kernel
  rw [e]
  unfold low
  rw [Bool.eq_iff_iff, Bool.and_eq_true, decide_eq_true_eq, decide_eq_true_eq, decide_eq_true_eq, List.mem_range']
  constructor
  · rintro ⟨i, h, rfl⟩; omega
  · rintro ⟨h1, h2⟩; exact ⟨c - 97, by omega, by omega⟩
theorem memN (c : Nat) : decide (c ∈ ("abcdefghijklmnopqrstuvwxyz0123456789" : Str).cps.toList) = (low c || fig c) := by
  have e : ("abcdefghijklmnopqrstuvwxyz0123456789" : Str).cps.toList = List.range' 97 26 ++ List.range' 48 10 := by decide +kernel
  rw [e]
  unfold low fig
  rw [Bool.eq_iff_iff, Bool.or_eq_true, Bool.and_eq_true, Bool.and_eq_true, decide_eq_true_eq, decide_eq_true_eq, decide_eq_true_eq, decide_eq_true_eq, decide_eq_true_eq, List.mem_append, List.mem_range', List.mem_range']
  constructor
  · rintro (⟨i, h, rfl⟩ | ⟨i, h, rfl⟩)
    · left; omega
    · right; omega
  · rintro (⟨h1, h2⟩ | ⟨h1, h2⟩)
    · exact .inl ⟨c - 97, by omega, by omega⟩
    · exact .inr ⟨c - 48, by omega, by omega⟩
theorem len_list (z : Str) : z.cps.toList.length = z.length := by simp [Str.length]
theorem str_nil {z : Str} : z = "" ↔ z.cps.toList = [] := by
  constructor
  · rintro rfl; decide +kernel
  · intro h; cases z with | mk c => cases c with | mk l => have h : l = [] := h; subst h; decide +kernel
theorem Nm.len {z : Str} (h : Nm z) : z.length ≤ 6 := by
  have h : nm z.cps.toList = true := h
  have l := len_list z
  cases e : z.cps.toList with
  | nil => rw [e] at l; rw [← l]; decide
  | cons c r =>
    rw [e] at h l
    unfold nm at h
    rw [Bool.and_eq_true, Bool.and_eq_true] at h
    have := of_decide_eq_true h.1.1
    omega
theorem c_nm {K : PySem.W.Frag} {H : Hp} {Q : VK} {E : XK} {z : Str} (h : Nm z) (q : ∀ H', Same H H' → Q (.bl true) H') : sp_name K [.str z] H Q E := ⟨_, "str", rfl, rfl, fun z' e => by cases e; have := h.len; omega, fun H' s => by show Q (.bl (nm z.cps.toList)) H'; rw [show nm z.cps.toList = true from h]; exact q H' s⟩
noncomputable def sp_init0 (K : PySem.W.Frag) : Sp := fun vs H Q _ => ∃ x C dx nm, vs = [.ref x, nm] ∧ Cls K C ∧ NoAttr K C "name" ∧ H x = some (.ins C dx []) ∧ ∀ H2, Upd H H2 x (.ins C dx [("name", nm)]) → Q .non H2
noncomputable def sp_initI (C : Addr) : Sp := fun vs H Q _ => ∃ x dx nm k, vs = [.ref x, nm, k] ∧ H x = some (.ins C dx []) ∧ ∀ H2, Upd H H2 x (.ins C dx [("name", nm), ("number", k)]) → Q .non H2
noncomputable def sp_initT (C : Addr) : Sp := fun vs H Q _ => ∃ x dx nm w k, vs = [.ref x, nm, w, k] ∧ H x = some (.ins C dx []) ∧ ∀ H2, Upd H H2 x (.ins C dx [("name", nm), ("wire", w), ("number", k)]) → Q .non H2
noncomputable def sp_bitI (C : Addr) : Sp := fun vs H Q _ => ∃ p dx nm k kn row st, vs = [.ref p, kn, .int row, .int st] ∧ H p = some (.ins C dx [("name", nm), ("number", .int k)]) ∧ 0 ≤ k ∧ Q (.int (Builtin.bitAnd (row / 2 ^ k.toNat) 1)) H
noncomputable def sp_bitT (C : Addr) : Sp := fun vs H Q _ => ∃ p dx nm w k kn row st, vs = [.ref p, kn, .int row, .int st] ∧ H p = some (.ins C dx [("name", nm), ("wire", w), ("number", .int k)]) ∧ 0 ≤ k ∧ Q (.int (Builtin.bitAnd (st / 2 ^ k.toNat) 1)) H
noncomputable def sp_bitS (K : PySem.W.Frag) (C : Addr) : Sp := fun vs H Q _ => ∃ (p dx : Addr) (nm : V) (tw d : Addr) (ws : List Str) (kvs : List (Key × V)) (f : Str → Int) (row st : Int), vs = [.ref p, .ref d, .int row, .int st] ∧ H p = some (.ins C dx [("name", nm), ("wires", .ref tw)]) ∧ SqT K H tw (ws.map V.str) ∧
  H d = some (.dK kvs) ∧ (∀ w ∈ ws, valV kvs (Sum.inr w) = some (.int (f w))) ∧ Q (.int ((ws.map f).foldl Builtin.bitXor 0)) H
theorem fold_succ {ws : List Str} {f : Str → Int} {i : Nat} {w : Str} (h : ws[i]? = some w) : ((ws.take (i + 1)).map f).foldl Builtin.bitXor 0 = Builtin.bitXor (((ws.take i).map f).foldl Builtin.bitXor 0) (f w) := by
  rw [List.take_succ, h, List.map_append, List.foldl_append]; rfl
structure Nt where
  ins : List Str
  sums : List (Str × List Str)
  sts : List (Str × Str)
  outs : List Str
noncomputable def Nt.names (N : Nt) : List Str := N.ins ++ N.sums.map (·.1) ++ N.sts.map (·.1)
structure Gn (N : Nt) : Prop where
  li : N.ins.length ≤ 6
  ls : N.sums.length ≤ 40
  lt : N.sts.length ≤ 16
  lo : N.outs.length ≤ 6
  lw : ∀ r ∈ N.sums, r.2.length ≤ 24
  nm : ∀ z ∈ N.names, Nm z
  nd : N.names.Nodup
  ws : ∀ r ∈ N.sums, ∀ z ∈ r.2, z ∈ N.names
  ts : ∀ r ∈ N.sts, r.2 ∈ N.names
  os : ∀ z ∈ N.outs, z ∈ N.names
  rk : ∃ rank : Str → Nat, ∀ r ∈ N.sums, ∀ z ∈ r.2, z ∈ N.sums.map (·.1) → rank z < rank r.1
structure Topo (sums : List (Str × List Str)) (od : List Str) : Prop where
  perm : od.Perm (sums.map (·.1))
  need : ∀ (i : Nat) z, od[i]? = some z → ∀ ws, (z, ws) ∈ sums → ∀ y ∈ ws, y ∈ sums.map (·.1) → y ∈ od.take i
noncomputable abbrev Rw := Addr × Addr × Str × List Str
noncomputable abbrev Qs := Addr × Str × Str
structure Hnd (H : Hp) (i s t o : Addr) (rs : List Rw) (qs : List Qs) (N : Nt) : Prop where
  i : H i = some (.lst (N.ins.map V.str))
  s : H s = some (.lst (rs.map fun r => V.ref r.1))
  sr : ∀ r ∈ rs, H r.1 = some (.tup [.str r.2.2.1, .ref r.2.1]) ∧ H r.2.1 = some (.lst (r.2.2.2.map V.str))
  es : rs.map (·.2.2) = N.sums
  t : H t = some (.lst (qs.map fun q => V.ref q.1))
  tr : ∀ q ∈ qs, H q.1 = some (.tup [.str q.2.1, .str q.2.2])
  et : qs.map (·.2) = N.sts
  o : H o = some (.lst (N.outs.map V.str))
theorem Hnd.same {H H2 : Hp} {i s t o : Addr} {rs : List Rw} {qs : List Qs} {N : Nt} (x : Hnd H i s t o rs qs N) (h : Same H H2) : Hnd H2 i s t o rs qs N := ⟨h.get x.i, h.get x.s, fun r m => ⟨h.get (x.sr r m).1, h.get (x.sr r m).2⟩, x.es, h.get x.t, fun q m => h.get (x.tr q m), x.et, h.get x.o⟩
structure Kpt (H : Hp) (i s t o : Addr) (rs : List Rw) (qs : List Qs) (N : Nt) : Prop where
  i : H i = some (.tup (N.ins.map V.str))
  s : H s = some (.tup (rs.map fun r => V.ref r.1))
  sr : ∀ r ∈ rs, H r.1 = some (.tup [.str r.2.2.1, .ref r.2.1]) ∧ H r.2.1 = some (.tup (r.2.2.2.map V.str))
  es : rs.map (·.2.2) = N.sums
  t : H t = some (.tup (qs.map fun q => V.ref q.1))
  tr : ∀ q ∈ qs, H q.1 = some (.tup [.str q.2.1, .str q.2.2])
  et : qs.map (·.2) = N.sts
  o : H o = some (.tup (N.outs.map V.str))
theorem Kpt.same {H H2 : Hp} {i s t o : Addr} {rs : List Rw} {qs : List Qs} {N : Nt} (x : Kpt H i s t o rs qs N) (h : Same H H2) : Kpt H2 i s t o rs qs N := ⟨h.get x.i, h.get x.s, fun r m => ⟨h.get (x.sr r m).1, h.get (x.sr r m).2⟩, x.es, h.get x.t, fun q m => h.get (x.tr q m), x.et, h.get x.o⟩
noncomputable def sp_csizes : Sp := fun vs H Q _ => ∃ (i s t o : Addr) (rs : List Rw) (qs : List Qs) (N : Nt), vs = [.ref i, .ref s, .ref t, .ref o] ∧ Hnd H i s t o rs qs N ∧ Gn N ∧ ∀ H2, Same H H2 → Q .non H2
noncomputable def sp_cnames : Sp := fun vs H Q _ => ∃ (l : Addr) (zs : List Str), vs = [.ref l] ∧ H l = some (.lst (zs.map V.str)) ∧ zs.length ≤ 1000 ∧ zs.Nodup ∧ (∀ z ∈ zs, Nm z) ∧ ∀ H2, Same H H2 → Q .non H2
noncomputable def Knw (H : Hp) (d : Addr) (zs : List Str) : Prop := ∃ kvs : List (Key × V), H d = some (.dK kvs) ∧ kvs.map (·.1) = zs.map Sum.inr
theorem Knw.same {H H2 : Hp} {d : Addr} {zs : List Str} (x : Knw H d zs) (h : Same H H2) : Knw H2 d zs := let ⟨k, e, f⟩ := x; ⟨k, h.get e, f⟩
noncomputable def sp_cwire : Sp := fun vs H Q _ => ∃ (z : Str) (d : Addr) (zs : List Str), vs = [.str z, .ref d] ∧ Knw H d zs ∧ z ∈ zs ∧ Nm z ∧ ∀ H2, Same H H2 → Q .non H2
noncomputable def sp_cwires : Sp := fun vs H Q _ => ∃ (i s t o d : Addr) (rs : List Rw) (qs : List Qs) (N : Nt), vs = [.ref s, .ref t, .ref o, .ref d] ∧ Kpt H i s t o rs qs N ∧ Gn N ∧ Knw H d N.names ∧ ∀ H2, Same H H2 → Q .non H2
theorem val_some {kvs : List (Key × V)} {zs : List Str} (e : kvs.map (·.1) = zs.map Sum.inr) (z : Str) : (valV kvs (Sum.inr z)).isSome = decide (z ∈ zs) := by
  cases h : valV kvs (Sum.inr z) with
  | none =>
    have := valV_not h
    rw [e] at this
    rw [decide_eq_false fun m => this (List.mem_map.mpr ⟨z, m, rfl⟩)]; rfl
  | some v =>
    have := valV_in h
    rw [e] at this
    obtain ⟨y, hy, ey⟩ := List.mem_map.mp this
    cases ey
    rw [decide_eq_true hy]; rfl
theorem put_new {kvs : List (Key × V)} {zs : List Str} (e : kvs.map (·.1) = zs.map Sum.inr) {z : Str} (h : z ∉ zs) (v : V) : putK kvs (Sum.inr z) v = kvs ++ [(Sum.inr z, v)] := by
  refine putK_new ?_
  rw [← Option.not_isSome_iff_eq_none, val_some e z, decide_eq_false h]; exact Bool.false_ne_true
inductive Wob (H : Hp) (CI CS CT : Addr) (N : Nt) (z : Str) (w : Addr) : Prop where
  | i (k : Nat) (dx : Addr) (hk : N.ins[k]? = some z) (e : H w = some (.ins CI dx [("name", .str z), ("number", nat k)])) : Wob H CI CS CT N z w
  | s (ws : List Str) (dx tw : Addr) (hk : (z, ws) ∈ N.sums) (e : H w = some (.ins CS dx [("name", .str z), ("wires", .ref tw)])) (et : H tw = some (.tup (ws.map V.str))) : Wob H CI CS CT N z w
  | t (k : Nat) (y : Str) (dx : Addr) (hk : N.sts[k]? = some (z, y)) (e : H w = some (.ins CT dx [("name", .str z), ("wire", .str y), ("number", nat k)])) : Wob H CI CS CT N z w
theorem Wob.same {H H2 : Hp} {CI CS CT : Addr} {N : Nt} {z : Str} {w : Addr} (x : Wob H CI CS CT N z w) (h : Same H H2) : Wob H2 CI CS CT N z w := by
  cases x with
  | i k dx hk e => exact .i k dx hk (h.get e)
  | s ws dx tw hk e et => exact .s ws dx tw hk (h.get e) (h.get et)
  | t k y dx hk e => exact .t k y dx hk (h.get e)
theorem Wob.name {H : Hp} {CI CS CT : Addr} {N : Nt} {z : Str} {w : Addr} (x : Wob H CI CS CT N z w) : ∃ C dx fs, H w = some (.ins C dx (("name", .str z) :: fs)) ∧ (C = CI ∨ C = CS ∨ C = CT) := by
  cases x with
  | i k dx hk e => exact ⟨_, _, _, e, .inl rfl⟩
  | s ws dx tw hk e et => exact ⟨_, _, _, e, .inr (.inl rfl)⟩
  | t k y dx hk e => exact ⟨_, _, _, e, .inr (.inr rfl)⟩
structure WiA (H : Hp) (CI CS CT d : Addr) (N : Nt) (ws : List (Str × Addr)) : Prop where
  d : H d = some (.dK (ws.map fun q => (Sum.inr q.1, V.ref q.2)))
  nm : ws.map (·.1) = N.names
  ob : ∀ q ∈ ws, Wob H CI CS CT N q.1 q.2
theorem WiA.same {H H2 : Hp} {CI CS CT d : Addr} {N : Nt} {ws : List (Str × Addr)} (x : WiA H CI CS CT d N ws) (h : Same H H2) : WiA H2 CI CS CT d N ws := ⟨h.get x.d, x.nm, fun q m => (x.ob q m).same h⟩
theorem WiA.knw {H : Hp} {CI CS CT d : Addr} {N : Nt} {ws : List (Str × Addr)} (x : WiA H CI CS CT d N ws) : Knw H d N.names := ⟨_, x.d, by rw [List.map_map, ← x.nm, List.map_map]; rfl⟩
noncomputable def sp_wbyname (CI CS CT : Addr) : Sp := fun vs H Q _ => ∃ (i s t o : Addr) (rs : List Rw) (qs : List Qs) (N : Nt), vs = [.ref i, .ref s, .ref t] ∧ Kpt H i s t o rs qs N ∧ Gn N ∧ ∀ (d : Addr) (H2 : Hp) (ws : List (Str × Addr)), H d = none → Same H H2 → WiA H2 CI CS CT d N ws → Q (.ref d) H2
noncomputable def waitB (zs : List Str) (ws : List Str) : Bool := ws.any fun w => decide (w ∈ zs)
noncomputable def sp_waits : Sp := fun vs H Q _ => ∃ (r : Rw) (d : Addr) (zs : List Str), vs = [.ref r.1, .ref d] ∧ H r.1 = some (.tup [.str r.2.2.1, .ref r.2.1]) ∧ H r.2.1 = some (.tup (r.2.2.2.map V.str)) ∧ r.2.2.2.length ≤ 24 ∧ Knw H d zs ∧ ∀ H2, Same H H2 → Q (.bl (waitB zs r.2.2.2)) H2
noncomputable def sp_ordered : Sp := fun vs H Q _ => ∃ (s : Addr) (rs : List Rw) (N : Nt), vs = [.ref s] ∧ H s = some (.tup (rs.map fun r => V.ref r.1)) ∧ (∀ r ∈ rs, H r.1 = some (.tup [.str r.2.2.1, .ref r.2.1]) ∧ H r.2.1 = some (.tup (r.2.2.2.map V.str))) ∧ rs.map (·.2.2) = N.sums ∧ Gn N ∧ ∀ (D : Addr) (H2 : Hp) (od : List Str), H D = none → Same H H2 → H2 D = some (.lst (od.map V.str)) → Topo N.sums od → Q (.ref D) H2
theorem s_extend {H : Hp} {Q : VK} {l b : Addr} {xs zs : List V} (e1 : H l = some (.lst xs)) (e2 : H b = some (.lst zs)) (hl : xs.length + zs.length ≤ sizeLine) (h : ∀ H2, Upd H H2 l (.lst (xs ++ zs)) → Q .non H2) : rExtend (.ref l) [.ref b] H Q := ⟨l, b, xs, zs, rfl, rfl, e1, e2, hl, h _ Upd.of⟩
theorem Wob.keep {H H2 : Hp} {CI CS CT : Addr} {N : Nt} {z : Str} {w D : Addr} {xs : List V} (x : Wob H CI CS CT N z w) (hD : H D = some (.lst xs)) (h : ∀ b o, b ≠ D → H b = some o → H2 b = some o) : Wob H2 CI CS CT N z w := by
  cases x with
  | i k dx hk e => exact .i k dx hk (h _ _ (ne_of e hD (fun z => by cases z)) e)
  | s ws dx tw hk e et => exact .s ws dx tw hk (h _ _ (ne_of e hD (fun z => by cases z)) e) (h _ _ (ne_of et hD (fun z => by cases z)) et)
  | t k y dx hk e => exact .t k y dx hk (h _ _ (ne_of e hD (fun z => by cases z)) e)
structure WL (H0 H : Hp) (CI CS CT : Addr) (N : Nt) (D : Addr) (ys : List V) (zs : List Str) (ws : List (Str × Addr)) : Prop where
  ey : ys = ws.map fun q => V.ref q.2
  nm : ws.map (·.1) = zs
  ob : ∀ q ∈ ws, Wob H CI CS CT N q.1 q.2
  same : Same H0 H
  d : H D = some (.lst ys)
noncomputable def sp_initS2 (K : PySem.W.Frag) (C : Addr) : Sp := fun vs H Q _ => ∃ x dx nm tw ws, vs = [.ref x, nm, .ref tw] ∧ H tw = some (.tup ws) ∧ H x = some (.ins C dx []) ∧
  ∀ H2, Upd H H2 x (.ins C dx [("name", nm), ("wires", .ref tw)]) → Q .non H2
theorem WL.put {H0 H H4 : Hp} {CI CS CT : Addr} {N : Nt} {D : Addr} {ys : List V} {zs : List Str} {ws : List (Str × Addr)} (c : WL H0 H CI CS CT N D ys zs ws) (hD : H0 D = none) (s : Same H H4) {z : Str} {x : Addr} (wb : Wob H4 CI CS CT N z x) (lz : zs.length ≤ 900) {zs' : List Str} (ez : zs' = zs ++ [z]) :
    H4 D = some (.lst ys) ∧ ys.length < sizeLine ∧ ∃ ws, WL H0 (upd H4 D (.lst (ys ++ [.ref x]))) CI CS CT N D (ys ++ [.ref x]) zs' ws := by
  have eD := s.get c.d
  have k : ∀ b o, b ≠ D → H4 b = some o → upd H4 D (.lst (ys ++ [.ref x])) b = some o := fun b o n e => by rw [upd_ne n]; exact e
  have lw : ys.length = zs.length := by rw [c.ey, ← c.nm, List.length_map, List.length_map]
  refine ⟨eD, small1000 (by omega), ws ++ [(z, x)], by rw [List.map_append, c.ey]; rfl, by rw [List.map_append, c.nm, ez]; rfl, fun q hq => ?_, fun b o e => ?_, upd_same⟩
  · rcases List.mem_append.mp hq with h | h
    · exact ((c.ob q h).same s).keep eD k
    · rw [List.mem_singleton] at h; subst h; exact wb.keep eD k
  · exact k _ _ (ne_of_none e hD) (s.get (c.same.get e))
theorem WL.join {H0 H H2 H3 : Hp} {CI CS CT : Addr} {N : Nt} {D D2 : Addr} {ys ys2 : List V} {zs zs2 : List Str} {ws ws2 : List (Str × Addr)} (c : WL H0 H CI CS CT N D ys zs ws) (c2 : WL H H2 CI CS CT N D2 ys2 zs2 ws2) (hD : H0 D = none) (u : Upd H2 H3 D (.lst (ys ++ ys2))) :
    WL H0 H3 CI CS CT N D (ys ++ ys2) (zs ++ zs2) (ws ++ ws2) := by
  have eD := c2.same.get c.d
  refine ⟨by rw [List.map_append, c.ey, c2.ey], by rw [List.map_append, c.nm, c2.nm], fun q hq => ?_, fun b o e => u.oth _ _ (ne_of_none e hD) (c2.same.get (c.same.get e)), u.at'⟩
  rcases List.mem_append.mp hq with h | h
  · exact ((c.ob q h).same c2.same).keep eD u.oth
  · exact (c2.ob q h).keep eD u.oth
structure Otp (sums : List (Str × List Str)) (od : List Str) (lf : List (Str × List Str)) : Prop where
  perm : (od ++ lf.map (·.1)).Perm (sums.map (·.1))
  sub : ∀ r ∈ lf, r ∈ sums
  need : ∀ (i : Nat) z, od[i]? = some z → ∀ ws, (z, ws) ∈ sums → ∀ y ∈ ws, y ∈ sums.map (·.1) → y ∈ od.take i
theorem Otp.start (sums : List (Str × List Str)) : Otp sums [] sums := ⟨List.Perm.refl _, fun _ h => h, fun i z h => by simp at h⟩
theorem Otp.done {sums : List (Str × List Str)} {od : List Str} (o : Otp sums od []) : Topo sums od := ⟨by have := o.perm; rwa [List.map_nil, List.append_nil] at this, o.need⟩
theorem one_row {sums : List (Str × List Str)} (nd : (sums.map (·.1)).Nodup) {z : Str} {ws ws' : List Str} (h : (z, ws) ∈ sums) (h' : (z, ws') ∈ sums) : ws = ws' := by
  induction sums with
  | nil => cases h
  | cons r l ih =>
    rw [List.map_cons, List.nodup_cons] at nd
    rcases List.mem_cons.mp h with e | h
    · rcases List.mem_cons.mp h' with e' | h'
      · rw [← e] at e'; exact (Prod.mk.inj e').2.symm
      · exact absurd (List.mem_map.mpr ⟨_, h', rfl⟩) (by rw [← e] at nd; exact nd.1)
    · rcases List.mem_cons.mp h' with e' | h'
      · exact absurd (List.mem_map.mpr ⟨_, h, rfl⟩) (by rw [← e'] at nd; exact nd.1)
      · exact ih nd.2 h h'
theorem Otp.step {sums : List (Str × List Str)} (nd : (sums.map (·.1)).Nodup) {od : List Str} {lf : List (Str × List Str)} (o : Otp sums od lf) :
    Otp sums (od ++ (lf.filter fun r => !waitB (lf.map (·.1)) r.2).map (·.1)) (lf.filter fun r => waitB (lf.map (·.1)) r.2) := by
  refine ⟨?_, fun r h => o.sub r (List.mem_filter.mp h).1, fun i z hz ws hw y hy hs => ?_⟩
  · refine List.Perm.trans ?_ o.perm
    rw [List.append_assoc, ← List.map_append]
    refine List.Perm.append_left _ (List.Perm.map _ ?_)
    refine List.Perm.trans List.perm_append_comm ?_
    exact List.filter_append_perm _ _
  · by_cases hi : i < od.length
    · rw [List.getElem?_append_left hi] at hz
      rw [List.take_append_of_le_length (Nat.le_of_lt hi)]
      exact o.need i z hz ws hw y hy hs
    · rw [List.getElem?_append_right (by omega)] at hz
      have hm := List.mem_of_getElem? hz
      obtain ⟨r, hr, rfl⟩ := List.mem_map.mp hm
      obtain ⟨hr1, hr2⟩ := List.mem_filter.mp hr
      have e : ws = r.2 := one_row nd hw (o.sub r hr1)
      subst e
      have hn : y ∉ lf.map (·.1) := fun m => by
        have : waitB (lf.map (·.1)) r.2 = true := List.any_eq_true.mpr ⟨y, hy, decide_eq_true m⟩
        rw [this] at hr2
        cases hr2
      have := (o.perm.mem_iff (a := y)).mpr hs
      rcases List.mem_append.mp this with h | h
      · rw [List.take_append, List.mem_append]
        left
        rw [List.take_of_length_le (by omega)]
        exact h
      · exact absurd h hn
theorem least_rank {α : Type} (f : α → Nat) : ∀ l : List α, l ≠ [] → ∃ a ∈ l, ∀ b ∈ l, f a ≤ f b
  | [], h => absurd rfl h
  | [a], _ => ⟨a, List.mem_singleton.mpr rfl, fun b h => by rw [List.mem_singleton.mp h]; exact Nat.le_refl _⟩
  | a :: b :: l, _ => by
    obtain ⟨c, hc, h⟩ := least_rank f (b :: l) (by simp)
    by_cases hac : f a ≤ f c
    · exact ⟨a, List.mem_cons_self .., fun d hd => (List.mem_cons.mp hd).elim (fun e => by rw [e]; exact Nat.le_refl _) fun e => Nat.le_trans hac (h d e)⟩
    · exact ⟨c, List.mem_cons_of_mem _ hc, fun d hd => (List.mem_cons.mp hd).elim (fun e => by rw [e]; omega) fun e => h d e⟩
theorem Otp.ready {N : Nt} (g : Gn N) {od : List Str} {lf : List (Str × List Str)} (o : Otp N.sums od lf) (h : lf ≠ []) : 0 < (lf.filter fun r => !waitB (lf.map (·.1)) r.2).length := by
  obtain ⟨rank, hr⟩ := g.rk
  obtain ⟨r, hm, hl⟩ := least_rank (fun r : Str × List Str => rank r.1) lf h
  refine List.length_pos_of_mem (List.mem_filter.mpr ⟨hm, ?_⟩)
  cases hw : waitB (lf.map (·.1)) r.2 with
  | false => rfl
  | true =>
    obtain ⟨y, hy, hy2⟩ := List.any_eq_true.mp hw
    obtain ⟨r2, hm2, rfl⟩ := List.mem_map.mp (of_decide_eq_true hy2)
    have h1 := hr r (o.sub r hm) _ hy (List.mem_map.mpr ⟨r2, o.sub r2 hm2, rfl⟩)
    have h2 := hl r2 hm2
    omega
theorem filter_less {α : Type} (p : α → Bool) : ∀ l : List α, 0 < (l.filter fun x => !p x).length → (l.filter p).length < l.length := fun l h => by
  have := (List.filter_append_perm p l).length_eq
  rw [List.length_append] at this
  omega
theorem Gn.nds {N : Nt} (g : Gn N) : (N.sums.map (·.1)).Nodup := by
  have := g.nd
  unfold Nt.names at this
  rw [List.nodup_append, List.nodup_append] at this
  exact this.1.2.1
structure NetA (H : Hp) (C CI CS CT p : Addr) (N : Nt) (od : List Str) : Prop where
  ho : ∃ (dx i s t o d tq : Addr) (rs : List Rw) (qs : List Qs) (ws : List (Str × Addr)), H p = some (.ins C dx [("ins", .ref i), ("sums", .ref s), ("kept_stores", .ref t), ("outs", .ref o), ("by_name", .ref d), ("sum_order", .ref tq)]) ∧ Kpt H i s t o rs qs N ∧ WiA H CI CS CT d N ws ∧ H tq = some (.tup (od.map V.str))
  g : Gn N
  tp : Topo N.sums od
theorem NetA.same {H H2 : Hp} {C CI CS CT p : Addr} {N : Nt} {od : List Str} (x : NetA H C CI CS CT p N od) (h : Same H H2) : NetA H2 C CI CS CT p N od :=
  ⟨let ⟨dx, i, s, t, o, d, tq, rs, qs, ws, a, b, c, e⟩ := x.ho; ⟨dx, i, s, t, o, d, tq, rs, qs, ws, h.get a, b.same h, c.same h, h.get e⟩, x.g, x.tp⟩
noncomputable def sp_net (C CI CS CT : Addr) : Sp := fun vs H Q _ => ∃ (x dx i s t o : Addr) (rs : List Rw) (qs : List Qs) (N : Nt), vs = [.ref x, .ref i, .ref s, .ref t, .ref o] ∧ H x = some (.ins C dx []) ∧ Hnd H i s t o rs qs N ∧ Gn N ∧
  ∀ (H2 : Hp) (od : List Str), (∀ b ob, b ≠ x → H b = some ob → H2 b = some ob) → NetA H2 C CI CS CT x N od → Q .non H2
end Sx
set_option Elab.async false
set_option linter.all false
set_option maxRecDepth 100000
set_option maxHeartbeats 4000000
namespace Sx
open PySem L2
noncomputable def Kx (x : Addr) (H H2 : Hp) : Prop := ∀ b ob, b ≠ x → H b = some ob → H2 b = some ob
theorem Kx.trans {x : Addr} {H H2 H3 : Hp} (a : Kx x H H2) (b : Kx x H2 H3) : Kx x H H3 := fun c o n e => b c o n (a c o n e)
theorem Kx.same {x : Addr} {H H2 : Hp} (s : Same H H2) : Kx x H H2 := fun _ _ _ e => s.get e
theorem Kx.upd {x : Addr} {H H2 : Hp} {o : HO} (u : Upd H H2 x o) : Kx x H H2 := u.oth
theorem Kx.tup {x : Addr} {H H2 : Hp} (k : Kx x H H2) {C dx : Addr} {fs : List (Str × V)} (hx : H x = some (.ins C dx fs)) {b : Addr} {xs : List V} (e : H b = some (.tup xs)) : H2 b = some (.tup xs) := k b _ (ne_of e hx fun z => by cases z) e
theorem Kx.lst {x : Addr} {H H2 : Hp} (k : Kx x H H2) {C dx : Addr} {fs : List (Str × V)} (hx : H x = some (.ins C dx fs)) {b : Addr} {xs : List V} (e : H b = some (.lst xs)) : H2 b = some (.lst xs) := k b _ (ne_of e hx fun z => by cases z) e
theorem Kx.hnd {x : Addr} {H H2 : Hp} (k : Kx x H H2) {C dx : Addr} {fs : List (Str × V)} (hx : H x = some (.ins C dx fs)) {i s t o : Addr} {rs : List Rw} {qs : List Qs} {N : Nt} (h : Hnd H i s t o rs qs N) : Hnd H2 i s t o rs qs N :=
  ⟨k.lst hx h.i, k.lst hx h.s, fun r m => ⟨k.tup hx (h.sr r m).1, k.lst hx (h.sr r m).2⟩, h.es, k.lst hx h.t, fun q m => k.tup hx (h.tr q m), h.et, k.lst hx h.o⟩
noncomputable def RwK (H : Hp) (rs : List Rw) : Prop := ∀ r ∈ rs, H r.1 = some (.tup [.str r.2.2.1, .ref r.2.1]) ∧ H r.2.1 = some (.tup (r.2.2.2.map V.str))
noncomputable def QsK (H : Hp) (qs : List Qs) : Prop := ∀ q ∈ qs, H q.1 = some (.tup [.str q.2.1, .str q.2.2])
theorem RwK.same {H H2 : Hp} {rs : List Rw} (h : RwK H rs) (s : Same H H2) : RwK H2 rs := fun r m => ⟨s.get (h r m).1, s.get (h r m).2⟩
theorem QsK.same {H H2 : Hp} {qs : List Qs} (h : QsK H qs) (s : Same H H2) : QsK H2 qs := fun q m => s.get (h q m)
theorem Kx.rw {x : Addr} {H H2 : Hp} (k : Kx x H H2) {C dx : Addr} {fs : List (Str × V)} (hx : H x = some (.ins C dx fs)) {rs : List Rw} (h : RwK H rs) : RwK H2 rs := fun r m => ⟨k.tup hx (h r m).1, k.tup hx (h r m).2⟩
theorem Kx.qs {x : Addr} {H H2 : Hp} (k : Kx x H H2) {C dx : Addr} {fs : List (Str × V)} (hx : H x = some (.ins C dx fs)) {qs : List Qs} (h : QsK H qs) : QsK H2 qs := fun q m => k.tup hx (h q m)
theorem RwK.updL {H H2 : Hp} {rs : List Rw} (h : RwK H rs) {D : Addr} {xs : List V} (hD : H D = some (.lst xs)) (k : ∀ b o, b ≠ D → H b = some o → H2 b = some o) : RwK H2 rs := fun r m => ⟨k _ _ (ne_of (h r m).1 hD fun z => by cases z) (h r m).1, k _ _ (ne_of (h r m).2 hD fun z => by cases z) (h r m).2⟩
theorem QsK.updL {H H2 : Hp} {qs : List Qs} (h : QsK H qs) {D : Addr} {xs : List V} (hD : H D = some (.lst xs)) (k : ∀ b o, b ≠ D → H b = some o → H2 b = some o) : QsK H2 qs := fun q m => k _ _ (ne_of (h q m) hD fun z => by cases z) (h q m)
theorem Kx.kpt {x : Addr} {H H2 : Hp} (k : Kx x H H2) {C dx : Addr} {fs : List (Str × V)} (hx : H x = some (.ins C dx fs)) {i s t o : Addr} {rs : List Rw} {qs : List Qs} {N : Nt} (h : Kpt H i s t o rs qs N) : Kpt H2 i s t o rs qs N :=
  ⟨k.tup hx h.i, k.tup hx h.s, fun r m => ⟨k.tup hx (h.sr r m).1, k.tup hx (h.sr r m).2⟩, h.es, k.tup hx h.t, fun q m => k.tup hx (h.tr q m), h.et, k.tup hx h.o⟩
theorem Kx.wia {x : Addr} {H H2 : Hp} (k : Kx x H H2) {CI CS CT d : Addr} {N : Nt} {ws : List (Str × Addr)} (h : WiA H CI CS CT d N ws) (hd : d ≠ x) (hw : ∀ q ∈ ws, q.2 ≠ x) {C dx : Addr} {fs : List (Str × V)} (hx : H x = some (.ins C dx fs)) : WiA H2 CI CS CT d N ws :=
  ⟨k _ _ hd h.d, h.nm, fun q m => by
    cases h.ob q m with
    | i k' dx' hk e => exact .i k' dx' hk (k _ _ (hw q m) e)
    | s ws' dx' tw hk e et => exact .s ws' dx' tw hk (k _ _ (hw q m) e) (k.tup hx et)
    | t k' y dx' hk e => exact .t k' y dx' hk (k _ _ (hw q m) e)⟩
end Sx
set_option Elab.async false
set_option linter.all false
set_option maxRecDepth 100000
set_option maxHeartbeats 4000000
namespace Sx
open PySem L2
noncomputable def xb (f : Str → Bool) (ws : List Str) : Bool := ws.foldl (fun a w => a ^^ f w) false
theorem xb_snoc (f : Str → Bool) (ws : List Str) (w : Str) : xb f (ws ++ [w]) = (xb f ws ^^ f w) := by unfold xb; rw [List.foldl_append]; rfl
theorem xb_congr {f g : Str → Bool} : ∀ {ws : List Str}, (∀ w ∈ ws, f w = g w) → xb f ws = xb g ws := by
  intro ws
  induction ws using M.rev_ind with
  | h0 => intro _; rfl
  | h1 l x ih => intro h; rw [xb_snoc, xb_snoc, ih fun w hw => h w (List.mem_append_left _ hw), h x (List.mem_append_right _ (List.mem_singleton.mpr rfl))]
structure Val (N : Nt) (row st : Nat) (f : Str → Bool) : Prop where
  i : ∀ (k : Nat) z, N.ins[k]? = some z → f z = row.testBit k
  t : ∀ (k : Nat) z y, N.sts[k]? = some (z, y) → f z = st.testBit k
  s : ∀ z ws, (z, ws) ∈ N.sums → f z = xb f ws
theorem Val.uniq {N : Nt} (g : Gn N) {od : List Str} (tp : Topo N.sums od) {r s : Nat} {f f' : Str → Bool} (a : Val N r s f) (b : Val N r s f') : ∀ z ∈ N.names, f z = f' z := by
  have hin : ∀ z ∈ N.ins, f z = f' z := fun z h => by
    obtain ⟨k, hk⟩ := List.mem_iff_getElem?.mp h
    rw [a.i k z hk, b.i k z hk]
  have hst : ∀ z ∈ N.sts.map (·.1), f z = f' z := fun z h => by
    obtain ⟨q, hq, rfl⟩ := List.mem_map.mp h
    obtain ⟨k, hk⟩ := List.mem_iff_getElem?.mp hq
    rw [a.t k q.1 q.2 hk, b.t k q.1 q.2 hk]
  have hsm : ∀ n (k : Nat) z, k < n → od[k]? = some z → f z = f' z := by
    intro n
    induction n with
    | zero => intro k z h; omega
    | succ n ih =>
      intro k z hk hz
      obtain ⟨row, hrow, e⟩ := List.mem_map.mp (tp.perm.mem_iff.mp (List.mem_of_getElem? hz))
      have e : row.1 = z := e
      subst e
      rw [a.s row.1 row.2 hrow, b.s row.1 row.2 hrow]
      refine xb_congr fun w hw => ?_
      have hwn := g.ws row hrow w hw
      unfold Nt.names at hwn
      rcases List.mem_append.mp hwn with h | h
      · rcases List.mem_append.mp h with h | h
        · exact hin w h
        · have := tp.need k row.1 hz row.2 hrow w hw h
          obtain ⟨j, hj⟩ := List.mem_iff_getElem?.mp this
          have hjk : j < k := by
            have := (List.getElem?_eq_some_iff.mp hj).1
            rw [List.length_take] at this
            omega
          rw [List.getElem?_take_of_lt hjk] at hj
          exact ih j w (by omega) hj
      · exact hst w h
  intro z hz
  unfold Nt.names at hz
  rcases List.mem_append.mp hz with h | h
  · rcases List.mem_append.mp h with h | h
    · exact hin z h
    · obtain ⟨k, hk⟩ := List.mem_iff_getElem?.mp (tp.perm.mem_iff.mpr h)
      exact hsm (k + 1) k z (Nat.lt_succ_self k) hk
  · exact hst z h
noncomputable def mat (f : Str → Bool) (ws : List Str) : Nat := M.pk (fun k => f (ws.getD k "")) 0 ws.length
theorem mat_bit (f : Str → Bool) (ws : List Str) (k : Nat) : (mat f ws).testBit k = (decide (k < ws.length) && f (ws.getD k "")) := by unfold mat; rw [M.pk_bit, Nat.zero_add]
theorem mat_lt (f : Str → Bool) (ws : List Str) : mat f ws < 2 ^ ws.length := M.pk_lt _ _ _
theorem mat_congr {f g : Str → Bool} {ws : List Str} (h : ∀ w ∈ ws, f w = g w) : mat f ws = mat g ws := by
  apply Nat.eq_of_testBit_eq; intro k
  rw [mat_bit, mat_bit]
  by_cases hk : k < ws.length
  · have : ws.getD k "" ∈ ws := by rw [List.getD_eq_getElem?_getD, List.getElem?_eq_getElem hk]; exact List.getElem_mem hk
    rw [h _ this]
  · rw [decide_eq_false hk]; rfl
noncomputable def fv (N : Nt) (row st : Nat) : Str → Bool := Classical.epsilon (Val N row st)
noncomputable def nan (N : Nt) (row st : Nat) : Nat := mat (fv N row st) N.outs
noncomputable def nst (N : Nt) (row st : Nat) : Nat := mat (fv N row st) (N.sts.map (·.2))
theorem fv_eq {N : Nt} (g : Gn N) {od : List Str} (tp : Topo N.sums od) {r s : Nat} {f : Str → Bool} (a : Val N r s f) : ∀ z ∈ N.names, f z = fv N r s z := a.uniq g tp (Classical.epsilon_spec ⟨f, a⟩)
theorem nan_eq {N : Nt} (g : Gn N) {od : List Str} (tp : Topo N.sums od) {r s : Nat} {f : Str → Bool} (a : Val N r s f) : mat f N.outs = nan N r s := mat_congr fun w h => fv_eq g tp a w (g.os w h)
theorem nst_eq {N : Nt} (g : Gn N) {od : List Str} (tp : Topo N.sums od) {r s : Nat} {f : Str → Bool} (a : Val N r s f) : mat f (N.sts.map (·.2)) = nst N r s := mat_congr fun w h => fv_eq g tp a w (by obtain ⟨q, hq, rfl⟩ := List.mem_map.mp h; exact g.ts q hq)
noncomputable def rst (N : Nt) : Nat → List Nat → Nat
  | st, [] => st
  | st, r :: rs => rst N (nst N r st) rs
noncomputable def ran (N : Nt) : Nat → List Nat → List Nat
  | _, [] => []
  | st, r :: rs => nan N r st :: ran N (nst N r st) rs
theorem rst_snoc (N : Nt) (r : Nat) : ∀ (rs : List Nat) (st : Nat), rst N st (rs ++ [r]) = nst N r (rst N st rs)
  | [], _ => rfl
  | q :: rs, st => rst_snoc N r rs (nst N q st)
theorem ran_snoc (N : Nt) (r : Nat) : ∀ (rs : List Nat) (st : Nat), ran N st (rs ++ [r]) = ran N st rs ++ [nan N r (rst N st rs)]
  | [], _ => rfl
  | q :: rs, st => by show nan N q st :: ran N (nst N q st) (rs ++ [r]) = _; rw [ran_snoc N r rs]; rfl
theorem ran_len (N : Nt) : ∀ (rs : List Nat) (st : Nat), (ran N st rs).length = rs.length
  | [], _ => rfl
  | q :: rs, st => by show (ran N (nst N q st) rs).length + 1 = _; rw [ran_len N rs]; rfl
noncomputable def Vals2 (N : Nt) : Prop := ∀ r s, ∃ f, Val N r s f
end Sx
set_option Elab.async false
set_option linter.all false
set_option maxRecDepth 100000
set_option maxHeartbeats 4000000
namespace Sx
open PySem L2
noncomputable def need (N : Nt) (od : List Str) : List Str := N.ins ++ N.sts.map (·.1) ++ od
structure Pre (N : Nt) (row st : Nat) (pre : List Str) (f : Str → Bool) : Prop where
  i : ∀ (k : Nat) z, N.ins[k]? = some z → z ∈ pre → f z = row.testBit k
  t : ∀ (k : Nat) z y, N.sts[k]? = some (z, y) → z ∈ pre → f z = st.testBit k
  s : ∀ z ws, (z, ws) ∈ N.sums → z ∈ pre → f z = xb f ws ∧ ∀ w ∈ ws, w ∈ pre
structure Bt (N : Nt) (row st : Nat) (pre : List Str) (f : Str → Bool) (z : Str) (v : Bool) : Prop where
  i : ∀ k : Nat, N.ins[k]? = some z → v = row.testBit k
  t : ∀ (k : Nat) y, N.sts[k]? = some (z, y) → v = st.testBit k
  s : ∀ ws, (z, ws) ∈ N.sums → v = xb f ws ∧ ∀ w ∈ ws, w ∈ pre
theorem Pre.nil (N : Nt) (row st : Nat) (f : Str → Bool) : Pre N row st [] f := ⟨fun _ _ _ h => absurd h (by simp), fun _ _ _ _ h => absurd h (by simp), fun _ _ _ h => absurd h (by simp)⟩
theorem Pre.step {N : Nt} {row st : Nat} {pre : List Str} {f : Str → Bool} (p : Pre N row st pre f) {z : Str} {v : Bool} (hz : z ∉ pre) (b : Bt N row st pre f z v) : Pre N row st (pre ++ [z]) (fun y => if y = z then v else f y) := by
  have old : ∀ y, y ∈ pre → (if y = z then v else f y) = f y := fun y hy => if_neg (fun (e : y = z) => hz (e ▸ hy))
  have xo : ∀ ws : List Str, (∀ w ∈ ws, w ∈ pre) → xb (fun y => if y = z then v else f y) ws = xb f ws := fun ws h => xb_congr fun w hw => old w (h w hw)
  refine ⟨fun k y hk hy => ?_, fun k y x hk hy => ?_, fun y ws hs hy => ?_⟩
  · rcases List.mem_append.mp hy with h | h
    · rw [old y h]; exact p.i k y hk h
    · rw [List.mem_singleton] at h; subst h; rw [if_pos rfl]; exact b.i k hk
  · rcases List.mem_append.mp hy with h | h
    · rw [old y h]; exact p.t k y x hk h
    · rw [List.mem_singleton] at h; subst h; rw [if_pos rfl]; exact b.t k x hk
  · rcases List.mem_append.mp hy with h | h
    · obtain ⟨e, hw⟩ := p.s y ws hs h
      rw [old y h, xo ws hw]
      exact ⟨e, fun w m => List.mem_append_left _ (hw w m)⟩
    · rw [List.mem_singleton] at h; subst h
      obtain ⟨e, hw⟩ := b.s ws hs
      rw [if_pos rfl, xo ws hw]
      exact ⟨e, fun w m => List.mem_append_left _ (hw w m)⟩
section
variable {N : Nt} (g : Gn N)
include g
theorem nd_parts : N.ins.Nodup ∧ (N.sums.map (·.1)).Nodup ∧ (N.sts.map (·.1)).Nodup ∧ (∀ z ∈ N.ins, z ∉ N.sums.map (·.1)) ∧ (∀ z ∈ N.ins, z ∉ N.sts.map (·.1)) ∧ ∀ z ∈ N.sums.map (·.1), z ∉ N.sts.map (·.1) := by
  have h := g.nd
  unfold Nt.names at h
  rw [List.nodup_append, List.nodup_append] at h
  obtain ⟨⟨a, b, c⟩, d, e⟩ := h
  exact ⟨a, b, d, fun z h1 h2 => c z h1 z h2 rfl, fun z h1 h2 => e z (List.mem_append_left _ h1) z h2 rfl, fun z h1 h2 => e z (List.mem_append_right _ h1) z h2 rfl⟩
theorem bt_in {row st : Nat} {pre : List Str} {f : Str → Bool} {k : Nat} {z : Str} (h : N.ins[k]? = some z) : Bt N row st pre f z (row.testBit k) := by
  obtain ⟨a, b, c, d, e, _⟩ := nd_parts g
  have hm := List.mem_of_getElem? h
  refine ⟨fun j hj => ?_, fun j y hj => ?_, fun ws hs => ?_⟩
  · have : k = j := (List.getElem?_inj (List.getElem?_eq_some_iff.mp h).1 a).mp (h.trans hj.symm)
    rw [this]
  · exact absurd (List.mem_map.mpr ⟨_, List.mem_of_getElem? hj, rfl⟩) (e z hm)
  · exact absurd (List.mem_map.mpr ⟨_, hs, rfl⟩) (d z hm)
theorem bt_st {row st : Nat} {pre : List Str} {f : Str → Bool} {k : Nat} {z y : Str} (h : N.sts[k]? = some (z, y)) : Bt N row st pre f z (st.testBit k) := by
  obtain ⟨a, b, c, d, e, e2⟩ := nd_parts g
  have hm : z ∈ N.sts.map (·.1) := List.mem_map.mpr ⟨_, List.mem_of_getElem? h, rfl⟩
  refine ⟨fun j hj => ?_, fun j x hj => ?_, fun ws hs => ?_⟩
  · exact absurd hm (e z (List.mem_of_getElem? hj))
  · have h1 : (N.sts.map (·.1))[k]? = some z := by rw [List.getElem?_map, h]; rfl
    have h2 : (N.sts.map (·.1))[j]? = some z := by rw [List.getElem?_map, hj]; rfl
    have : k = j := (List.getElem?_inj (List.getElem?_eq_some_iff.mp h1).1 c).mp (h1.trans h2.symm)
    rw [this]
  · exact absurd hm (e2 z (List.mem_map.mpr ⟨_, hs, rfl⟩))
theorem bt_sum {row st : Nat} {pre : List Str} {f : Str → Bool} {z : Str} {ws : List Str} (h : (z, ws) ∈ N.sums) (hw : ∀ w ∈ ws, w ∈ pre) : Bt N row st pre f z (xb f ws) := by
  obtain ⟨a, b, c, d, e, e2⟩ := nd_parts g
  have hm : z ∈ N.sums.map (·.1) := List.mem_map.mpr ⟨_, h, rfl⟩
  refine ⟨fun j hj => ?_, fun j x hj => ?_, fun ws' hs => ?_⟩
  · exact absurd hm (d z (List.mem_of_getElem? hj))
  · exact absurd (List.mem_map.mpr ⟨_, List.mem_of_getElem? hj, rfl⟩) (e2 z hm)
  · have := one_row b h hs
    subst this
    exact ⟨rfl, hw⟩
variable {od : List Str} (tp : Topo N.sums od)
include tp
theorem need_mem (z : Str) : z ∈ need N od ↔ z ∈ N.names := by
  unfold need Nt.names
  rw [List.mem_append, List.mem_append, List.mem_append, List.mem_append, tp.perm.mem_iff]
  constructor
  · rintro ((h | h) | h)
    · exact .inl (.inl h)
    · exact .inr h
    · exact .inl (.inr h)
  · rintro ((h | h) | h)
    · exact .inl (.inl h)
    · exact .inr h
    · exact .inl (.inr h)
theorem need_nd : (need N od).Nodup := by
  obtain ⟨a, b, c, d, e, e2⟩ := nd_parts g
  unfold need
  rw [List.nodup_append, List.nodup_append]
  refine ⟨⟨a, c, fun x hx y hy z => e x hx (z ▸ hy)⟩, tp.perm.nodup_iff.mpr b, fun x hx y hy z => ?_⟩
  have hy := tp.perm.mem_iff.mp hy
  subst z
  rcases List.mem_append.mp hx with h | h
  · exact d x h hy
  · exact e2 x hy h
theorem need_len : (need N od).length ≤ 62 := by
  have := tp.perm.length_eq
  have h1 := g.li
  have h2 := g.ls
  have h3 := g.lt
  unfold need
  rw [List.length_map] at this
  rw [List.length_append, List.length_append, List.length_map]
  omega
theorem need_at {i : Nat} {z : Str} (h : (need N od)[i]? = some z) : ∀ ws, (z, ws) ∈ N.sums → ∀ w ∈ ws, w ∈ (need N od).take i := by
  intro ws hs w hw
  obtain ⟨a, b, c, d, e, e2⟩ := nd_parts g
  have hm : z ∈ N.sums.map (·.1) := List.mem_map.mpr ⟨_, hs, rfl⟩
  unfold need at h ⊢
  have hi : (N.ins ++ N.sts.map (·.1)).length ≤ i := by
    refine Nat.le_of_not_lt fun hlt => ?_
    rw [List.getElem?_append_left hlt] at h
    rcases List.mem_append.mp (List.mem_of_getElem? h) with h | h
    · exact d z h hm
    · exact e2 z hm h
  rw [List.getElem?_append_right hi] at h
  rw [List.take_append, List.mem_append, List.take_of_length_le hi]
  have hwn := g.ws _ hs w hw
  unfold Nt.names at hwn
  rcases List.mem_append.mp hwn with h' | h'
  · rcases List.mem_append.mp h' with h' | h'
    · exact .inl (List.mem_append_left _ h')
    · exact .inr (tp.need _ z h ws hs w hw h')
  · exact .inl (List.mem_append_right _ h')
theorem bt_some {row st i : Nat} {f : Str → Bool} {z : Str} (h : (need N od)[i]? = some z) : ∃ v, Bt N row st ((need N od).take i) f z v := by
  have hm := (need_mem g tp z).mp (List.mem_of_getElem? h)
  unfold Nt.names at hm
  rcases List.mem_append.mp hm with h' | h'
  · rcases List.mem_append.mp h' with h' | h'
    · obtain ⟨k, hk⟩ := List.mem_iff_getElem?.mp h'
      exact ⟨_, bt_in g hk⟩
    · obtain ⟨r, hr, rfl⟩ := List.mem_map.mp h'
      exact ⟨_, bt_sum g (ws := r.2) hr (need_at g tp h r.2 hr)⟩
  · obtain ⟨r, hr, rfl⟩ := List.mem_map.mp h'
    obtain ⟨k, hk⟩ := List.mem_iff_getElem?.mp hr
    exact ⟨_, bt_st g (y := r.2) hk⟩
theorem not_ahead {i : Nat} {z : Str} (h : (need N od)[i]? = some z) : z ∉ (need N od).take i := fun m => by
  have nd := need_nd g tp
  rw [← List.take_append_drop i (need N od), List.nodup_append] at nd
  exact nd.2.2 z m z (List.mem_of_getElem? (i := 0) (by rw [List.getElem?_drop, Nat.add_zero]; exact h)) rfl
theorem pre_val {row st : Nat} {f : Str → Bool} (p : Pre N row st (need N od) f) : Val N row st f := by
  have hin : ∀ z, z ∈ N.names → z ∈ need N od := fun z => (need_mem g tp z).mpr
  refine ⟨fun k z h => p.i k z h (hin z ?_), fun k z y h => p.t k z y h (hin z ?_), fun z ws h => (p.s z ws h (hin z ?_)).1⟩
  · exact List.mem_append_left _ (List.mem_append_left _ (List.mem_of_getElem? h))
  · exact List.mem_append_right _ (List.mem_map.mpr ⟨_, List.mem_of_getElem? h, rfl⟩)
  · exact List.mem_append_left _ (List.mem_append_right _ (List.mem_map.mpr ⟨_, h, rfl⟩))
theorem vals2 : Vals2 N := fun row st => by
  have key : ∀ n, n ≤ (need N od).length → ∃ f, Pre N row st ((need N od).take n) f := by
    intro n
    induction n with
    | zero => intro _; exact ⟨fun _ => false, Pre.nil ..⟩
    | succ n ih =>
      intro hn
      obtain ⟨f, hf⟩ := ih (by omega)
      obtain ⟨z, hz⟩ : ∃ z, (need N od)[n]? = some z := ⟨_, List.getElem?_eq_getElem (by omega)⟩
      obtain ⟨v, hv⟩ := bt_some (row := row) (st := st) (f := f) g tp hz
      have := hf.step (not_ahead g tp hz) hv
      rw [← take_succ hz] at this
      exact ⟨_, this⟩
  obtain ⟨f, hf⟩ := key _ (Nat.le_refl _)
  rw [List.take_length] at hf
  exact ⟨f, pre_val g tp hf⟩
end
noncomputable abbrev NP := Hp → Addr → Nt → List Str → Prop
noncomputable def sp_innames (NA : NP) : Sp := fun vs H Q _ => ∃ (p : Addr) (N : Nt) (od : List Str), vs = [.ref p] ∧ NA H p N od ∧ ∀ (D : Addr) (H2 : Hp), H D = none → Same H H2 → H2 D = some (.lst (N.ins.map V.str)) → Q (.ref D) H2
noncomputable def sp_outw (NA : NP) : Sp := fun vs H Q _ => ∃ (p : Addr) (N : Nt) (od : List Str), vs = [.ref p] ∧ NA H p N od ∧ ∀ (D : Addr) (H2 : Hp), H D = none → Same H H2 → H2 D = some (.lst (N.outs.map V.str)) → Q (.ref D) H2
noncomputable def sp_storer (NA : NP) : Sp := fun vs H Q _ => ∃ (p : Addr) (N : Nt) (od : List Str), vs = [.ref p] ∧ NA H p N od ∧ ∀ (D : Addr) (H2 : Hp) (qs : List Qs), H D = none → Same H H2 → H2 D = some (.lst (qs.map fun q => V.ref q.1)) → QsK H2 qs → qs.map (·.2) = N.sts → Q (.ref D) H2
noncomputable def sp_need (NA : NP) : Sp := fun vs H Q _ => ∃ (p : Addr) (N : Nt) (od : List Str), vs = [.ref p] ∧ NA H p N od ∧ ∀ (D : Addr) (H2 : Hp), H D = none → Same H H2 → H2 D = some (.lst ((need N od).map V.str)) → Q (.ref D) H2
noncomputable def sp_wireof (NA : NP) (CI CS CT : Addr) : Sp := fun vs H Q _ => ∃ (p : Addr) (N : Nt) (od : List Str) (z : Str), vs = [.ref p, .str z] ∧ NA H p N od ∧ z ∈ N.names ∧ ∀ (w : Addr) (H2 : Hp), Same H H2 → Wob H2 CI CS CT N z w → Q (.ref w) H2
noncomputable def bitK (f : Str → Bool) (zs : List Str) : List (Key × V) := zs.map fun z => (Sum.inr z, nat (M.bn (f z)))
noncomputable def sp_tbits (NA : NP) : Sp := fun vs H Q _ => ∃ (p : Addr) (N : Nt) (od : List Str) (row st : Nat), vs = [.ref p, nat row, nat st] ∧ NA H p N od ∧ ∀ (d : Addr) (H2 : Hp) (f : Str → Bool), H d = none → Same H H2 → H2 d = some (.dK (bitK f (need N od))) → Val N row st f → Q (.ref d) H2
noncomputable def sp_maskat : Sp := fun vs H Q _ => ∃ (l d : Addr) (ws zs : List Str) (f : Str → Bool), vs = [.ref l, .ref d] ∧ H l = some (.lst (ws.map V.str)) ∧ H d = some (.dK (bitK f zs)) ∧ ws.length ≤ 100 ∧ (∀ w ∈ ws, w ∈ zs) ∧ ∀ H2, Same H H2 → Q (nat (mat f ws)) H2
theorem val_bitK (f : Str → Bool) {z : Str} : ∀ {zs : List Str}, z ∈ zs → valV (bitK f zs) (Sum.inr z) = some (nat (M.bn (f z)))
  | [], h => by cases h
  | y :: zs, h => by
    unfold bitK
    rw [List.map_cons]
    by_cases e : y = z
    · subst e; exact valV_pos rfl
    · rw [valV_neg fun h2 => e (Sum.inr.inj h2)]
      exact val_bitK f ((List.mem_cons.mp h).resolve_left fun h2 => e h2.symm)
theorem bitK_keys (f : Str → Bool) (zs : List Str) : (bitK f zs).map (·.1) = zs.map Sum.inr := by unfold bitK; rw [List.map_map]; rfl
theorem bitK_congr {f g : Str → Bool} {zs : List Str} (h : ∀ z ∈ zs, f z = g z) : bitK f zs = bitK g zs := List.map_congr_left fun z hz => by rw [h z hz]
theorem xor_bn (a b : Bool) : Builtin.bitXor ((M.bn a : Nat) : Int) ((M.bn b : Nat) : Int) = ((M.bn (a ^^ b) : Nat) : Int) := by cases a <;> cases b <;> decide
theorem fold_xb (f : Str → Bool) : ∀ ws : List Str, (ws.map fun w => ((M.bn (f w) : Nat) : Int)).foldl Builtin.bitXor 0 = ((M.bn (xb f ws) : Nat) : Int) := by
  intro ws
  induction ws using M.rev_ind with
  | h0 => rfl
  | h1 l x ih => rw [List.map_append, List.foldl_append, ih, xb_snoc]; exact xor_bn _ _
end Sx
set_option Elab.async false
set_option linter.all false
set_option maxRecDepth 100000
set_option maxHeartbeats 4000000
namespace Sx
open PySem L2
theorem mat_xm (f : Str → Bool) (ws : List Str) : M.xm ((List.range ws.length).filter fun k => f (ws.getD k "")) = mat f ws := by
  have e : (List.range ws.length).filter (fun k => f (ws.getD k "")) = M.pl ws.length (mat f ws) := by
    unfold M.pl
    refine List.filter_congr fun k hk => ?_
    rw [mat_bit, decide_eq_true (List.mem_range.mp hk)]; rfl
  rw [e, xm_pl (mat_lt f ws)]
structure RunA (NA : NP) (H : Hp) (C p l n : Addr) (N : Nt) (od : List Str) (st : Nat) (as : List Nat) : Prop where
  ho : ∃ (dx d : Addr), H p = some (.ins C dx [("net", .ref n), ("held", nat st), ("bits", .ref d), ("given", .ref l)])
  hl : H l = some (.lst (as.map nat))
  na : NA H n N od
noncomputable def K2 (p l : Addr) (H H2 : Hp) : Prop := ∀ b ob, b ≠ p → b ≠ l → H b = some ob → H2 b = some ob
noncomputable def sp_runinit (NA : NP) (C : Addr) : Sp := fun vs H Q _ => ∃ (x dx n : Addr) (N : Nt) (od : List Str), vs = [.ref x, .ref n] ∧ H x = some (.ins C dx []) ∧ NA H n N od ∧ ∀ (H2 : Hp) (l : Addr), Kx x H H2 → H l = none → RunA NA H2 C x l n N od 0 [] → Q .non H2
noncomputable def sp_rstate (NA : NP) (C : Addr) : Sp := fun vs H Q _ => ∃ (p l n : Addr) (N : Nt) (od : List Str) (st : Nat) (as : List Nat), vs = [.ref p] ∧ RunA NA H C p l n N od st as ∧ Q (nat st) H
noncomputable def sp_ransw (NA : NP) (C : Addr) : Sp := fun vs H Q _ => ∃ (p l n : Addr) (N : Nt) (od : List Str) (st : Nat) (as : List Nat), vs = [.ref p] ∧ RunA NA H C p l n N od st as ∧ ∀ (D : Addr) (H2 : Hp), H D = none → Same H H2 → H2 D = some (.lst (as.map nat)) → Q (.ref D) H2
noncomputable def sp_answof (NA : NP) : Sp := fun vs H Q _ => ∃ (n r : Addr) (N : Nt) (od : List Str) (rs : List Nat), vs = [.ref n, .ref r] ∧ NA H n N od ∧ H r = some (.lst (rs.map nat)) ∧ rs.length ≤ 900 ∧ (∀ x ∈ rs, x < 2 ^ N.ins.length) ∧ ∀ (D : Addr) (H2 : Hp), H D = none → Same H H2 → H2 D = some (.lst ((ran N 0 rs).map nat)) → Q (.ref D) H2
theorem NetA.keep {H H2 : Hp} {C CI CS CT n : Addr} {N : Nt} {od : List Str} (x : NetA H C CI CS CT n N od) {p Cr dx : Addr} {fs : List (Str × V)} (hp : H p = some (.ins Cr dx fs)) (hf : (∀ (v : V) (r : List (Str × V)), fs ≠ (("name" : Str), v) :: r) ∧ ∀ (v : V) (r : List (Str × V)), fs ≠ (("ins" : Str), v) :: r) (k : Kx p H H2) : NetA H2 C CI CS CT n N od := by
  obtain ⟨dx', i, s, t, o, d, tq, rs, qs, ws, a, b, c, e⟩ := x.ho
  have hws : ∀ q ∈ ws, q.2 ≠ p := fun q hq z => by
    obtain ⟨C', dx2, fs2, e2, _⟩ := (c.ob q hq).name
    rw [z, hp] at e2
    injection e2 with e2
    injection e2 with _ _ e2
    exact hf.1 _ _ e2
  have hn : n ≠ p := fun z => by
    rw [z, hp] at a
    injection a with a
    injection a with _ _ a
    exact hf.2 _ _ a
  exact ⟨⟨dx', i, s, t, o, d, tq, rs, qs, ws, k _ _ hn a, k.kpt hp b, k.wia c (ne_of c.d hp fun z => by cases z) hws hp, k.tup hp e⟩, x.g, x.tp⟩
theorem NetA.updL {H H2 : Hp} {C CI CS CT n : Addr} {N : Nt} {od : List Str} (x : NetA H C CI CS CT n N od) {l : Addr} {xs : List V} (hl : H l = some (.lst xs)) (k : Kx l H H2) : NetA H2 C CI CS CT n N od := by
  obtain ⟨dx', i, s, t, o, d, tq, rs, qs, ws, a, b, c, e⟩ := x.ho
  have tu : ∀ {b : Addr} {ys : List V}, H b = some (.tup ys) → H2 b = some (.tup ys) := fun e => k _ _ (ne_of e hl fun z => by cases z) e
  refine ⟨⟨dx', i, s, t, o, d, tq, rs, qs, ws, k _ _ (ne_of a hl fun z => by cases z) a, ⟨tu b.i, tu b.s, fun r m => ⟨tu (b.sr r m).1, tu (b.sr r m).2⟩, b.es, tu b.t, fun q m => tu (b.tr q m), b.et, tu b.o⟩, ⟨k _ _ (ne_of c.d hl fun z => by cases z) c.d, c.nm, fun q m => (c.ob q m).keep hl k⟩, tu e⟩, x.g, x.tp⟩
end Sx
set_option Elab.async false
set_option linter.all false
set_option maxRecDepth 100000
set_option maxHeartbeats 4000000
namespace Sx
open PySem L2
noncomputable def mixV (c k : Int) : Int := ((c % 2147483647 * 48271 + 7919 * k + 11) % 2147483647 * ((c % 2147483647 * 48271 + 7919 * k + 11) % 2147483647) % 2147483629) * ((c % 2147483647 * 48271 + 7919 * k + 11) % 2147483647 * ((c % 2147483647 * 48271 + 7919 * k + 11) % 2147483647) % 2147483629 + 48271 * k + 7) % 2147483587
noncomputable def sp_mixv : Sp := fun vs H Q _ => ∃ (c k : Int), vs = [.int c, .int k] ∧ 0 ≤ k ∧ k < 100000 ∧ Q (.int (mixV c k)) H
noncomputable def words40 : Str := ("cut x x0 x1 fresh new zero none nil tmp c c0 cut0 cut1 gnd off in out sum store" : Str) ++ (" i0 i1 s0 s1 n0 n1 o0 o1 net wire a b z y0 t0 w w0 k dead open" : Str)
noncomputable def W40 : List Str := Txt.split words40 " "
theorem W40_len : W40.length = 40 := by decide +kernel
theorem W40_nd : W40.Nodup := by decide +kernel
theorem W40_nm : ∀ z ∈ W40, nm z.cps.toList = true := by decide +kernel
noncomputable def dval (l : List Nat) : Nat := l.foldl (fun a c => 10 * a + (c - 48)) 0
noncomputable def tx (n : Nat) : Str := (toString (n : Int) : String)
theorem tx_all : ∀ n : Fin 2500, (dval (tx n.1).cps.toList = n.1 ∧ (tx n.1).cps.toList.all fig = true) ∧ (tx n.1).cps.toList.length ≤ 4 := by decide +kernel
end Sx
set_option Elab.async false
set_option linter.all false
set_option maxRecDepth 100000
set_option maxHeartbeats 4000000
namespace Sx
open PySem L2
noncomputable def nmf (c k : Int) : Str := if mixV c 402 % 2 = 0 then W40.getD ((k + mixV c 403) % 40).toNat "" else (⟨#[97 + (mixV c 400 % 26).toNat]⟩ : Str) ++ tx ((mixV c 401 % 1000).toNat + 37 * k.toNat)
theorem app_cps (x y : Str) : (x ++ y).cps.toList = x.cps.toList ++ y.cps.toList := by
  show (x.cps ++ y.cps).toList = _
  rw [Array.toList_append]
theorem nmf_nm (c : Int) {k : Int} (h0 : 0 ≤ k) (h1 : k < 40) : Nm (nmf c k) := by
  unfold nmf
  by_cases h : mixV c 402 % 2 = 0
  · rw [if_pos h]
    have hi : ((k + mixV c 403) % 40).toNat < W40.length := by
      rw [W40_len]
      have := Int.emod_lt_of_pos (k + mixV c 403) (show (0 : Int) < 40 by decide)
      have := Int.emod_nonneg (k + mixV c 403) (show (40 : Int) ≠ 0 by decide)
      omega
    rw [List.getD_eq_getElem?_getD, List.getElem?_eq_getElem hi]
    exact W40_nm _ (List.getElem_mem hi)
  · rw [if_neg h]
    have hb : (mixV c 401 % 1000).toNat + 37 * k.toNat < 2500 := by
      have := Int.emod_lt_of_pos (mixV c 401) (show (0 : Int) < 1000 by decide)
      have := Int.emod_nonneg (mixV c 401) (show (1000 : Int) ≠ 0 by decide)
      omega
    obtain ⟨⟨_, h2⟩, h3⟩ := tx_all ⟨_, hb⟩
    have hd : low (97 + (mixV c 400 % 26).toNat) = true := by
      have := Int.emod_lt_of_pos (mixV c 400) (show (0 : Int) < 26 by decide)
      have := Int.emod_nonneg (mixV c 400) (show (26 : Int) ≠ 0 by decide)
      unfold low
      rw [decide_eq_true (by omega), decide_eq_true (by omega)]; rfl
    show nm _ = true
    rw [app_cps]
    show nm ((97 + (mixV c 400 % 26).toNat) :: (tx ((mixV c 401 % 1000).toNat + 37 * k.toNat)).cps.toList) = true
    generalize hl : (tx ((mixV c 401 % 1000).toNat + 37 * k.toNat)).cps.toList = l at h2 h3
    generalize 97 + (mixV c 400 % 26).toNat = d at hd
    show (decide ((d :: l).length ≤ 6) && low d && (d :: l).all fun c => low c || fig c) = true
    rw [hd, List.all_cons, hd]
    have h2' : l.all (fun c => low c || fig c) = true := by
      rw [List.all_eq_true] at h2 ⊢
      intro x hx
      rw [h2 x hx, Bool.or_true]
    rw [h2', List.length_cons, decide_eq_true (by omega)]; rfl
theorem nmf_inj (c : Int) {j k : Int} (j0 : 0 ≤ j) (j1 : j < 40) (k0 : 0 ≤ k) (k1 : k < 40) (e : nmf c j = nmf c k) : j = k := by
  unfold nmf at e
  by_cases h : mixV c 402 % 2 = 0
  · rw [if_pos h, if_pos h] at e
    have hj := Int.emod_lt_of_pos (j + mixV c 403) (show (0 : Int) < 40 by decide)
    have hj' := Int.emod_nonneg (j + mixV c 403) (show (40 : Int) ≠ 0 by decide)
    have hk := Int.emod_lt_of_pos (k + mixV c 403) (show (0 : Int) < 40 by decide)
    have hk' := Int.emod_nonneg (k + mixV c 403) (show (40 : Int) ≠ 0 by decide)
    have lj : ((j + mixV c 403) % 40).toNat < W40.length := by rw [W40_len]; omega
    have lk : ((k + mixV c 403) % 40).toNat < W40.length := by rw [W40_len]; omega
    rw [List.getD_eq_getElem?_getD, List.getD_eq_getElem?_getD, List.getElem?_eq_getElem lj, List.getElem?_eq_getElem lk] at e
    have e2 : W40[((j + mixV c 403) % 40).toNat]? = W40[((k + mixV c 403) % 40).toNat]? := by rw [List.getElem?_eq_getElem lj, List.getElem?_eq_getElem lk]; exact congrArg some e
    have := (List.getElem?_inj lj W40_nd).mp e2
    omega
  · rw [if_neg h, if_neg h] at e
    have hm := Int.emod_lt_of_pos (mixV c 401) (show (0 : Int) < 1000 by decide)
    have hm' := Int.emod_nonneg (mixV c 401) (show (1000 : Int) ≠ 0 by decide)
    have hbj : (mixV c 401 % 1000).toNat + 37 * j.toNat < 2500 := by omega
    have hbk : (mixV c 401 % 1000).toNat + 37 * k.toNat < 2500 := by omega
    have e2 := congrArg (fun z : Str => z.cps.toList) e
    simp only [app_cps] at e2
    have e3 := List.append_cancel_left e2
    have e4 := congrArg dval e3
    rw [(tx_all ⟨_, hbj⟩).1.1, (tx_all ⟨_, hbk⟩).1.1] at e4
    have e4 : (mixV c 401 % 1000).toNat + 37 * j.toNat = (mixV c 401 % 1000).toNat + 37 * k.toNat := e4
    omega
noncomputable def sp_lname24 : Sp := fun vs H Q _ => ∃ (c k : Int), vs = [.int c, .int k] ∧ 0 ≤ k ∧ k < 40 ∧ ∀ H2, Same H H2 → Q (.str (nmf c k)) H2
noncomputable def sp_lwires : Sp := fun vs H Q _ => ∃ (c : Int) (st : Int) (l : Addr) (zs : List Str) (dg : Bool), vs = [.int c, .int st, .ref l, .bl dg] ∧ 0 ≤ st ∧ st ≤ 900 ∧ H l = some (.lst (zs.map V.str)) ∧ zs.length ≤ 50 ∧ ∀ (D : Addr) (H2 : Hp) (ws : List Str), H D = none → Same H H2 → H2 D = some (.lst (ws.map V.str)) → ws.length ≤ 4 → (∀ w ∈ ws, w ∈ zs) → Q (.ref D) H2
theorem letters_at (i : Int) (h0 : 0 ≤ i) (h1 : i < 26) : atI ("abcdefghijklmnopqrstuvwxyz" : Str).cps.toList i = some (97 + i.toNat) := by
  have e : ("abcdefghijklmnopqrstuvwxyz" : Str).cps.toList = List.range' 97 26 := by decide +kernel
  obtain ⟨j, rfl⟩ := Int.eq_ofNat_of_zero_le h0
  rw [e]
  refine atI_nat ?_
  rw [List.getElem?_range' (by omega)]
  show some (97 + 1 * j) = some (97 + (j : Int).toNat)
  rw [Nat.one_mul, Int.toNat_natCast]
end Sx
set_option Elab.async false
set_option linter.all false
set_option maxRecDepth 100000
set_option maxHeartbeats 4000000
namespace Sx
open PySem L2
noncomputable def RwL (H : Hp) (rs : List Rw) : Prop := ∀ r ∈ rs, H r.1 = some (.tup [.str r.2.2.1, .ref r.2.1]) ∧ H r.2.1 = some (.lst (r.2.2.2.map V.str))
theorem RwL.same {H H2 : Hp} {rs : List Rw} (h : RwL H rs) (s : Same H H2) : RwL H2 rs := fun r m => ⟨s.get (h r m).1, s.get (h r m).2⟩
noncomputable def sp_lnet (K : PySem.W.Frag) : Sp := fun vs H Q _ => ∃ (p : Addr) (ns : List Int) (st : Nat), vs = [.ref p, nat st, nat 6] ∧ SqL K H p (ns.map V.int) ∧ st ≤ 900 ∧ ∀ (t i s u o : Addr) (H2 : Hp) (rs : List Rw) (qs : List Qs) (N : Nt), Same H H2 → H2 t = some (.tup [.ref i, .ref s, .ref u, .ref o]) → Hnd H2 i s u o rs qs N → Gn N → N.ins.length ≤ 3 → Q (.ref t) H2
noncomputable def nms (c : Int) (a n : Nat) : List Str := (List.range n).map fun k => nmf c ((a + k : Nat) : Int)
theorem nms_len (c : Int) (a n : Nat) : (nms c a n).length = n := by unfold nms; rw [List.length_map, List.length_range]
theorem nms_succ (c : Int) (a n : Nat) : nms c a (n + 1) = nms c a n ++ [nmf c ((a + n : Nat) : Int)] := by unfold nms; rw [List.range_succ, List.map_append]; rfl
theorem nms_mem {c : Int} {a n : Nat} {z : Str} (h : z ∈ nms c a n) : ∃ k, k < n ∧ z = nmf c ((a + k : Nat) : Int) := by
  obtain ⟨k, hk, rfl⟩ := List.mem_map.mp h
  exact ⟨k, List.mem_range.mp hk, rfl⟩
theorem nms_of {c : Int} {a n k : Nat} (h : k < n) : nmf c ((a + k : Nat) : Int) ∈ nms c a n := List.mem_map.mpr ⟨k, List.mem_range.mpr h, rfl⟩
theorem nmf_inj' (c : Int) {j k : Nat} (j1 : j < 40) (k1 : k < 40) (e : nmf c (j : Int) = nmf c (k : Int)) : j = k := by
  have := nmf_inj c (by omega) (by omega) (by omega) (by omega) e
  omega
structure Mk (c : Int) (ni nt : Nat) (rows : List (Str × List Str)) : Prop where
  nm : rows.map (·.1) = nms c 22 rows.length
  ws : ∀ (k : Nat) r, rows[k]? = some r → r.2.length ≤ 4 ∧ ∀ w ∈ r.2, w ∈ nms c 0 ni ++ nms c 6 nt ++ nms c 22 k
theorem Mk.nil (c : Int) (ni nt : Nat) : Mk c ni nt [] := ⟨rfl, fun k r h => by simp at h⟩
theorem Mk.put {c : Int} {ni nt : Nat} {rows : List (Str × List Str)} (m : Mk c ni nt rows) {ws : List Str} (l : ws.length ≤ 4) (h : ∀ w ∈ ws, w ∈ nms c 0 ni ++ nms c 6 nt ++ nms c 22 rows.length) : Mk c ni nt (rows ++ [(nmf c ((22 + rows.length : Nat) : Int), ws)]) := by
  refine ⟨by rw [List.map_append, m.nm, List.length_append, List.length_singleton, nms_succ]; rfl, fun k r hk => ?_⟩
  by_cases hlt : k < rows.length
  · rw [List.getElem?_append_left hlt] at hk
    exact m.ws k r hk
  · rw [List.getElem?_append_right (by omega)] at hk
    have : k - rows.length = 0 := by
      have := (List.getElem?_eq_some_iff.mp hk).1
      rw [List.length_singleton] at this
      omega
    rw [this] at hk
    cases hk
    rw [show k = rows.length by omega]
    exact ⟨l, h⟩
theorem mk_good {c : Int} {ni nt : Nat} {rows sums : List (Str × List Str)} {sts : List (Str × Str)} {outs : List Str} (m : Mk c ni nt rows) (h1 : ni ≤ 3) (h2 : nt ≤ 6) (h3 : rows.length ≤ 6) (hp : sums.Perm rows) (hs : sts.map (·.1) = nms c 6 nt) (h4 : outs.length ≤ 6)
    (ht : ∀ q ∈ sts, q.2 ∈ nms c 0 ni ++ nms c 6 nt ++ nms c 22 rows.length) (ho : ∀ z ∈ outs, z ∈ nms c 0 ni ++ nms c 6 nt ++ nms c 22 rows.length) : Gn ⟨nms c 0 ni, sums, sts, outs⟩ := by
  have pn : (sums.map (·.1)).Perm (nms c 22 rows.length) := by rw [← m.nm]; exact hp.map _
  have inn : ∀ z, z ∈ nms c 0 ni ++ nms c 6 nt ++ nms c 22 rows.length → z ∈ Nt.names ⟨nms c 0 ni, sums, sts, outs⟩ := fun z hz => by
    unfold Nt.names
    show z ∈ nms c 0 ni ++ sums.map (·.1) ++ sts.map (·.1)
    rw [hs]
    rcases List.mem_append.mp hz with h | h
    · rcases List.mem_append.mp h with h | h
      · exact List.mem_append_left _ (List.mem_append_left _ h)
      · exact List.mem_append_right _ h
    · exact List.mem_append_left _ (List.mem_append_right _ (pn.mem_iff.mpr h))
  have lt3 : sts.length = nt := by have := congrArg List.length hs; rw [List.length_map, nms_len] at this; exact this
  have row_at : ∀ r ∈ sums, ∃ k, rows[k]? = some r := fun r hr => List.mem_iff_getElem?.mp (hp.mem_iff.mp hr)
  have num : ∀ z ∈ Nt.names ⟨nms c 0 ni, sums, sts, outs⟩, ∃ k : Nat, k < 40 ∧ z = nmf c (k : Int) := fun z hz => by
    unfold Nt.names at hz
    have hz : z ∈ nms c 0 ni ++ sums.map (·.1) ++ sts.map (·.1) := hz
    rw [hs] at hz
    rcases List.mem_append.mp hz with h | h
    · rcases List.mem_append.mp h with h | h
      · obtain ⟨k, hk, e⟩ := nms_mem h; exact ⟨_, by omega, e⟩
      · obtain ⟨k, hk, e⟩ := nms_mem (pn.mem_iff.mp h); exact ⟨_, by omega, e⟩
    · obtain ⟨k, hk, e⟩ := nms_mem h; exact ⟨_, by omega, e⟩
  have ndn : ∀ (a n : Nat), a + n ≤ 40 → (nms c a n).Nodup := fun a n h => by
    unfold nms
    refine List.pairwise_map.mpr (List.Pairwise.imp_of_mem (fun {i j} hi hj hij => ?_) List.pairwise_lt_range)
    intro e
    have := nmf_inj' c (show a + i < 40 by have := List.mem_range.mp hi; omega) (show a + j < 40 by have := List.mem_range.mp hj; omega) e
    omega
  have dis : ∀ {a n b k : Nat}, a + n ≤ 40 → b + k ≤ 40 → a + n ≤ b → ∀ x ∈ nms c a n, ∀ y ∈ nms c b k, x ≠ y := fun h1 h2 h3 x hx y hy e => by
    obtain ⟨i, hi, rfl⟩ := nms_mem hx
    obtain ⟨j, hj, rfl⟩ := nms_mem hy
    have := nmf_inj' c (by omega) (by omega) e
    omega
  refine ⟨by show (nms c 0 ni).length ≤ 6; rw [nms_len]; omega, by show sums.length ≤ 40; rw [hp.length_eq]; omega, by show sts.length ≤ 16; omega, h4, fun r hr => ?_, fun z hz => ?_, ?_, fun r hr z hz => ?_, fun r hr => inn _ (ht r hr), fun z hz => inn _ (ho z hz), ?_⟩
  · obtain ⟨k, hk⟩ := row_at r hr
    have := (m.ws k r hk).1
    omega
  · obtain ⟨k, hk, rfl⟩ := num z hz
    exact nmf_nm c (by omega) (by omega)
  · unfold Nt.names
    show (nms c 0 ni ++ sums.map (·.1) ++ sts.map (·.1)).Nodup
    rw [hs, List.nodup_append, List.nodup_append]
    refine ⟨⟨ndn _ _ (by omega), pn.nodup_iff.mpr (ndn _ _ (by omega)), fun x hx y hy => dis (by omega) (by omega) (by omega) x hx y (pn.mem_iff.mp hy)⟩, ndn _ _ (by omega), fun x hx y hy => ?_⟩
    rcases List.mem_append.mp hx with h | h
    · exact dis (by omega) (by omega) (by omega) x h y hy
    · exact fun e => dis (a := 6) (n := nt) (b := 22) (k := rows.length) (by omega) (by omega) (by omega) y hy x (pn.mem_iff.mp h) e.symm
  · obtain ⟨k, hk⟩ := row_at r hr
    have hlt := (List.getElem?_eq_some_iff.mp hk).1
    refine inn z ?_
    rcases List.mem_append.mp ((m.ws k r hk).2 z hz) with h | h
    · exact List.mem_append_left _ h
    · obtain ⟨j, hj, rfl⟩ := nms_mem h
      exact List.mem_append_right _ (nms_of (by omega))
  · refine ⟨fun z => (nms c 22 rows.length).idxOf z, fun r hr z hz hzs => ?_⟩
    obtain ⟨k, hk⟩ := row_at r hr
    have hlt := (List.getElem?_eq_some_iff.mp hk).1
    have er : (nms c 22 rows.length)[k]? = some r.1 := by rw [← m.nm, List.getElem?_map, hk]; rfl
    have nd := ndn 22 rows.length (by omega)
    have ik : ∀ (j : Nat) y, (nms c 22 rows.length)[j]? = some y → (nms c 22 rows.length).idxOf y = j := fun j y hj => by
      obtain ⟨hj1, hj2⟩ := List.getElem?_eq_some_iff.mp hj
      rw [← hj2]
      exact nd.idxOf_getElem j hj1
    obtain ⟨j, hj, ej⟩ := nms_mem (pn.mem_iff.mp hzs)
    have hjk : j < k := by
      rcases List.mem_append.mp ((m.ws k r hk).2 z hz) with h | h
      · exfalso
        rcases List.mem_append.mp h with h | h
        · exact dis (a := 0) (n := ni) (b := 22) (k := rows.length) (by omega) (by omega) (by omega) z h z (pn.mem_iff.mp hzs) rfl
        · exact dis (a := 6) (n := nt) (b := 22) (k := rows.length) (by omega) (by omega) (by omega) z h z (pn.mem_iff.mp hzs) rfl
      · obtain ⟨j', hj', e'⟩ := nms_mem h
        have := nmf_inj' c (show 22 + j < 40 by omega) (show 22 + j' < 40 by omega) (ej.symm.trans e')
        omega
    have ez : (nms c 22 rows.length)[j]? = some z := by unfold nms; rw [List.getElem?_map, List.getElem?_range hj, ej]; rfl
    show (nms c 22 rows.length).idxOf z < (nms c 22 rows.length).idxOf r.1
    rw [ik j z ez, ik k r.1 er]
    exact hjk
end Sx
set_option Elab.async false
set_option linter.all false
set_option maxRecDepth 100000
set_option maxHeartbeats 4000000
namespace Sx
open PySem L2
noncomputable def sp_rstepB (NA : NP) (C : Addr) : Sp := fun vs H Q _ => ∃ (p l n : Addr) (N : Nt) (od : List Str) (st row : Nat) (as : List Nat), vs = [.ref p, nat row] ∧ RunA NA H C p l n N od st as ∧ row < 2 ^ N.ins.length ∧ as.length ≤ 900 ∧ ∀ (H2 : Hp) (d dx : Addr) (f : Str → Bool), K2 p l H H2 → RunA NA H2 C p l n N od (nst N row st) (as ++ [nan N row st]) →
  H2 p = some (.ins C dx [("net", .ref n), ("held", nat (nst N row st)), ("bits", .ref d), ("given", .ref l)]) → H d = none → H2 d = some (.dK (bitK f (need N od))) → Val N row st f → Q (nat (nan N row st)) H2
noncomputable def sp_wnow (NA : NP) (C : Addr) : Sp := fun vs H Q _ => ∃ (p l n d dx : Addr) (N : Nt) (od : List Str) (v : V) (as : List V) (f : Str → Bool) (z : Str), vs = [.ref p, .str z] ∧ H p = some (.ins C dx [("net", .ref n), ("held", v), ("bits", .ref d), ("given", .ref l)]) ∧ NA H n N od ∧ H l = some (.lst as) ∧ as ≠ [] ∧ H d = some (.dK (bitK f (need N od))) ∧ z ∈ N.names ∧ ∀ H2, Same H H2 → Q (nat (M.bn (f z))) H2
noncomputable def addK (z : Str) (ks : List Str) : List Str := if z ∈ ks then ks else ks ++ [z]
theorem mem_addK {z y : Str} {ks : List Str} : y ∈ addK z ks ↔ y ∈ ks ∨ y = z := by
  unfold addK
  split
  · rename_i h
    exact ⟨.inl, fun h' => h'.elim id fun e => e ▸ h⟩
  · rw [List.mem_append, List.mem_singleton]
theorem nd_addK {z : Str} {ks : List Str} (nd : ks.Nodup) : (addK z ks).Nodup := by
  unfold addK
  split
  · exact nd
  · rename_i h
    rw [List.nodup_append]
    exact ⟨nd, by simp, fun a ha b hb => by rw [List.mem_singleton.mp hb]; exact fun e => h (e ▸ ha)⟩
theorem put_addK (F : Str → Bool) (ks : List Str) (z : Str) : putK (bitK F ks) (Sum.inr z) (nat (M.bn (F z))) = bitK F (addK z ks) := by
  unfold addK
  split
  · rename_i h
    have hv := val_bitK F h
    unfold putK
    rw [valV_any, hv, if_pos (show (some (nat (M.bn (F z)))).isSome = true from rfl)]
    unfold bitK
    rw [List.map_map]
    refine List.map_congr_left fun y _ => ?_
    show (if (Sum.inr y : Key) = Sum.inr z then ((Sum.inr y : Key), nat (M.bn (F z))) else (Sum.inr y, nat (M.bn (F y)))) = (Sum.inr y, nat (M.bn (F y)))
    split
    · rename_i e; rw [Sum.inr.inj e]
    · rfl
  · rename_i h
    rw [put_new (bitK_keys F _) h]
    unfold bitK
    rw [List.map_append]; rfl
theorem val_bitK_none (f : Str → Bool) {z : Str} : ∀ {zs : List Str}, z ∉ zs → valV (bitK f zs) (Sum.inr z) = none
  | [], _ => rfl
  | y :: zs, h => by
    show valV ((Sum.inr y, nat (M.bn (f y))) :: bitK f zs) (Sum.inr z) = none
    rw [valV_neg (fun e => h (by rw [Sum.inr.inj e]; exact List.mem_cons_self))]
    exact val_bitK_none f fun m => h (List.mem_cons_of_mem _ m)
theorem val_isSome (f : Str → Bool) (z : Str) (zs : List Str) : (valV (bitK f zs) (Sum.inr z)).isSome = decide (z ∈ zs) := by
  by_cases h : z ∈ zs
  · rw [val_bitK f h, decide_eq_true h]; rfl
  · rw [val_bitK_none f h, decide_eq_false h]; rfl
theorem nodup_subS : ∀ (a b : List Str), a.Nodup → (∀ x ∈ a, x ∈ b) → a.length ≤ b.length
  | [], _, _, _ => Nat.zero_le _
  | x :: a, b, nd, h => by
    have hx := h x List.mem_cons_self
    have ih := nodup_subS a (b.erase x) (List.nodup_cons.mp nd).2 fun y hy => by
      have hne : y ≠ x := fun e => (List.nodup_cons.mp nd).1 (e ▸ hy)
      exact (List.mem_erase_of_ne hne).mpr (h y (List.mem_cons_of_mem _ hy))
    rw [List.length_erase_of_mem hx] at ih
    have : 0 < b.length := List.length_pos_of_mem hx
    rw [List.length_cons]; omega
theorem par_xb (F : Str → Bool) : ∀ ws : List Str, (ws.map fun w => M.bn (F w)).sum % 2 = M.bn (xb F ws) := by
  intro ws
  induction ws using M.rev_ind with
  | h0 => rfl
  | h1 l x ih =>
    rw [xb_snoc, List.map_append, List.sum_append, Nat.add_mod, ih]
    show (M.bn (xb F l) + (M.bn (F x) + 0) % 2) % 2 = _
    cases xb F l <;> cases F x <;> rfl
theorem xor_top {x L : Nat} (h : x < 2 ^ L) : x ^^^ 2 ^ L = 2 ^ L + x := by
  apply Nat.eq_of_testBit_eq
  intro i
  rw [Nat.testBit_xor, Nat.testBit_two_pow]
  rcases Nat.lt_trichotomy i L with hi | hi | hi
  · rw [Nat.testBit_two_pow_add_gt hi, decide_eq_false (by omega), Bool.xor_false]
  · subst hi
    rw [Nat.testBit_two_pow_add_eq, decide_eq_true rfl, Bool.xor_true]
  · have b1 : x.testBit i = false := Nat.testBit_lt_two_pow (Nat.lt_of_lt_of_le h (Nat.pow_le_pow_right (by decide) (by omega)))
    have b2 : (2 ^ L + x).testBit i = false := Nat.testBit_lt_two_pow (Nat.lt_of_lt_of_le (show 2 ^ L + x < 2 ^ (L + 1) by rw [Nat.pow_succ]; omega) (Nat.pow_le_pow_right (by decide) (by omega)))
    rw [b1, b2, decide_eq_false (by omega)]; rfl
noncomputable def bitsum (F : Str → Bool) (ws : List Str) (n : Nat) : List Nat := (List.range n).map fun k => M.bn (F (ws.getD k "")) * 2 ^ k
theorem sum_pk (s : Nat → Bool) : ∀ n, ((List.range n).map fun k => M.bn (s k) * 2 ^ k).sum = M.pk s 0 n
  | 0 => rfl
  | n + 1 => by
    rw [List.range_succ, List.map_append, List.sum_append, sum_pk s n]
    show _ + (M.bn (s n) * 2 ^ n + 0) = M.pk s 0 n ^^^ (if s (0 + n) then 2 ^ n else 0)
    rw [Nat.zero_add]
    cases s n with
    | true => rw [if_pos rfl, xor_top (M.pk_lt s 0 n)]; show _ + (1 * 2 ^ n + 0) = _; omega
    | false => rw [if_neg (by decide), Nat.xor_zero]; show _ + (0 * 2 ^ n + 0) = _; omega
theorem bitsum_mat (F : Str → Bool) (ws : List Str) : (bitsum F ws ws.length).sum = mat F ws := sum_pk _ _
theorem bitsum_succ (F : Str → Bool) {ws : List Str} {k : Nat} {z : Str} (h : ws[k]? = some z) : bitsum F ws (k + 1) = bitsum F ws k ++ [M.bn (F z) * 2 ^ k] := by
  unfold bitsum
  rw [List.range_succ, List.map_append]
  have : ws.getD k "" = z := by rw [List.getD_eq_getElem?_getD, h]; rfl
  show _ ++ [M.bn (F (ws.getD k "")) * 2 ^ k] = _
  rw [this]
structure Kn (N : Nt) (od : List Str) (t i : Nat) (ks : List Str) : Prop where
  nd : ks.Nodup
  sub : ∀ z ∈ ks, z ∈ N.names
  io : ∀ z ∈ N.ins, z ∈ ks
  so : ∀ z ∈ N.sts.map (·.1), z ∈ ks
  odk : ∀ j, j < t → ∀ z, od[j]? = some z → z ∈ ks
  cur : ∀ j, j < i → ∀ r, N.sums[j]? = some r → od[t]? = some r.1 → r.1 ∈ ks
theorem names_len {N : Nt} (g : Gn N) : N.names.length ≤ 62 := by
  unfold Nt.names
  rw [List.length_append, List.length_append, List.length_map, List.length_map]
  have := g.li; have := g.ls; have := g.lt; omega
theorem Kn.put {N : Nt} {od : List Str} {t i : Nat} {ks : List Str} (k : Kn N od t i ks) {z : Str} {ws : List Str} (h : N.sums[i]? = some (z, ws)) : Kn N od t (i + 1) (addK z ks) where
  nd := nd_addK k.nd
  sub := fun y hy => (mem_addK.mp hy).elim (k.sub y) fun e => by
    subst e
    unfold Nt.names
    exact List.mem_append_left _ (List.mem_append_right _ (List.mem_map.mpr ⟨_, List.mem_of_getElem? h, rfl⟩))
  io := fun y hy => mem_addK.mpr (.inl (k.io y hy))
  so := fun y hy => mem_addK.mpr (.inl (k.so y hy))
  odk := fun j hj y hy => mem_addK.mpr (.inl (k.odk j hj y hy))
  cur := fun j hj r hr e => by
    rcases Nat.lt_succ_iff_lt_or_eq.mp hj with hj | rfl
    · exact mem_addK.mpr (.inl (k.cur j hj r hr e))
    · rw [h] at hr; cases hr; exact mem_addK.mpr (.inr rfl)
theorem Kn.skip {N : Nt} (g : Gn N) {od : List Str} (tp : Topo N.sums od) {t i : Nat} {ks : List Str} (k : Kn N od t i ks) {z : Str} {ws : List Str} (h : N.sums[i]? = some (z, ws)) (hn : ¬ ∀ w ∈ ws, w ∈ ks) : Kn N od t (i + 1) ks where
  nd := k.nd
  sub := k.sub
  io := k.io
  so := k.so
  odk := k.odk
  cur := fun j hj r hr e => by
    rcases Nat.lt_succ_iff_lt_or_eq.mp hj with hj | rfl
    · exact k.cur j hj r hr e
    · rw [h] at hr; cases hr
      refine absurd (fun w hw => ?_) hn
      have hm := List.mem_of_getElem? h
      have hwn := g.ws _ hm w hw
      unfold Nt.names at hwn
      rcases List.mem_append.mp hwn with hx | hx
      · rcases List.mem_append.mp hx with hx | hx
        · exact k.io w hx
        · obtain ⟨j', hj'⟩ := List.mem_iff_getElem?.mp (tp.need t z e ws hm w hw hx)
          have hlt : j' < t := by
            have := (List.getElem?_eq_some_iff.mp hj').1
            rw [List.length_take] at this; omega
          rw [List.getElem?_take_of_lt hlt] at hj'
          exact k.odk j' hlt w hj'
      · exact k.so w hx
theorem Kn.turn {N : Nt} {od : List Str} (tp : Topo N.sums od) {t : Nat} {ks : List Str} (k : Kn N od t N.sums.length ks) : Kn N od (t + 1) 0 ks where
  nd := k.nd
  sub := k.sub
  io := k.io
  so := k.so
  odk := fun j hj z hz => by
    rcases Nat.lt_succ_iff_lt_or_eq.mp hj with hj | rfl
    · exact k.odk j hj z hz
    · obtain ⟨r, hr, e⟩ := List.mem_map.mp (tp.perm.mem_iff.mp (List.mem_of_getElem? hz))
      obtain ⟨i, hi⟩ := List.mem_iff_getElem?.mp hr
      have e : r.1 = z := e
      subst e
      exact k.cur i (List.getElem?_eq_some_iff.mp hi).1 r hi hz
  cur := fun j hj => by omega
theorem Kn.all {N : Nt} {od : List Str} (tp : Topo N.sums od) {ks : List Str} (k : Kn N od N.sums.length 0 ks) : ∀ z, z ∈ ks ↔ z ∈ N.names := fun z => by
  refine ⟨k.sub z, fun h => ?_⟩
  unfold Nt.names at h
  rcases List.mem_append.mp h with h | h
  · rcases List.mem_append.mp h with h | h
    · exact k.io z h
    · obtain ⟨j, hj⟩ := List.mem_iff_getElem?.mp (tp.perm.mem_iff.mpr h)
      have := (List.getElem?_eq_some_iff.mp hj).1
      have el := tp.perm.length_eq
      rw [List.length_map] at el
      exact k.odk j (by omega) z hj
  · exact k.so z h
noncomputable def sp_lnbits : Sp := fun vs H Q _ => ∃ (t i s u o : Addr) (rs : List Rw) (qs : List Qs) (N : Nt) (od : List Str) (row st : Nat), vs = [.ref t, nat row, nat st] ∧ H t = some (.tup [.ref i, .ref s, .ref u, .ref o]) ∧ Hnd H i s u o rs qs N ∧ Gn N ∧ Topo N.sums od ∧
  ∀ (D : Addr) (H2 : Hp) (ks : List Str) (F : Str → Bool), H D = none → Same H H2 → H2 D = some (.dK (bitK F ks)) → Val N row st F → (∀ z, z ∈ ks ↔ z ∈ N.names) → Q (.ref D) H2
noncomputable def sp_lansw : Sp := fun vs H Q _ => ∃ (t i s u o D : Addr) (rs : List Rw) (qs : List Qs) (N : Nt) (ks : List Str) (F : Str → Bool), vs = [.ref t, .ref D] ∧ H t = some (.tup [.ref i, .ref s, .ref u, .ref o]) ∧ Hnd H i s u o rs qs N ∧ Gn N ∧ H D = some (.dK (bitK F ks)) ∧ (∀ z, z ∈ ks ↔ z ∈ N.names) ∧ ∀ H2, Same H H2 → Q (nat (mat F N.outs)) H2
noncomputable def sp_lnext : Sp := fun vs H Q _ => ∃ (t i s u o D : Addr) (rs : List Rw) (qs : List Qs) (N : Nt) (ks : List Str) (F : Str → Bool), vs = [.ref t, .ref D] ∧ H t = some (.tup [.ref i, .ref s, .ref u, .ref o]) ∧ Hnd H i s u o rs qs N ∧ Gn N ∧ H D = some (.dK (bitK F ks)) ∧ (∀ z, z ∈ ks ↔ z ∈ N.names) ∧ ∀ H2, Same H H2 → Q (nat (mat F (N.sts.map (·.2)))) H2
noncomputable def sp_lright (NA : NP) (C : Addr) : Sp := fun vs H Q _ => ∃ (p l n d dx D : Addr) (N : Nt) (od : List Str) (v : V) (as : List V) (f : Str → Bool) (ks : List Str), vs = [.ref p, .ref D] ∧ H p = some (.ins C dx [("net", .ref n), ("held", v), ("bits", .ref d), ("given", .ref l)]) ∧ (∀ H2, Kx D H H2 → NA H2 n N od) ∧ H l = some (.lst as) ∧ as ≠ [] ∧ H d = some (.dK (bitK f (need N od))) ∧ d ≠ D ∧ H D = some (.dK (bitK f ks)) ∧ (∀ z, z ∈ ks ↔ z ∈ N.names) ∧
  ∀ H2, Kx D H H2 → Q (.bl true) H2
end Sx
set_option Elab.async false
set_option linter.all false
set_option maxRecDepth 100000
set_option maxHeartbeats 4000000
namespace My
open PySem L2 Sx
local macro_rules | `(tactic| walk_at "l2side") => `(tactic| first | assumption | rfl | omega | decide | ((try dsimp only [CDiv, CDivN, CPow, CMul]); first | omega | decide | (refine ⟨?_, ?_⟩ <;> first | omega | decide) | (refine ⟨?_, ?_, ?_⟩ <;> first | omega | decide) | (left; refine ⟨?_, ?_⟩ <;> first | omega | decide) | (right; refine ⟨?_, ?_⟩ <;> first | omega | decide)))
local macro_rules | `(tactic| walk_at "l2len") => `(tactic| ((with_reducible show _ + _ ≤ sizeLine); first | assumption | (rw [sizeLine_eq]; omega) | omega))
local macro_rules | `(tactic| walk_at "l2at") => `(tactic| first | assumption | exact upd_same | (refine' Same.get (by assumption) ?h; (case h => walk_at "l2at")))
local macro_rules | `(tactic| walk_at "l2hp") => `(tactic| first | assumption | (refine' SqL.of ?h; (case h => walk_at "l2at")) | (refine' SqT.of ?h; (case h => walk_at "l2at")) | (refine' Same.seq (by assumption) ?h; (case h => walk_at "l2hp")) | (refine' Same.tup (by assumption) ?h; (case h => walk_at "l2hp")) | (refine' Rep.same (by assumption) ?h; (case h => walk_at "l2hp")) | walk_at "l2at")
local macro_rules | `(tactic| walk_at "l2kind") => `(tactic| first | assumption | exact rfl | (refine' Or.inl ⟨rfl, _, ?e⟩; (case e => walk_at "l2hp")) | (refine' Or.inr (Or.inl ⟨rfl, _, ?e⟩); (case e => walk_at "l2hp")) | (refine' Or.inr (Or.inr ⟨rfl, _, Or.inl ?e⟩); (case e => walk_at "l2hp")))
local macro_rules | `(tactic| walk_at "l2step") => `(tactic| first
  | (with_reducible refine s_seq ?_) | (with_reducible refine s_asg ?_) | (with_reducible refine s_if ?_) | (with_reducible refine s_ret ?_) | (with_reducible refine s_retN ?_) | (with_reducible refine s_drop ?_) | (with_reducible refine s_next ?_)
  | ((with_reducible refine' s_var ?e ?_); (case e => repeat constructor)) | (with_reducible refine s_c ?_) | (with_reducible refine s_op ?_) | (with_reducible refine s_un ?_)
  | (with_reducible refine s_cons ?_) | (with_reducible refine s_nil ?_) | (with_reducible refine s_call0 ?_) | (with_reducible refine s_cb ?_)
  | (with_reducible refine s_rI0 ?_) | ((with_reducible refine' s_rI ?e ?_); (case e => walk_at "l2side")) | (with_reducible refine s_rU ?_)
  | ((with_reducible refine' s_rEq ?e ?_); (case e => rfl)) | ((with_reducible refine' s_rNe ?e ?_); (case e => rfl)) | (with_reducible refine s_leS ?_)
  | (with_reducible refine s_test ?_) | (with_reducible refine s_tB ?_) | (with_reducible refine L2.s_chain ?_) | (with_reducible refine s_and ?_) | (with_reducible refine s_or ?_) | (with_reducible refine s_not ?_)
  | (with_reducible refine s_andV ?_) | (with_reducible refine s_orV ?_) | (with_reducible refine s_notV ?_) | (with_reducible refine s_ifE ?_)
  | ((with_reducible refine' s_gname ?e ?_); (case e => repeat constructor)) | (with_reducible refine s_gcons ?_) | (with_reducible refine s_gnil ?_) | ((with_reducible refine' s_gtup ?e ?l ?_); (case e => walk_at "l2hp"); (case l => rfl))
  | (with_reducible refine s_tup ?_) | (with_reducible refine s_lst ?_) | ((with_reducible refine' s_newL ?l ?_); (case l => exact le_line (Nat.le_of_ble_eq_true rfl))) | ((with_reducible refine' s_newT ?l ?_); (case l => exact le_line (Nat.le_of_ble_eq_true rfl)))
  | (with_reducible refine s_sl ?_) | (with_reducible refine s_noPart ?_) | (with_reducible refine s_part ?_)
  | ((with_reducible refine' s_slL ?e ?_); (case e => walk_at "l2hp")) | ((with_reducible refine' s_slS ?e ?_); (case e => walk_at "l2side"))
  | ((with_reducible refine' s_ixL ?e ?a ?_); (case e => walk_at "l2hp"); (case a => first | assumption | rfl)) | ((with_reducible refine' s_ixT ?e ?a ?_); (case e => walk_at "l2hp"); (case a => first | assumption | rfl))
  | ((with_reducible refine' s_ty ?e ?_); (case e => first | exact rfl | (refine' Or.inl ⟨rfl, _, ?f⟩; (case f => walk_at "l2hp")) | (refine' Or.inr (Or.inr (Or.inl ⟨rfl, Or.inl ⟨_, ?f⟩⟩)); (case f => walk_at "l2hp"))))
  | (with_reducible refine s_bm0 ?_) | (with_reducible refine s_bm ?_) | (with_reducible refine s_bits ?_)
  | ((with_reducible refine' s_lenL ?e ?_); (case e => walk_at "l2hp")) | ((with_reducible refine' s_lenT ?e ?_); (case e => walk_at "l2hp")) | ((with_reducible refine' s_lenS ?e ?_); (case e => walk_at "l2side"))
  | ((with_reducible refine' s_isi ?e ?m ?_); (case e => walk_at "l2kind"); (case m => decide))
  | (with_reducible refine s_dnew ?_) | (with_reducible refine s_for ?_) | (with_reducible refine s_iList ?_) | (with_reducible refine s_iTup ?_) | (with_reducible refine s_iStr ?_) | (with_reducible refine s_rng1 ?_) | (with_reducible refine s_rng2 ?_)
  | (with_reducible refine s_yes ?_) | (with_reducible refine s_true ?_) | (with_reducible refine s_false ?_) | (with_reducible refine s_intB ?_) | (with_reducible refine s_inS ?_) | ((with_reducible refine' s_addS ?e ?_); (case e => walk_at "l2side"))
  | (with_reducible refine s_comp ?_) | ((with_reducible refine' s_ifT ?e ?_); (case e => first | rfl | decide | assumption)) | ((with_reducible refine' s_ifF ?e ?_); (case e => first | rfl | decide | assumption)) | ((with_reducible refine' s_bounds ?a ?b ?_); (case a => omega); (case b => omega))
  | (with_reducible refine ⟨_, _, rfl, rfl, ?_⟩; (with_reducible refine ⟨?l, ?_⟩); (case l => walk_at "l2len")) | (with_reducible refine ⟨_, _, rfl, rfl, ?_⟩) | (with_reducible refine Or.inl ⟨_, rfl, ?_⟩) | (with_reducible refine Or.inr ⟨_, rfl, ?_⟩)
  | (with_reducible refine ⟨_, rfl, ?_⟩) | (with_reducible refine ⟨rfl, ?_⟩) | ((with_reducible refine' ⟨⟨_, ?e⟩, ?_⟩); (case e => walk_at "l2hp")))
local macro_rules | `(tactic| walk_at "l2") => `(tactic| repeat walk_at "l2step")
local macro_rules | `(tactic| walk_at "l2step") => `(tactic| first
  | (with_reducible refine s_setfld ?_) | (with_reducible refine s_fld ?_) | (with_reducible refine s_make ?_) | (with_reducible refine s_makeAt ?_) | (with_reducible refine s_meth ?_) | (with_reducible refine s_dput ?_) | (with_reducible refine s_dget ?_) | (with_reducible refine s_iEnum ?_)
  | ((with_reducible refine' s_listL ?e ?_); (case e => walk_at "l2hp")) | ((with_reducible refine' s_listT ?e ?_); (case e => walk_at "l2hp")) | ((with_reducible refine' s_tupL ?e ?_); (case e => walk_at "l2hp")) | ((with_reducible refine' s_tupT ?e ?_); (case e => walk_at "l2hp")))
local macro_rules | `(tactic| walk_at "l2step") => `(tactic| first
  | (with_reducible refine s_din ?_) | (with_reducible refine s_dnot ?_) | (with_reducible refine s_disp1I ?_) | ((with_reducible refine' s_listD ?e ?_); (case e => walk_at "l2at")))
local macro_rules | `(tactic| walk_at "l2step") => `(tactic| first | (with_reducible refine s_raise ?_) | (with_reducible refine s_try0 ?_) | (with_reducible refine s_callX ?_))
noncomputable def top (i : Nat) : Stmt := PySem.Challenge.pw_sumwires_k21_runs_sum_by_sum.main.body.getD i (.Pass ⟨0, 0, 0, 0⟩)
noncomputable abbrev s_is_whole : Stmt := top 16
theorem sc_is_whole : FnScope ["thing"] ["thing"] (defScope s_is_whole) := ⟨rfl, rfl, rfl, by decide +kernel, rfl, by decide +kernel, by decide +kernel⟩
noncomputable abbrev s_is_mask : Stmt := top 17
theorem sc_is_mask : FnScope ["thing", "width"] ["thing", "width"] (defScope s_is_mask) := ⟨rfl, rfl, rfl, by decide +kernel, rfl, by decide +kernel, by decide +kernel⟩
noncomputable abbrev s_is_name : Stmt := top 18
theorem sc_is_name : FnScope ["thing"] ["thing"] (defScope s_is_name) := ⟨rfl, rfl, rfl, by decide +kernel, rfl, by decide +kernel, by decide +kernel⟩
noncomputable abbrev s_mask_of : Stmt := top 19
theorem sc_mask_of : FnScope ["places", "mask", "place"] ["places"] (defScope s_mask_of) := ⟨rfl, rfl, rfl, by decide +kernel, rfl, by decide +kernel, by decide +kernel⟩
noncomputable abbrev s_turn_bits : Stmt := top 21
theorem sc_turn_bits : FnScope ["net", "row", "state", "bits", "name"] ["net", "row", "state"] (defScope s_turn_bits) := ⟨rfl, rfl, rfl, by decide +kernel, rfl, by decide +kernel, by decide +kernel⟩
noncomputable abbrev s_mask_at : Stmt := top 22
theorem sc_mask_at : FnScope ["wires", "bits"] ["wires", "bits"] (defScope s_mask_at) := ⟨rfl, rfl, rfl, by decide +kernel, rfl, by decide +kernel, by decide +kernel⟩
noncomputable abbrev s_Run___init__ : Stmt := inClass (top 23) 0
theorem sc_Run___init__ : FnScope ["self", "net"] ["self", "net"] (defScope s_Run___init__) := ⟨rfl, rfl, rfl, by decide +kernel, rfl, by decide +kernel, by decide +kernel⟩
noncomputable abbrev s_Run_step : Stmt := inClass (top 23) 1
theorem sc_Run_step : FnScope ["self", "row", "answer"] ["self", "row"] (defScope s_Run_step) := ⟨rfl, rfl, rfl, by decide +kernel, rfl, by decide +kernel, by decide +kernel⟩
noncomputable abbrev s_Run_state : Stmt := inClass (top 23) 2
theorem sc_Run_state : FnScope ["self"] ["self"] (defScope s_Run_state) := ⟨rfl, rfl, rfl, by decide +kernel, rfl, by decide +kernel, by decide +kernel⟩
noncomputable abbrev s_Run_wire_now : Stmt := inClass (top 23) 3
theorem sc_Run_wire_now : FnScope ["self", "name"] ["self", "name"] (defScope s_Run_wire_now) := ⟨rfl, rfl, rfl, by decide +kernel, rfl, by decide +kernel, by decide +kernel⟩
noncomputable abbrev s_Run_answered : Stmt := inClass (top 23) 4
theorem sc_Run_answered : FnScope ["self"] ["self"] (defScope s_Run_answered) := ⟨rfl, rfl, rfl, by decide +kernel, rfl, by decide +kernel, by decide +kernel⟩
noncomputable abbrev s_answers_of : Stmt := top 24
theorem sc_answers_of : FnScope ["net", "rows", "going", "row"] ["net", "rows"] (defScope s_answers_of) := ⟨rfl, rfl, rfl, by decide +kernel, rfl, by decide +kernel, by decide +kernel⟩
noncomputable abbrev s_Wire___init__ : Stmt := inClass (top 26) 0
theorem sc_Wire___init__ : FnScope ["self", "name"] ["self", "name"] (defScope s_Wire___init__) := ⟨rfl, rfl, rfl, by decide +kernel, rfl, by decide +kernel, by decide +kernel⟩
noncomputable abbrev s_InWire___init__ : Stmt := inClass (top 27) 0
theorem sc_InWire___init__ : FnScope ["self", "name", "number"] ["self", "name", "number"] (defScope s_InWire___init__) := ⟨rfl, rfl, rfl, by decide +kernel, rfl, by decide +kernel, by decide +kernel⟩
noncomputable abbrev s_InWire_bit : Stmt := inClass (top 27) 2
theorem sc_InWire_bit : FnScope ["self", "known", "row", "state"] ["self", "known", "row", "state"] (defScope s_InWire_bit) := ⟨rfl, rfl, rfl, by decide +kernel, rfl, by decide +kernel, by decide +kernel⟩
noncomputable abbrev s_SumWire___init__ : Stmt := inClass (top 28) 0
theorem sc_SumWire___init__ : FnScope ["self", "name", "wires"] ["self", "name", "wires"] (defScope s_SumWire___init__) := ⟨rfl, rfl, rfl, by decide +kernel, rfl, by decide +kernel, by decide +kernel⟩
noncomputable abbrev s_SumWire_bit : Stmt := inClass (top 28) 3
theorem sc_SumWire_bit : FnScope ["self", "known", "row", "state", "total", "wire"] ["self", "known", "row", "state"] (defScope s_SumWire_bit) := ⟨rfl, rfl, rfl, by decide +kernel, rfl, by decide +kernel, by decide +kernel⟩
noncomputable abbrev s_StoreWire___init__ : Stmt := inClass (top 29) 0
theorem sc_StoreWire___init__ : FnScope ["self", "name", "wire", "number"] ["self", "name", "wire", "number"] (defScope s_StoreWire___init__) := ⟨rfl, rfl, rfl, by decide +kernel, rfl, by decide +kernel, by decide +kernel⟩
noncomputable abbrev s_StoreWire_bit : Stmt := inClass (top 29) 2
theorem sc_StoreWire_bit : FnScope ["self", "known", "row", "state"] ["self", "known", "row", "state"] (defScope s_StoreWire_bit) := ⟨rfl, rfl, rfl, by decide +kernel, rfl, by decide +kernel, by decide +kernel⟩
noncomputable abbrev s_check_sizes : Stmt := top 36
theorem sc_check_sizes : FnScope ["ins", "sums", "stores", "outs"] ["ins", "sums", "stores", "outs"] (defScope s_check_sizes) := ⟨rfl, rfl, rfl, by decide +kernel, rfl, by decide +kernel, by decide +kernel⟩
noncomputable abbrev s_check_names : Stmt := top 37
theorem sc_check_names : FnScope ["names", "known", "name"] ["names"] (defScope s_check_names) := ⟨rfl, rfl, rfl, by decide +kernel, rfl, by decide +kernel, by decide +kernel⟩
noncomputable abbrev s_check_wire : Stmt := top 38
theorem sc_check_wire : FnScope ["wire", "known"] ["wire", "known"] (defScope s_check_wire) := ⟨rfl, rfl, rfl, by decide +kernel, rfl, by decide +kernel, by decide +kernel⟩
noncomputable abbrev s_check_wires : Stmt := top 39
theorem sc_check_wires : FnScope ["sums", "stores", "outs", "known", "row", "wire"] ["sums", "stores", "outs", "known"] (defScope s_check_wires) := ⟨rfl, rfl, rfl, by decide +kernel, rfl, by decide +kernel, by decide +kernel⟩
noncomputable abbrev s_wires_by_name : Stmt := top 40
theorem sc_wires_by_name : FnScope ["ins", "sums", "stores", "wires"] ["ins", "sums", "stores"] (defScope s_wires_by_name) := ⟨rfl, rfl, rfl, by decide +kernel, rfl, by decide +kernel, by decide +kernel⟩
noncomputable abbrev s_waits : Stmt := top 41
theorem sc_waits : FnScope ["row", "waiting"] ["row", "waiting"] (defScope s_waits) := ⟨rfl, rfl, rfl, by decide +kernel, rfl, by decide +kernel, by decide +kernel⟩
noncomputable abbrev s_ordered : Stmt := top 43
theorem sc_ordered : FnScope ["sums", "names", "left", "waiting", "ready"] ["sums"] (defScope s_ordered) := ⟨rfl, rfl, rfl, by decide +kernel, rfl, by decide +kernel, by decide +kernel⟩
noncomputable abbrev s_Net___init__ : Stmt := inClass (top 44) 0
theorem sc_Net___init__ : FnScope ["self", "ins", "sums", "stores", "outs"] ["self", "ins", "sums", "stores", "outs"] (defScope s_Net___init__) := ⟨rfl, rfl, rfl, by decide +kernel, rfl, by decide +kernel, by decide +kernel⟩
noncomputable abbrev s_Net_in_names : Stmt := inClass (top 44) 1
theorem sc_Net_in_names : FnScope ["self"] ["self"] (defScope s_Net_in_names) := ⟨rfl, rfl, rfl, by decide +kernel, rfl, by decide +kernel, by decide +kernel⟩
noncomputable abbrev s_Net_store_rows : Stmt := inClass (top 44) 3
theorem sc_Net_store_rows : FnScope ["self"] ["self"] (defScope s_Net_store_rows) := ⟨rfl, rfl, rfl, by decide +kernel, rfl, by decide +kernel, by decide +kernel⟩
noncomputable abbrev s_Net_out_wires : Stmt := inClass (top 44) 4
theorem sc_Net_out_wires : FnScope ["self"] ["self"] (defScope s_Net_out_wires) := ⟨rfl, rfl, rfl, by decide +kernel, rfl, by decide +kernel, by decide +kernel⟩
noncomputable abbrev s_Net_wire_of : Stmt := inClass (top 44) 7
theorem sc_Net_wire_of : FnScope ["self", "name"] ["self", "name"] (defScope s_Net_wire_of) := ⟨rfl, rfl, rfl, by decide +kernel, rfl, by decide +kernel, by decide +kernel⟩
noncomputable abbrev s_Net_names_by_need : Stmt := inClass (top 44) 9
theorem sc_Net_names_by_need : FnScope ["self"] ["self"] (defScope s_Net_names_by_need) := ⟨rfl, rfl, rfl, by decide +kernel, rfl, by decide +kernel, by decide +kernel⟩
noncomputable abbrev s__law_cell : Stmt := top 46
theorem sc__law_cell : FnScope ["_law_script", "_law_k"] ["_law_script", "_law_k"] (defScope s__law_cell) := ⟨rfl, rfl, rfl, by decide +kernel, rfl, by decide +kernel, by decide +kernel⟩
noncomputable abbrev s__law_mix : Stmt := top 47
theorem sc__law_mix : FnScope ["_law_cell_here", "_law_k", "_law_number"] ["_law_cell_here", "_law_k"] (defScope s__law_mix) := ⟨rfl, rfl, rfl, by decide +kernel, rfl, by decide +kernel, by decide +kernel⟩
noncomputable abbrev s__law_name : Stmt := top 48
theorem sc__law_name : FnScope ["_law_cell_here", "_law_k", "_law_letters", "_law_some"] ["_law_cell_here", "_law_k"] (defScope s__law_name) := ⟨rfl, rfl, rfl, by decide +kernel, rfl, by decide +kernel, by decide +kernel⟩
noncomputable abbrev s__law_wires : Stmt := top 49
theorem sc__law_wires : FnScope ["_law_cell_here", "_law_start", "_law_names", "_law_digits", "_law_left", "_law_found", "_law_k", "_law_many"] ["_law_cell_here", "_law_start", "_law_names", "_law_digits"] (defScope s__law_wires) := ⟨rfl, rfl, rfl, by decide +kernel, rfl, by decide +kernel, by decide +kernel⟩
noncomputable abbrev s__law_net : Stmt := top 50
theorem sc__law_net : FnScope ["_law_script", "_law_start", "_law_most", "_law_cell_here", "_law_sizes", "_law_ins", "_law_stores", "_law_known", "_law_sums", "_law_k", "_law_wires_here", "_law_at", "_law_ends", "_law_name_here", "_law_outs"] ["_law_script", "_law_start", "_law_most"] (defScope s__law_net) := ⟨rfl, rfl, rfl, by decide +kernel, rfl, by decide +kernel, by decide +kernel⟩
noncomputable abbrev s__law_bits : Stmt := top 51
theorem sc__law_bits : FnScope ["_law_net_here", "_law_row", "_law_state", "_law_ins", "_law_sums", "_law_stores", "_law_outs", "_law_bits_here", "_law_k", "_law_name_here", "_law_wire", "_law_turn", "_law_wires_here", "_law_known"] ["_law_net_here", "_law_row", "_law_state"] (defScope s__law_bits) := ⟨rfl, rfl, rfl, by decide +kernel, rfl, by decide +kernel, by decide +kernel⟩
noncomputable abbrev s__law_answer : Stmt := top 52
theorem sc__law_answer : FnScope ["_law_net_here", "_law_bits_here"] ["_law_net_here", "_law_bits_here"] (defScope s__law_answer) := ⟨rfl, rfl, rfl, by decide +kernel, rfl, by decide +kernel, by decide +kernel⟩
noncomputable abbrev s__law_next : Stmt := top 53
theorem sc__law_next : FnScope ["_law_net_here", "_law_bits_here"] ["_law_net_here", "_law_bits_here"] (defScope s__law_next) := ⟨rfl, rfl, rfl, by decide +kernel, rfl, by decide +kernel, by decide +kernel⟩
noncomputable abbrev s__law_wires_right : Stmt := top 54
theorem sc__law_wires_right : FnScope ["_law_run", "_law_bits_here", "_law_name_here", "_law_found"] ["_law_run", "_law_bits_here"] (defScope s__law_wires_right) := ⟨rfl, rfl, rfl, by decide +kernel, rfl, by decide +kernel, by decide +kernel⟩
noncomputable abbrev s_law : Stmt := top 55
theorem sc_law : FnScope ["_law_script", "_law_net_here", "_law_net_one", "_law_run", "_law_state", "_law_rows", "_law_answers", "_law_beside", "_law_other", "_law_cell_here", "_law_row", "_law_bits_here", "_law_found", "_law_handed"] ["_law_script"] (defScope s_law) := ⟨rfl, rfl, rfl, by decide +kernel, rfl, by decide +kernel, by decide +kernel⟩
structure Ad where
  f_is_whole : Addr
  d_is_whole : FuncData
  f_is_mask : Addr
  d_is_mask : FuncData
  f_is_name : Addr
  d_is_name : FuncData
  f_mask_of : Addr
  d_mask_of : FuncData
  f_turn_bits : Addr
  d_turn_bits : FuncData
  f_mask_at : Addr
  d_mask_at : FuncData
  f_Run___init__ : Addr
  d_Run___init__ : FuncData
  f_Run_step : Addr
  d_Run_step : FuncData
  f_Run_state : Addr
  d_Run_state : FuncData
  f_Run_wire_now : Addr
  d_Run_wire_now : FuncData
  f_Run_answered : Addr
  d_Run_answered : FuncData
  f_answers_of : Addr
  d_answers_of : FuncData
  f_Wire___init__ : Addr
  d_Wire___init__ : FuncData
  f_InWire___init__ : Addr
  d_InWire___init__ : FuncData
  f_InWire_bit : Addr
  d_InWire_bit : FuncData
  f_SumWire___init__ : Addr
  d_SumWire___init__ : FuncData
  f_SumWire_bit : Addr
  d_SumWire_bit : FuncData
  f_StoreWire___init__ : Addr
  d_StoreWire___init__ : FuncData
  f_StoreWire_bit : Addr
  d_StoreWire_bit : FuncData
  f_check_sizes : Addr
  d_check_sizes : FuncData
  f_check_names : Addr
  d_check_names : FuncData
  f_check_wire : Addr
  d_check_wire : FuncData
  f_check_wires : Addr
  d_check_wires : FuncData
  f_wires_by_name : Addr
  d_wires_by_name : FuncData
  f_waits : Addr
  d_waits : FuncData
  f_ordered : Addr
  d_ordered : FuncData
  f_Net___init__ : Addr
  d_Net___init__ : FuncData
  f_Net_in_names : Addr
  d_Net_in_names : FuncData
  f_Net_store_rows : Addr
  d_Net_store_rows : FuncData
  f_Net_out_wires : Addr
  d_Net_out_wires : FuncData
  f_Net_wire_of : Addr
  d_Net_wire_of : FuncData
  f_Net_names_by_need : Addr
  d_Net_names_by_need : FuncData
  f__law_cell : Addr
  d__law_cell : FuncData
  f__law_mix : Addr
  d__law_mix : FuncData
  f__law_name : Addr
  d__law_name : FuncData
  f__law_wires : Addr
  d__law_wires : FuncData
  f__law_net : Addr
  d__law_net : FuncData
  f__law_bits : Addr
  d__law_bits : FuncData
  f__law_answer : Addr
  d__law_answer : FuncData
  f__law_next : Addr
  d__law_next : FuncData
  f__law_wires_right : Addr
  d__law_wires_right : FuncData
  f_law : Addr
  d_law : FuncData
  c_Run : Addr
  c_Wire : Addr
  c_InWire : Addr
  c_SumWire : Addr
  c_StoreWire : Addr
  c_Net : Addr
  c_TooMany : Addr
  c_BadMask : Addr
  c_BadRow : Addr
  t_LETTERS : Tok
  t_LONGEST_NAME : Tok
  t_MOST_INS : Tok
  t_MOST_OUTS : Tok
  t_MOST_STORES : Tok
  t_MOST_SUMS : Tok
  t_MOST_WIRES : Tok
  t_NAME_SIGNS : Tok
structure Tx (K : PySem.W.Frag) (mg : Str → Option Value) (a : Ad) : Prop where
  F_is_whole : Fun K "is_whole" "is_whole" s_is_whole a.f_is_whole a.d_is_whole
  k_is_whole : PySem.W.keepIn K (.ref a.f_is_whole) = true
  b_is_whole : Binds K a.d_is_whole ["thing"] []
  g_is_whole : mg "is_whole" = some (.ref a.f_is_whole)
  F_is_mask : Fun K "is_mask" "is_mask" s_is_mask a.f_is_mask a.d_is_mask
  k_is_mask : PySem.W.keepIn K (.ref a.f_is_mask) = true
  b_is_mask : Binds K a.d_is_mask ["thing", "width"] []
  g_is_mask : mg "is_mask" = some (.ref a.f_is_mask)
  F_is_name : Fun K "is_name" "is_name" s_is_name a.f_is_name a.d_is_name
  k_is_name : PySem.W.keepIn K (.ref a.f_is_name) = true
  b_is_name : Binds K a.d_is_name ["thing"] []
  g_is_name : mg "is_name" = some (.ref a.f_is_name)
  F_mask_of : Fun K "mask_of" "mask_of" s_mask_of a.f_mask_of a.d_mask_of
  k_mask_of : PySem.W.keepIn K (.ref a.f_mask_of) = true
  b_mask_of : Binds K a.d_mask_of ["places"] []
  g_mask_of : mg "mask_of" = some (.ref a.f_mask_of)
  F_turn_bits : Fun K "turn_bits" "turn_bits" s_turn_bits a.f_turn_bits a.d_turn_bits
  k_turn_bits : PySem.W.keepIn K (.ref a.f_turn_bits) = true
  b_turn_bits : Binds K a.d_turn_bits ["net", "row", "state"] []
  g_turn_bits : mg "turn_bits" = some (.ref a.f_turn_bits)
  F_mask_at : Fun K "mask_at" "mask_at" s_mask_at a.f_mask_at a.d_mask_at
  k_mask_at : PySem.W.keepIn K (.ref a.f_mask_at) = true
  b_mask_at : Binds K a.d_mask_at ["wires", "bits"] []
  g_mask_at : mg "mask_at" = some (.ref a.f_mask_at)
  F_Run___init__ : Fun K "__init__" "Run.__init__" s_Run___init__ a.f_Run___init__ a.d_Run___init__
  k_Run___init__ : PySem.W.keepIn K (.ref a.f_Run___init__) = true
  b_Run___init__ : Binds K a.d_Run___init__ ["self", "net"] []
  F_Run_step : Fun K "step" "Run.step" s_Run_step a.f_Run_step a.d_Run_step
  k_Run_step : PySem.W.keepIn K (.ref a.f_Run_step) = true
  b_Run_step : Binds K a.d_Run_step ["self", "row"] []
  F_Run_state : Fun K "state" "Run.state" s_Run_state a.f_Run_state a.d_Run_state
  k_Run_state : PySem.W.keepIn K (.ref a.f_Run_state) = true
  b_Run_state : Binds K a.d_Run_state ["self"] []
  F_Run_wire_now : Fun K "wire_now" "Run.wire_now" s_Run_wire_now a.f_Run_wire_now a.d_Run_wire_now
  k_Run_wire_now : PySem.W.keepIn K (.ref a.f_Run_wire_now) = true
  b_Run_wire_now : Binds K a.d_Run_wire_now ["self", "name"] []
  F_Run_answered : Fun K "answered" "Run.answered" s_Run_answered a.f_Run_answered a.d_Run_answered
  k_Run_answered : PySem.W.keepIn K (.ref a.f_Run_answered) = true
  b_Run_answered : Binds K a.d_Run_answered ["self"] []
  F_answers_of : Fun K "answers_of" "answers_of" s_answers_of a.f_answers_of a.d_answers_of
  k_answers_of : PySem.W.keepIn K (.ref a.f_answers_of) = true
  b_answers_of : Binds K a.d_answers_of ["net", "rows"] []
  g_answers_of : mg "answers_of" = some (.ref a.f_answers_of)
  F_Wire___init__ : Fun K "__init__" "Wire.__init__" s_Wire___init__ a.f_Wire___init__ a.d_Wire___init__
  k_Wire___init__ : PySem.W.keepIn K (.ref a.f_Wire___init__) = true
  b_Wire___init__ : Binds K a.d_Wire___init__ ["self", "name"] []
  F_InWire___init__ : Fun K "__init__" "InWire.__init__" s_InWire___init__ a.f_InWire___init__ a.d_InWire___init__
  k_InWire___init__ : PySem.W.keepIn K (.ref a.f_InWire___init__) = true
  b_InWire___init__ : Binds K a.d_InWire___init__ ["self", "name", "number"] []
  F_InWire_bit : Fun K "bit" "InWire.bit" s_InWire_bit a.f_InWire_bit a.d_InWire_bit
  k_InWire_bit : PySem.W.keepIn K (.ref a.f_InWire_bit) = true
  b_InWire_bit : Binds K a.d_InWire_bit ["self", "known", "row", "state"] []
  F_SumWire___init__ : Fun K "__init__" "SumWire.__init__" s_SumWire___init__ a.f_SumWire___init__ a.d_SumWire___init__
  k_SumWire___init__ : PySem.W.keepIn K (.ref a.f_SumWire___init__) = true
  b_SumWire___init__ : Binds K a.d_SumWire___init__ ["self", "name", "wires"] []
  F_SumWire_bit : Fun K "bit" "SumWire.bit" s_SumWire_bit a.f_SumWire_bit a.d_SumWire_bit
  k_SumWire_bit : PySem.W.keepIn K (.ref a.f_SumWire_bit) = true
  b_SumWire_bit : Binds K a.d_SumWire_bit ["self", "known", "row", "state"] []
  F_StoreWire___init__ : Fun K "__init__" "StoreWire.__init__" s_StoreWire___init__ a.f_StoreWire___init__ a.d_StoreWire___init__
  k_StoreWire___init__ : PySem.W.keepIn K (.ref a.f_StoreWire___init__) = true
  b_StoreWire___init__ : Binds K a.d_StoreWire___init__ ["self", "name", "wire", "number"] []
  F_StoreWire_bit : Fun K "bit" "StoreWire.bit" s_StoreWire_bit a.f_StoreWire_bit a.d_StoreWire_bit
  k_StoreWire_bit : PySem.W.keepIn K (.ref a.f_StoreWire_bit) = true
  b_StoreWire_bit : Binds K a.d_StoreWire_bit ["self", "known", "row", "state"] []
  F_check_sizes : Fun K "check_sizes" "check_sizes" s_check_sizes a.f_check_sizes a.d_check_sizes
  k_check_sizes : PySem.W.keepIn K (.ref a.f_check_sizes) = true
  b_check_sizes : Binds K a.d_check_sizes ["ins", "sums", "stores", "outs"] []
  g_check_sizes : mg "check_sizes" = some (.ref a.f_check_sizes)
  F_check_names : Fun K "check_names" "check_names" s_check_names a.f_check_names a.d_check_names
  k_check_names : PySem.W.keepIn K (.ref a.f_check_names) = true
  b_check_names : Binds K a.d_check_names ["names"] []
  g_check_names : mg "check_names" = some (.ref a.f_check_names)
  F_check_wire : Fun K "check_wire" "check_wire" s_check_wire a.f_check_wire a.d_check_wire
  k_check_wire : PySem.W.keepIn K (.ref a.f_check_wire) = true
  b_check_wire : Binds K a.d_check_wire ["wire", "known"] []
  g_check_wire : mg "check_wire" = some (.ref a.f_check_wire)
  F_check_wires : Fun K "check_wires" "check_wires" s_check_wires a.f_check_wires a.d_check_wires
  k_check_wires : PySem.W.keepIn K (.ref a.f_check_wires) = true
  b_check_wires : Binds K a.d_check_wires ["sums", "stores", "outs", "known"] []
  g_check_wires : mg "check_wires" = some (.ref a.f_check_wires)
  F_wires_by_name : Fun K "wires_by_name" "wires_by_name" s_wires_by_name a.f_wires_by_name a.d_wires_by_name
  k_wires_by_name : PySem.W.keepIn K (.ref a.f_wires_by_name) = true
  b_wires_by_name : Binds K a.d_wires_by_name ["ins", "sums", "stores"] []
  g_wires_by_name : mg "wires_by_name" = some (.ref a.f_wires_by_name)
  F_waits : Fun K "waits" "waits" s_waits a.f_waits a.d_waits
  k_waits : PySem.W.keepIn K (.ref a.f_waits) = true
  b_waits : Binds K a.d_waits ["row", "waiting"] []
  g_waits : mg "waits" = some (.ref a.f_waits)
  F_ordered : Fun K "ordered" "ordered" s_ordered a.f_ordered a.d_ordered
  k_ordered : PySem.W.keepIn K (.ref a.f_ordered) = true
  b_ordered : Binds K a.d_ordered ["sums"] []
  g_ordered : mg "ordered" = some (.ref a.f_ordered)
  F_Net___init__ : Fun K "__init__" "Net.__init__" s_Net___init__ a.f_Net___init__ a.d_Net___init__
  k_Net___init__ : PySem.W.keepIn K (.ref a.f_Net___init__) = true
  b_Net___init__ : Binds K a.d_Net___init__ ["self", "ins", "sums", "stores", "outs"] []
  F_Net_in_names : Fun K "in_names" "Net.in_names" s_Net_in_names a.f_Net_in_names a.d_Net_in_names
  k_Net_in_names : PySem.W.keepIn K (.ref a.f_Net_in_names) = true
  b_Net_in_names : Binds K a.d_Net_in_names ["self"] []
  F_Net_store_rows : Fun K "store_rows" "Net.store_rows" s_Net_store_rows a.f_Net_store_rows a.d_Net_store_rows
  k_Net_store_rows : PySem.W.keepIn K (.ref a.f_Net_store_rows) = true
  b_Net_store_rows : Binds K a.d_Net_store_rows ["self"] []
  F_Net_out_wires : Fun K "out_wires" "Net.out_wires" s_Net_out_wires a.f_Net_out_wires a.d_Net_out_wires
  k_Net_out_wires : PySem.W.keepIn K (.ref a.f_Net_out_wires) = true
  b_Net_out_wires : Binds K a.d_Net_out_wires ["self"] []
  F_Net_wire_of : Fun K "wire_of" "Net.wire_of" s_Net_wire_of a.f_Net_wire_of a.d_Net_wire_of
  k_Net_wire_of : PySem.W.keepIn K (.ref a.f_Net_wire_of) = true
  b_Net_wire_of : Binds K a.d_Net_wire_of ["self", "name"] []
  F_Net_names_by_need : Fun K "names_by_need" "Net.names_by_need" s_Net_names_by_need a.f_Net_names_by_need a.d_Net_names_by_need
  k_Net_names_by_need : PySem.W.keepIn K (.ref a.f_Net_names_by_need) = true
  b_Net_names_by_need : Binds K a.d_Net_names_by_need ["self"] []
  F__law_cell : Fun K "_law_cell" "_law_cell" s__law_cell a.f__law_cell a.d__law_cell
  k__law_cell : PySem.W.keepIn K (.ref a.f__law_cell) = true
  b__law_cell : Binds K a.d__law_cell ["_law_script", "_law_k"] []
  g__law_cell : mg "_law_cell" = some (.ref a.f__law_cell)
  F__law_mix : Fun K "_law_mix" "_law_mix" s__law_mix a.f__law_mix a.d__law_mix
  k__law_mix : PySem.W.keepIn K (.ref a.f__law_mix) = true
  b__law_mix : Binds K a.d__law_mix ["_law_cell_here", "_law_k"] []
  g__law_mix : mg "_law_mix" = some (.ref a.f__law_mix)
  F__law_name : Fun K "_law_name" "_law_name" s__law_name a.f__law_name a.d__law_name
  k__law_name : PySem.W.keepIn K (.ref a.f__law_name) = true
  b__law_name : Binds K a.d__law_name ["_law_cell_here", "_law_k"] []
  g__law_name : mg "_law_name" = some (.ref a.f__law_name)
  F__law_wires : Fun K "_law_wires" "_law_wires" s__law_wires a.f__law_wires a.d__law_wires
  k__law_wires : PySem.W.keepIn K (.ref a.f__law_wires) = true
  b__law_wires : Binds K a.d__law_wires ["_law_cell_here", "_law_start", "_law_names", "_law_digits"] []
  g__law_wires : mg "_law_wires" = some (.ref a.f__law_wires)
  F__law_net : Fun K "_law_net" "_law_net" s__law_net a.f__law_net a.d__law_net
  k__law_net : PySem.W.keepIn K (.ref a.f__law_net) = true
  b__law_net : Binds K a.d__law_net ["_law_script", "_law_start", "_law_most"] []
  g__law_net : mg "_law_net" = some (.ref a.f__law_net)
  F__law_bits : Fun K "_law_bits" "_law_bits" s__law_bits a.f__law_bits a.d__law_bits
  k__law_bits : PySem.W.keepIn K (.ref a.f__law_bits) = true
  b__law_bits : Binds K a.d__law_bits ["_law_net_here", "_law_row", "_law_state"] []
  g__law_bits : mg "_law_bits" = some (.ref a.f__law_bits)
  F__law_answer : Fun K "_law_answer" "_law_answer" s__law_answer a.f__law_answer a.d__law_answer
  k__law_answer : PySem.W.keepIn K (.ref a.f__law_answer) = true
  b__law_answer : Binds K a.d__law_answer ["_law_net_here", "_law_bits_here"] []
  g__law_answer : mg "_law_answer" = some (.ref a.f__law_answer)
  F__law_next : Fun K "_law_next" "_law_next" s__law_next a.f__law_next a.d__law_next
  k__law_next : PySem.W.keepIn K (.ref a.f__law_next) = true
  b__law_next : Binds K a.d__law_next ["_law_net_here", "_law_bits_here"] []
  g__law_next : mg "_law_next" = some (.ref a.f__law_next)
  F__law_wires_right : Fun K "_law_wires_right" "_law_wires_right" s__law_wires_right a.f__law_wires_right a.d__law_wires_right
  k__law_wires_right : PySem.W.keepIn K (.ref a.f__law_wires_right) = true
  b__law_wires_right : Binds K a.d__law_wires_right ["_law_run", "_law_bits_here"] []
  g__law_wires_right : mg "_law_wires_right" = some (.ref a.f__law_wires_right)
  F_law : Fun K "law" "law" s_law a.f_law a.d_law
  k_law : PySem.W.keepIn K (.ref a.f_law) = true
  b_law : Binds K a.d_law ["_law_script"] []
  g_law : mg "law" = some (.ref a.f_law)
  g_Run : mg "Run" = some (.ref a.c_Run)
  C_Run : Cls K a.c_Run
  I_Run : IsiOk K a.c_Run
  M_Run : Mk K a.c_Run a.f_Run___init__
  m_Run_step : Meth K a.c_Run "step" a.f_Run_step
  m_Run_state : Meth K a.c_Run "state" a.f_Run_state
  m_Run_wire_now : Meth K a.c_Run "wire_now" a.f_Run_wire_now
  m_Run_answered : Meth K a.c_Run "answered" a.f_Run_answered
  n_Run_bits : NoAttr K a.c_Run "bits"
  n_Run_by_name : NoAttr K a.c_Run "by_name"
  n_Run_given : NoAttr K a.c_Run "given"
  n_Run_held : NoAttr K a.c_Run "held"
  n_Run_ins : NoAttr K a.c_Run "ins"
  n_Run_kept_stores : NoAttr K a.c_Run "kept_stores"
  n_Run_name : NoAttr K a.c_Run "name"
  n_Run_net : NoAttr K a.c_Run "net"
  n_Run_number : NoAttr K a.c_Run "number"
  n_Run_outs : NoAttr K a.c_Run "outs"
  n_Run_ring : NoAttr K a.c_Run "ring"
  n_Run_sum_order : NoAttr K a.c_Run "sum_order"
  n_Run_sums : NoAttr K a.c_Run "sums"
  n_Run_wire : NoAttr K a.c_Run "wire"
  n_Run_wires : NoAttr K a.c_Run "wires"
  g_Wire : mg "Wire" = some (.ref a.c_Wire)
  C_Wire : Cls K a.c_Wire
  I_Wire : IsiOk K a.c_Wire
  n_Wire_bits : NoAttr K a.c_Wire "bits"
  n_Wire_by_name : NoAttr K a.c_Wire "by_name"
  n_Wire_given : NoAttr K a.c_Wire "given"
  n_Wire_held : NoAttr K a.c_Wire "held"
  n_Wire_ins : NoAttr K a.c_Wire "ins"
  n_Wire_kept_stores : NoAttr K a.c_Wire "kept_stores"
  n_Wire_name : NoAttr K a.c_Wire "name"
  n_Wire_net : NoAttr K a.c_Wire "net"
  n_Wire_number : NoAttr K a.c_Wire "number"
  n_Wire_outs : NoAttr K a.c_Wire "outs"
  n_Wire_ring : NoAttr K a.c_Wire "ring"
  n_Wire_sum_order : NoAttr K a.c_Wire "sum_order"
  n_Wire_sums : NoAttr K a.c_Wire "sums"
  n_Wire_wire : NoAttr K a.c_Wire "wire"
  n_Wire_wires : NoAttr K a.c_Wire "wires"
  g_InWire : mg "InWire" = some (.ref a.c_InWire)
  C_InWire : Cls K a.c_InWire
  I_InWire : IsiOk K a.c_InWire
  M_InWire : Mk K a.c_InWire a.f_InWire___init__
  m_InWire_bit : Meth K a.c_InWire "bit" a.f_InWire_bit
  n_InWire_bits : NoAttr K a.c_InWire "bits"
  n_InWire_by_name : NoAttr K a.c_InWire "by_name"
  n_InWire_given : NoAttr K a.c_InWire "given"
  n_InWire_held : NoAttr K a.c_InWire "held"
  n_InWire_ins : NoAttr K a.c_InWire "ins"
  n_InWire_kept_stores : NoAttr K a.c_InWire "kept_stores"
  n_InWire_name : NoAttr K a.c_InWire "name"
  n_InWire_net : NoAttr K a.c_InWire "net"
  n_InWire_number : NoAttr K a.c_InWire "number"
  n_InWire_outs : NoAttr K a.c_InWire "outs"
  n_InWire_ring : NoAttr K a.c_InWire "ring"
  n_InWire_sum_order : NoAttr K a.c_InWire "sum_order"
  n_InWire_sums : NoAttr K a.c_InWire "sums"
  n_InWire_wire : NoAttr K a.c_InWire "wire"
  n_InWire_wires : NoAttr K a.c_InWire "wires"
  g_SumWire : mg "SumWire" = some (.ref a.c_SumWire)
  C_SumWire : Cls K a.c_SumWire
  I_SumWire : IsiOk K a.c_SumWire
  M_SumWire : Mk K a.c_SumWire a.f_SumWire___init__
  m_SumWire_bit : Meth K a.c_SumWire "bit" a.f_SumWire_bit
  n_SumWire_bits : NoAttr K a.c_SumWire "bits"
  n_SumWire_by_name : NoAttr K a.c_SumWire "by_name"
  n_SumWire_given : NoAttr K a.c_SumWire "given"
  n_SumWire_held : NoAttr K a.c_SumWire "held"
  n_SumWire_ins : NoAttr K a.c_SumWire "ins"
  n_SumWire_kept_stores : NoAttr K a.c_SumWire "kept_stores"
  n_SumWire_name : NoAttr K a.c_SumWire "name"
  n_SumWire_net : NoAttr K a.c_SumWire "net"
  n_SumWire_number : NoAttr K a.c_SumWire "number"
  n_SumWire_outs : NoAttr K a.c_SumWire "outs"
  n_SumWire_ring : NoAttr K a.c_SumWire "ring"
  n_SumWire_sum_order : NoAttr K a.c_SumWire "sum_order"
  n_SumWire_sums : NoAttr K a.c_SumWire "sums"
  n_SumWire_wire : NoAttr K a.c_SumWire "wire"
  n_SumWire_wires : NoAttr K a.c_SumWire "wires"
  g_StoreWire : mg "StoreWire" = some (.ref a.c_StoreWire)
  C_StoreWire : Cls K a.c_StoreWire
  I_StoreWire : IsiOk K a.c_StoreWire
  M_StoreWire : Mk K a.c_StoreWire a.f_StoreWire___init__
  m_StoreWire_bit : Meth K a.c_StoreWire "bit" a.f_StoreWire_bit
  n_StoreWire_bits : NoAttr K a.c_StoreWire "bits"
  n_StoreWire_by_name : NoAttr K a.c_StoreWire "by_name"
  n_StoreWire_given : NoAttr K a.c_StoreWire "given"
  n_StoreWire_held : NoAttr K a.c_StoreWire "held"
  n_StoreWire_ins : NoAttr K a.c_StoreWire "ins"
  n_StoreWire_kept_stores : NoAttr K a.c_StoreWire "kept_stores"
  n_StoreWire_name : NoAttr K a.c_StoreWire "name"
  n_StoreWire_net : NoAttr K a.c_StoreWire "net"
  n_StoreWire_number : NoAttr K a.c_StoreWire "number"
  n_StoreWire_outs : NoAttr K a.c_StoreWire "outs"
  n_StoreWire_ring : NoAttr K a.c_StoreWire "ring"
  n_StoreWire_sum_order : NoAttr K a.c_StoreWire "sum_order"
  n_StoreWire_sums : NoAttr K a.c_StoreWire "sums"
  n_StoreWire_wire : NoAttr K a.c_StoreWire "wire"
  n_StoreWire_wires : NoAttr K a.c_StoreWire "wires"
  g_Net : mg "Net" = some (.ref a.c_Net)
  C_Net : Cls K a.c_Net
  I_Net : IsiOk K a.c_Net
  M_Net : Mk K a.c_Net a.f_Net___init__
  m_Net_in_names : Meth K a.c_Net "in_names" a.f_Net_in_names
  m_Net_store_rows : Meth K a.c_Net "store_rows" a.f_Net_store_rows
  m_Net_out_wires : Meth K a.c_Net "out_wires" a.f_Net_out_wires
  m_Net_wire_of : Meth K a.c_Net "wire_of" a.f_Net_wire_of
  m_Net_names_by_need : Meth K a.c_Net "names_by_need" a.f_Net_names_by_need
  n_Net_bits : NoAttr K a.c_Net "bits"
  n_Net_by_name : NoAttr K a.c_Net "by_name"
  n_Net_given : NoAttr K a.c_Net "given"
  n_Net_held : NoAttr K a.c_Net "held"
  n_Net_ins : NoAttr K a.c_Net "ins"
  n_Net_kept_stores : NoAttr K a.c_Net "kept_stores"
  n_Net_name : NoAttr K a.c_Net "name"
  n_Net_net : NoAttr K a.c_Net "net"
  n_Net_number : NoAttr K a.c_Net "number"
  n_Net_outs : NoAttr K a.c_Net "outs"
  n_Net_ring : NoAttr K a.c_Net "ring"
  n_Net_sum_order : NoAttr K a.c_Net "sum_order"
  n_Net_sums : NoAttr K a.c_Net "sums"
  n_Net_wire : NoAttr K a.c_Net "wire"
  n_Net_wires : NoAttr K a.c_Net "wires"
  d_Wire___init__ : ClsDef K a.c_Wire "__init__" a.f_Wire___init__
  g_TooMany : mg "TooMany" = some (.ref a.c_TooMany)
  x_TooMany : PySem.W.excIn K a.c_TooMany [.type "ValueError", .type "Exception", .type "BaseException", .type "object"] "ValueError.__new__" = true
  I_TooMany : XIsi K a.c_TooMany
  g_BadMask : mg "BadMask" = some (.ref a.c_BadMask)
  x_BadMask : PySem.W.excIn K a.c_BadMask [.type "ValueError", .type "Exception", .type "BaseException", .type "object"] "ValueError.__new__" = true
  I_BadMask : XIsi K a.c_BadMask
  g_BadRow : mg "BadRow" = some (.ref a.c_BadRow)
  x_BadRow : PySem.W.excIn K a.c_BadRow [.type "ValueError", .type "Exception", .type "BaseException", .type "object"] "ValueError.__new__" = true
  I_BadRow : XIsi K a.c_BadRow
  g_LETTERS : mg "LETTERS" = some (.str "abcdefghijklmnopqrstuvwxyz" a.t_LETTERS)
  g_LONGEST_NAME : mg "LONGEST_NAME" = some (.int 6 a.t_LONGEST_NAME)
  g_MOST_INS : mg "MOST_INS" = some (.int 6 a.t_MOST_INS)
  g_MOST_OUTS : mg "MOST_OUTS" = some (.int 6 a.t_MOST_OUTS)
  g_MOST_STORES : mg "MOST_STORES" = some (.int 16 a.t_MOST_STORES)
  g_MOST_SUMS : mg "MOST_SUMS" = some (.int 40 a.t_MOST_SUMS)
  g_MOST_WIRES : mg "MOST_WIRES" = some (.int 24 a.t_MOST_WIRES)
  g_NAME_SIGNS : mg "NAME_SIGNS" = some (.str "abcdefghijklmnopqrstuvwxyz0123456789" a.t_NAME_SIGNS)
  n_all : mg "all" = none
  n_any : mg "any" = none
  n_bool : mg "bool" = none
  n_dict : mg "dict" = none
  n_enumerate : mg "enumerate" = none
  n_int : mg "int" = none
  n_isinstance : mg "isinstance" = none
  n_len : mg "len" = none
  n_list : mg "list" = none
  n_range : mg "range" = none
  n_reversed : mg "reversed" = none
  n_str : mg "str" = none
  n_sum : mg "sum" = none
  n_tuple : mg "tuple" = none
section
variable {P : Program} {w : World} {K : PySem.W.Frag} {mg : Str → Option Value} {base : Heap} {a : Ad}
theorem ok_is_whole (T : Tx K mg a) : FnOk P w K mg base CX0 1 a.f_is_whole a.d_is_whole ["thing"] (sp_whole K) := by
  refine T.F_is_whole.ok sc_is_whole (fun vs H Q E h => ?_) (fun cdv A outer s H vs Q E hr h => ?_)
  · obtain ⟨x, k, rfl, _⟩ := h; rfl
  · obtain ⟨x, k, rfl, hk, q⟩ := h
    refine ⟨_, ((pss_one (ps_ret (pe_and (pe_callB (call_isiK (K := K) rfl) (by rfl) T.n_isinstance PyProof.Rows.boot_isinstance (pa_cons (pv 0) (pa_cons (pe_bltn (v := .ty "int") (by rfl) T.n_int PyProof.Rows.boot_int rfl) pa_nil))) (pe_one (pe_not (pe_callB (call_isiK (K := K) rfl) (by rfl) T.n_isinstance PyProof.Rows.boot_isinstance (pa_cons (pv 0) (pa_cons (pe_bltn (v := .ty "bool") (by rfl) T.n_bool PyProof.Rows.boot_bool rfl) pa_nil))))))))), s_start (σ' := [some _]) rfl ?_⟩
    walk_at "l2"
    unfold wholeB at q
    cases hc : subB k "int"
    · rw [hc] at q
      walk_at "l2"
      exact q
    · rw [hc] at q
      walk_at "l2"
      exact q
local macro_rules | `(tactic| walk_at "l2step") => `(tactic| ((with_reducible refine' c_whole ?e ?_); (case e => walk_at "l2kind")))
theorem ok_is_mask (T : Tx K mg a) : FnOk P w K mg base CX0 2 a.f_is_mask a.d_is_mask ["thing", "width"] (sp_mask K) := by
  have G_is_whole : FnOk P w K mg base CX0 1 a.f_is_whole a.d_is_whole ["thing"] (sp_whole K) := ok_is_whole T
  refine T.F_is_mask.ok sc_is_mask (fun vs H Q E h => ?_) (fun cdv A outer s H vs Q E hr h => ?_)
  · obtain ⟨x, k, w, rfl, _⟩ := h; rfl
  · obtain ⟨x, k, wd, rfl, hk, q⟩ := h
    refine ⟨_, ((pss_one (ps_ret (pe_and (pe_call G_is_whole (hr.mono (by decide)) (by rfl) T.g_is_whole T.k_is_whole T.b_is_whole .nil pass0 (pa_cons (pv 0) pa_nil)) (pe_and (pe_cmpR op_ge (pv 0) pe_int (nomark _)) (pe_one (pe_cmpR op_le (pe_bm0K (K := K) rfl PySem.F.plainAttrs_int PySem.F.slot_int_bit_length PySem.F.type_int_bit_length mt_bits (pv 0)) (pv 1) (nomark _)))))))), s_start (σ' := [some _, some _]) rfl ?_⟩
    walk_at "l2"
    cases x with
    | int i =>
      have hk : k = "int" := hk
      subst hk
      walk_at "l2"
      have q : Q (.bl (decide (0 ≤ i) && decide (((Builtin.Int.intBits i : Nat) : Int) ≤ wd))) H := q
      cases hc : decide (0 ≤ i)
      · rw [hc] at q; walk_at "l2"; exact q
      · rw [hc] at q; walk_at "l2"; exact q
    | bl b => have hk : k = "bool" := hk; subst hk; walk_at "l2"; exact q
    | non => have hk : k = "NoneType" := hk; subst hk; walk_at "l2"; exact q
    | str z => have hk : k = "str" := hk; subst hk; walk_at "l2"; exact q
    | ref p =>
      rcases hk with ⟨rfl, _⟩ | ⟨rfl, _⟩ | ⟨rfl, _⟩ <;> walk_at "l2" <;> exact q
    | _ => exact False.elim hk
local macro_rules | `(tactic| walk_at "l2step") => `(tactic| ((with_reducible refine' c_mask ?e ?_); (case e => walk_at "l2kind")))
theorem ok_mask_of (T : Tx K mg a) : FnOk P w K mg base CX0 1 a.f_mask_of a.d_mask_of ["places"] sp_maskof := by
  refine T.F_mask_of.ok sc_mask_of (fun vs H Q E h => ?_) (fun cdv A outer s H vs Q E hr h => ?_)
  · obtain ⟨r, ps, rfl, _⟩ := h; rfl
  · obtain ⟨r, ps, rfl, hp, hl, q⟩ := h
    refine ⟨_, ((pss_cons (ps_set (i := 1) sc_mask_of.nd rfl (by first | exact Or.inl rfl | exact Or.inr rfl) pe_int)
      (pss_cons (ps_for PassesOwn.never rfl (pi_listK (K := K) rfl (pv 0)) (pg_name (i := 2) sc_mask_of.nd rfl (by first | exact Or.inl rfl | exact Or.inr rfl)) (pss_one (ps_set (i := 1) sc_mask_of.nd rfl (by first | exact Or.inl rfl | exact Or.inr rfl) (pe_op op_xor (pv 1) (pe_op op_shl pe_int (pv 2))))))
      (pss_one (ps_ret (pv 1)))))), s_start (σ' := [some _, none, none]) rfl ?_⟩
    walk_at "l2"
    refine for_list (xs := ps.map nat) (fun i σ H' => ∃ v, σ = [some (.ref r), some (nat (M.xm (ps.take i))), v] ∧ H' = H) ⟨none, rfl, rfl⟩ (fun i σ H' _ ⟨_, _, e⟩ => by rw [e]; exact SqL.of hp) ?_ ?_
    · rintro i y σ H' hy ⟨v, rfl, rfl⟩
      obtain ⟨k, hk, rfl⟩ := get_map hy
      have := hl k (List.mem_of_getElem? hk)
      walk_at "l2"
      refine ⟨some (nat k), ?_, rfl⟩
      rw [shl1, bitXor_nat, xm_take hk]
    · rintro σ H' ⟨v, rfl, rfl⟩
      rw [List.length_map, List.take_length]
      walk_at "l2"
      exact q
end
section
variable {P : Program} {w : World} {K : PySem.W.Frag} {mg : Str → Option Value} {base : Heap} {a : Ad}
theorem ok_is_name (T : Tx K mg a) : FnOk P w K mg base CX0 1 a.f_is_name a.d_is_name ["thing"] (sp_name K) := by
  refine T.F_is_name.ok sc_is_name (fun vs H Q E h => ?_) (fun cdv A outer s H vs Q E hr h => ?_)
  · obtain ⟨x, k, rfl, _⟩ := h; rfl
  · obtain ⟨x, k, rfl, hk, hz, q⟩ := h
    have q0 := q H (Same.refl H)
    refine ⟨_, ((pss_cons (ps_if (PW.pt (pw_or (pt_not (pt_val (pe_callB (call_isiK (K := K) rfl) (by rfl) T.n_isinstance PyProof.Rows.boot_isinstance (pa_cons (pv 0) (pa_cons (pe_bltn (v := .ty "str") (by rfl) T.n_str PyProof.Rows.boot_str rfl) pa_nil))))) (pw_or (pt_cmpR op_eq (pv 0) pe_str (nomark _)) (pw_or1 (pt_cmpR op_gt (pe_callB (call_lenK (K := K) rfl) (by rfl) T.n_len PySem.boot_len (pa_cons (pv 0) pa_nil)) (pe_glob (v := .int 6) (by rfl) T.g_LONGEST_NAME ⟨_, rfl⟩) (nomark _)))))) (pss_one (ps_ret pe_bl)) pss_nil)
      (pss_one (ps_ret (pe_and (pe_cmpR op_in_str (pe_ix ix_str (pv 0) pe_int (fun _ _ => rfl)) (pe_glob (v := .str "abcdefghijklmnopqrstuvwxyz") (by rfl) T.g_LETTERS ⟨_, rfl⟩) (by rfl)) (pe_one (pe_callB (call_allK (K := K) rfl rfl) (by rfl) T.n_all PyProof.Rows.boot_all (pa_cons (pe_comp (osc := defScope s_is_name) (ON := ["thing"]) (N := ["sign"]) (n := 1) (fx := []) rfl rfl rfl (by decide +kernel) (pi_str (pv 0)) (gk_name (by decide)) (fun _ _ _ _ _ => ⟨(pg_name (i := 0) (show List.Nodup (["sign"] : List Str) from by decide +kernel) rfl (by first | exact Or.inl rfl | exact Or.inr rfl)), pts_nil, (pe_cmpR op_in_str (pv 0) (pe_glob (v := .str "abcdefghijklmnopqrstuvwxyz0123456789") (by rfl) T.g_NAME_SIGNS ⟨_, rfl⟩) (by rfl))⟩)) pa_nil)))))))), s_start (σ' := [some _]) rfl ?_⟩
    walk_at "l2"
    cases x with
    | int i => have hk : k = "int" := hk; subst hk; walk_at "l2"; exact q0
    | bl b => have hk : k = "bool" := hk; subst hk; walk_at "l2"; exact q0
    | non => have hk : k = "NoneType" := hk; subst hk; walk_at "l2"; exact q0
    | ref p => rcases hk with ⟨rfl, _⟩ | ⟨rfl, _⟩ | ⟨rfl, _⟩ <;> walk_at "l2" <;> exact q0
    | str z =>
      have hk : k = "str" := hk
      subst hk
      have hz := hz z rfl
      have hs : z.length ≤ sizeLine := Nat.le_of_lt (small1000 hz)
      have q : ∀ H', Same H H' → Q (.bl (nm z.cps.toList)) H' := q
      have q0 := q H (Same.refl H)
      walk_at "l2"
      by_cases h1 : z = ""
      · rw [str_nil.mp h1] at q0
        refine s_ifT (by rw [decide_eq_true]; rw [h1]) ?_
        walk_at "l2"
        exact q0
      · refine s_ifF (by rw [decide_eq_false]; exact fun z => h1 (V.str.inj z)) ?_
        walk_at "l2"
        obtain ⟨c, r, hcr⟩ : ∃ c r, z.cps.toList = c :: r := by
          cases hl : z.cps.toList with
          | nil => exact absurd (str_nil.mpr hl) h1
          | cons c r => exact ⟨c, r, rfl⟩
        have hlen := len_list z
        rw [hcr] at q0 hlen
        have q : ∀ H', Same H H' → Q (.bl (decide ((c :: r).length ≤ 6) && low c && (c :: r).all fun c => low c || fig c)) H' := fun H' s => by have := q H' s; rw [hcr] at this; exact this
        by_cases h2 : (6 : Int) < z.length
        · refine s_ifT (decide_eq_true h2) ?_
          walk_at "l2"
          have := q H (Same.refl H)
          rw [decide_eq_false (show ¬ (c :: r).length ≤ 6 by omega)] at this
          exact this
        · refine s_ifF (decide_eq_false h2) ?_
          rw [decide_eq_true (show (c :: r).length ≤ 6 by omega)] at q
          walk_at "l2"
          refine s_ixS hs (c := c) (by rw [hcr]; exact atI_nat (j := 0) rfl) ?_
          walk_at "l2"
          rw [StrLaws.found_one, memL]
          cases hlo : low c
          · rw [hlo] at q
            walk_at "l2"
            exact q H (Same.refl H)
          · rw [hlo] at q
            walk_at "l2"
            intro D f
            refine comp_str (Cs (fun i ys => ys = (((c :: r).take i).map fun c => low c || fig c).map V.bl) H D) (Cs.zero f rfl) (fun i d ys H' hd ⟨e, s, at', len⟩ => ?_) (fun ys H' ⟨e, s, at', len⟩ => ?_)
            · have hi : i < z.cps.size := (Array.getElem?_eq_some_iff.mp hd).1
              have hd' : (c :: r)[i]? = some d := by rw [← hcr]; simpa using hd
              walk_at "l2"
              rw [StrLaws.found_one, memN]
              refine Cs.put f s at' len (by have : z.cps.size = z.length := rfl; omega) ?_
              rw [e, List.take_succ, hd', List.map_append, List.map_append]; rfl
            · have hsz : z.cps.size = (c :: r).length := hlen.symm
              rw [hsz, List.take_length] at e
              refine s_allB (SqL.of (by rw [at', e])) ?_
              have := q H' s
              rw [List.all_map]
              exact this
    | _ => exact False.elim hk
theorem ok_Wire___init__ (T : Tx K mg a) : FnOk P w K mg base CX0 1 a.f_Wire___init__ a.d_Wire___init__ ["self", "name"] (sp_init0 K) := by
  refine T.F_Wire___init__.ok sc_Wire___init__ (fun vs H Q E h => ?_) (fun cdv A outer s H vs Q E hr h => ?_)
  · obtain ⟨x, C, dx, nm, rfl, _⟩ := h; rfl
  · obtain ⟨x, C, dx, nm, rfl, hc, hn, hx, q⟩ := h
    refine ⟨_, ((pss_one (ps_fldK (K := K) rfl (pv 0) (pv 1) rfl))), s_start (σ' := [some _, some _]) rfl ?_⟩
    walk_at "l2"
    exact s_setAt hx hc hn (by decide) rfl q
theorem ok_InWire___init__ (T : Tx K mg a) : FnOk P w K mg base CX0 2 a.f_InWire___init__ a.d_InWire___init__ ["self", "name", "number"] (sp_initI a.c_InWire) := by
  have G_Wire___init__ := ok_Wire___init__ (P := P) (w := w) (base := base) T
  refine T.F_InWire___init__.ok sc_InWire___init__ (fun vs H Q E h => ?_) (fun cdv A outer s H vs Q E hr h => ?_)
  · obtain ⟨x, dx, nm, k, rfl, _⟩ := h; rfl
  · obtain ⟨x, dx, nm, k, rfl, hx, q⟩ := h
    refine ⟨_, ((pss_cons (ps_expr (pe_clsdef (by rfl) T.g_Wire T.d_Wire___init__ G_Wire___init__ (hr.mono (by decide)) T.b_Wire___init__ .nil pass0 (pa_cons (pv 0) (pa_cons (pv 1) pa_nil))))
      (pss_one (ps_fldK (K := K) rfl (pv 0) (pv 2) rfl)))), s_start (σ' := [some _, some _, some _]) rfl ?_⟩
    walk_at "l2"
    refine ⟨x, _, dx, nm, rfl, T.C_InWire, T.n_InWire_name, hx, fun H2 u => ?_⟩
    walk_at "l2"
    exact s_setAt u.at' T.C_InWire T.n_InWire_number (by show 1 < 1000; decide) rfl fun H3 u3 => q H3 (u.trans u3)
theorem ok_StoreWire___init__ (T : Tx K mg a) : FnOk P w K mg base CX0 2 a.f_StoreWire___init__ a.d_StoreWire___init__ ["self", "name", "wire", "number"] (sp_initT a.c_StoreWire) := by
  have G_Wire___init__ := ok_Wire___init__ (P := P) (w := w) (base := base) T
  refine T.F_StoreWire___init__.ok sc_StoreWire___init__ (fun vs H Q E h => ?_) (fun cdv A outer s H vs Q E hr h => ?_)
  · obtain ⟨x, dx, nm, w, k, rfl, _⟩ := h; rfl
  · obtain ⟨x, dx, nm, wr, k, rfl, hx, q⟩ := h
    refine ⟨_, ((pss_cons (ps_expr (pe_clsdef (by rfl) T.g_Wire T.d_Wire___init__ G_Wire___init__ (hr.mono (by decide)) T.b_Wire___init__ .nil pass0 (pa_cons (pv 0) (pa_cons (pv 1) pa_nil))))
      (pss_cons (ps_fldK (K := K) rfl (pv 0) (pv 2) rfl)
      (pss_one (ps_fldK (K := K) rfl (pv 0) (pv 3) rfl))))), s_start (σ' := [some _, some _, some _, some _]) rfl ?_⟩
    walk_at "l2"
    refine ⟨x, _, dx, nm, rfl, T.C_StoreWire, T.n_StoreWire_name, hx, fun H2 u => ?_⟩
    walk_at "l2"
    refine s_setAt u.at' T.C_StoreWire T.n_StoreWire_wire (by show 1 < 1000; decide) rfl fun H3 u3 => ?_
    walk_at "l2"
    exact s_setAt u3.at' T.C_StoreWire T.n_StoreWire_number (by show 2 < 1000; decide) rfl fun H4 u4 => q H4 ((u.trans u3).trans u4)
theorem ok_SumWire___init__ (T : Tx K mg a) : FnOk P w K mg base CX0 2 a.f_SumWire___init__ a.d_SumWire___init__ ["self", "name", "wires"] (sp_initS2 K a.c_SumWire) := by
  have G_Wire___init__ := ok_Wire___init__ (P := P) (w := w) (base := base) T
  refine T.F_SumWire___init__.ok sc_SumWire___init__ (fun vs H Q E h => ?_) (fun cdv A outer s H vs Q E hr h => ?_)
  · obtain ⟨x, dx, nm, tw, ws, rfl, _⟩ := h; rfl
  · obtain ⟨x, dx, nm, tw, ws, rfl, hw, hx, q⟩ := h
    have hne : tw ≠ x := ne_of hw hx fun z => by cases z
    refine ⟨_, ((pss_cons (ps_expr (pe_clsdef (by rfl) T.g_Wire T.d_Wire___init__ G_Wire___init__ (hr.mono (by decide)) T.b_Wire___init__ .nil pass0 (pa_cons (pv 0) (pa_cons (pv 1) pa_nil))))
      (pss_one (ps_fldK (K := K) rfl (pv 0) (pe_callTy (call_tupleK (K := K) rfl) (by rfl) T.n_tuple PyProof.Rows.boot_tuple (pa_cons (pv 2) pa_nil)) rfl)))), s_start (σ' := [some _, some _, some _]) rfl ?_⟩
    walk_at "l2"
    refine ⟨x, _, dx, nm, rfl, T.C_SumWire, T.n_SumWire_name, hx, fun H2 u => ?_⟩
    have hw2 := u.oth _ _ hne hw
    walk_at "l2"
    exact s_setAt u.at' T.C_SumWire T.n_SumWire_wires (by show 1 < 1000; decide) rfl fun H4 u4 => q H4 (u.trans u4)
theorem ok_InWire_bit (T : Tx K mg a) : FnOk P w K mg base CX0 1 a.f_InWire_bit a.d_InWire_bit ["self", "known", "row", "state"] (sp_bitI a.c_InWire) := by
  refine T.F_InWire_bit.ok sc_InWire_bit (fun vs H Q E h => ?_) (fun cdv A outer s H vs Q E hr h => ?_)
  · obtain ⟨p, dx, nm, k, kn, row, st, rfl, _⟩ := h; rfl
  · obtain ⟨p, dx, nm, k, kn, row, st, rfl, hp, h0, q⟩ := h
    refine ⟨_, ((pss_one (ps_ret (pe_op op_and (pe_op op_shr (pv 2) (pe_fldK (K := K) rfl (pv 0) rfl)) pe_int)))), s_start (σ' := [some _, some _, some _, some _]) rfl ?_⟩
    walk_at "l2"
    refine s_fldAt hp T.C_InWire T.n_InWire_number rfl ?_
    walk_at "l2"
    exact q
theorem ok_StoreWire_bit (T : Tx K mg a) : FnOk P w K mg base CX0 1 a.f_StoreWire_bit a.d_StoreWire_bit ["self", "known", "row", "state"] (sp_bitT a.c_StoreWire) := by
  refine T.F_StoreWire_bit.ok sc_StoreWire_bit (fun vs H Q E h => ?_) (fun cdv A outer s H vs Q E hr h => ?_)
  · obtain ⟨p, dx, nm, wr, k, kn, row, st, rfl, _⟩ := h; rfl
  · obtain ⟨p, dx, nm, wr, k, kn, row, st, rfl, hp, h0, q⟩ := h
    refine ⟨_, ((pss_one (ps_ret (pe_op op_and (pe_op op_shr (pv 3) (pe_fldK (K := K) rfl (pv 0) rfl)) pe_int)))), s_start (σ' := [some _, some _, some _, some _]) rfl ?_⟩
    walk_at "l2"
    refine s_fldAt hp T.C_StoreWire T.n_StoreWire_number rfl ?_
    walk_at "l2"
    exact q
theorem ok_SumWire_bit (T : Tx K mg a) : FnOk P w K mg base CX0 1 a.f_SumWire_bit a.d_SumWire_bit ["self", "known", "row", "state"] (sp_bitS K a.c_SumWire) := by
  refine T.F_SumWire_bit.ok sc_SumWire_bit (fun vs H Q E h => ?_) (fun cdv A outer s H vs Q E hr h => ?_)
  · obtain ⟨p, dx, nm, tw, d, ws, kvs, f, row, st, rfl, _⟩ := h; rfl
  · obtain ⟨p, dx, nm, tw, d, ws, kvs, f, row, st, rfl, hp, ht, hd, hf, q⟩ := h
    have hu := hu_of hr
    refine ⟨_, ((pss_cons (ps_set (i := 4) sc_SumWire_bit.nd rfl (by first | exact Or.inl rfl | exact Or.inr rfl) pe_int)
      (pss_cons (ps_for PassesOwn.never rfl (pi_tupK (K := K) rfl (pe_fldK (K := K) rfl (pv 0) rfl)) (pg_name (i := 5) sc_SumWire_bit.nd rfl (by first | exact Or.inl rfl | exact Or.inr rfl)) (pss_one (ps_set (i := 4) sc_SumWire_bit.nd rfl (by first | exact Or.inl rfl | exact Or.inr rfl) (pe_op op_xor (pv 4) (pe_dget hu (pv 1) (pv 5) (fun _ _ => rfl))))))
      (pss_one (ps_ret (pv 4)))))), s_start (σ' := [some _, some _, some _, some _, none, none]) rfl ?_⟩
    walk_at "l2"
    refine s_fldAt hp T.C_SumWire T.n_SumWire_wires rfl ?_
    walk_at "l2"
    refine for_tup (fun i σ H2 => ∃ v, σ = [some (.ref p), some (.ref d), some (.int row), some (.int st), some (.int (((ws.take i).map f).foldl Builtin.bitXor 0)), v] ∧ H2 = H) ⟨none, rfl, rfl⟩ (fun i σ H2 _ ⟨v, _, e⟩ => by rw [e]; exact ht) ?_ ?_
    · rintro i x σ H2 hx ⟨v, rfl, rfl⟩
      obtain ⟨z, hz, rfl⟩ := get_map hx
      walk_at "l2"
      refine s_dgetS hd (hf z (List.mem_of_getElem? hz)) ?_
      walk_at "l2"
      exact ⟨_, by rw [fold_succ hz], rfl⟩
    · rintro σ H2 ⟨v, rfl, rfl⟩
      walk_at "l2"
      rw [List.length_map, List.take_length]
      exact q
end
section
variable {P : Program} {w : World} {K : PySem.W.Frag} {mg : Str → Option Value} {base : Heap} {a : Ad}
local macro_rules | `(tactic| walk_at "l2step") => `(tactic| first | ((with_reducible refine' c_whole ?e ?_); (case e => walk_at "l2kind")) | ((with_reducible refine' c_mask ?e ?_); (case e => walk_at "l2kind")) | (with_reducible refine s_iEnumT ?_) | (with_reducible refine s_methX ?_))
theorem ok_check_sizes (T : Tx K mg a) : FnOk P w K mg base CX0 1 a.f_check_sizes a.d_check_sizes ["ins", "sums", "stores", "outs"] sp_csizes := by
  refine T.F_check_sizes.ok sc_check_sizes (fun vs H Q E h => ?_) (fun cdv A outer s H vs Q E hr h => ?_)
  · obtain ⟨i, s, t, o, rs, qs, N, rfl, _⟩ := h; rfl
  · obtain ⟨i, s, t, o, rs, qs, N, rfl, hn, g, q⟩ := h
    have hi := hn.i
    have hs := hn.s
    have ht := hn.t
    have ho := hn.o
    have li := g.li
    have ls := g.ls
    have lt := g.lt
    have lo := g.lo
    have lrs : rs.length = N.sums.length := by rw [← hn.es, List.length_map]
    have lqs : qs.length = N.sts.length := by rw [← hn.et, List.length_map]
    refine ⟨_, ((pss_cons (ps_if (pt_cmpR op_gt (pe_callB (call_lenK (K := K) rfl) (by rfl) T.n_len PySem.boot_len (pa_cons (pv 0) pa_nil)) (pe_glob (v := .int 6) (by rfl) T.g_MOST_INS ⟨_, rfl⟩) (nomark _)) (pss_one ps_dead) pss_nil)
      (pss_cons (ps_if (pt_cmpR op_gt (pe_callB (call_lenK (K := K) rfl) (by rfl) T.n_len PySem.boot_len (pa_cons (pv 1) pa_nil)) (pe_glob (v := .int 40) (by rfl) T.g_MOST_SUMS ⟨_, rfl⟩) (nomark _)) (pss_one ps_dead) pss_nil)
      (pss_cons (ps_if (pt_cmpR op_gt (pe_callB (call_lenK (K := K) rfl) (by rfl) T.n_len PySem.boot_len (pa_cons (pv 2) pa_nil)) (pe_glob (v := .int 16) (by rfl) T.g_MOST_STORES ⟨_, rfl⟩) (nomark _)) (pss_one ps_dead) pss_nil)
      (pss_cons (ps_if (pt_cmpR op_gt (pe_callB (call_lenK (K := K) rfl) (by rfl) T.n_len PySem.boot_len (pa_cons (pv 3) pa_nil)) (pe_glob (v := .int 6) (by rfl) T.g_MOST_OUTS ⟨_, rfl⟩) (nomark _)) (pss_one ps_dead) pss_nil)
      (pss_one (ps_if (pt_val (pe_callB (call_anyK (K := K) rfl rfl) (by rfl) T.n_any PyProof.Rows.boot_any (pa_cons (pe_comp (osc := defScope s_check_sizes) (ON := ["ins", "sums", "stores", "outs"]) (N := ["row"]) (n := 1) (fx := []) rfl rfl rfl (by decide +kernel) (pi_listK (K := K) rfl (pv 1)) (gk_name (by decide)) (fun _ _ _ _ _ => ⟨(pg_name (i := 0) (show List.Nodup (["row"] : List Str) from by decide +kernel) rfl (by first | exact Or.inl rfl | exact Or.inr rfl)), pts_nil, (pe_cmpR op_gt (pe_callB (call_lenK (K := K) rfl) (by rfl) T.n_len PySem.boot_len (pa_cons (pe_ix (ix_tupK (K := K) rfl) (pv 0) pe_int (fun _ _ => rfl)) pa_nil)) (pe_glob (v := .int 24) (by rfl) T.g_MOST_WIRES ⟨_, rfl⟩) (nomark _))⟩)) pa_nil))) (pss_one ps_dead) pss_nil))))))), s_start (σ' := [some _, some _, some _, some _]) rfl ?_⟩
    walk_at "l2"
    rw [List.length_map]
    refine s_ifF (decide_eq_false (by omega)) ?_
    walk_at "l2"
    rw [List.length_map]
    refine s_ifF (decide_eq_false (by omega)) ?_
    walk_at "l2"
    rw [List.length_map]
    refine s_ifF (decide_eq_false (by omega)) ?_
    walk_at "l2"
    rw [List.length_map]
    refine s_ifF (decide_eq_false (by omega)) ?_
    walk_at "l2"
    intro D hD
    refine comp_list (xs := rs.map fun r => V.ref r.1) (fun i ys H' => Cs (fun i ys => ys = (List.replicate i false).map V.bl) H D i ys H') (Cs.zero hD rfl) (fun i ys H' _ c => SqL.of (c.same.get hs)) (fun i x ys H' hx c => ?_) (fun ys H' c => ?_)
    · obtain ⟨r, hr', rfl⟩ := get_map hx
      have hi := (List.getElem?_eq_some_iff.mp hr').1
      have hm := List.mem_of_getElem? hr'
      have er := c.same.get (hn.sr r hm).1
      have ew := c.same.get (hn.sr r hm).2
      have hw := g.lw r.2.2 (by rw [← hn.es]; exact List.mem_map.mpr ⟨r, hm, rfl⟩)
      walk_at "l2"
      rw [List.length_map, decide_eq_false (show ¬ (24 : Int) < (r.2.2.2.length : Int) by omega)]
      refine Cs.put hD c.same c.at' c.len (by omega) ?_
      rw [c.pv, List.replicate_succ', List.map_append]; rfl
    · have ec := c.at'
      rw [c.pv] at ec
      walk_at "l2"
      refine s_anyB (SqL.of ec) ?_
      walk_at "l2"
      refine s_ifF (by simp) ?_
      walk_at "l2"
      exact q H' c.same
theorem ok_check_names (T : Tx K mg a) : FnOk P w K mg base CX0 2 a.f_check_names a.d_check_names ["names"] sp_cnames := by
  have G_is_name := ok_is_name (P := P) (w := w) (base := base) T
  refine T.F_check_names.ok sc_check_names (fun vs H Q E h => ?_) (fun cdv A outer s H vs Q E hr h => ?_)
  · obtain ⟨l, zs, rfl, _⟩ := h; rfl
  · obtain ⟨l, zs, rfl, hl, ln, nd, hn, q⟩ := h
    have hu := hu_of hr
    refine ⟨_, ((pss_cons (ps_set (i := 1) sc_check_names.nd rfl (by first | exact Or.inl rfl | exact Or.inr rfl) pe_dnewK)
      (pss_one (ps_for PassesOwn.never rfl (pi_listK (K := K) rfl (pv 0)) (pg_name (i := 2) sc_check_names.nd rfl (by first | exact Or.inl rfl | exact Or.inr rfl)) (pss_cons (ps_if (pt_not (pt_val (pe_call G_is_name (hr.mono (by decide)) (by rfl) T.g_is_name T.k_is_name T.b_is_name .nil pass0 (pa_cons (pv 2) pa_nil)))) (pss_one ps_dead) pss_nil)
      (pss_cons (ps_if (pt_cmp (pc_din hu (pv 2) (pv 1))) (pss_one ps_dead) pss_nil)
      (pss_one (ps_dput hu (pv 1) (pv 2) pe_bl rfl)))))))), s_start (σ' := [some _, none, none]) rfl ?_⟩
    walk_at "l2"
    intro D H1 f1 s1 e1
    have hl1 := s1.get hl
    walk_at "l2"
    refine for_list (xs := zs.map V.str) (fun i σ H' => ∃ v, σ = [some (.ref l), some (.ref D), v] ∧ Same H H' ∧ ∃ kvs : List (Key × V), H' D = some (.dK kvs) ∧ kvs.map (·.1) = (zs.take i).map Sum.inr) ⟨none, rfl, s1, [], e1, rfl⟩ (fun i σ H' _ ⟨_, _, s', _⟩ => SqL.of (s'.get hl)) ?_ ?_
    · rintro i y σ H' hy ⟨v, rfl, s', kvs, eD, ek⟩
      obtain ⟨z, hz, rfl⟩ := get_map hy
      have hi := (List.getElem?_eq_some_iff.mp hz).1
      have hnot : z ∉ zs.take i := fun m => by
        have h2 := nd
        rw [← List.take_append_drop i zs, List.nodup_append] at h2
        exact h2.2.2 z m z (List.mem_of_getElem? (i := 0) (by rw [List.getElem?_drop, Nat.add_zero]; exact hz)) rfl
      have lk : kvs.length ≤ 1000 := by have := congrArg List.length ek; rw [List.length_map, List.length_map, List.length_take] at this; omega
      walk_at "l2"
      refine c_nm (hn z (List.mem_of_getElem? hz)) fun H2 s2 => ?_
      have eD2 := s2.get eD
      walk_at "l2"
      refine s_dinS eD2 ?_
      rw [val_some ek z, decide_eq_false hnot]
      walk_at "l2"
      refine s_dputS eD2 (small1000 lk) fun H3 u3 => ?_
      rw [put_new ek hnot] at u3
      walk_at "l2"
      refine ⟨fun b o e => u3.oth _ _ (ne_of_none e f1) (s2.get (s'.get e)), _, u3.at', ?_⟩
      rw [List.map_append, ek, take_succ hz, List.map_append]; rfl
    · rintro σ H' ⟨v, rfl, s', _⟩
      walk_at "l2"
      exact q H' s'
theorem ok_check_wire (T : Tx K mg a) : FnOk P w K mg base CX0 2 a.f_check_wire a.d_check_wire ["wire", "known"] sp_cwire := by
  have G_is_name := ok_is_name (P := P) (w := w) (base := base) T
  refine T.F_check_wire.ok sc_check_wire (fun vs H Q E h => ?_) (fun cdv A outer s H vs Q E hr h => ?_)
  · obtain ⟨z, d, zs, rfl, _⟩ := h; rfl
  · obtain ⟨z, d, zs, rfl, ⟨kvs, ed, ek⟩, hz, hn, q⟩ := h
    have hu := hu_of hr
    refine ⟨_, ((pss_one (ps_if (PW.pt (pw_or (pt_not (pt_val (pe_call G_is_name (hr.mono (by decide)) (by rfl) T.g_is_name T.k_is_name T.b_is_name .nil pass0 (pa_cons (pv 0) pa_nil)))) (pw_or1 (pt_cmp (pc_dnotin hu (pv 0) (pv 1)))))) (pss_one ps_dead) pss_nil))), s_start (σ' := [some _, some _]) rfl ?_⟩
    walk_at "l2"
    refine c_nm hn fun H2 s2 => ?_
    have ed2 := s2.get ed
    walk_at "l2"
    refine s_dnotS ed2 ?_
    rw [val_some ek z, decide_eq_true hz]
    walk_at "l2"
    exact q H2 s2
theorem ok_check_wires (T : Tx K mg a) : FnOk P w K mg base CX0 3 a.f_check_wires a.d_check_wires ["sums", "stores", "outs", "known"] sp_cwires := by
  have G_check_wire := ok_check_wire (P := P) (w := w) (base := base) T
  refine T.F_check_wires.ok sc_check_wires (fun vs H Q E h => ?_) (fun cdv A outer s H vs Q E hr h => ?_)
  · obtain ⟨i, s, t, o, d, rs, qs, N, rfl, _⟩ := h; rfl
  · obtain ⟨i, s, t, o, d, rs, qs, N, rfl, kp, g, kn, q⟩ := h
    have hs := kp.s
    have ht := kp.t
    have ho := kp.o
    refine ⟨_, ((pss_cons (ps_for PassesOwn.never rfl (pi_tupK (K := K) rfl (pv 0)) (pg_name (i := 4) sc_check_wires.nd rfl (by first | exact Or.inl rfl | exact Or.inr rfl)) (pss_one (ps_for PassesOwn.never rfl (pi_tupK (K := K) rfl (pe_ix (ix_tupK (K := K) rfl) (pv 4) pe_int (fun _ _ => rfl))) (pg_name (i := 5) sc_check_wires.nd rfl (by first | exact Or.inl rfl | exact Or.inr rfl)) (pss_one (ps_expr (pe_call G_check_wire (hr.mono (by decide)) (by rfl) T.g_check_wire T.k_check_wire T.b_check_wire .nil pass0 (pa_cons (pv 5) (pa_cons (pv 3) pa_nil))))))))
      (pss_cons (ps_for PassesOwn.never rfl (pi_tupK (K := K) rfl (pv 1)) (pg_name (i := 4) sc_check_wires.nd rfl (by first | exact Or.inl rfl | exact Or.inr rfl)) (pss_one (ps_expr (pe_call G_check_wire (hr.mono (by decide)) (by rfl) T.g_check_wire T.k_check_wire T.b_check_wire .nil pass0 (pa_cons (pe_ix (ix_tupK (K := K) rfl) (pv 4) pe_int (fun _ _ => rfl)) (pa_cons (pv 3) pa_nil))))))
      (pss_one (ps_for PassesOwn.never rfl (pi_tupK (K := K) rfl (pv 2)) (pg_name (i := 5) sc_check_wires.nd rfl (by first | exact Or.inl rfl | exact Or.inr rfl)) (pss_one (ps_expr (pe_call G_check_wire (hr.mono (by decide)) (by rfl) T.g_check_wire T.k_check_wire T.b_check_wire .nil pass0 (pa_cons (pv 5) (pa_cons (pv 3) pa_nil)))))))))), s_start (σ' := [some _, some _, some _, some _, none, none]) rfl ?_⟩
    walk_at "l2"
    refine for_tup (xs := rs.map fun r => V.ref r.1) (fun i σ H' => ∃ v1 v2, σ = [some (.ref s), some (.ref t), some (.ref o), some (.ref d), v1, v2] ∧ Same H H') ⟨none, none, rfl, Same.refl _⟩ (fun i σ H' _ ⟨_, _, _, s'⟩ => SqT.of (s'.get hs)) ?_ ?_
    · rintro i y σ H' hy ⟨v1, v2, rfl, s'⟩
      obtain ⟨r, hr', rfl⟩ := get_map hy
      have hm := List.mem_of_getElem? hr'
      have er := s'.get (kp.sr r hm).1
      have ew := s'.get (kp.sr r hm).2
      have hin : r.2.2 ∈ N.sums := by rw [← kp.es]; exact List.mem_map.mpr ⟨r, hm, rfl⟩
      walk_at "l2"
      refine for_tup (xs := r.2.2.2.map V.str) (fun j σ H2 => ∃ v, σ = [some (.ref s), some (.ref t), some (.ref o), some (.ref d), some (.ref r.1), v] ∧ Same H' H2) ⟨_, rfl, Same.refl _⟩ (fun j σ H2 _ ⟨_, _, s2⟩ => SqT.of (s2.get ew)) ?_ ?_
      · rintro j y σ H2 hy ⟨v, rfl, s2⟩
        obtain ⟨z, hz, rfl⟩ := get_map hy
        have hzn := g.ws r.2.2 hin z (List.mem_of_getElem? hz)
        walk_at "l2"
        refine ⟨z, d, N.names, rfl, (kn.same s').same s2, hzn, g.nm z hzn, fun H3 s3 => ?_⟩
        walk_at "l2"
        exact s2.trans s3
      · rintro σ H2 ⟨v, rfl, s2⟩
        walk_at "l2"
        exact ⟨_, _, rfl, s'.trans s2⟩
    · rintro σ H' ⟨v1, v2, rfl, s'⟩
      have ht' := s'.get ht
      walk_at "l2"
      refine for_tup (xs := qs.map fun r => V.ref r.1) (fun i σ H2 => ∃ v1, σ = [some (.ref s), some (.ref t), some (.ref o), some (.ref d), v1, v2] ∧ Same H' H2) ⟨_, rfl, Same.refl _⟩ (fun i σ H2 _ ⟨_, _, s2⟩ => SqT.of (s2.get ht')) ?_ ?_
      · rintro i y σ H2 hy ⟨v1, rfl, s2⟩
        obtain ⟨r, hr', rfl⟩ := get_map hy
        have hm := List.mem_of_getElem? hr'
        have er := s2.get (s'.get (kp.tr r hm))
        have hin : r.2 ∈ N.sts := by rw [← kp.et]; exact List.mem_map.mpr ⟨r, hm, rfl⟩
        have hzn := g.ts r.2 hin
        walk_at "l2"
        refine ⟨r.2.2, d, N.names, rfl, (kn.same s').same s2, hzn, g.nm _ hzn, fun H3 s3 => ?_⟩
        walk_at "l2"
        exact s2.trans s3
      · rintro σ H2 ⟨v1, rfl, s2⟩
        have s02 := s'.trans s2
        have ho' := s02.get ho
        walk_at "l2"
        refine for_tup (xs := N.outs.map V.str) (fun i σ H3 => ∃ v2, σ = [some (.ref s), some (.ref t), some (.ref o), some (.ref d), v1, v2] ∧ Same H2 H3) ⟨_, rfl, Same.refl _⟩ (fun i σ H3 _ ⟨_, _, s3⟩ => SqT.of (s3.get ho')) ?_ ?_
        · rintro i y σ H3 hy ⟨v2, rfl, s3⟩
          obtain ⟨z, hz, rfl⟩ := get_map hy
          have hzn := g.os z (List.mem_of_getElem? hz)
          walk_at "l2"
          refine ⟨z, d, N.names, rfl, (kn.same s02).same s3, hzn, g.nm z hzn, fun H4 s4 => ?_⟩
          walk_at "l2"
          exact s3.trans s4
        · rintro σ H3 ⟨v2, rfl, s3⟩
          walk_at "l2"
          exact q _ (s02.trans s3)
end
section
variable {P : Program} {w : World} {K : PySem.W.Frag} {mg : Str → Option Value} {base : Heap} {a : Ad}
local macro_rules | `(tactic| walk_at "l2step") => `(tactic| first | ((with_reducible refine' c_whole ?e ?_); (case e => walk_at "l2kind")) | ((with_reducible refine' c_mask ?e ?_); (case e => walk_at "l2kind")) | (with_reducible refine s_iEnumT ?_) | (with_reducible refine s_methX ?_))
theorem ok_waits (T : Tx K mg a) : FnOk P w K mg base CX0 1 a.f_waits a.d_waits ["row", "waiting"] sp_waits := by
  refine T.F_waits.ok sc_waits (fun vs H Q E h => ?_) (fun cdv A outer s H vs Q E hr h => ?_)
  · obtain ⟨r, d, zs, rfl, _⟩ := h; rfl
  · obtain ⟨r, d, zs, rfl, er, ew, lw, ⟨kvs, ed, ek⟩, q⟩ := h
    have hu := hu_of hr
    refine ⟨_, ((pss_one (ps_ret (pe_callB (call_anyK (K := K) rfl rfl) (by rfl) T.n_any PyProof.Rows.boot_any (pa_cons (pe_comp (osc := defScope s_waits) (ON := ["row", "waiting"]) (N := ["wire", "waiting"]) (n := 1) (fx := [1]) rfl rfl rfl (by decide +kernel) (pi_tupK (K := K) rfl (pe_ix (ix_tupK (K := K) rfl) (pv 0) pe_int (fun _ _ => rfl))) (gk_name (by decide)) (fun _ _ _ _ _ => ⟨(pg_name (i := 0) (show List.Nodup (["wire", "waiting"] : List Str) from by decide +kernel) rfl (by first | exact Or.inl rfl | exact Or.inr rfl)), pts_nil, (pe_cmp (pc_din hu (pv 0) (pv 1)))⟩)) pa_nil))))), s_start (σ' := [some _, some _]) rfl ?_⟩
    walk_at "l2"
    intro D hD
    refine comp_tup (xs := r.2.2.2.map V.str) (fun i ys H' => Cs (fun i ys => ys = ((r.2.2.2.take i).map fun w => decide (w ∈ zs)).map V.bl) H D i ys H') (Cs.zero hD rfl) (fun i ys H' _ c => SqT.of (c.same.get ew)) (fun i x ys H' hx c => ?_) (fun ys H' c => ?_)
    · obtain ⟨z, hz, rfl⟩ := get_map hx
      have hi := (List.getElem?_eq_some_iff.mp hz).1
      walk_at "l2"
      refine s_dinS (c.same.get ed) ?_
      rw [val_some ek z]
      refine Cs.put hD c.same c.at' c.len (by omega) ?_
      rw [c.pv, take_succ hz, List.map_append, List.map_append]; rfl
    · have ec := c.at'
      rw [c.pv, List.length_map, List.take_length] at ec
      walk_at "l2"
      refine s_anyB (SqL.of ec) ?_
      have eany : (r.2.2.2.map fun w => decide (w ∈ zs)).any id = waitB zs r.2.2.2 := by rw [List.any_map]; rfl
      walk_at "l2"
      rw [eany]
      exact q H' c.same
theorem ok_wires_by_name (T : Tx K mg a) : FnOk P w K mg base CX0 4 a.f_wires_by_name a.d_wires_by_name ["ins", "sums", "stores"] (sp_wbyname a.c_InWire a.c_SumWire a.c_StoreWire) := by
  have G_InWire___init__ := ok_InWire___init__ (P := P) (w := w) (base := base) T
  have G_SumWire___init__ := ok_SumWire___init__ (P := P) (w := w) (base := base) T
  have G_StoreWire___init__ := ok_StoreWire___init__ (P := P) (w := w) (base := base) T
  refine T.F_wires_by_name.ok sc_wires_by_name (fun vs H Q E h => ?_) (fun cdv A outer s H vs Q E hr h => ?_)
  · obtain ⟨i, s, t, o, rs, qs, N, rfl, _⟩ := h; rfl
  · obtain ⟨i, s, t, o, rs, qs, N, rfl, kp, g, q⟩ := h
    have hi := kp.i
    have hs := kp.s
    have ht := kp.t
    have li := g.li
    have ls := g.ls
    have lt := g.lt
    have lrs : rs.length = N.sums.length := by rw [← kp.es, List.length_map]
    have lqs : qs.length = N.sts.length := by rw [← kp.et, List.length_map]
    refine ⟨_, ((pss_cons (ps_comp (osc := defScope s_wires_by_name) (ON := ["ins", "sums", "stores", "wires"]) (N := ["number", "name"]) (n := 2) (fx := []) (i := 3) sc_wires_by_name.nd rfl rfl rfl rfl rfl rfl (by decide +kernel) (pi_enumT (K := K) rfl (by rfl) T.n_enumerate (pv 0)) (gk_tup (gks_cons (gk_name (by decide)) (gks_cons (gk_name (by decide)) gks_nil))) (fun _ _ _ _ _ => ⟨(pg_tupK (K := K) (n := 2) rfl rfl (pgs_cons (pg_name (i := 0) (show List.Nodup (["number", "name"] : List Str) from by decide +kernel) rfl (by first | exact Or.inl rfl | exact Or.inr rfl)) (pgs_cons (pg_name (i := 1) (show List.Nodup (["number", "name"] : List Str) from by decide +kernel) rfl (by first | exact Or.inl rfl | exact Or.inr rfl)) pgs_nil))), pts_nil, (pe_make T.M_InWire G_InWire___init__ (hr.mono (by decide)) (by rfl) T.g_InWire T.b_InWire___init__ .nil pass0 (pa_cons (pv 1) (pa_cons (pv 0) pa_nil)))⟩))
      (pss_cons (ps_expr (pe_bmK (K := K) rfl PySem.F.plainAttrs_list PySem.F.slot_list_extend PySem.F.type_list_extend mt_extend (pv 3) (pa_cons (pe_comp (osc := defScope s_wires_by_name) (ON := ["ins", "sums", "stores", "wires"]) (N := ["row"]) (n := 1) (fx := []) rfl rfl rfl (by decide +kernel) (pi_tupK (K := K) rfl (pv 1)) (gk_name (by decide)) (fun _ _ _ _ _ => ⟨(pg_name (i := 0) (show List.Nodup (["row"] : List Str) from by decide +kernel) rfl (by first | exact Or.inl rfl | exact Or.inr rfl)), pts_nil, (pe_make T.M_SumWire G_SumWire___init__ (hr.mono (by decide)) (by rfl) T.g_SumWire T.b_SumWire___init__ .nil pass0 (pa_cons (pe_ix (ix_tupK (K := K) rfl) (pv 0) pe_int (fun _ _ => rfl)) (pa_cons (pe_ix (ix_tupK (K := K) rfl) (pv 0) pe_int (fun _ _ => rfl)) pa_nil)))⟩)) pa_nil)))
      (pss_cons (ps_expr (pe_bmK (K := K) rfl PySem.F.plainAttrs_list PySem.F.slot_list_extend PySem.F.type_list_extend mt_extend (pv 3) (pa_cons (pe_comp (osc := defScope s_wires_by_name) (ON := ["ins", "sums", "stores", "wires"]) (N := ["number", "row"]) (n := 2) (fx := []) rfl rfl rfl (by decide +kernel) (pi_enumT (K := K) rfl (by rfl) T.n_enumerate (pv 2)) (gk_tup (gks_cons (gk_name (by decide)) (gks_cons (gk_name (by decide)) gks_nil))) (fun _ _ _ _ _ => ⟨(pg_tupK (K := K) (n := 2) rfl rfl (pgs_cons (pg_name (i := 0) (show List.Nodup (["number", "row"] : List Str) from by decide +kernel) rfl (by first | exact Or.inl rfl | exact Or.inr rfl)) (pgs_cons (pg_name (i := 1) (show List.Nodup (["number", "row"] : List Str) from by decide +kernel) rfl (by first | exact Or.inl rfl | exact Or.inr rfl)) pgs_nil))), pts_nil, (pe_make T.M_StoreWire G_StoreWire___init__ (hr.mono (by decide)) (by rfl) T.g_StoreWire T.b_StoreWire___init__ .nil pass0 (pa_cons (pe_ix (ix_tupK (K := K) rfl) (pv 1) pe_int (fun _ _ => rfl)) (pa_cons (pe_ix (ix_tupK (K := K) rfl) (pv 1) pe_int (fun _ _ => rfl)) (pa_cons (pv 0) pa_nil))))⟩)) pa_nil)))
      (pss_one (ps_ret (pe_callTy (call_dictP rfl) (by rfl) T.n_dict PyProof.Rows.boot_dict (pa_cons (pe_comp (osc := defScope s_wires_by_name) (ON := ["ins", "sums", "stores", "wires"]) (N := ["wire"]) (n := 1) (fx := []) rfl rfl rfl (by decide +kernel) (pi_listK (K := K) rfl (pv 3)) (gk_name (by decide)) (fun _ _ _ _ _ => ⟨(pg_name (i := 0) (show List.Nodup (["wire"] : List Str) from by decide +kernel) rfl (by first | exact Or.inl rfl | exact Or.inr rfl)), pts_nil, (pe_tup (pa_cons (pe_fldK (K := K) rfl (pv 0) rfl) (pa_cons (pv 0) pa_nil)))⟩)) pa_nil)))))))), s_start (σ' := [some _, some _, some _, none]) rfl ?_⟩
    walk_at "l2"
    refine .inr ⟨⟨_, SqT.of hi⟩, ?_⟩
    intro D hD
    refine comp_enumT (xs := N.ins.map V.str) (fun i ys H' => ∃ ws, WL H H' a.c_InWire a.c_SumWire a.c_StoreWire N D ys (N.ins.take i) ws) ⟨[], rfl, rfl, fun _ h => absurd h (by simp), same_new hD, upd_same⟩ (fun i ys H' _ ⟨ws, c⟩ => SqT.of (c.same.get hi)) (fun i x ys H' pz H2 hx ⟨ws, c⟩ fp s2 e2 => ?_) (fun ys H' ⟨ws, c⟩ => ?_)
    · obtain ⟨z, hz, rfl⟩ := get_map hx
      have hlt := (List.getElem?_eq_some_iff.mp hz).1
      have lw : ws.length = i := by have := congrArg List.length c.nm; rw [List.length_map, List.length_take] at this; omega
      walk_at "l2"
      intro x dx H3 f3 s3 e3
      refine ⟨x, dx, .str z, nat i, rfl, e3, fun H4 u4 => ⟨rfl, ?_⟩⟩
      have s24 : Same H2 H4 := fun b o e => u4.oth _ _ (ne_of_none e f3) (s3.get e)
      exact c.put hD (s2.trans s24) (.i i dx hz u4.at') (by rw [List.length_take]; omega) (take_succ hz)
    · rw [List.length_map, List.take_length] at c
      have hs1 := c.same.get hs
      have ht1 := c.same.get ht
      have hD1 := c.d
      walk_at "l2"
      intro D2 hD2
      refine comp_tup (xs := rs.map fun r => V.ref r.1) (fun i ys H2 => ∃ ws, WL H' H2 a.c_InWire a.c_SumWire a.c_StoreWire N D2 ys ((rs.take i).map (·.2.2.1)) ws) ⟨[], rfl, rfl, fun _ h => absurd h (by simp), same_new hD2, upd_same⟩ (fun i ys H2 _ ⟨ws, c2⟩ => SqT.of (c2.same.get hs1)) (fun i x ys2 H2 hx ⟨ws2, c2⟩ => ?_) (fun ys2 H2 ⟨ws2, c2⟩ => ?_)
      · obtain ⟨r, hr', rfl⟩ := get_map hx
        have hlt := (List.getElem?_eq_some_iff.mp hr').1
        have hm := List.mem_of_getElem? hr'
        have s02 := c.same.trans c2.same
        have er := s02.get (kp.sr r hm).1
        have ew := s02.get (kp.sr r hm).2
        walk_at "l2"
        intro x dx H3 f3 s3 e3
        refine ⟨x, dx, .str r.2.2.1, r.2.1, _, rfl, s3.get ew, e3, fun H4 u4 => ⟨rfl, ?_⟩⟩
        have s24 : Same H2 H4 := fun b o e => u4.oth _ _ (ne_of_none e f3) (s3.get e)
        exact c2.put hD2 s24 (.s r.2.2.2 dx r.2.1 (by rw [← kp.es]; exact List.mem_map.mpr ⟨r, hm, rfl⟩) u4.at' (s24.get ew)) (by rw [List.length_map, List.length_take]; omega) (by rw [take_succ hr', List.map_append]; rfl)
      · rw [List.length_map, List.take_length] at c2
        have hD12 := c2.same.get hD1
        have eD2 := c2.d
        have lys : ys.length = N.ins.length := by rw [c.ey, ← c.nm, List.length_map, List.length_map]
        have lys2 : ys2.length = rs.length := by rw [c2.ey, List.length_map, ← List.length_map (f := (·.1)), c2.nm, List.length_map]
        walk_at "l2"
        refine s_extend hD12 eD2 (by rw [sizeLine_eq]; omega) fun H3 u3 => ?_
        have c3 := c.join c2 hD u3
        have hD3 := c3.d
        have ht3 := c3.same.get ht
        have lys3 : (ys ++ ys2).length = N.ins.length + rs.length := by rw [List.length_append, lys, lys2]
        clear c c2 hD12 eD2 hs1 ht1 hD1 lys lys2 hD2
        generalize ys ++ ys2 = ys3 at *
        walk_at "l2"
        refine .inr ⟨⟨_, SqT.of ht3⟩, ?_⟩
        intro D4 hD4
        refine comp_enumT (xs := qs.map fun q => V.ref q.1) (fun i ys H' => ∃ ws, WL H3 H' a.c_InWire a.c_SumWire a.c_StoreWire N D4 ys ((qs.take i).map (·.2.1)) ws) ⟨[], rfl, rfl, fun _ h => absurd h (by simp), same_new hD4, upd_same⟩ (fun i ys H' _ ⟨ws, c⟩ => SqT.of (c.same.get ht3)) (fun i x ys H4 pz H5 hx ⟨ws, c⟩ fp s5 e5 => ?_) (fun ys4 H4 ⟨ws4, c4⟩ => ?_)
        · obtain ⟨r, hr', rfl⟩ := get_map hx
          have hlt := (List.getElem?_eq_some_iff.mp hr').1
          have hm := List.mem_of_getElem? hr'
          have er := s5.get (c.same.get (c3.same.get (kp.tr r hm)))
          walk_at "l2"
          intro x dx H6 f6 s6 e6
          refine ⟨x, dx, .str r.2.1, .str r.2.2, nat i, rfl, e6, fun H7 u7 => ⟨rfl, ?_⟩⟩
          have s57 : Same H5 H7 := fun b o e => u7.oth _ _ (ne_of_none e f6) (s6.get e)
          exact c.put hD4 (s5.trans s57) (.t i r.2.2 dx (by rw [← kp.et, List.getElem?_map, hr']; rfl) u7.at') (by rw [List.length_map, List.length_take]; omega) (by rw [take_succ hr', List.map_append]; rfl)
        · rw [List.length_map, List.take_length] at c4
          have hD34 := c4.same.get hD3
          have eD4 := c4.d
          have lys4 : ys4.length = qs.length := by rw [c4.ey, List.length_map, ← List.length_map (f := (·.1)), c4.nm, List.length_map]
          walk_at "l2"
          refine s_extend hD34 eD4 (by rw [sizeLine_eq]; omega) fun H5 u5 => ?_
          have c5 := c3.join c4 hD u5
          have hD5 := c5.d
          have ey5 := c5.ey
          have enm : N.ins ++ rs.map (·.2.2.1) ++ qs.map (·.2.1) = N.names := by
            unfold Nt.names
            rw [← kp.es, ← kp.et, List.map_map, List.map_map]; rfl
          rw [enm] at c5
          clear c3 c4 hD34 eD4 hD3 ht3 hD4
          rw [ey5] at hD5
          generalize ws ++ ws2 ++ ws4 = wl at *
          have lwl : wl.length ≤ 100 := by rw [← List.length_map (f := (·.1)), c5.nm, ← enm, List.length_append, List.length_append, List.length_map, List.length_map]; omega
          walk_at "l2"
          intro D6 hD6
          refine comp_list (xs := wl.map fun q => V.ref q.2) (fun i ys H' => ∃ ps : List (Addr × Key × V), ys = ps.map (fun q => V.ref q.1) ∧ ps.map (·.2) = (wl.take i).map (fun q => ((Sum.inr q.1 : Key), V.ref q.2)) ∧ (∀ q ∈ ps, H' q.1 = some (.tup [kV q.2.1, q.2.2])) ∧ Same H5 H' ∧ H' D6 = some (.lst ys)) ⟨[], rfl, rfl, fun _ h => absurd h (by simp), same_new hD6, upd_same⟩ (fun i ys H' _ ⟨_, _, _, _, s', _⟩ => SqL.of (s'.get hD5)) ?_ ?_
          · rintro i y ys H' hy ⟨ps, rfl, hps, hq, s', eD⟩
            obtain ⟨q0, hq0, rfl⟩ := get_map hy
            have hlt := (List.getElem?_eq_some_iff.mp hq0).1
            have hlen : ps.length = i := by have := congrArg List.length hps; rw [List.length_map, List.length_map, List.length_take] at this; omega
            have wb := (c5.ob q0 (List.mem_of_getElem? hq0)).same s'
            have fld : ∀ {Q : VK}, Q (.str q0.1) H' → FldAt K (Str.ofString "name") Q (V.ref q0.2) H' := fun h => by
              cases wb with
              | i k dx hk e => exact s_fldAt e T.C_InWire T.n_InWire_name rfl h
              | s ws dx tw hk e et => exact s_fldAt e T.C_SumWire T.n_SumWire_name rfl h
              | t k y dx hk e => exact s_fldAt e T.C_StoreWire T.n_StoreWire_name rfl h
            walk_at "l2"
            refine fld ?_
            walk_at "l2"
            intro tt H6 f6 s6 e6
            have ntt : tt ≠ D6 := fun z => by rw [z, eD] at f6; cases f6
            refine ⟨s6.get eD, by rw [List.length_map]; exact small1000 (by omega), ps ++ [(tt, Sum.inr q0.1, .ref q0.2)], by rw [List.map_append]; rfl, by rw [List.map_append, hps, take_succ hq0, List.map_append]; rfl, fun q' hq' => ?_, fun b o e => ?_, upd_same⟩
            · rcases List.mem_append.mp hq' with h | h
              · have e := hq q' h
                rw [upd_ne (ne_of e eD fun z => by cases z)]
                exact s6.get e
              · rw [List.mem_singleton] at h; subst h
                rw [upd_ne ntt]; exact e6
            · rw [upd_ne (ne_of_none e hD6)]
              exact s6.get (s'.get e)
          · rintro ys H6 ⟨ps, rfl, hps, hq, s', eD⟩
            rw [List.length_map, List.take_length] at hps
            have ek : ps.map (fun q => q.2.1) = N.names.map Sum.inr := by
              have := congrArg (List.map (·.1)) hps
              rw [List.map_map, List.map_map] at this
              rw [← c5.nm, List.map_map]
              exact this
            walk_at "l2"
            refine s_dictP eD hq (by rw [ek]; exact List.Pairwise.map _ (fun x y h z => h (Sum.inr.inj z)) g.nd) fun d H7 f7 s7 e7 => ?_
            have s57 := s'.trans s7
            rw [hps] at e7
            exact q d H7 wl ((c5.same.trans s').free f7) (c5.same.trans s57) ⟨e7, c5.nm, fun q' hq' => (c5.ob q' hq').same s57⟩
theorem ok_ordered (T : Tx K mg a) : FnOk P w K mg base CX0 2 a.f_ordered a.d_ordered ["sums"] sp_ordered := by
  have G_waits := ok_waits (P := P) (w := w) (base := base) T
  refine T.F_ordered.ok sc_ordered (fun vs H Q E h => ?_) (fun cdv A outer s H vs Q E hr h => ?_)
  · obtain ⟨s, rs, N, rfl, _⟩ := h; rfl
  · obtain ⟨s, rs, N, rfl, hs, hsr, hes, g, q⟩ := h
    have lrs : rs.length = N.sums.length := by rw [← hes, List.length_map]
    have ls := g.ls
    refine ⟨_, ((pss_cons (ps_set (i := 1) sc_ordered.nd rfl (by first | exact Or.inl rfl | exact Or.inr rfl) (pe_lst pa_nil))
      (pss_cons (ps_set (i := 2) sc_ordered.nd rfl (by first | exact Or.inl rfl | exact Or.inr rfl) (pe_callTy (call_listK (K := K) rfl) (by rfl) T.n_list PyProof.Rows.boot_list (pa_cons (pv 0) pa_nil)))
      (pss_cons (ps_while PassesOwn.never (pt_cmpR op_gt (pe_callB (call_lenK (K := K) rfl) (by rfl) T.n_len PySem.boot_len (pa_cons (pv 2) pa_nil)) pe_int (nomark _)) (pss_cons (ps_set (i := 3) sc_ordered.nd rfl (by first | exact Or.inl rfl | exact Or.inr rfl) (pe_callTy (call_dictP rfl) (by rfl) T.n_dict PyProof.Rows.boot_dict (pa_cons (pv 2) pa_nil)))
      (pss_cons (ps_comp (osc := defScope s_ordered) (ON := ["sums", "names", "left", "waiting", "ready"]) (N := ["row", "waiting"]) (n := 1) (fx := [3]) (i := 4) sc_ordered.nd rfl rfl rfl rfl rfl rfl (by decide +kernel) (pi_listK (K := K) rfl (pv 2)) (gk_name (by decide)) (fun _ _ _ _ _ => ⟨(pg_name (i := 0) (show List.Nodup (["row", "waiting"] : List Str) from by decide +kernel) rfl (by first | exact Or.inl rfl | exact Or.inr rfl)), (pts_one (pt_not (pt_val (pe_call G_waits (hr.mono (by decide)) (by rfl) T.g_waits T.k_waits T.b_waits .nil pass0 (pa_cons (pv 0) (pa_cons (pv 1) pa_nil)))))), (pe_ix (ix_tupK (K := K) rfl) (pv 0) pe_int (fun _ _ => rfl))⟩))
      (pss_cons (ps_if (pt_cmpR op_eq (pe_callB (call_lenK (K := K) rfl) (by rfl) T.n_len PySem.boot_len (pa_cons (pv 4) pa_nil)) pe_int (nomark _)) (pss_one ps_dead) pss_nil)
      (pss_cons (ps_expr (pe_bmK (K := K) rfl PySem.F.plainAttrs_list PySem.F.slot_list_extend PySem.F.type_list_extend mt_extend (pv 1) (pa_cons (pv 4) pa_nil)))
      (pss_one (ps_comp (osc := defScope s_ordered) (ON := ["sums", "names", "left", "waiting", "ready"]) (N := ["row", "waiting"]) (n := 1) (fx := [3]) (i := 2) sc_ordered.nd rfl rfl rfl rfl rfl rfl (by decide +kernel) (pi_listK (K := K) rfl (pv 2)) (gk_name (by decide)) (fun _ _ _ _ _ => ⟨(pg_name (i := 0) (show List.Nodup (["row", "waiting"] : List Str) from by decide +kernel) rfl (by first | exact Or.inl rfl | exact Or.inr rfl)), (pts_one (pt_val (pe_call G_waits (hr.mono (by decide)) (by rfl) T.g_waits T.k_waits T.b_waits .nil pass0 (pa_cons (pv 0) (pa_cons (pv 1) pa_nil))))), (pv 0)⟩))))))))
      (pss_one (ps_ret (pv 1))))))), s_start (σ' := [some _, none, none, none, none]) rfl ?_⟩
    walk_at "l2"
    intro Dn H1 f1 s1 e1
    have hs1 := s1.get hs
    walk_at "l2"
    intro Dl H2 f2 s2 e2
    walk_at "l2"
    have nd := g.nds
    refine ⟨fun μ σ' H' => ∃ (od : List Str) (lf : List Rw) (Dl : Addr) (v3 v4 : Option V), σ' = [some (.ref s), some (.ref Dn), some (.ref Dl), v3, v4] ∧ Same H H' ∧ H' Dn = some (.lst (od.map V.str)) ∧ H' Dl = some (.lst (lf.map fun r => V.ref r.1)) ∧ Dl ≠ Dn ∧ (∀ r ∈ lf, r ∈ rs) ∧ Otp N.sums od (lf.map (·.2.2)) ∧ μ = lf.length, ⟨rs.length, [], rs, Dl, none, none, rfl, s1.trans s2, s2.get e1, e2, fun z => (by rw [z, e1] at f2; cases f2), fun _ h => h, by rw [hes]; exact Otp.start _, rfl⟩, ?_⟩
    rintro μ σ' H3 ⟨od, lf, Dl, v3, v4, rfl, s3, en, el, nln, sub, ot, rfl⟩
    walk_at "l2"
    rw [List.length_map]
    by_cases h0 : lf = []
    · subst h0
      refine s_ifF (decide_eq_false (by simp)) ?_
      walk_at "l2"
      exact q Dn H3 od f1 s3 en ot.done
    · have hpos : 0 < lf.length := List.length_pos_iff.mpr h0
      refine s_ifT (decide_eq_true (by omega)) ?_
      have hperm := ot.perm.nodup_iff.mpr nd
      rw [List.nodup_append] at hperm
      have ndl : (lf.map (·.2.2.1)).Nodup := by have := hperm.2.1; rw [List.map_map] at this; exact this
      have lod : od.length + lf.length = N.sums.length := by have := ot.perm.length_eq; rw [List.length_append, List.length_map, List.length_map, List.length_map] at this; exact this
      have hrd := ot.ready g (by simpa using h0)
      have zsE : (lf.map (·.2.2)).map (·.1) = lf.map (·.2.2.1) := by rw [List.map_map]; rfl
      rw [zsE] at hrd
      have lfr : ∀ r ∈ lf, ∀ {H'}, Same H H' → H' r.1 = some (.tup [.str r.2.2.1, .ref r.2.1]) ∧ H' r.2.1 = some (.tup (r.2.2.2.map V.str)) := fun r hr H' s' => ⟨s'.get (hsr r (sub r hr)).1, s'.get (hsr r (sub r hr)).2⟩
      have lwr : ∀ r ∈ lf, r.2.2.2.length ≤ 24 := fun r hr => g.lw r.2.2 (by rw [← hes]; exact List.mem_map.mpr ⟨r, sub r hr, rfl⟩)
      refine ⟨fun σ' H' => ∃ (od : List Str) (lf' : List Rw) (Dl : Addr) (v3 v4 : Option V), σ' = [some (.ref s), some (.ref Dn), some (.ref Dl), v3, v4] ∧ Same H H' ∧ H' Dn = some (.lst (od.map V.str)) ∧ H' Dl = some (.lst (lf'.map fun r => V.ref r.1)) ∧ Dl ≠ Dn ∧ (∀ r ∈ lf', r ∈ rs) ∧ Otp N.sums od (lf'.map (·.2.2)) ∧ lf'.length < lf.length, fun σ' H' ⟨od, lf', Dl, v3, v4, a1, a2, a3, a4, a5, a6, a7, a8⟩ => ⟨lf'.length, a8, od, lf', Dl, v3, v4, a1, a2, a3, a4, a5, a6, a7, rfl⟩, ?_⟩
      walk_at "l2"
      refine s_dictP (ps := lf.map fun r => (r.1, Sum.inr r.2.2.1, V.ref r.2.1)) (by rw [List.map_map]; exact el) (fun q' hq' => ?_) ?_ fun d H4 f4 s4 e4 => ?_
      · obtain ⟨r, hr', rfl⟩ := List.mem_map.mp hq'
        exact (lfr r hr' s3).1
      · rw [List.map_map]
        have := List.Pairwise.map (Sum.inr : Str → Key) (S := fun a b => a ≠ b) (fun x y h z => h (Sum.inr.inj z)) ndl
        rw [List.map_map] at this
        exact this
      have kn : Knw H4 d (lf.map (·.2.2.1)) := ⟨_, e4, by rw [List.map_map, List.map_map, List.map_map]; rfl⟩
      have el4 := s4.get el
      have en4 := s4.get en
      have s04 := s3.trans s4
      walk_at "l2"
      intro D5 hD5
      refine comp_list (xs := lf.map fun r => V.ref r.1) (fun i ys H' => ys = (((lf.take i).filter fun r => !waitB (lf.map (·.2.2.1)) r.2.2.2).map (·.2.2.1)).map V.str ∧ Same H4 H' ∧ H' D5 = some (.lst ys)) ⟨rfl, same_new hD5, upd_same⟩ (fun i ys H' _ ⟨_, s', _⟩ => SqL.of (s'.get el4)) (fun i x ys H' hx ⟨ey, s', e'⟩ => ?_) (fun ys H5 ⟨ey, s5, e5⟩ => ?_)
      · obtain ⟨r, hr', rfl⟩ := get_map hx
        have hm := List.mem_of_getElem? hr'
        have hlt := (List.getElem?_eq_some_iff.mp hr').1
        have rr := lfr r hm (s04.trans s')
        have r1 := rr.1
        have fs : (lf.take (i + 1)).filter (fun r => !waitB (lf.map (·.2.2.1)) r.2.2.2) = (lf.take i).filter (fun r => !waitB (lf.map (·.2.2.1)) r.2.2.2) ++ (if (!waitB (lf.map (·.2.2.1)) r.2.2.2) = true then [r] else []) := by rw [take_succ hr', List.filter_append, List.filter_cons]; rfl
        walk_at "l2"
        refine ⟨r, d, lf.map (·.2.2.1), rfl, rr.1, rr.2, lwr r hm, kn.same s', fun H6 s6 => ?_⟩
        have r16 := s6.get r1
        cases hw : waitB (lf.map (·.2.2.1)) r.2.2.2 with
        | true =>
          walk_at "l2"
          refine ⟨?_, s'.trans s6, s6.get e'⟩
          rw [fs, hw, ey]; simp
        | false =>
          walk_at "l2"
          refine ⟨s6.get e', ?_, ?_, fun b o e => ?_, upd_same⟩
          · rw [ey, List.length_map, List.length_map]
            have := List.length_filter_le (fun r : Rw => !waitB (lf.map (·.2.2.1)) r.2.2.2) (lf.take i)
            rw [List.length_take] at this
            exact small1000 (by omega)
          · rw [fs, hw, ey]; simp
          · rw [upd_ne (ne_of_none e hD5)]
            exact s6.get (s'.get e)
      · rw [List.length_map, List.take_length] at ey
        have fm : ((lf.map (·.2.2)).filter fun r => !waitB (lf.map (·.2.2.1)) r.2) = (lf.filter fun r => !waitB (lf.map (·.2.2.1)) r.2.2.2).map (·.2.2) := by rw [List.filter_map]; rfl
        have fm2 : ((lf.map (·.2.2)).filter fun r => waitB (lf.map (·.2.2.1)) r.2) = (lf.filter fun r => waitB (lf.map (·.2.2.1)) r.2.2.2).map (·.2.2) := by rw [List.filter_map]; rfl
        rw [fm, List.length_map] at hrd
        have lys : ys.length = (lf.filter fun r => !waitB (lf.map (·.2.2.1)) r.2.2.2).length := by rw [ey, List.length_map, List.length_map]
        have lle := List.length_filter_le (fun r : Rw => !waitB (lf.map (·.2.2.1)) r.2.2.2) lf
        have hless := filter_less (fun r : Rw => waitB (lf.map (·.2.2.1)) r.2.2.2) lf hrd
        have ot' := ot.step nd
        rw [zsE, fm, fm2, List.map_map] at ot'
        have el5 := s5.get el4
        have en5 := s5.get en4
        walk_at "l2"
        refine s_ifF (decide_eq_false fun z => by have := V.int.inj z; omega) ?_
        walk_at "l2"
        refine s_extend en5 e5 (by rw [List.length_map, lys, sizeLine_eq]; omega) fun H6 u6 => ?_
        have s46 : ∀ b o, b ≠ Dn → H4 b = some o → H6 b = some o := fun b o n e => u6.oth _ _ n (s5.get e)
        have s06 : Same H H6 := fun b o e => s46 b o (ne_of_none e f1) (s04.get e)
        have el6 := u6.oth _ _ nln el5
        have en6 := u6.at'
        rw [ey, ← List.map_append] at en6
        have kn6 : Knw H6 d (lf.map (·.2.2.1)) := by
          obtain ⟨kvs, ed, ek⟩ := kn
          exact ⟨kvs, s46 _ _ (ne_of ed en4 fun z => by cases z) ed, ek⟩
        walk_at "l2"
        intro D7 hD7
        refine comp_list (xs := lf.map fun r => V.ref r.1) (fun i ys H' => ys = ((lf.take i).filter fun r => waitB (lf.map (·.2.2.1)) r.2.2.2).map (fun r => V.ref r.1) ∧ Same H6 H' ∧ H' D7 = some (.lst ys)) ⟨rfl, same_new hD7, upd_same⟩ (fun i ys H' _ ⟨_, s', _⟩ => SqL.of (s'.get el6)) (fun i x ys H' hx ⟨ey, s', e'⟩ => ?_) (fun ys H7 ⟨ey7, s7, e7⟩ => ?_)
        · obtain ⟨r, hr', rfl⟩ := get_map hx
          have hm := List.mem_of_getElem? hr'
          have hlt := (List.getElem?_eq_some_iff.mp hr').1
          have rr := lfr r hm (s06.trans s')
          have fs : (lf.take (i + 1)).filter (fun r => waitB (lf.map (·.2.2.1)) r.2.2.2) = (lf.take i).filter (fun r => waitB (lf.map (·.2.2.1)) r.2.2.2) ++ (if waitB (lf.map (·.2.2.1)) r.2.2.2 = true then [r] else []) := by rw [take_succ hr', List.filter_append, List.filter_cons]; rfl
          walk_at "l2"
          refine ⟨r, d, lf.map (·.2.2.1), rfl, rr.1, rr.2, lwr r hm, kn6.same s', fun H8 s8 => ?_⟩
          cases hw : waitB (lf.map (·.2.2.1)) r.2.2.2 with
          | false =>
            walk_at "l2"
            refine ⟨?_, s'.trans s8, s8.get e'⟩
            rw [fs, hw, ey]; simp
          | true =>
            walk_at "l2"
            refine ⟨s8.get e', ?_, ?_, fun b o e => ?_, upd_same⟩
            · rw [ey, List.length_map]
              have := List.length_filter_le (fun r : Rw => waitB (lf.map (·.2.2.1)) r.2.2.2) (lf.take i)
              rw [List.length_take] at this
              exact small1000 (by omega)
            · rw [fs, hw, ey]; simp
            · rw [upd_ne (ne_of_none e hD7)]
              exact s8.get (s'.get e)
        · rw [List.length_map, List.take_length] at ey7
          rw [ey7] at e7
          walk_at "l2"
          have hsub : ∀ r ∈ lf.filter (fun r => waitB (lf.map (·.2.2.1)) r.2.2.2), r ∈ rs := fun r hr => sub r (List.mem_filter.mp hr).1
          have nd7 : D7 ≠ Dn := fun z => (by rw [z, en6] at hD7; cases hD7)
          exact ⟨_, _, D7, _, _, rfl, s06.trans s7, s7.get en6, e7, nd7, hsub, ot', hless⟩
end
section
variable {P : Program} {w : World} {K : PySem.W.Frag} {mg : Str → Option Value} {base : Heap} {a : Ad}
local macro_rules | `(tactic| walk_at "l2step") => `(tactic| first | ((with_reducible refine' c_whole ?e ?_); (case e => walk_at "l2kind")) | ((with_reducible refine' c_mask ?e ?_); (case e => walk_at "l2kind")) | (with_reducible refine s_iEnumT ?_) | (with_reducible refine s_methX ?_))
theorem ok_Net___init__ (T : Tx K mg a) : FnOk P w K mg base CX0 5 a.f_Net___init__ a.d_Net___init__ ["self", "ins", "sums", "stores", "outs"] (sp_net a.c_Net a.c_InWire a.c_SumWire a.c_StoreWire) := by
  have G_check_sizes := ok_check_sizes (P := P) (w := w) (base := base) T
  have G_check_names := ok_check_names (P := P) (w := w) (base := base) T
  have G_check_wires := ok_check_wires (P := P) (w := w) (base := base) T
  have G_wires_by_name := ok_wires_by_name (P := P) (w := w) (base := base) T
  have G_ordered := ok_ordered (P := P) (w := w) (base := base) T
  refine T.F_Net___init__.ok sc_Net___init__ (fun vs H Q E h => ?_) (fun cdv A outer s H vs Q E hr h => ?_)
  · obtain ⟨x, dx, i, s, t, o, rs, qs, N, rfl, _⟩ := h; rfl
  · obtain ⟨x, dx, i, s, t, o, rs, qs, N, rfl, hx, hn, g, q⟩ := h
    have li := g.li
    have ls := g.ls
    have lt := g.lt
    have lo := g.lo
    have lrs : rs.length = N.sums.length := by rw [← hn.es, List.length_map]
    have lqs : qs.length = N.sts.length := by rw [← hn.et, List.length_map]
    refine ⟨_, ((pss_cons (ps_expr (pe_call G_check_sizes (hr.mono (by decide)) (by rfl) T.g_check_sizes T.k_check_sizes T.b_check_sizes .nil pass0 (pa_cons (pv 1) (pa_cons (pv 2) (pa_cons (pv 3) (pa_cons (pv 4) pa_nil))))))
      (pss_cons (ps_expr (pe_call G_check_names (hr.mono (by decide)) (by rfl) T.g_check_names T.k_check_names T.b_check_names .nil pass0 (pa_cons (pe_op op_cat (pe_op op_cat (pe_callTy (call_listK (K := K) rfl) (by rfl) T.n_list PyProof.Rows.boot_list (pa_cons (pv 1) pa_nil)) (pe_comp (osc := defScope s_Net___init__) (ON := ["self", "ins", "sums", "stores", "outs"]) (N := ["row"]) (n := 1) (fx := []) rfl rfl rfl (by decide +kernel) (pi_listK (K := K) rfl (pv 2)) (gk_name (by decide)) (fun _ _ _ _ _ => ⟨(pg_name (i := 0) (show List.Nodup (["row"] : List Str) from by decide +kernel) rfl (by first | exact Or.inl rfl | exact Or.inr rfl)), pts_nil, (pe_ix (ix_tupK (K := K) rfl) (pv 0) pe_int (fun _ _ => rfl))⟩))) (pe_comp (osc := defScope s_Net___init__) (ON := ["self", "ins", "sums", "stores", "outs"]) (N := ["row"]) (n := 1) (fx := []) rfl rfl rfl (by decide +kernel) (pi_listK (K := K) rfl (pv 3)) (gk_name (by decide)) (fun _ _ _ _ _ => ⟨(pg_name (i := 0) (show List.Nodup (["row"] : List Str) from by decide +kernel) rfl (by first | exact Or.inl rfl | exact Or.inr rfl)), pts_nil, (pe_ix (ix_tupK (K := K) rfl) (pv 0) pe_int (fun _ _ => rfl))⟩))) pa_nil)))
      (pss_cons (ps_fldK (K := K) rfl (pv 0) (pe_callTy (call_tupleK (K := K) rfl) (by rfl) T.n_tuple PyProof.Rows.boot_tuple (pa_cons (pv 1) pa_nil)) rfl)
      (pss_cons (ps_fldK (K := K) rfl (pv 0) (pe_callTy (call_tupleK (K := K) rfl) (by rfl) T.n_tuple PyProof.Rows.boot_tuple (pa_cons (pe_comp (osc := defScope s_Net___init__) (ON := ["self", "ins", "sums", "stores", "outs"]) (N := ["row"]) (n := 1) (fx := []) rfl rfl rfl (by decide +kernel) (pi_listK (K := K) rfl (pv 2)) (gk_name (by decide)) (fun _ _ _ _ _ => ⟨(pg_name (i := 0) (show List.Nodup (["row"] : List Str) from by decide +kernel) rfl (by first | exact Or.inl rfl | exact Or.inr rfl)), pts_nil, (pe_tup (pa_cons (pe_ix (ix_tupK (K := K) rfl) (pv 0) pe_int (fun _ _ => rfl)) (pa_cons (pe_callTy (call_tupleK (K := K) rfl) (by rfl) T.n_tuple PyProof.Rows.boot_tuple (pa_cons (pe_ix (ix_tupK (K := K) rfl) (pv 0) pe_int (fun _ _ => rfl)) pa_nil)) pa_nil)))⟩)) pa_nil)) rfl)
      (pss_cons (ps_fldK (K := K) rfl (pv 0) (pe_callTy (call_tupleK (K := K) rfl) (by rfl) T.n_tuple PyProof.Rows.boot_tuple (pa_cons (pe_comp (osc := defScope s_Net___init__) (ON := ["self", "ins", "sums", "stores", "outs"]) (N := ["row"]) (n := 1) (fx := []) rfl rfl rfl (by decide +kernel) (pi_listK (K := K) rfl (pv 3)) (gk_name (by decide)) (fun _ _ _ _ _ => ⟨(pg_name (i := 0) (show List.Nodup (["row"] : List Str) from by decide +kernel) rfl (by first | exact Or.inl rfl | exact Or.inr rfl)), pts_nil, (pe_tup (pa_cons (pe_ix (ix_tupK (K := K) rfl) (pv 0) pe_int (fun _ _ => rfl)) (pa_cons (pe_ix (ix_tupK (K := K) rfl) (pv 0) pe_int (fun _ _ => rfl)) pa_nil)))⟩)) pa_nil)) rfl)
      (pss_cons (ps_fldK (K := K) rfl (pv 0) (pe_callTy (call_tupleK (K := K) rfl) (by rfl) T.n_tuple PyProof.Rows.boot_tuple (pa_cons (pv 4) pa_nil)) rfl)
      (pss_cons (ps_fldK (K := K) rfl (pv 0) (pe_call G_wires_by_name (hr.mono (by decide)) (by rfl) T.g_wires_by_name T.k_wires_by_name T.b_wires_by_name .nil pass0 (pa_cons (pe_fldK (K := K) rfl (pv 0) rfl) (pa_cons (pe_fldK (K := K) rfl (pv 0) rfl) (pa_cons (pe_fldK (K := K) rfl (pv 0) rfl) pa_nil)))) rfl)
      (pss_cons (ps_expr (pe_call G_check_wires (hr.mono (by decide)) (by rfl) T.g_check_wires T.k_check_wires T.b_check_wires .nil pass0 (pa_cons (pe_fldK (K := K) rfl (pv 0) rfl) (pa_cons (pe_fldK (K := K) rfl (pv 0) rfl) (pa_cons (pe_fldK (K := K) rfl (pv 0) rfl) (pa_cons (pe_fldK (K := K) rfl (pv 0) rfl) pa_nil))))))
      (pss_one (ps_fldK (K := K) rfl (pv 0) (pe_callTy (call_tupleK (K := K) rfl) (by rfl) T.n_tuple PyProof.Rows.boot_tuple (pa_cons (pe_call G_ordered (hr.mono (by decide)) (by rfl) T.g_ordered T.k_ordered T.b_ordered .nil pass0 (pa_cons (pe_fldK (K := K) rfl (pv 0) rfl) pa_nil)) pa_nil)) rfl))))))))))), s_start (σ' := [some _, some _, some _, some _, some _]) rfl ?_⟩
    walk_at "l2"
    refine ⟨i, s, t, o, rs, qs, N, rfl, hn, g, fun H1 s1 => ?_⟩
    have hn1 := hn.same s1
    have hi1 := hn1.i
    have hs1 := hn1.s
    have ht1 := hn1.t
    walk_at "l2"
    intro D2 H2 f2 s2 e2
    have hs2 := s2.get hs1
    walk_at "l2"
    intro D3 hD3
    refine comp_list (xs := rs.map fun r => V.ref r.1) (fun i ys H' => Cs (fun i ys => ys = ((rs.take i).map (·.2.2.1)).map V.str) H2 D3 i ys H') (Cs.zero hD3 rfl) (fun i ys H' _ c => SqL.of (c.same.get hs2)) (fun i x ys H' hx c => ?_) (fun ys H3 c => ?_)
    · obtain ⟨r, hr', rfl⟩ := get_map hx
      have hlt := (List.getElem?_eq_some_iff.mp hr').1
      have er := c.same.get (s2.get (hn1.sr r (List.mem_of_getElem? hr')).1)
      walk_at "l2"
      refine Cs.put hD3 c.same c.at' c.len (by omega) ?_
      rw [c.pv, take_succ hr', List.map_append, List.map_append]; rfl
    · have e3 := c.at'
      rw [c.pv, List.length_map, List.take_length] at e3
      have s23 := c.same
      clear c
      refine s_cat (s23.get e2) e3 (by rw [List.length_map, List.length_map, List.length_map, sizeLine_eq]; omega) fun D4 H4 f4 s4 e4 => ?_
      have s14 := s2.trans (s23.trans s4)
      have ht4 := s14.get ht1
      walk_at "l2"
      intro D5 hD5
      refine comp_list (xs := qs.map fun r => V.ref r.1) (fun i ys H' => Cs (fun i ys => ys = ((qs.take i).map (·.2.1)).map V.str) H4 D5 i ys H') (Cs.zero hD5 rfl) (fun i ys H' _ c => SqL.of (c.same.get ht4)) (fun i x ys H' hx c => ?_) (fun ys H5 c => ?_)
      · obtain ⟨r, hr', rfl⟩ := get_map hx
        have hlt := (List.getElem?_eq_some_iff.mp hr').1
        have er := c.same.get (s14.get (hn1.tr r (List.mem_of_getElem? hr')))
        walk_at "l2"
        refine Cs.put hD5 c.same c.at' c.len (by omega) ?_
        rw [c.pv, take_succ hr', List.map_append, List.map_append]; rfl
      · have e5 := c.at'
        rw [c.pv, List.length_map, List.take_length] at e5
        have s45 := c.same
        clear c
        have enm : N.ins ++ rs.map (·.2.2.1) ++ qs.map (·.2.1) = N.names := by
          unfold Nt.names
          rw [← hn.es, ← hn.et, List.map_map, List.map_map]; rfl
        have lnm : N.names.length ≤ 100 := by rw [← enm, List.length_append, List.length_append, List.length_map, List.length_map]; omega
        refine s_cat (s45.get e4) e5 (by rw [List.length_append, List.length_map, List.length_map, List.length_map, List.length_map, List.length_map, sizeLine_eq]; omega) fun D6 H6 f6 s6 e6 => ?_
        rw [← List.map_append, ← List.map_append, enm] at e6
        have s16 := s14.trans (s45.trans s6)
        walk_at "l2"
        refine ⟨D6, N.names, rfl, e6, by omega, g.nd, g.nm, fun H7 s7 => ?_⟩
        have s07 := s1.trans (s16.trans s7)
        have hn7 := hn.same s07
        have hx7 := s07.get hx
        clear e6 e5 e4 e3 e2 s16 s14 hs2 ht4 hi1 hs1 ht1 hn1 hD3 hD5 f2 f4 f6 s1 s2 s23 s4 s45 s6 s7
        have hi7 := hn7.i
        walk_at "l2"
        intro ti H8 f8 s8 e8
        walk_at "l2"
        refine s_setAt (s8.get hx7) T.C_Net T.n_Net_ins (by show 0 < 1000; decide) rfl fun H9 u9 => ?_
        have hx8 := s8.get hx7
        have hn9 := (Kx.upd u9).hnd hx8 (hn7.same s8)
        have e9 := (Kx.upd u9).tup hx8 e8
        have hx9 := u9.at'
        have k9 : Kx x H H9 := (Kx.same (s07.trans s8)).trans (Kx.upd u9)
        have hs9 := hn9.s
        clear u9 hx8 s8 e8 f8 hi7 hx7 hn7 s07
        walk_at "l2"
        intro D10 hD10
        refine comp_list (xs := rs.map fun r => V.ref r.1) (fun i ys H' => ∃ rs' : List Rw, ys = rs'.map (fun r => V.ref r.1) ∧ rs'.map (·.2.2) = (rs.take i).map (·.2.2) ∧ RwK H' rs' ∧ Same H9 H' ∧ H' D10 = some (.lst ys)) ⟨[], rfl, rfl, fun _ h => absurd h (by simp), same_new hD10, upd_same⟩ (fun i ys H' _ ⟨_, _, _, _, s', _⟩ => SqL.of (s'.get hs9)) ?_ ?_
        · rintro i y ys H' hy ⟨rs', rfl, hrs, hk, s', eD⟩
          obtain ⟨r, hr', rfl⟩ := get_map hy
          have hlt := (List.getElem?_eq_some_iff.mp hr').1
          have hm := List.mem_of_getElem? hr'
          have er := s'.get (hn9.sr r hm).1
          have ew := s'.get (hn9.sr r hm).2
          have hlen : rs'.length = i := by have := congrArg List.length hrs; rw [List.length_map, List.length_map, List.length_take] at this; omega
          walk_at "l2"
          intro tw H11 f11 s11 e11
          walk_at "l2"
          intro tr H12 f12 s12 e12
          have ntr : tr ≠ D10 := fun z => (by rw [z, s11.get eD] at f12; cases f12)
          have ntw : tw ≠ D10 := fun z => (by rw [z, eD] at f11; cases f11)
          have eD12 := s12.get (s11.get eD)
          refine ⟨eD12, by rw [List.length_map]; exact small1000 (by omega), rs' ++ [(tr, tw, r.2.2)], by rw [List.map_append]; rfl, by rw [List.map_append, hrs, take_succ hr', List.map_append]; rfl, fun r2 h2 => ?_, fun b ob e => ?_, upd_same⟩
          · rcases List.mem_append.mp h2 with h2 | h2
            · exact ((hk.same s11).same s12).updL eD12 (fun b ob n e => by rw [upd_ne n]; exact e) r2 h2
            · rw [List.mem_singleton] at h2; subst h2
              exact ⟨by rw [upd_ne ntr]; exact e12, by rw [upd_ne ntw]; exact s12.get e11⟩
          · rw [upd_ne (ne_of_none e hD10)]
            exact s12.get (s11.get (s'.get e))
        · rintro ys H10 ⟨rs', rfl, hrs, hk, s10, eD10⟩
          rw [List.length_map, List.take_length, hn.es] at hrs
          walk_at "l2"
          intro ts H11 f11 s11 e11
          have s911 := s10.trans s11
          have hx11 := s911.get hx9
          walk_at "l2"
          refine s_setAt hx11 T.C_Net T.n_Net_sums (by show 1 < 1000; decide) rfl fun H12 u12 => ?_
          have hn12 := (Kx.upd u12).hnd hx11 (hn9.same s911)
          have e912 := (Kx.upd u12).tup hx11 (s911.get e9)
          have e12 := (Kx.upd u12).tup hx11 e11
          have rk12 := (Kx.upd u12).rw hx11 (hk.same s11)
          have hx12 := u12.at'
          have k12 : Kx x H H12 := k9.trans ((Kx.same s911).trans (Kx.upd u12))
          have ht12 := hn12.t
          clear u12 hx11 s911 s10 s11 e11 f11 hk eD10 hD10 hn9 hs9 hx9 e9 k9
          walk_at "l2"
          intro D13 hD13
          refine comp_list (xs := qs.map fun r => V.ref r.1) (fun i ys H' => ∃ qs' : List Qs, ys = qs'.map (fun r => V.ref r.1) ∧ qs'.map (·.2) = (qs.take i).map (·.2) ∧ QsK H' qs' ∧ Same H12 H' ∧ H' D13 = some (.lst ys)) ⟨[], rfl, rfl, fun _ h => absurd h (by simp), same_new hD13, upd_same⟩ (fun i ys H' _ ⟨_, _, _, _, s', _⟩ => SqL.of (s'.get ht12)) ?_ ?_
          · rintro i y ys H' hy ⟨qs', rfl, hqs, hk, s', eD⟩
            obtain ⟨r, hr', rfl⟩ := get_map hy
            have hlt := (List.getElem?_eq_some_iff.mp hr').1
            have er := s'.get (hn12.tr r (List.mem_of_getElem? hr'))
            have hlen : qs'.length = i := by have := congrArg List.length hqs; rw [List.length_map, List.length_map, List.length_take] at this; omega
            walk_at "l2"
            intro tr H14 f14 s14 e14
            have ntr : tr ≠ D13 := fun z => (by rw [z, eD] at f14; cases f14)
            have eD14 := s14.get eD
            refine ⟨eD14, by rw [List.length_map]; exact small1000 (by omega), qs' ++ [(tr, r.2)], by rw [List.map_append]; rfl, by rw [List.map_append, hqs, take_succ hr', List.map_append]; rfl, fun r2 h2 => ?_, fun b ob e => ?_, upd_same⟩
            · rcases List.mem_append.mp h2 with h2 | h2
              · exact (hk.same s14).updL eD14 (fun b ob n e => by rw [upd_ne n]; exact e) r2 h2
              · rw [List.mem_singleton] at h2; subst h2
                rw [upd_ne ntr]; exact e14
            · rw [upd_ne (ne_of_none e hD13)]
              exact s14.get (s'.get e)
          · rintro ys H13 ⟨qs', rfl, hqs, hqk, s13, eD13⟩
            rw [List.length_map, List.take_length, hn.et] at hqs
            walk_at "l2"
            intro tk H14 f14 s14 e14
            have s1214 := s13.trans s14
            have hx14 := s1214.get hx12
            walk_at "l2"
            refine s_setAt hx14 T.C_Net T.n_Net_kept_stores (by show 2 < 1000; decide) rfl fun H15 u15 => ?_
            have hn15 := (Kx.upd u15).hnd hx14 (hn12.same s1214)
            have ei15 := (Kx.upd u15).tup hx14 (s1214.get e912)
            have es15 := (Kx.upd u15).tup hx14 (s1214.get e12)
            have rk15 := (Kx.upd u15).rw hx14 (rk12.same s1214)
            have et15 := (Kx.upd u15).tup hx14 e14
            have qk15 := (Kx.upd u15).qs hx14 (hqk.same s14)
            have hx15 := u15.at'
            have k15 : Kx x H H15 := k12.trans ((Kx.same s1214).trans (Kx.upd u15))
            have ho15 := hn15.o
            clear u15 hx14 s1214 s13 s14 e14 f14 hqk eD13 hD13 hn12 ht12 hx12 e12 e912 k12 rk12
            walk_at "l2"
            intro to H16 f16 s16 e16
            have hx16 := s16.get hx15
            walk_at "l2"
            refine s_setAt hx16 T.C_Net T.n_Net_outs (by show 3 < 1000; decide) rfl fun H17 u17 => ?_
            have kp17 : Kpt H17 ti ts tk to rs' qs' N := (Kx.upd u17).kpt hx16 ⟨s16.get ei15, s16.get es15, rk15.same s16, hrs, s16.get et15, qk15.same s16, hqs, e16⟩
            have hx17 := u17.at'
            have k17 : Kx x H H17 := k15.trans ((Kx.same s16).trans (Kx.upd u17))
            clear u17 hx16 s16 e16 f16 hx15 k15 ei15 es15 rk15 et15 qk15 ho15 hn15
            walk_at "l2"
            refine s_fldAt hx17 T.C_Net T.n_Net_ins rfl ?_
            walk_at "l2"
            refine s_fldAt hx17 T.C_Net T.n_Net_sums rfl ?_
            walk_at "l2"
            refine s_fldAt hx17 T.C_Net T.n_Net_kept_stores rfl ?_
            walk_at "l2"
            refine ⟨ti, ts, tk, to, rs', qs', N, rfl, kp17, g, fun db H18 ws f18 s18 wi => ?_⟩
            have hx18 := s18.get hx17
            walk_at "l2"
            refine s_setAt hx18 T.C_Net T.n_Net_by_name (by show 4 < 1000; decide) rfl fun H19 u19 => ?_
            have hdb : db ≠ x := ne_of wi.d hx18 fun z => by cases z
            have hws : ∀ q ∈ ws, q.2 ≠ x := fun q hq z => by
              obtain ⟨C, dx', fs, e, _⟩ := (wi.ob q hq).name
              rw [z, hx18] at e
              injection e with e
              injection e with _ _ e
              injection e with e _
              injection e with e _
              exact absurd e (by decide)
            have wi19 := (Kx.upd u19).wia wi hdb hws hx18
            have kp19 := (Kx.upd u19).kpt hx18 (kp17.same s18)
            have hx19 := u19.at'
            have k19 : Kx x H H19 := k17.trans ((Kx.same s18).trans (Kx.upd u19))
            clear u19 wi kp17 hx17 hx18 s18 k17 f18
            walk_at "l2"
            refine s_fldAt hx19 T.C_Net T.n_Net_sums rfl ?_
            walk_at "l2"
            refine s_fldAt hx19 T.C_Net T.n_Net_kept_stores rfl ?_
            walk_at "l2"
            refine s_fldAt hx19 T.C_Net T.n_Net_outs rfl ?_
            walk_at "l2"
            refine s_fldAt hx19 T.C_Net T.n_Net_by_name rfl ?_
            walk_at "l2"
            refine ⟨ti, ts, tk, to, db, rs', qs', N, rfl, kp19, g, wi19.knw, fun H20 s20 => ?_⟩
            have hx20 := s20.get hx19
            have kp20 := kp19.same s20
            walk_at "l2"
            refine s_fldAt hx20 T.C_Net T.n_Net_sums rfl ?_
            walk_at "l2"
            refine ⟨ts, rs', N, rfl, kp20.s, kp20.sr, hrs, g, fun Do H21 od f21 s21 e21 tp => ?_⟩
            walk_at "l2"
            intro tq H22 f22 s22 e22
            have s1922 := s20.trans (s21.trans s22)
            have hx22 := s1922.get hx19
            walk_at "l2"
            refine s_setAt hx22 T.C_Net T.n_Net_sum_order (by show 5 < 1000; decide) rfl fun H23 u23 => ?_
            walk_at "l2"
            exact q H23 od (k19.trans ((Kx.same s1922).trans (Kx.upd u23))) ⟨⟨dx, ti, ts, tk, to, db, tq, rs', qs', ws, u23.at', (Kx.upd u23).kpt hx22 (kp19.same s1922), (Kx.upd u23).wia (wi19.same s1922) hdb hws hx22, (Kx.upd u23).tup hx22 e22⟩, g, tp⟩
end
section
variable {P : Program} {w : World} {K : PySem.W.Frag} {mg : Str → Option Value} {base : Heap} {a : Ad}
local macro_rules | `(tactic| walk_at "l2step") => `(tactic| first | ((with_reducible refine' c_whole ?e ?_); (case e => walk_at "l2kind")) | ((with_reducible refine' c_mask ?e ?_); (case e => walk_at "l2kind")) | (with_reducible refine s_iEnumT ?_) | (with_reducible refine s_methX ?_))
noncomputable abbrev NAof (a : Ad) : NP := fun H p N od => NetA H a.c_Net a.c_InWire a.c_SumWire a.c_StoreWire p N od
theorem ok_Net_in_names (T : Tx K mg a) : FnOk P w K mg base CX0 1 a.f_Net_in_names a.d_Net_in_names ["self"] (sp_innames (NAof a)) := by
  refine T.F_Net_in_names.ok sc_Net_in_names (fun vs H Q E h => ?_) (fun cdv A outer s H vs Q E hr h => ?_)
  · obtain ⟨p, N, od, rfl, _⟩ := h; rfl
  · obtain ⟨p, N, od, rfl, na, q⟩ := h
    obtain ⟨dx, i, s, t, o, d, tq, rs, qs, ws, hp, kp, wi, eq⟩ := na.ho
    have hi := kp.i
    refine ⟨_, ((pss_one (ps_ret (pe_callTy (call_listK (K := K) rfl) (by rfl) T.n_list PyProof.Rows.boot_list (pa_cons (pe_fldK (K := K) rfl (pv 0) rfl) pa_nil))))), s_start (σ' := [some _]) rfl ?_⟩
    walk_at "l2"
    refine s_fldAt hp T.C_Net T.n_Net_ins rfl ?_
    walk_at "l2"
    exact q
theorem ok_Net_out_wires (T : Tx K mg a) : FnOk P w K mg base CX0 1 a.f_Net_out_wires a.d_Net_out_wires ["self"] (sp_outw (NAof a)) := by
  refine T.F_Net_out_wires.ok sc_Net_out_wires (fun vs H Q E h => ?_) (fun cdv A outer s H vs Q E hr h => ?_)
  · obtain ⟨p, N, od, rfl, _⟩ := h; rfl
  · obtain ⟨p, N, od, rfl, na, q⟩ := h
    obtain ⟨dx, i, s, t, o, d, tq, rs, qs, ws, hp, kp, wi, eq⟩ := na.ho
    have ho := kp.o
    refine ⟨_, ((pss_one (ps_ret (pe_callTy (call_listK (K := K) rfl) (by rfl) T.n_list PyProof.Rows.boot_list (pa_cons (pe_fldK (K := K) rfl (pv 0) rfl) pa_nil))))), s_start (σ' := [some _]) rfl ?_⟩
    walk_at "l2"
    refine s_fldAt hp T.C_Net T.n_Net_outs rfl ?_
    walk_at "l2"
    exact q
theorem ok_Net_store_rows (T : Tx K mg a) : FnOk P w K mg base CX0 1 a.f_Net_store_rows a.d_Net_store_rows ["self"] (sp_storer (NAof a)) := by
  refine T.F_Net_store_rows.ok sc_Net_store_rows (fun vs H Q E h => ?_) (fun cdv A outer s H vs Q E hr h => ?_)
  · obtain ⟨p, N, od, rfl, _⟩ := h; rfl
  · obtain ⟨p, N, od, rfl, na, q⟩ := h
    obtain ⟨dx, i, s, t, o, d, tq, rs, qs, ws, hp, kp, wi, eq⟩ := na.ho
    have ht := kp.t
    refine ⟨_, ((pss_one (ps_ret (pe_callTy (call_listK (K := K) rfl) (by rfl) T.n_list PyProof.Rows.boot_list (pa_cons (pe_fldK (K := K) rfl (pv 0) rfl) pa_nil))))), s_start (σ' := [some _]) rfl ?_⟩
    walk_at "l2"
    refine s_fldAt hp T.C_Net T.n_Net_kept_stores rfl ?_
    walk_at "l2"
    intro D H2 f2 s2 e2
    exact q D H2 qs f2 s2 e2 (fun q' m => s2.get (kp.tr q' m)) kp.et
theorem ok_Net_wire_of (T : Tx K mg a) : FnOk P w K mg base CX0 3 a.f_Net_wire_of a.d_Net_wire_of ["self", "name"] (sp_wireof (NAof a) a.c_InWire a.c_SumWire a.c_StoreWire) := by
  have G_check_wire := ok_check_wire (P := P) (w := w) (base := base) T
  refine T.F_Net_wire_of.ok sc_Net_wire_of (fun vs H Q E h => ?_) (fun cdv A outer s H vs Q E hr h => ?_)
  · obtain ⟨p, N, od, z, rfl, _⟩ := h; rfl
  · obtain ⟨p, N, od, z, rfl, na, hz, q⟩ := h
    have hu := hu_of hr
    obtain ⟨dx, i, s, t, o, d, tq, rs, qs, ws, hp, kp, wi, eq⟩ := na.ho
    have g := na.g
    refine ⟨_, ((pss_cons (ps_expr (pe_call G_check_wire (hr.mono (by decide)) (by rfl) T.g_check_wire T.k_check_wire T.b_check_wire .nil pass0 (pa_cons (pv 1) (pa_cons (pe_fldK (K := K) rfl (pv 0) rfl) pa_nil))))
      (pss_one (ps_ret (pe_dget hu (pe_fldK (K := K) rfl (pv 0) rfl) (pv 1) (fun _ _ => rfl)))))), s_start (σ' := [some _, some _]) rfl ?_⟩
    walk_at "l2"
    refine s_fldAt hp T.C_Net T.n_Net_by_name rfl ?_
    walk_at "l2"
    refine ⟨z, d, N.names, rfl, wi.knw, hz, g.nm z hz, fun H2 s2 => ?_⟩
    have wi2 := wi.same s2
    walk_at "l2"
    refine s_fldAt (s2.get hp) T.C_Net T.n_Net_by_name rfl ?_
    walk_at "l2"
    have key : ∀ ws : List (Str × Addr), z ∈ ws.map (·.1) → ∃ q ∈ ws, q.1 = z ∧ valV (ws.map fun q => ((Sum.inr q.1 : Key), V.ref q.2)) (Sum.inr z) = some (.ref q.2) := by
      intro ws
      induction ws with
      | nil => intro h; cases h
      | cons q l ih =>
        intro h
        by_cases e : q.1 = z
        · exact ⟨q, List.mem_cons_self .., e, valV_pos (congrArg Sum.inr e)⟩
        · rw [List.map_cons] at h
          obtain ⟨q', m, e', v⟩ := ih ((List.mem_cons.mp h).resolve_left fun h2 => e h2.symm)
          refine ⟨q', List.mem_cons_of_mem _ m, e', ?_⟩
          rw [List.map_cons, valV_neg fun h2 => e (Sum.inr.inj h2)]
          exact v
    obtain ⟨q', m, e, v⟩ := key ws (by rw [wi.nm]; exact hz)
    refine s_dgetS wi2.d v ?_
    have wb := wi2.ob q' m
    rw [e] at wb
    walk_at "l2"
    exact q q'.2 H2 s2 wb
theorem ok_Net_names_by_need (T : Tx K mg a) : FnOk P w K mg base CX0 1 a.f_Net_names_by_need a.d_Net_names_by_need ["self"] (sp_need (NAof a)) := by
  refine T.F_Net_names_by_need.ok sc_Net_names_by_need (fun vs H Q E h => ?_) (fun cdv A outer s H vs Q E hr h => ?_)
  · obtain ⟨p, N, od, rfl, _⟩ := h; rfl
  · obtain ⟨p, N, od, rfl, na, q⟩ := h
    obtain ⟨dx, i, s, t, o, d, tq, rs, qs, ws, hp, kp, wi, eq⟩ := na.ho
    have g := na.g
    have nl := need_len g na.tp
    have hi := kp.i
    have ht := kp.t
    have lqs : qs.length = N.sts.length := by rw [← kp.et, List.length_map]
    have nl' := nl
    unfold need at nl'
    rw [List.length_append, List.length_append, List.length_map] at nl'
    refine ⟨_, ((pss_one (ps_ret (pe_op op_cat (pe_op op_cat (pe_callTy (call_listK (K := K) rfl) (by rfl) T.n_list PyProof.Rows.boot_list (pa_cons (pe_fldK (K := K) rfl (pv 0) rfl) pa_nil)) (pe_comp (osc := defScope s_Net_names_by_need) (ON := ["self"]) (N := ["row"]) (n := 1) (fx := []) rfl rfl rfl (by decide +kernel) (pi_tupK (K := K) rfl (pe_fldK (K := K) rfl (pv 0) rfl)) (gk_name (by decide)) (fun _ _ _ _ _ => ⟨(pg_name (i := 0) (show List.Nodup (["row"] : List Str) from by decide +kernel) rfl (by first | exact Or.inl rfl | exact Or.inr rfl)), pts_nil, (pe_ix (ix_tupK (K := K) rfl) (pv 0) pe_int (fun _ _ => rfl))⟩))) (pe_callTy (call_listK (K := K) rfl) (by rfl) T.n_list PyProof.Rows.boot_list (pa_cons (pe_fldK (K := K) rfl (pv 0) rfl) pa_nil)))))), s_start (σ' := [some _]) rfl ?_⟩
    walk_at "l2"
    refine s_fldAt hp T.C_Net T.n_Net_ins rfl ?_
    walk_at "l2"
    intro D2 H2 f2 s2 e2
    have ht2 := s2.get ht
    walk_at "l2"
    refine s_fldAt (s2.get hp) T.C_Net T.n_Net_kept_stores rfl ?_
    walk_at "l2"
    intro D3 hD3
    refine comp_tup (xs := qs.map fun r => V.ref r.1) (fun i ys H' => Cs (fun i ys => ys = ((qs.take i).map (·.2.1)).map V.str) H2 D3 i ys H') (Cs.zero hD3 rfl) (fun i ys H' _ c => SqT.of (c.same.get ht2)) (fun i x ys H' hx c => ?_) (fun ys H3 c => ?_)
    · obtain ⟨r, hr', rfl⟩ := get_map hx
      have hlt := (List.getElem?_eq_some_iff.mp hr').1
      have er := c.same.get (s2.get (kp.tr r (List.mem_of_getElem? hr')))
      walk_at "l2"
      refine Cs.put hD3 c.same c.at' c.len (by omega) ?_
      rw [c.pv, take_succ hr', List.map_append, List.map_append]; rfl
    · have e3 := c.at'
      rw [c.pv, List.length_map, List.take_length] at e3
      have s23 := c.same
      clear c
      refine s_cat (s23.get e2) e3 (by rw [List.length_map, List.length_map, List.length_map, sizeLine_eq]; omega) fun D4 H4 f4 s4 e4 => ?_
      have s04 := s2.trans (s23.trans s4)
      have eq4 := s04.get eq
      walk_at "l2"
      refine s_fldAt (s04.get hp) T.C_Net T.n_Net_sum_order rfl ?_
      walk_at "l2"
      intro D5 H5 f5 s5 e5
      refine s_cat (s5.get e4) e5 (by rw [List.length_append, List.length_map, List.length_map, List.length_map, List.length_map, sizeLine_eq]; omega) fun D6 H6 f6 s6 e6 => ?_
      have en : N.ins ++ qs.map (·.2.1) ++ od = need N od := by unfold need; rw [← kp.et, List.map_map]; rfl
      rw [← List.map_append, ← List.map_append, en] at e6
      have s06 := s04.trans s5
      exact q D6 H6 (s06.free f6) (s06.trans s6) e6
end
section
variable {P : Program} {w : World} {K : PySem.W.Frag} {mg : Str → Option Value} {base : Heap} {a : Ad}
local macro_rules | `(tactic| walk_at "l2step") => `(tactic| first | ((with_reducible refine' c_whole ?e ?_); (case e => walk_at "l2kind")) | ((with_reducible refine' c_mask ?e ?_); (case e => walk_at "l2kind")) | (with_reducible refine s_iEnumT ?_) | (with_reducible refine s_methX ?_))
theorem ok_turn_bits (T : Tx K mg a) : FnOk P w K mg base CX0 4 a.f_turn_bits a.d_turn_bits ["net", "row", "state"] (sp_tbits (NAof a)) := by
  have G_Net_names_by_need := ok_Net_names_by_need (P := P) (w := w) (base := base) T
  have G_Net_wire_of := ok_Net_wire_of (P := P) (w := w) (base := base) T
  have G_InWire_bit := ok_InWire_bit (P := P) (w := w) (base := base) T
  have G_SumWire_bit := ok_SumWire_bit (P := P) (w := w) (base := base) T
  have G_StoreWire_bit := ok_StoreWire_bit (P := P) (w := w) (base := base) T
  refine T.F_turn_bits.ok sc_turn_bits (fun vs H Q E h => ?_) (fun cdv A outer s H vs Q E hr h => ?_)
  · obtain ⟨p, N, od, row, st, rfl, _⟩ := h; rfl
  · obtain ⟨p, N, od, row, st, rfl, na, q⟩ := h
    have hu := hu_of hr
    obtain ⟨dx, i, s, t, o, d, tq, rs, qs, ws, hp, kp, wi, eq⟩ := na.ho
    have g := na.g
    have tp := na.tp
    have nl := need_len g tp
    refine ⟨_, ((pss_cons (ps_set (i := 3) sc_turn_bits.nd rfl (by first | exact Or.inl rfl | exact Or.inr rfl) pe_dnewK)
      (pss_cons (ps_for PassesOwn.never rfl (pi_listK (K := K) rfl (pe_meth0 (pv 0) T.C_Net T.m_Net_names_by_need G_Net_names_by_need (hr.mono (by decide)) T.b_Net_names_by_need .nil pass0)) (pg_name (i := 4) sc_turn_bits.nd rfl (by first | exact Or.inl rfl | exact Or.inr rfl)) (pss_one (ps_dput hu (pv 3) (pv 4) (PE.or (pe_meth (pe_meth (pv 0) T.C_Net T.m_Net_wire_of G_Net_wire_of (hr.mono (by decide)) T.b_Net_wire_of .nil pass0 (pa_cons (pv 4) pa_nil)) T.C_InWire T.m_InWire_bit G_InWire_bit (hr.mono (by decide)) T.b_InWire_bit .nil pass0 (pa_cons (pv 3) (pa_cons (pv 1) (pa_cons (pv 2) pa_nil)))) (PE.or (pe_meth (pe_meth (pv 0) T.C_Net T.m_Net_wire_of G_Net_wire_of (hr.mono (by decide)) T.b_Net_wire_of .nil pass0 (pa_cons (pv 4) pa_nil)) T.C_SumWire T.m_SumWire_bit G_SumWire_bit (hr.mono (by decide)) T.b_SumWire_bit .nil pass0 (pa_cons (pv 3) (pa_cons (pv 1) (pa_cons (pv 2) pa_nil)))) (pe_meth (pe_meth (pv 0) T.C_Net T.m_Net_wire_of G_Net_wire_of (hr.mono (by decide)) T.b_Net_wire_of .nil pass0 (pa_cons (pv 4) pa_nil)) T.C_StoreWire T.m_StoreWire_bit G_StoreWire_bit (hr.mono (by decide)) T.b_StoreWire_bit .nil pass0 (pa_cons (pv 3) (pa_cons (pv 1) (pa_cons (pv 2) pa_nil)))))) rfl)))
      (pss_one (ps_ret (pv 3)))))), s_start (σ' := [some _, some _, some _, none, none]) rfl ?_⟩
    walk_at "l2"
    intro Db H1 f1 s1 e1
    have hp1 := s1.get hp
    walk_at "l2"
    refine s_methAt hp1 rfl ?_
    walk_at "l2"
    refine ⟨p, N, od, rfl, na.same s1, fun D2 H2 f2 s2 e2 => ?_⟩
    have s02 := s1.trans s2
    walk_at "l2"
    refine for_list (xs := (need N od).map V.str) (fun i σ H' => ∃ v f, σ = [some (.ref p), some (nat row), some (nat st), some (.ref Db), v] ∧ Same H H' ∧ H' D2 = some (.lst ((need N od).map V.str)) ∧ H' Db = some (.dK (bitK f ((need N od).take i))) ∧ Pre N row st ((need N od).take i) f) ⟨none, fun _ => false, rfl, s02, e2, s2.get e1, Pre.nil ..⟩ (fun i σ H' _ ⟨_, _, _, _, e', _⟩ => SqL.of e') ?_ ?_
    · rintro i y σ H' hy ⟨v, f, rfl, s', eD, eb, pr⟩
      obtain ⟨z, hz, rfl⟩ := get_map hy
      have hlt := (List.getElem?_eq_some_iff.mp hz).1
      have hzn := (need_mem g tp z).mp (List.mem_of_getElem? hz)
      have hp' := s'.get hp
      have na' := na.same s'
      obtain ⟨nd1, nd2, nd3, x1, x2, x3⟩ := nd_parts g
      have hnot := not_ahead g tp hz
      have fin : ∀ (b : Bool) (H4 H5 : Hp), Same H' H4 → Upd H4 H5 Db (.dK (putK (bitK f ((need N od).take i)) (Sum.inr z) (nat (M.bn b)))) → Bt N row st ((need N od).take i) f z b → ∃ f', Same H H5 ∧ H5 D2 = some (.lst ((need N od).map V.str)) ∧ H5 Db = some (.dK (bitK f' ((need N od).take (i + 1)))) ∧ Pre N row st ((need N od).take (i + 1)) f' := fun b H4 H5 s4 u5 bt => by
        have ek : putK (bitK f ((need N od).take i)) (Sum.inr z) (nat (M.bn b)) = bitK (fun y => if y = z then b else f y) ((need N od).take (i + 1)) := by
          rw [put_new (bitK_keys f _) hnot, take_succ hz]
          unfold bitK
          rw [List.map_append]
          congr 1
          · exact List.map_congr_left fun y hy => by show (_, nat (M.bn (f y))) = (_, nat (M.bn (if y = z then b else f y))); rw [if_neg (fun (e : y = z) => hnot (e ▸ hy))]
          · show [(_, nat (M.bn b))] = [(_, nat (M.bn (if z = z then b else f z)))]; rw [if_pos rfl]
        rw [ek] at u5
        refine ⟨_, fun bb o e => u5.oth _ _ (ne_of_none e f1) (s4.get (s'.get e)), u5.oth _ _ (ne_of (s4.get eD) (s4.get eb) fun z => by cases z) (s4.get eD), u5.at', by rw [take_succ hz]; exact pr.step hnot bt⟩
      have lk : (bitK f ((need N od).take i)).length ≤ 1000 := by unfold bitK; rw [List.length_map, List.length_take]; omega
      walk_at "l2"
      have hzn' := hzn
      unfold Nt.names at hzn'
      rcases List.mem_append.mp hzn' with h' | h'
      · rcases List.mem_append.mp h' with h' | h'
        · refine Or.inl ?_
          walk_at "l2"
          refine s_methAt hp' rfl ?_
          walk_at "l2"
          refine ⟨p, N, od, z, rfl, na', hzn, fun w H3 s3 wb => ?_⟩
          have eb3 := s3.get eb
          cases wb with
          | i k dx' hk e =>
            walk_at "l2"
            refine s_methAt e rfl ?_
            walk_at "l2"
            refine ⟨w, dx', .str z, (k : Int), .ref Db, (row : Int), (st : Int), rfl, e, by omega, ?_⟩
            rw [bit_test', show (if row.testBit k = true then (1 : Int) else 0) = ((M.bn (row.testBit k) : Nat) : Int) by unfold M.bn; cases row.testBit k <;> rfl]
            walk_at "l2"
            refine s_dputS eb3 (small1000 lk) fun H5 u5 => ?_
            obtain ⟨f', a1, a2, a3, a4⟩ := fin (row.testBit k) H3 H5 s3 u5 (bt_in g hk)
            walk_at "l2"
            exact ⟨_, f', rfl, a1, a2, a3, a4⟩
          | s ws' dx' tw hk e et => exact absurd (List.mem_map.mpr ⟨_, hk, rfl⟩) (x1 z h')
          | t k y dx' hk e => exact absurd (List.mem_map.mpr ⟨_, List.mem_of_getElem? hk, rfl⟩) (x2 z h')
        · refine Or.inr (Or.inl ?_)
          walk_at "l2"
          refine s_methAt hp' rfl ?_
          walk_at "l2"
          refine ⟨p, N, od, z, rfl, na', hzn, fun w H3 s3 wb => ?_⟩
          have eb3 := s3.get eb
          cases wb with
          | i k dx' hk e => exact absurd h' (x1 z (List.mem_of_getElem? hk))
          | s ws' dx' tw hk e et =>
            have hat := need_at g tp hz ws' hk
            walk_at "l2"
            refine s_methAt e rfl ?_
            walk_at "l2"
            refine ⟨w, dx', .str z, tw, Db, ws', _, fun y => ((M.bn (f y) : Nat) : Int), (row : Int), (st : Int), rfl, e, SqT.of et, eb3, fun y hy => val_bitK f (hat y hy), ?_⟩
            rw [fold_xb]
            walk_at "l2"
            refine s_dputS eb3 (small1000 lk) fun H5 u5 => ?_
            obtain ⟨f', a1, a2, a3, a4⟩ := fin (xb f ws') H3 H5 s3 u5 (bt_sum g hk hat)
            walk_at "l2"
            exact ⟨_, f', rfl, a1, a2, a3, a4⟩
          | t k y dx' hk e => exact absurd (List.mem_map.mpr ⟨_, List.mem_of_getElem? hk, rfl⟩) (x3 z h')
      · refine Or.inr (Or.inr ?_)
        walk_at "l2"
        refine s_methAt hp' rfl ?_
        walk_at "l2"
        refine ⟨p, N, od, z, rfl, na', hzn, fun w H3 s3 wb => ?_⟩
        have eb3 := s3.get eb
        cases wb with
        | i k dx' hk e => exact absurd h' (x2 z (List.mem_of_getElem? hk))
        | s ws' dx' tw hk e et => exact absurd h' (x3 z (List.mem_map.mpr ⟨_, hk, rfl⟩))
        | t k y dx' hk e =>
          walk_at "l2"
          refine s_methAt e rfl ?_
          walk_at "l2"
          refine ⟨w, dx', .str z, .str y, (k : Int), .ref Db, (row : Int), (st : Int), rfl, e, by omega, ?_⟩
          rw [bit_test', show (if st.testBit k = true then (1 : Int) else 0) = ((M.bn (st.testBit k) : Nat) : Int) by unfold M.bn; cases st.testBit k <;> rfl]
          walk_at "l2"
          refine s_dputS eb3 (small1000 lk) fun H5 u5 => ?_
          obtain ⟨f', a1, a2, a3, a4⟩ := fin (st.testBit k) H3 H5 s3 u5 (bt_st g hk)
          walk_at "l2"
          exact ⟨_, f', rfl, a1, a2, a3, a4⟩
    · rintro σ H' ⟨v, f, rfl, s', eD, eb, pr⟩
      rw [List.length_map, List.take_length] at eb pr
      walk_at "l2"
      exact q Db H' f f1 s' eb (pre_val g tp pr)
end
section
variable {P : Program} {w : World} {K : PySem.W.Frag} {mg : Str → Option Value} {base : Heap} {a : Ad}
local macro_rules | `(tactic| walk_at "l2step") => `(tactic| first | ((with_reducible refine' c_whole ?e ?_); (case e => walk_at "l2kind")) | ((with_reducible refine' c_mask ?e ?_); (case e => walk_at "l2kind")) | (with_reducible refine s_iEnumT ?_) | (with_reducible refine s_methX ?_))
theorem ok_mask_at (T : Tx K mg a) : FnOk P w K mg base CX0 2 a.f_mask_at a.d_mask_at ["wires", "bits"] sp_maskat := by
  have G_mask_of := ok_mask_of (P := P) (w := w) (base := base) T
  refine T.F_mask_at.ok sc_mask_at (fun vs H Q E h => ?_) (fun cdv A outer s H vs Q E hr h => ?_)
  · obtain ⟨l, d, ws, zs, f, rfl, _⟩ := h; rfl
  · obtain ⟨l, d, ws, zs, f, rfl, hl, hd, ln, sub, q⟩ := h
    have hu := hu_of hr
    refine ⟨_, ((pss_one (ps_ret (pe_call G_mask_of (hr.mono (by decide)) (by rfl) T.g_mask_of T.k_mask_of T.b_mask_of .nil pass0 (pa_cons (pe_comp (osc := defScope s_mask_at) (ON := ["wires", "bits"]) (N := ["place", "wire", "bits"]) (n := 2) (fx := [1]) rfl rfl rfl (by decide +kernel) (pi_enumT (K := K) rfl (by rfl) T.n_enumerate (pv 0)) (gk_tup (gks_cons (gk_name (by decide)) (gks_cons (gk_name (by decide)) gks_nil))) (fun _ _ _ _ _ => ⟨(pg_tupK (K := K) (n := 2) rfl rfl (pgs_cons (pg_name (i := 0) (show List.Nodup (["place", "wire", "bits"] : List Str) from by decide +kernel) rfl (by first | exact Or.inl rfl | exact Or.inr rfl)) (pgs_cons (pg_name (i := 1) (show List.Nodup (["place", "wire", "bits"] : List Str) from by decide +kernel) rfl (by first | exact Or.inl rfl | exact Or.inr rfl)) pgs_nil))), (pts_one (pt_cmpR op_eq (pe_dget hu (pv 2) (pv 1) (fun _ _ => rfl)) pe_int (nomark _))), (pv 0)⟩)) pa_nil))))), s_start (σ' := [some _, some _]) rfl ?_⟩
    walk_at "l2"
    refine .inl ⟨⟨_, SqL.of hl⟩, ?_⟩
    intro D hD
    refine comp_enumL (xs := ws.map V.str) (fun i ys H' => ys = ((List.range i).filter fun k => f (ws.getD k "")).map nat ∧ Same H H' ∧ H' D = some (.lst ys)) ⟨rfl, same_new hD, upd_same⟩ (fun i ys H' _ ⟨_, s', _⟩ => SqL.of (s'.get hl)) (fun i x ys H' pz H2 hx ⟨ey, s', e'⟩ fp s2 e2 => ?_) (fun ys H' ⟨ey, s', e'⟩ => ?_)
    · obtain ⟨z, hz, rfl⟩ := get_map hx
      have hlt := (List.getElem?_eq_some_iff.mp hz).1
      have gz : ws.getD i "" = z := by rw [List.getD_eq_getElem?_getD, hz]; rfl
      have fs : (List.range (i + 1)).filter (fun k => f (ws.getD k "")) = (List.range i).filter (fun k => f (ws.getD k "")) ++ (if f z = true then [i] else []) := by rw [List.range_succ, List.filter_append, List.filter_cons, gz]; rfl
      have e2' := s2.get e'
      walk_at "l2"
      refine s_dgetS (s2.get (s'.get hd)) (val_bitK f (sub z (List.mem_of_getElem? hz))) ?_
      cases hf : f z with
      | true =>
        walk_at "l2"
        refine ⟨e2', ?_, ?_, fun b o e => ?_, upd_same⟩
        · rw [ey, List.length_map]
          have := List.length_filter_le (fun k => f (ws.getD k "")) (List.range i)
          rw [List.length_range] at this
          exact small1000 (by omega)
        · rw [fs, hf, ey]; simp
        · rw [upd_ne (ne_of_none e hD)]; exact s2.get (s'.get e)
      | false =>
        walk_at "l2"
        refine ⟨?_, s'.trans s2, e2'⟩
        rw [fs, hf, ey]; simp
    · rw [List.length_map] at ey
      rw [ey] at e'
      walk_at "l2"
      refine ⟨D, _, rfl, e', fun k hk => ?_, ?_⟩
      · have := List.mem_range.mp (List.mem_filter.mp hk).1
        omega
      · rw [mat_xm]
        exact q H' s'
theorem run_f0 : (∀ (v : V) (r : List (Str × V)), ([] : List (Str × V)) ≠ (("name" : Str), v) :: r) ∧ ∀ (v : V) (r : List (Str × V)), ([] : List (Str × V)) ≠ (("ins" : Str), v) :: r := ⟨fun _ _ h => (by cases h), fun _ _ h => (by cases h)⟩
theorem run_f1 (x : V) (fs : List (Str × V)) : (∀ (v : V) (r : List (Str × V)), (("net" : Str), x) :: fs ≠ (("name" : Str), v) :: r) ∧ ∀ (v : V) (r : List (Str × V)), (("net" : Str), x) :: fs ≠ (("ins" : Str), v) :: r :=
  ⟨fun _ _ h => (by injection h with h _; injection h with h _; exact absurd h (by decide)), fun _ _ h => (by injection h with h _; injection h with h _; exact absurd h (by decide))⟩
theorem ok_Run___init__ (T : Tx K mg a) : FnOk P w K mg base CX0 1 a.f_Run___init__ a.d_Run___init__ ["self", "net"] (sp_runinit (NAof a) a.c_Run) := by
  refine T.F_Run___init__.ok sc_Run___init__ (fun vs H Q E h => ?_) (fun cdv A outer s H vs Q E hr h => ?_)
  · obtain ⟨x, dx, n, N, od, rfl, _⟩ := h; rfl
  · obtain ⟨x, dx, n, N, od, rfl, hx, na, q⟩ := h
    refine ⟨_, ((pss_cons (ps_fldK (K := K) rfl (pv 0) (pv 1) rfl)
      (pss_cons (ps_fldK (K := K) rfl (pv 0) pe_int rfl)
      (pss_cons (ps_fldK (K := K) rfl (pv 0) pe_dnewK rfl)
      (pss_one (ps_fldK (K := K) rfl (pv 0) (pe_lst pa_nil) rfl)))))), s_start (σ' := [some _, some _]) rfl ?_⟩
    walk_at "l2"
    refine s_setAt hx T.C_Run T.n_Run_net (by show 0 < 1000; decide) rfl fun H1 u1 => ?_
    walk_at "l2"
    refine s_setAt u1.at' T.C_Run T.n_Run_held (by show 1 < 1000; decide) rfl fun H2 u2 => ?_
    have u12 := u1.trans u2
    walk_at "l2"
    intro d H3 f3 s3 e3
    walk_at "l2"
    refine s_setAt (s3.get u12.at') T.C_Run T.n_Run_bits (by show 2 < 1000; decide) rfl fun H4 u4 => ?_
    walk_at "l2"
    intro l H5 f5 s5 e5
    walk_at "l2"
    refine s_setAt (s5.get u4.at') T.C_Run T.n_Run_given (by show 3 < 1000; decide) rfl fun H6 u6 => ?_
    walk_at "l2"
    have k6 : Kx x H H6 := (Kx.upd u12).trans ((Kx.same s3).trans ((Kx.upd u4).trans ((Kx.same s5).trans (Kx.upd u6))))
    have hlx : l ≠ x := fun z => (by rw [z, u4.at'] at f5; cases f5)
    have hln : H l = none := by
      cases e : H l with
      | none => rfl
      | some o =>
        have := u4.oth _ _ hlx (s3.get (u12.oth _ _ hlx e))
        rw [f5] at this; cases this
    exact q H6 l k6 hln ⟨⟨dx, d, u6.at'⟩, u6.oth _ _ hlx e5, na.keep hx run_f0 k6⟩
theorem ok_Run_state (T : Tx K mg a) : FnOk P w K mg base CX0 1 a.f_Run_state a.d_Run_state ["self"] (sp_rstate (NAof a) a.c_Run) := by
  refine T.F_Run_state.ok sc_Run_state (fun vs H Q E h => ?_) (fun cdv A outer s H vs Q E hr h => ?_)
  · obtain ⟨p, l, n, N, od, st, as, rfl, _⟩ := h; rfl
  · obtain ⟨p, l, n, N, od, st, as, rfl, ra, q⟩ := h
    obtain ⟨dx, d, hp⟩ := ra.ho
    refine ⟨_, ((pss_one (ps_ret (pe_fldK (K := K) rfl (pv 0) rfl)))), s_start (σ' := [some _]) rfl ?_⟩
    walk_at "l2"
    refine s_fldAt hp T.C_Run T.n_Run_held rfl ?_
    walk_at "l2"
    exact q
theorem ok_Run_answered (T : Tx K mg a) : FnOk P w K mg base CX0 1 a.f_Run_answered a.d_Run_answered ["self"] (sp_ransw (NAof a) a.c_Run) := by
  refine T.F_Run_answered.ok sc_Run_answered (fun vs H Q E h => ?_) (fun cdv A outer s H vs Q E hr h => ?_)
  · obtain ⟨p, l, n, N, od, st, as, rfl, _⟩ := h; rfl
  · obtain ⟨p, l, n, N, od, st, as, rfl, ra, q⟩ := h
    obtain ⟨dx, d, hp⟩ := ra.ho
    have hl := ra.hl
    refine ⟨_, ((pss_one (ps_ret (pe_callTy (call_listK (K := K) rfl) (by rfl) T.n_list PyProof.Rows.boot_list (pa_cons (pe_fldK (K := K) rfl (pv 0) rfl) pa_nil))))), s_start (σ' := [some _]) rfl ?_⟩
    walk_at "l2"
    refine s_fldAt hp T.C_Run T.n_Run_given rfl ?_
    walk_at "l2"
    exact q
theorem ok_Run_step (T : Tx K mg a) : FnOk P w K mg base CX0 5 a.f_Run_step a.d_Run_step ["self", "row"] (sp_rstepB (NAof a) a.c_Run) := by
  have G_is_mask := ok_is_mask (P := P) (w := w) (base := base) T
  have G_Net_in_names := ok_Net_in_names (P := P) (w := w) (base := base) T
  have G_Net_out_wires := ok_Net_out_wires (P := P) (w := w) (base := base) T
  have G_Net_store_rows := ok_Net_store_rows (P := P) (w := w) (base := base) T
  have G_turn_bits := ok_turn_bits (P := P) (w := w) (base := base) T
  have G_mask_at := ok_mask_at (P := P) (w := w) (base := base) T
  refine T.F_Run_step.ok sc_Run_step (fun vs H Q E h => ?_) (fun cdv A outer s H vs Q E hr h => ?_)
  · obtain ⟨p, l, n, N, od, st, row, as, rfl, _⟩ := h; rfl
  · obtain ⟨p, l, n, N, od, st, row, as, rfl, ra, hrow, las, q⟩ := h
    obtain ⟨dx, d, hp⟩ := ra.ho
    have hl := ra.hl
    have na := ra.na
    have g := na.g
    have tp := na.tp
    have hlp : l ≠ p := ne_of hl hp fun z => by cases z
    obtain ⟨dxn, ni, ns, nt, no, nd, ntq, nrs, nqs, nws, hn, _⟩ := na.ho
    refine ⟨_, ((pss_cons (ps_if (pt_not (pt_val (pe_call G_is_mask (hr.mono (by decide)) (by rfl) T.g_is_mask T.k_is_mask T.b_is_mask .nil pass0 (pa_cons (pv 1) (pa_cons (pe_callB (call_lenK (K := K) rfl) (by rfl) T.n_len PySem.boot_len (pa_cons (pe_meth0 (pe_fldK (K := K) rfl (pv 0) rfl) T.C_Net T.m_Net_in_names G_Net_in_names (hr.mono (by decide)) T.b_Net_in_names .nil pass0) pa_nil)) pa_nil))))) (pss_one ps_dead) pss_nil)
      (pss_cons (ps_fldK (K := K) rfl (pv 0) (pe_call G_turn_bits (hr.mono (by decide)) (by rfl) T.g_turn_bits T.k_turn_bits T.b_turn_bits .nil pass0 (pa_cons (pe_fldK (K := K) rfl (pv 0) rfl) (pa_cons (pv 1) (pa_cons (pe_fldK (K := K) rfl (pv 0) rfl) pa_nil)))) rfl)
      (pss_cons (ps_fldK (K := K) rfl (pv 0) (pe_call G_mask_at (hr.mono (by decide)) (by rfl) T.g_mask_at T.k_mask_at T.b_mask_at .nil pass0 (pa_cons (pe_comp (osc := defScope s_Run_step) (ON := ["self", "row", "answer"]) (N := ["store"]) (n := 1) (fx := []) rfl rfl rfl (by decide +kernel) (pi_listK (K := K) rfl (pe_meth0 (pe_fldK (K := K) rfl (pv 0) rfl) T.C_Net T.m_Net_store_rows G_Net_store_rows (hr.mono (by decide)) T.b_Net_store_rows .nil pass0)) (gk_name (by decide)) (fun _ _ _ _ _ => ⟨(pg_name (i := 0) (show List.Nodup (["store"] : List Str) from by decide +kernel) rfl (by first | exact Or.inl rfl | exact Or.inr rfl)), pts_nil, (pe_ix (ix_tupK (K := K) rfl) (pv 0) pe_int (fun _ _ => rfl))⟩)) (pa_cons (pe_fldK (K := K) rfl (pv 0) rfl) pa_nil))) rfl)
      (pss_cons (ps_set (i := 2) sc_Run_step.nd rfl (by first | exact Or.inl rfl | exact Or.inr rfl) (pe_call G_mask_at (hr.mono (by decide)) (by rfl) T.g_mask_at T.k_mask_at T.b_mask_at .nil pass0 (pa_cons (pe_meth0 (pe_fldK (K := K) rfl (pv 0) rfl) T.C_Net T.m_Net_out_wires G_Net_out_wires (hr.mono (by decide)) T.b_Net_out_wires .nil pass0) (pa_cons (pe_fldK (K := K) rfl (pv 0) rfl) pa_nil))))
      (pss_cons (ps_expr (pe_bmK (K := K) rfl PySem.F.plainAttrs_list PySem.F.slot_list_append PySem.F.type_list_append mt_append (pe_fldK (K := K) rfl (pv 0) rfl) (pa_cons (pv 2) pa_nil)))
      (pss_one (ps_ret (pv 2))))))))), s_start (σ' := [some _, some _, none]) rfl ?_⟩
    walk_at "l2"
    refine s_fldAt hp T.C_Run T.n_Run_net rfl ?_
    walk_at "l2"
    refine s_methAt hn rfl ?_
    walk_at "l2"
    refine ⟨n, N, od, rfl, na, fun D1 H1 f1 s1 e1 => ?_⟩
    have hp1 := s1.get hp
    walk_at "l2"
    rw [List.length_map, maskB_nat hrow]
    walk_at "l2"
    refine s_fldAt hp1 T.C_Run T.n_Run_net rfl ?_
    walk_at "l2"
    refine s_fldAt hp1 T.C_Run T.n_Run_held rfl ?_
    walk_at "l2"
    refine ⟨n, N, od, row, st, rfl, na.same s1, fun db H2 f f2 s2 e2 vl => ?_⟩
    have s02 := s1.trans s2
    have hp2 := s02.get hp
    walk_at "l2"
    refine s_setAt hp2 T.C_Run T.n_Run_bits (by show 4 < 1000; decide) rfl fun H3 u3 => ?_
    have hp3 := u3.at'
    have k3 : Kx p H H3 := (Kx.same s02).trans (Kx.upd u3)
    have na3 := na.keep hp (run_f1 _ _) k3
    have hl3 := k3 _ _ hlp hl
    have hnp : n ≠ p := fun z => by
      rw [z, hp] at hn
      injection hn with hn
      injection hn with _ _ hn
      exact (run_f1 _ _).2 _ _ hn
    have hn3 := k3 _ _ hnp hn
    have eb3 := u3.oth _ _ (ne_of e2 hp2 fun z => by cases z) e2
    walk_at "l2"
    refine s_fldAt hp3 T.C_Run T.n_Run_net rfl ?_
    walk_at "l2"
    refine s_methAt hn3 rfl ?_
    walk_at "l2"
    refine ⟨n, N, od, rfl, na3, fun D4 H4 qs f4 s4 e4 qk et => ?_⟩
    have lqs : qs.length ≤ 16 := by have := g.lt; rw [← et, List.length_map] at this; exact this
    walk_at "l2"
    intro D5 hD5
    refine comp_list (xs := qs.map fun r => V.ref r.1) (fun i ys H' => Cs (fun i ys => ys = ((qs.take i).map (·.2.2)).map V.str) H4 D5 i ys H') (Cs.zero hD5 rfl) (fun i ys H' _ c => SqL.of (c.same.get e4)) (fun i x ys H' hx c => ?_) (fun ys H5 c => ?_)
    · obtain ⟨r, hr', rfl⟩ := get_map hx
      have hlt := (List.getElem?_eq_some_iff.mp hr').1
      have er := c.same.get (qk r (List.mem_of_getElem? hr'))
      walk_at "l2"
      refine Cs.put hD5 c.same c.at' c.len (by omega) ?_
      rw [c.pv, take_succ hr', List.map_append, List.map_append]; rfl
    · have e5 := c.at'
      rw [c.pv, List.length_map, List.take_length] at e5
      have s35 := s4.trans c.same
      clear c
      have ews : qs.map (·.2.2) = N.sts.map (·.2) := by rw [← et, List.map_map]; rfl
      rw [ews] at e5
      have hp5 := s35.get hp3
      walk_at "l2"
      refine s_fldAt hp5 T.C_Run T.n_Run_bits rfl ?_
      walk_at "l2"
      refine ⟨D5, db, _, need N od, f, rfl, e5, s35.get eb3, by rw [List.length_map, ← et, List.length_map]; omega, fun w hw => (need_mem g tp w).mpr (by obtain ⟨q', hq', rfl⟩ := List.mem_map.mp hw; exact g.ts q' hq'), fun H6 s6 => ?_⟩
      rw [nst_eq g tp vl]
      have s36 := s35.trans s6
      have hp6 := s36.get hp3
      walk_at "l2"
      refine s_setAt hp6 T.C_Run T.n_Run_held (by show 4 < 1000; decide) rfl fun H7 u7 => ?_
      have hp7 := u7.at'
      have k37 : Kx p H3 H7 := (Kx.same s36).trans (Kx.upd u7)
      have k7 : Kx p H H7 := k3.trans k37
      have na7 := na.keep hp (run_f1 _ _) k7
      have hl7 := k7 _ _ hlp hl
      have hn7 := k7 _ _ hnp hn
      have eb7 := k37 _ _ (ne_of eb3 hp3 fun z => by cases z) eb3
      clear u7 hp6 s36 s6 hp5 e5 hD5 s35 e4 qk et f4 s4 hn3 na3 hl3 k37 eb3 hp3
      walk_at "l2"
      refine s_fldAt hp7 T.C_Run T.n_Run_net rfl ?_
      walk_at "l2"
      refine s_methAt hn7 rfl ?_
      walk_at "l2"
      refine ⟨n, N, od, rfl, na7, fun D8 H8 f8 s8 e8 => ?_⟩
      have hp8 := s8.get hp7
      walk_at "l2"
      refine s_fldAt hp8 T.C_Run T.n_Run_bits rfl ?_
      walk_at "l2"
      have lo := g.lo
      refine ⟨D8, db, N.outs, need N od, f, rfl, e8, s8.get eb7, by omega, fun w hw => (need_mem g tp w).mpr (g.os w hw), fun H9 s9 => ?_⟩
      rw [nan_eq g tp vl]
      have s79 := s8.trans s9
      have hp9 := s79.get hp7
      have hl9 := s79.get hl7
      walk_at "l2"
      refine s_fldAt hp9 T.C_Run T.n_Run_given rfl ?_
      walk_at "l2"
      refine s_append hl9 (by rw [List.length_map, sizeLine_eq]; omega) fun H10 u10 => ?_
      walk_at "l2"
      refine q H10 db dx f (fun b ob n1 n2 e => u10.oth _ _ n2 (s79.get (k7 _ _ n1 e))) ⟨⟨dx, db, u10.oth _ _ hlp.symm hp9⟩, by rw [u10.at', List.map_append]; rfl, (na7.same s79).updL hl9 u10.oth⟩ (u10.oth _ _ hlp.symm hp9) (s1.free f2) (u10.oth _ _ (ne_of (s79.get eb7) hl9 fun z => by cases z) (s79.get eb7)) vl
theorem ok_answers_of (T : Tx K mg a) : FnOk P w K mg base CX0 6 a.f_answers_of a.d_answers_of ["net", "rows"] (sp_answof (NAof a)) := by
  have G_Run___init__ := ok_Run___init__ (P := P) (w := w) (base := base) T
  have G_Run_step := ok_Run_step (P := P) (w := w) (base := base) T
  have G_Run_answered := ok_Run_answered (P := P) (w := w) (base := base) T
  refine T.F_answers_of.ok sc_answers_of (fun vs H Q E h => ?_) (fun cdv A outer s H vs Q E hr h => ?_)
  · obtain ⟨n, r, N, od, rs, rfl, _⟩ := h; rfl
  · obtain ⟨n, r, N, od, rs, rfl, na, hrs, lrs, hb, q⟩ := h
    refine ⟨_, ((pss_cons (ps_set (i := 2) sc_answers_of.nd rfl (by first | exact Or.inl rfl | exact Or.inr rfl) (pe_make T.M_Run G_Run___init__ (hr.mono (by decide)) (by rfl) T.g_Run T.b_Run___init__ .nil pass0 (pa_cons (pv 0) pa_nil)))
      (pss_cons (ps_for PassesOwn.never rfl (pi_listK (K := K) rfl (pv 1)) (pg_name (i := 3) sc_answers_of.nd rfl (by first | exact Or.inl rfl | exact Or.inr rfl)) (pss_one (ps_expr (pe_meth (pv 2) T.C_Run T.m_Run_step G_Run_step (hr.mono (by decide)) T.b_Run_step .nil pass0 (pa_cons (pv 3) pa_nil)))))
      (pss_one (ps_ret (pe_meth0 (pv 2) T.C_Run T.m_Run_answered G_Run_answered (hr.mono (by decide)) T.b_Run_answered .nil pass0)))))), s_start (σ' := [some _, some _, none, none]) rfl ?_⟩
    walk_at "l2"
    intro x dx H1 f1 s1 e1
    refine ⟨x, dx, n, N, od, rfl, e1, na.same s1, fun H2 l k2 fl ra => ⟨rfl, ?_⟩⟩
    have s02 : Same H H2 := fun b ob e => k2 _ _ (ne_of_none e f1) (s1.get e)
    have fl0 : H l = none := s1.free fl
    walk_at "l2"
    refine for_list (xs := rs.map nat) (fun i σ H' => ∃ v, σ = [some (.ref n), some (.ref r), some (.ref x), v] ∧ Same H H' ∧ RunA (NAof a) H' a.c_Run x l n N od (rst N 0 (rs.take i)) (ran N 0 (rs.take i))) ⟨none, rfl, s02, ra⟩ (fun i σ H' _ ⟨_, _, s', _⟩ => SqL.of (s'.get hrs)) ?_ ?_
    · rintro i y σ H' hy ⟨v, rfl, s', ra'⟩
      obtain ⟨z, hz, rfl⟩ := get_map hy
      have hlt := (List.getElem?_eq_some_iff.mp hz).1
      obtain ⟨dx', d', hx'⟩ := ra'.ho
      walk_at "l2"
      refine s_methAt hx' rfl ?_
      walk_at "l2"
      refine ⟨x, l, n, N, od, _, z, _, rfl, ra', hb z (List.mem_of_getElem? hz), by rw [ran_len, List.length_take]; omega, fun H3 _ _ _ k3 ra3 _ _ _ _ => ?_⟩
      walk_at "l2"
      refine ⟨fun b ob e => k3 _ _ (ne_of_none e f1) (ne_of_none e fl0) (s'.get e), ?_⟩
      rw [take_succ hz, rst_snoc, ran_snoc]
      exact ra3
    · rintro σ H' ⟨v, rfl, s', ra'⟩
      rw [List.length_map, List.take_length] at ra'
      obtain ⟨dx', d', hx'⟩ := ra'.ho
      walk_at "l2"
      refine s_methAt hx' rfl ?_
      walk_at "l2"
      refine ⟨x, l, n, N, od, _, _, rfl, ra', fun D H3 f3 s3 e3 => ?_⟩
      exact q D H3 (s'.free f3) (s'.trans s3) e3
theorem ok_Run_wire_now (T : Tx K mg a) : FnOk P w K mg base CX0 4 a.f_Run_wire_now a.d_Run_wire_now ["self", "name"] (sp_wnow (NAof a) a.c_Run) := by
  have G_Net_wire_of := ok_Net_wire_of (P := P) (w := w) (base := base) T
  refine T.F_Run_wire_now.ok sc_Run_wire_now (fun vs H Q E h => ?_) (fun cdv A outer s H vs Q E hr h => ?_)
  · obtain ⟨p, l, n, d, dx, N, od, v, as, f, z, rfl, _⟩ := h; rfl
  · obtain ⟨p, l, n, d, dx, N, od, v, as, f, z, rfl, hp, na, hl, ne, hd, hz, q⟩ := h
    have hu := hu_of hr
    have g := na.g
    have tp := na.tp
    obtain ⟨dxn, ni, ns, nt, no, nd, ntq, nrs, nqs, nws, hn, _⟩ := na.ho
    have hpos : 0 < as.length := List.length_pos_iff.mpr ne
    refine ⟨_, ((pss_cons (ps_expr (pe_meth (pe_fldK (K := K) rfl (pv 0) rfl) T.C_Net T.m_Net_wire_of G_Net_wire_of (hr.mono (by decide)) T.b_Net_wire_of .nil pass0 (pa_cons (pv 1) pa_nil)))
      (pss_cons (ps_if (pt_cmpR op_eq (pe_callB (call_lenK (K := K) rfl) (by rfl) T.n_len PySem.boot_len (pa_cons (pe_fldK (K := K) rfl (pv 0) rfl) pa_nil)) pe_int (nomark _)) (pss_one ps_dead) pss_nil)
      (pss_one (ps_ret (pe_dget hu (pe_fldK (K := K) rfl (pv 0) rfl) (pv 1) (fun _ _ => rfl))))))), s_start (σ' := [some _, some _]) rfl ?_⟩
    walk_at "l2"
    refine s_fldAt hp T.C_Run T.n_Run_net rfl ?_
    walk_at "l2"
    refine s_methAt hn rfl ?_
    walk_at "l2"
    refine ⟨n, N, od, z, rfl, na, hz, fun w' H3 s3 wb => ?_⟩
    have hp3 := s3.get hp
    have hl3 := s3.get hl
    have hd3 := s3.get hd
    walk_at "l2"
    refine s_fldAt hp3 T.C_Run T.n_Run_given rfl ?_
    walk_at "l2"
    rw [if_neg (by simp only [decide_eq_true_eq, V.int.injEq]; omega)]
    walk_at "l2"
    refine s_fldAt hp3 T.C_Run T.n_Run_bits rfl ?_
    walk_at "l2"
    refine s_dgetS hd3 (val_bitK f ((need_mem g tp z).mpr hz)) ?_
    walk_at "l2"
    exact q H3 s3
end
section
variable {P : Program} {w : World} {K : PySem.W.Frag} {mg : Str → Option Value} {base : Heap} {a : Ad}
local macro_rules | `(tactic| walk_at "l2step") => `(tactic| first | ((with_reducible refine' c_whole ?e ?_); (case e => walk_at "l2kind")) | ((with_reducible refine' c_mask ?e ?_); (case e => walk_at "l2kind")) | (with_reducible refine s_iEnumT ?_) | (with_reducible refine s_methX ?_))
theorem ok__law_wires_right (T : Tx K mg a) : FnOk P w K mg base CX0 5 a.f__law_wires_right a.d__law_wires_right ["_law_run", "_law_bits_here"] (sp_lright (NAof a) a.c_Run) := by
  have G_Run_wire_now := ok_Run_wire_now (P := P) (w := w) (base := base) T
  refine T.F__law_wires_right.ok sc__law_wires_right (fun vs H Q E h => ?_) (fun cdv A outer s H vs Q E hr h => ?_)
  · obtain ⟨p, l, n, d, dx, D, N, od, v, as, f, ks, rfl, _⟩ := h; rfl
  · obtain ⟨p, l, n, d, dx, D, N, od, v, as, f, ks, rfl, hp, na, hl, ne, hd, hdD, hD, sub, q⟩ := h
    have hu := hu_of hr
    have hpD : p ≠ D := ne_of hp hD fun z => by cases z
    have hlD : l ≠ D := ne_of hl hD fun z => by cases z
    refine ⟨_, ((pss_cons (ps_for PassesOwn.never rfl (pi_dict (pv 1)) (pg_name (i := 2) sc__law_wires_right.nd rfl (by first | exact Or.inl rfl | exact Or.inr rfl)) (pss_cons (ps_set (i := 3) sc__law_wires_right.nd rfl (by first | exact Or.inl rfl | exact Or.inr rfl) (pe_meth (pv 0) T.C_Run T.m_Run_wire_now G_Run_wire_now (hr.mono (by decide)) T.b_Run_wire_now .nil pass0 (pa_cons (pv 2) pa_nil)))
      (pss_one (ps_if (PW.pt (pw_or (pt_not (pt_val (pe_callB (call_isiK (K := K) rfl) (by rfl) T.n_isinstance PyProof.Rows.boot_isinstance (pa_cons (pv 3) (pa_cons (pe_bltn (v := .ty "int") (by rfl) T.n_int PyProof.Rows.boot_int rfl) pa_nil))))) (pw_or (pt_val (pe_callB (call_isiK (K := K) rfl) (by rfl) T.n_isinstance PyProof.Rows.boot_isinstance (pa_cons (pv 3) (pa_cons (pe_bltn (v := .ty "bool") (by rfl) T.n_bool PyProof.Rows.boot_bool rfl) pa_nil)))) (pw_or1 (pt_cmpR op_ne (pv 3) (pe_dget hu (pv 1) (pv 2) (fun _ _ => rfl)) (nomark _)))))) (pss_one (ps_ret pe_bl)) pss_nil))))
      (pss_one (ps_ret pe_bl)))), s_start (σ' := [some _, some _, none, none]) rfl ?_⟩
    walk_at "l2"
    refine s_iDict ?_
    walk_at "l2"
    refine ⟨D, _, rfl, .inl hD, fun o H2 e2 k2 => ?_⟩
    have k02 : Kx D H H2 := fun b ob nb e => by rw [k2 b nb]; exact e
    refine for_dict (kvs := bitK f ks) (fun i σ H' => ∃ v2 v3, σ = [some (.ref p), some (.ref D), v2, v3] ∧ Kx D H H' ∧ H' D = some (.frz o (.dK (bitK f ks)))) ⟨none, none, rfl, k02, e2⟩ (fun i σ H' _ ⟨_, _, _, _, e⟩ => e) ?_ ?_
    · rintro i k v' σ H' hk ⟨v2, v3, rfl, k', e'⟩
      unfold bitK at hk
      rw [List.getElem?_map] at hk
      obtain ⟨z, hz, ez⟩ := Option.map_eq_some_iff.mp hk
      cases ez
      have hzk := List.mem_of_getElem? hz
      have hp' := k' _ _ hpD hp
      walk_at "l2"
      refine s_methAt hp' rfl ?_
      walk_at "l2"
      refine ⟨p, l, n, d, dx, N, od, v, as, f, z, rfl, hp', na _ k', k' _ _ hlD hl, ne, k' _ _ hdD hd, (sub z).mp hzk, fun H3 s3 => ?_⟩
      walk_at "l2"
      refine s_dgetSR (rd_frz (s3.get e')) (val_bitK f hzk) ?_
      walk_at "l2"
      refine s_ifF (by simp) ?_
      walk_at "l2"
      exact ⟨_, _, rfl, fun b ob nb e => s3.get (k' _ _ nb e), s3.get e'⟩
    · rintro σ H' ⟨v2, v3, rfl, k', e'⟩
      walk_at "l2"
      exact q _ k'
end
section
variable {P : Program} {w : World} {K : PySem.W.Frag} {mg : Str → Option Value} {base : Heap} {a : Ad}
theorem ok__law_cell (T : Tx K mg a) : FnOk P w K mg base CX0 1 a.f__law_cell a.d__law_cell ["_law_script", "_law_k"] (sp_cell2 K) := by
  refine T.F__law_cell.ok sc__law_cell (fun vs H Q E h => ?_) (fun cdv A outer s H vs Q E hr h => ?_)
  · obtain ⟨a, ns, k, rfl, _⟩ := h; rfl
  · obtain ⟨p, ns, k, rfl, hS, h0, q⟩ := h
    refine ⟨_, ((pss_cons (ps_if (pt_cmpR op_lt (pv 1) (pe_callB (call_lenK (K := K) rfl) (by rfl) T.n_len PySem.boot_len (pa_cons (pv 0) pa_nil)) (nomark _)) (pss_one (ps_ret (pe_ix (ix_listK (K := K) rfl) (pv 0) (pv 1) (fun _ _ => rfl)))) pss_nil)
      (pss_one (ps_ret (pe_op op_add (pe_op op_mul pe_int (pv 1)) pe_int))))), s_start (σ' := [some _, some _]) rfl ?_⟩
    walk_at "l2"
    rw [List.length_map]
    unfold cell at q
    refine ite2 (fun hc => ?_) (fun hc => ?_)
    · have hc := of_decide_eq_true hc
      have ha : atI (ns.map V.int) k = some (.int (ns.getD k.toNat 0)) := by
        obtain ⟨j, rfl⟩ := Int.eq_ofNat_of_zero_le h0
        have hj : j < ns.length := by omega
        exact atI_nat (by rw [List.getElem?_map, List.getElem?_eq_getElem hj, List.getD_eq_getElem?_getD, Int.toNat_natCast, List.getElem?_eq_getElem hj]; rfl)
      rw [if_pos hc] at q
      walk_at "l2"
      exact q
    · have hc : ¬ k < ns.length := fun z => hc (decide_eq_true z)
      rw [if_neg hc] at q
      walk_at "l2"
      exact q
theorem c_mixv {H : Hp} {Q : VK} {E : XK} {c k : Int} (h0 : 0 ≤ k) (h1 : k < 100000) (q : Q (.int (mixV c k)) H) : sp_mixv [.int c, .int k] H Q E := ⟨c, k, rfl, h0, h1, q⟩
local macro_rules | `(tactic| walk_at "l2step") => `(tactic| first | ((with_reducible refine' c_mixv ?a ?b ?_); (case a => walk_at "l2side"); (case b => walk_at "l2side")) | ((with_reducible refine' c_cell2 ?e ?a ?_); (case e => walk_at "l2hp"); (case a => walk_at "l2side")))
theorem ok__law_mix (T : Tx K mg a) : FnOk P w K mg base CX0 1 a.f__law_mix a.d__law_mix ["_law_cell_here", "_law_k"] sp_mixv := by
  refine T.F__law_mix.ok sc__law_mix (fun vs H Q E h => ?_) (fun cdv A outer s H vs Q E hr h => ?_)
  · obtain ⟨c, k, rfl, _⟩ := h; rfl
  · obtain ⟨c, k, rfl, h0, h1, q⟩ := h
    refine ⟨_, ((pss_cons (ps_set (i := 2) sc__law_mix.nd rfl (by first | exact Or.inl rfl | exact Or.inr rfl) (pe_op op_mod (pe_op op_add (pe_op op_add (pe_op op_mul (pe_op op_mod (pv 0) pe_int) pe_int) (pe_op op_mul pe_int (pv 1))) pe_int) pe_int))
      (pss_cons (ps_set (i := 2) sc__law_mix.nd rfl (by first | exact Or.inl rfl | exact Or.inr rfl) (pe_op op_mod (pe_op op_mul (pv 2) (pv 2)) pe_int))
      (pss_one (ps_ret (pe_op op_mod (pe_op op_mul (pv 2) (pe_op op_add (pe_op op_add (pv 2) (pe_op op_mul pe_int (pv 1))) pe_int)) pe_int)))))), s_start (σ' := [some _, some _, none]) rfl ?_⟩
    walk_at "l2"
    exact q
theorem ok__law_name (T : Tx K mg a) : FnOk P w K mg base CX0 2 a.f__law_name a.d__law_name ["_law_cell_here", "_law_k"] sp_lname24 := by
  have G__law_mix := ok__law_mix (P := P) (w := w) (base := base) T
  refine T.F__law_name.ok sc__law_name (fun vs H Q E h => ?_) (fun cdv A outer s H vs Q E hr h => ?_)
  · obtain ⟨c, k, rfl, _⟩ := h; rfl
  · obtain ⟨c, k, rfl, h0, h1, q⟩ := h
    have hk : decide (k < 40) = true := decide_eq_true h1
    refine ⟨_, ((pss_cons (ps_set (i := 2) sc__law_name.nd rfl (by first | exact Or.inl rfl | exact Or.inr rfl) pe_str)
      (pss_cons (ps_set (i := 3) sc__law_name.nd rfl (by first | exact Or.inl rfl | exact Or.inr rfl) pe_str)
      (pss_cons (ps_set (i := 3) sc__law_name.nd rfl (by first | exact Or.inl rfl | exact Or.inr rfl) (pe_op op_add_str (pv 3) pe_str))
      (pss_cons (ps_if (PW.pt (pw_and (pt_cmpR op_lt (pv 1) pe_int (nomark _)) (pw_and1 (pt_cmpR op_eq (pe_op op_mod (pe_call G__law_mix (hr.mono (by decide)) (by rfl) T.g__law_mix T.k__law_mix T.b__law_mix .nil pass0 (pa_cons (pv 0) (pa_cons pe_int pa_nil))) pe_int) pe_int (nomark _))))) (pss_one (ps_ret (pe_ix (ix_listK (K := K) rfl) (pe_bmK (K := K) rfl PySem.F.plainAttrs_str PySem.F.slot_str_split PySem.F.type_str_split mt_split (pv 3) (pa_cons pe_str pa_nil)) (pe_op op_mod (pe_op op_add (pv 1) (pe_call G__law_mix (hr.mono (by decide)) (by rfl) T.g__law_mix T.k__law_mix T.b__law_mix .nil pass0 (pa_cons (pv 0) (pa_cons pe_int pa_nil)))) pe_int) (fun _ _ => rfl)))) pss_nil)
      (pss_one (ps_ret (pe_op op_add_str (pe_ix ix_str (pv 2) (pe_op op_mod (pe_call G__law_mix (hr.mono (by decide)) (by rfl) T.g__law_mix T.k__law_mix T.b__law_mix .nil pass0 (pa_cons (pv 0) (pa_cons pe_int pa_nil))) pe_int) (fun _ _ => rfl)) (pe_callTy call_str_int (by rfl) T.n_str PyProof.Rows.boot_str (pa_cons (pe_op op_add (pe_op op_mod (pe_call G__law_mix (hr.mono (by decide)) (by rfl) T.g__law_mix T.k__law_mix T.b__law_mix .nil pass0 (pa_cons (pv 0) (pa_cons pe_int pa_nil))) pe_int) (pe_op op_mul pe_int (pv 1))) pa_nil)))))))))), s_start (σ' := [some _, some _, none, none]) rfl ?_⟩
    walk_at "l2"
    refine ⟨by decide +kernel, ?_⟩
    walk_at "l2"
    generalize hw : ((_ : Str) ++ _) = words
    have hw : words = words40 := hw.symm
    by_cases h2 : mixV c 402 % 2 = 0
    · refine s_ifT (decide_eq_true (by rw [h2])) ?_
      walk_at "l2"
      refine s_split (by decide +kernel) (by rw [hw]; decide +kernel) fun D H2 f2 s2 e2 => ?_
      have hm := Int.emod_lt_of_pos (k + mixV c 403) (show (0 : Int) < 40 by decide)
      have hm' := Int.emod_nonneg (k + mixV c 403) (show (40 : Int) ≠ 0 by decide)
      rw [hw] at e2
      have hat : atI (W40.map V.str) ((k + mixV c 403) % 40) = some (.str (nmf c k)) := by
        obtain ⟨j, hj⟩ := Int.eq_ofNat_of_zero_le hm'
        have lj : j < W40.length := by rw [W40_len]; omega
        unfold nmf
        rw [if_pos h2, hj]
        refine atI_nat ?_
        rw [List.getElem?_map, List.getD_eq_getElem?_getD, Int.toNat_natCast, List.getElem?_eq_getElem lj]; rfl
      have e2 : H2 D = some (.lst (W40.map V.str)) := e2
      walk_at "l2"
      exact q H2 s2
    · refine s_ifF (decide_eq_false fun z => h2 (V.int.inj z)) ?_
      have hm := Int.emod_lt_of_pos (mixV c 400) (show (0 : Int) < 26 by decide)
      have hm' := Int.emod_nonneg (mixV c 400) (show (26 : Int) ≠ 0 by decide)
      have hr1 := Int.emod_lt_of_pos (mixV c 401) (show (0 : Int) < 1000 by decide)
      have hr0 := Int.emod_nonneg (mixV c 401) (show (1000 : Int) ≠ 0 by decide)
      walk_at "l2"
      refine s_ixS (by decide +kernel) (letters_at _ hm' hm) ?_
      walk_at "l2"
      have hn : (mixV c 401 % 1000 + 37 * k).natAbs < 10 ^ 4 := by omega
      have hlog : (mixV c 401 % 1000 + 37 * k).natAbs.log2 < 1920 := by
        rcases Nat.eq_zero_or_pos (mixV c 401 % 1000 + 37 * k).natAbs with z | z
        · rw [z]; decide
        · exact (Nat.log2_lt (by omega)).mpr (Nat.lt_of_lt_of_le hn (Nat.le_trans (by decide : 10 ^ 4 ≤ 2 ^ 14) (Nat.pow_le_pow_right (by decide) (by decide))))
      have hlen := PyProof.Rows.int_text_len_1921 hlog
      refine ⟨hlog, ?_⟩
      walk_at "l2"
      refine ⟨by rw [sizeLine_eq]; have : (⟨#[97 + (mixV c 400 % 26).toNat]⟩ : Str).length = 1 := rfl
                 omega, ?_⟩
      have e : (mixV c 401 % 1000 + 37 * k) = (((mixV c 401 % 1000).toNat + 37 * k.toNat : Nat) : Int) := by omega
      have q' := q H (Same.refl _)
      unfold nmf at q'
      rw [if_neg h2] at q'
      rw [e]
      exact q'
end
section
variable {P : Program} {w : World} {K : PySem.W.Frag} {mg : Str → Option Value} {base : Heap} {a : Ad}
local macro_rules | `(tactic| walk_at "l2step") => `(tactic| first | ((with_reducible refine' c_mixv ?a ?b ?_); (case a => walk_at "l2side"); (case b => walk_at "l2side")) | ((with_reducible refine' c_cell2 ?e ?a ?_); (case e => walk_at "l2hp"); (case a => walk_at "l2side")))
theorem rep_strs {K : PySem.W.Frag} {H : Hp} {D : Addr} {ws : List Str} (h : H D = some (.lst (ws.map V.str))) : Rep K H (.ref D) (.lst (ws.map Dt.str)) := .lst (SqL.of h) (by rw [List.length_map, List.length_map]) (rep_items V.str Dt.str (fun z => .str z) ws)
theorem dep_strs : ∀ ws : List Str, depDs (ws.map Dt.str) = 0
  | [] => rfl
  | w :: ws => by rw [List.map_cons, depDs, dep_strs ws]; rfl
theorem eqD_nil (ws : List Str) : eqD (.lst (ws.map Dt.str)) (.lst []) = decide (ws = []) := by
  cases ws with
  | nil => rfl
  | cons w l => rw [decide_eq_false (by simp)]; rfl
theorem ok__law_wires (T : Tx K mg a) : FnOk P w K mg base CX0 2 a.f__law_wires a.d__law_wires ["_law_cell_here", "_law_start", "_law_names", "_law_digits"] sp_lwires := by
  have G__law_mix := ok__law_mix (P := P) (w := w) (base := base) T
  refine T.F__law_wires.ok sc__law_wires (fun vs H Q E h => ?_) (fun cdv A outer s H vs Q E hr h => ?_)
  · obtain ⟨c, st, l, zs, dg, rfl, _⟩ := h; rfl
  · obtain ⟨c, st, l, zs, dg, rfl, st0, st1, hl, ll, q⟩ := h
    have hu1 := room100 hr
    have elen : (((zs.map V.str).length : Nat) : Int) = (zs.length : Int) := by rw [List.length_map]
    refine ⟨_, ((pss_cons (ps_if (pt_val (pv 3)) (pss_cons (ps_set (i := 4) sc__law_wires.nd rfl (by first | exact Or.inl rfl | exact Or.inr rfl) (pe_op op_mod (pv 0) (pe_op op_pow (pe_op op_add (pe_callB (call_lenK (K := K) rfl) (by rfl) T.n_len PySem.boot_len (pa_cons (pv 2) pa_nil)) pe_int) pe_int)))
      (pss_cons (ps_set (i := 5) sc__law_wires.nd rfl (by first | exact Or.inl rfl | exact Or.inr rfl) (pe_lst pa_nil))
      (pss_cons (ps_for PassesOwn.never rfl (pi_range1 (by rfl) T.n_range (pa_cons pe_int pa_nil)) (pg_name (i := 6) sc__law_wires.nd rfl (by first | exact Or.inl rfl | exact Or.inr rfl)) (pss_cut (ps_if (pt_cmpR op_gt (pe_op op_mod (pv 4) (pe_op op_add (pe_callB (call_lenK (K := K) rfl) (by rfl) T.n_len PySem.boot_len (pa_cons (pv 2) pa_nil)) pe_int)) pe_int (nomark _)) (pss_one (ps_expr (pe_bmK (K := K) rfl PySem.F.plainAttrs_list PySem.F.slot_list_append PySem.F.type_list_append mt_append (pv 5) (pa_cons (pe_ix (ix_listK (K := K) rfl) (pv 2) (pe_op op_sub (pe_op op_mod (pv 4) (pe_op op_add (pe_callB (call_lenK (K := K) rfl) (by rfl) T.n_len PySem.boot_len (pa_cons (pv 2) pa_nil)) pe_int)) pe_int) (fun _ _ => rfl)) pa_nil)))) pss_nil)
      (pss_one (ps_set (i := 4) sc__law_wires.nd rfl (by first | exact Or.inl rfl | exact Or.inr rfl) (pe_op op_fdiv (pv 4) (pe_op op_add (pe_callB (call_lenK (K := K) rfl) (by rfl) T.n_len PySem.boot_len (pa_cons (pv 2) pa_nil)) pe_int))))))
      (pss_one (ps_ret (pv 5)))))) pss_nil)
      (pss_cons (ps_set (i := 7) sc__law_wires.nd rfl (by first | exact Or.inl rfl | exact Or.inr rfl) (pe_op op_mod (pe_call G__law_mix (hr.mono (by decide)) (by rfl) T.g__law_mix T.k__law_mix T.b__law_mix .nil pass0 (pa_cons (pv 0) (pa_cons (pv 1) pa_nil))) pe_int))
      (pss_one (ps_ret (pe_comp (osc := defScope s__law_wires) (ON := ["_law_cell_here", "_law_start", "_law_names", "_law_digits", "_law_left", "_law_found", "_law_k", "_law_many"]) (N := ["_law_k", "_law_names", "_law_cell_here", "_law_start"]) (n := 1) (fx := [2, 0, 1]) rfl rfl rfl (by decide +kernel) (pi_range1 (by rfl) T.n_range (pa_cons (pv 7) pa_nil)) (gk_name (by decide)) (fun _ _ _ _ _ => ⟨(pg_name (i := 0) (show List.Nodup (["_law_k", "_law_names", "_law_cell_here", "_law_start"] : List Str) from by decide +kernel) rfl (by first | exact Or.inl rfl | exact Or.inr rfl)), (pts_one (pt_cmpR (op_neDK (K := K) rfl hu1) (pv 1) (pe_lst pa_nil) (nomark _))), (pe_ix (ix_listK (K := K) rfl) (pv 1) (pe_op op_mod (pe_call G__law_mix (hr.mono (by decide)) (by rfl) T.g__law_mix T.k__law_mix T.b__law_mix .nil pass0 (pa_cons (pv 2) (pa_cons (pe_op op_add (pe_op op_add (pv 3) pe_int) (pv 0)) pa_nil))) (pe_callB (call_lenK (K := K) rfl) (by rfl) T.n_len PySem.boot_len (pa_cons (pv 1) pa_nil))) (fun _ _ => rfl))⟩))))))), s_start (σ' := [some _, some _, some _, some _, none, none, none, none]) rfl ?_⟩
    have hpow : (0 : Int) < ((((zs.map V.str).length : Nat) : Int) + 1) ^ (4 : Int).toNat := Int.pow_pos (by omega)
    have hn1 : (0 : Int) < (((zs.map V.str).length : Nat) : Int) + 1 := by omega
    walk_at "l2"
    cases dg with
    | true =>
      walk_at "l2"
      generalize c % ((((zs.map V.str).length : Nat) : Int) + 1) ^ (4 : Int).toNat = left
      clear hpow
      intro D H1 f1 s1 e1
      have hl1 := s1.get hl
      walk_at "l2"
      refine for_range (fun i σ H' => ∃ (v : Option V) (left : Int) (ws : List Str), σ = [some (V.int c), some (V.int st), some (V.ref l), some (V.bl true), some (V.int left), some (V.ref D), v, none] ∧ Same H H' ∧ H' D = some (.lst (ws.map V.str)) ∧ ws.length ≤ i ∧ ∀ w ∈ ws, w ∈ zs) ⟨none, left, [], rfl, s1, e1, Nat.le_refl _, fun _ h => absurd h (by simp)⟩ ?_ ?_
      · rintro i σ H' hi ⟨v, left, ws, rfl, s', eD, lw, hw⟩
        have hl' := s'.get hl
        have hi4 : i < 4 := hi
        walk_at "l2"
        refine s_cut (fun σ H2 => ∃ ws' : List Str, σ = [some (V.int c), some (V.int st), some (V.ref l), some (V.bl true), some (V.int left), some (V.ref D), some (V.int (0 + (i : Int))), none] ∧ Same H H2 ∧ H2 D = some (.lst (ws'.map V.str)) ∧ ws'.length ≤ i + 1 ∧ ∀ w ∈ ws', w ∈ zs) ?_ ?_
        · have r0 := Int.emod_nonneg left (Int.ne_of_gt hn1)
          have r1 := Int.emod_lt_of_pos left hn1
          walk_at "l2"
          by_cases hr0 : 0 < left % ((((zs.map V.str).length : Nat) : Int) + 1)
          · refine s_ifT (decide_eq_true hr0) ?_
            obtain ⟨j, hj⟩ := Int.eq_ofNat_of_zero_le (show 0 ≤ left % ((((zs.map V.str).length : Nat) : Int) + 1) - 1 by omega)
            have hjl : j < zs.length := by omega
            have hat : atI (zs.map V.str) (left % ((((zs.map V.str).length : Nat) : Int) + 1) - 1) = some (.str zs[j]) := by
              rw [hj]
              exact atI_nat (by rw [List.getElem?_map, List.getElem?_eq_getElem hjl]; rfl)
            walk_at "l2"
            refine s_append eD (by rw [List.length_map, sizeLine_eq]; omega) fun H3 u3 => ?_
            walk_at "l2"
            refine ⟨ws ++ [zs[j]], rfl, fun b o e => u3.oth _ _ (ne_of_none e f1) (s'.get e), by rw [u3.at', List.map_append]; rfl, by rw [List.length_append]; show _ + 1 ≤ _; omega, fun w hw' => ?_⟩
            rcases List.mem_append.mp hw' with h | h
            · exact hw w h
            · rw [List.mem_singleton.mp h]; exact List.getElem_mem hjl
          · refine s_ifF (decide_eq_false hr0) ?_
            walk_at "l2"
            exact ⟨ws, rfl, s', eD, by omega, hw⟩
        · rintro σ H2 ⟨ws', rfl, s2, eD2, lw', hw'⟩
          have hl2 := s2.get hl
          walk_at "l2"
          exact ⟨_, _, ws', rfl, s2, eD2, lw', hw'⟩
      · rintro σ H' ⟨v, left, ws, rfl, s', eD, lw, hw⟩
        walk_at "l2"
        exact q D H' ws f1 s' eD lw hw
    | false =>
      have m0 := Int.emod_nonneg (mixV c st) (show (5 : Int) ≠ 0 by decide)
      have m1 := Int.emod_lt_of_pos (mixV c st) (show (0 : Int) < 5 by decide)
      walk_at "l2"
      intro D hD
      refine comp_range (fun i ys H' => ∃ ws : List Str, ys = ws.map V.str ∧ Same H H' ∧ H' D = some (.lst ys) ∧ ws.length ≤ i ∧ ∀ w ∈ ws, w ∈ zs) ⟨[], rfl, same_new hD, upd_same, Nat.le_refl _, fun _ h => absurd h (by simp)⟩ ?_ ?_
      · rintro i ys H' hi ⟨ws, rfl, s', eD, lw, hw⟩
        have hl' := s'.get hl
        walk_at "l2"
        intro L2 H2 f2 s2 e2
        have hl2 := s2.get hl'
        have eD2 := s2.get eD
        refine s_eqD (rep_strs hl2) (rep_strs (ws := []) e2) (by rw [depD, dep_strs]; decide) ?_
        rw [show (List.map Dt.str []) = [] from rfl, eqD_nil]
        by_cases hz : zs = []
        · rw [decide_eq_true hz]
          walk_at "l2"
          exact ⟨s'.trans s2, eD2, by omega, hw⟩
        · rw [decide_eq_false hz]
          have hzl : 0 < zs.length := List.length_pos_iff.mpr hz
          have hzp : (0 : Int) < (((zs.map V.str).length : Nat) : Int) := by omega
          walk_at "l2"
          obtain ⟨j, hj, hjl⟩ := emod_nat (c := mixV c (st + 1 + (0 + (i : Int)))) hzp
          have hjl : j < zs.length := by omega
          have hat : atI (zs.map V.str) (mixV c (st + 1 + (0 + (i : Int))) % (((zs.map V.str).length : Nat) : Int)) = some (.str zs[j]) := by
            rw [hj]
            exact atI_nat (by rw [List.getElem?_map, List.getElem?_eq_getElem hjl]; rfl)
          walk_at "l2"
          refine ⟨eD2, by rw [List.length_map]; exact small1000 (by omega), ws ++ [zs[j]], by rw [List.map_append]; rfl, fun b o e => ?_, upd_same, by rw [List.length_append]; show _ + 1 ≤ _; omega, fun w hw' => ?_⟩
          · rw [upd_ne (ne_of_none e hD)]; exact s2.get (s'.get e)
          · rcases List.mem_append.mp hw' with h | h
            · exact hw w h
            · rw [List.mem_singleton.mp h]; exact List.getElem_mem hjl
      · rintro ys H' ⟨ws, rfl, s', eD, lw, hw⟩
        exact q D H' ws hD s' eD (by omega) hw
end
section
variable {P : Program} {w : World} {K : PySem.W.Frag} {mg : Str → Option Value} {base : Heap} {a : Ad}
theorem c_lname {H : Hp} {Q : VK} {E : XK} {c k : Int} (h0 : 0 ≤ k) (h1 : k < 40) (q : ∀ H2, Same H H2 → Q (.str (nmf c k)) H2) : sp_lname24 [.int c, .int k] H Q E := ⟨c, k, rfl, h0, h1, q⟩
local macro_rules | `(tactic| walk_at "l2step") => `(tactic| first | (with_reducible refine s_iEnumT ?_) | ((with_reducible refine' c_mixv ?a ?b ?_); (case a => omega); (case b => omega)) | ((with_reducible refine' c_cell2 ?e ?a ?_); (case e => walk_at "l2hp"); (case a => walk_at "l2side")))
theorem ok__law_net (T : Tx K mg a) : FnOk P w K mg base CX0 3 a.f__law_net a.d__law_net ["_law_script", "_law_start", "_law_most"] (sp_lnet K) := by
  have G__law_cell := ok__law_cell (P := P) (w := w) (base := base) T
  have G__law_mix := ok__law_mix (P := P) (w := w) (base := base) T
  have G__law_name := ok__law_name (P := P) (w := w) (base := base) T
  have G__law_wires := ok__law_wires (P := P) (w := w) (base := base) T
  refine T.F__law_net.ok sc__law_net (fun vs H Q E h => ?_) (fun cdv A outer s H vs Q E hr h => ?_)
  · obtain ⟨p, ns, st, rfl, _⟩ := h; rfl
  · obtain ⟨p, ns, st, rfl, hS, hst, q⟩ := h
    have hu1 := room100 hr
    refine ⟨_, ((pss_cons (ps_set (i := 3) sc__law_net.nd rfl (by first | exact Or.inl rfl | exact Or.inr rfl) (pe_call G__law_cell (hr.mono (by decide)) (by rfl) T.g__law_cell T.k__law_cell T.b__law_cell .nil pass0 (pa_cons (pv 0) (pa_cons (pv 1) pa_nil))))
      (pss_cons (ps_set (i := 4) sc__law_net.nd rfl (by first | exact Or.inl rfl | exact Or.inr rfl) (pe_lst (pa_cons (pe_op op_mod (pe_call G__law_mix (hr.mono (by decide)) (by rfl) T.g__law_mix T.k__law_mix T.b__law_mix .nil pass0 (pa_cons (pv 3) (pa_cons pe_int pa_nil))) pe_int) (pa_cons (pe_op op_mod (pe_call G__law_mix (hr.mono (by decide)) (by rfl) T.g__law_mix T.k__law_mix T.b__law_mix .nil pass0 (pa_cons (pv 3) (pa_cons pe_int pa_nil))) (pe_op op_add (pv 2) pe_int)) (pa_cons (pe_op op_mod (pe_call G__law_mix (hr.mono (by decide)) (by rfl) T.g__law_mix T.k__law_mix T.b__law_mix .nil pass0 (pa_cons (pv 3) (pa_cons pe_int pa_nil))) (pe_op op_add (pv 2) pe_int)) pa_nil)))))
      (pss_cons (ps_comp (osc := defScope s__law_net) (ON := ["_law_script", "_law_start", "_law_most", "_law_cell_here", "_law_sizes", "_law_ins", "_law_stores", "_law_known", "_law_sums", "_law_k", "_law_wires_here", "_law_at", "_law_ends", "_law_name_here", "_law_outs"]) (N := ["_law_k", "_law_cell_here"]) (n := 1) (fx := [3]) (i := 5) sc__law_net.nd rfl rfl rfl rfl rfl rfl (by decide +kernel) (pi_range1 (by rfl) T.n_range (pa_cons (pe_ix (ix_listK (K := K) rfl) (pv 4) pe_int (fun _ _ => rfl)) pa_nil)) (gk_name (by decide)) (fun _ _ _ _ _ => ⟨(pg_name (i := 0) (show List.Nodup (["_law_k", "_law_cell_here"] : List Str) from by decide +kernel) rfl (by first | exact Or.inl rfl | exact Or.inr rfl)), pts_nil, (pe_call G__law_name (hr.mono (by decide)) (by rfl) T.g__law_name T.k__law_name T.b__law_name .nil pass0 (pa_cons (pv 1) (pa_cons (pv 0) pa_nil)))⟩))
      (pss_cons (ps_comp (osc := defScope s__law_net) (ON := ["_law_script", "_law_start", "_law_most", "_law_cell_here", "_law_sizes", "_law_ins", "_law_stores", "_law_known", "_law_sums", "_law_k", "_law_wires_here", "_law_at", "_law_ends", "_law_name_here", "_law_outs"]) (N := ["_law_k", "_law_cell_here"]) (n := 1) (fx := [3]) (i := 6) sc__law_net.nd rfl rfl rfl rfl rfl rfl (by decide +kernel) (pi_range1 (by rfl) T.n_range (pa_cons (pe_ix (ix_listK (K := K) rfl) (pv 4) pe_int (fun _ _ => rfl)) pa_nil)) (gk_name (by decide)) (fun _ _ _ _ _ => ⟨(pg_name (i := 0) (show List.Nodup (["_law_k", "_law_cell_here"] : List Str) from by decide +kernel) rfl (by first | exact Or.inl rfl | exact Or.inr rfl)), pts_nil, (pe_call G__law_name (hr.mono (by decide)) (by rfl) T.g__law_name T.k__law_name T.b__law_name .nil pass0 (pa_cons (pv 1) (pa_cons (pe_op op_add pe_int (pv 0)) pa_nil)))⟩))
      (pss_cons (ps_set (i := 7) sc__law_net.nd rfl (by first | exact Or.inl rfl | exact Or.inr rfl) (pe_op op_cat (pv 5) (pv 6)))
      (pss_cons (ps_set (i := 8) sc__law_net.nd rfl (by first | exact Or.inl rfl | exact Or.inr rfl) (pe_lst pa_nil))
      (pss_cons (ps_for PassesOwn.never rfl (pi_range1 (by rfl) T.n_range (pa_cons (pe_ix (ix_listK (K := K) rfl) (pv 4) pe_int (fun _ _ => rfl)) pa_nil)) (pg_name (i := 9) sc__law_net.nd rfl (by first | exact Or.inl rfl | exact Or.inr rfl)) (pss_cons (ps_set (i := 10) sc__law_net.nd rfl (by first | exact Or.inl rfl | exact Or.inr rfl) (pe_call G__law_wires (hr.mono (by decide)) (by rfl) T.g__law_wires T.k__law_wires T.b__law_wires .nil pass0 (pa_cons (pe_call G__law_cell (hr.mono (by decide)) (by rfl) T.g__law_cell T.k__law_cell T.b__law_cell .nil pass0 (pa_cons (pv 0) (pa_cons (pe_op op_add (pe_op op_add (pv 1) pe_int) (pv 9)) pa_nil))) (pa_cons pe_int (pa_cons (pv 7) (pa_cons (pe_cmpR op_eq (pe_op op_mod (pv 3) pe_int) pe_int (nomark _)) pa_nil))))))
      (pss_cons (ps_expr (pe_bmK (K := K) rfl PySem.F.plainAttrs_list PySem.F.slot_list_append PySem.F.type_list_append mt_append (pv 8) (pa_cons (pe_tup (pa_cons (pe_call G__law_name (hr.mono (by decide)) (by rfl) T.g__law_name T.k__law_name T.b__law_name .nil pass0 (pa_cons (pv 3) (pa_cons (pe_op op_add pe_int (pv 9)) pa_nil))) (pa_cons (pv 10) pa_nil))) pa_nil)))
      (pss_one (ps_set (i := 7) sc__law_net.nd rfl (by first | exact Or.inl rfl | exact Or.inr rfl) (pe_op op_cat (pv 7) (pe_lst (pa_cons (pe_call G__law_name (hr.mono (by decide)) (by rfl) T.g__law_name T.k__law_name T.b__law_name .nil pass0 (pa_cons (pv 3) (pa_cons (pe_op op_add pe_int (pv 9)) pa_nil))) pa_nil))))))))
      (pss_cons (ps_set (i := 11) sc__law_net.nd rfl (by first | exact Or.inl rfl | exact Or.inr rfl) (pe_op op_mod (pe_call G__law_mix (hr.mono (by decide)) (by rfl) T.g__law_mix T.k__law_mix T.b__law_mix .nil pass0 (pa_cons (pv 3) (pa_cons pe_int pa_nil))) (pe_op op_add (pe_callB (call_lenK (K := K) rfl) (by rfl) T.n_len PySem.boot_len (pa_cons (pv 8) pa_nil)) pe_int)))
      (pss_cons (ps_set (i := 8) sc__law_net.nd rfl (by first | exact Or.inl rfl | exact Or.inr rfl) (pe_op op_cat (pe_slice (sl_listK (K := K) rfl) (pv 8) (po_some (pv 11)) po_none) (pe_listrev (by rfl) (by rfl) T.n_list T.n_reversed rfl (pe_slice (sl_listK (K := K) rfl) (pv 8) po_none (po_some (pv 11))))))
      (pss_cons (ps_set (i := 12) sc__law_net.nd rfl (by first | exact Or.inl rfl | exact Or.inr rfl) (pe_lst pa_nil))
      (pss_cons (ps_for PassesOwn.never rfl (pi_enumT (K := K) rfl (by rfl) T.n_enumerate (pv 6)) (pg_tup rfl (pgs_cons (pg_name (i := 9) sc__law_net.nd rfl (by first | exact Or.inl rfl | exact Or.inr rfl)) (pgs_cons (pg_name (i := 13) sc__law_net.nd rfl (by first | exact Or.inl rfl | exact Or.inr rfl)) pgs_nil))) (pss_one (ps_expr (pe_bmK (K := K) rfl PySem.F.plainAttrs_list PySem.F.slot_list_append PySem.F.type_list_append mt_append (pv 12) (pa_cons (pe_tup (pa_cons (pv 13) (pa_cons (pe_ix (ix_listK (K := K) rfl) (pv 7) (pe_op op_mod (pe_call G__law_mix (hr.mono (by decide)) (by rfl) T.g__law_mix T.k__law_mix T.b__law_mix .nil pass0 (pa_cons (pv 3) (pa_cons (pe_op op_add pe_int (pv 9)) pa_nil))) (pe_callB (call_lenK (K := K) rfl) (by rfl) T.n_len PySem.boot_len (pa_cons (pv 7) pa_nil))) (fun _ _ => rfl)) pa_nil))) pa_nil)))))
      (pss_cons (ps_set (i := 14) sc__law_net.nd rfl (by first | exact Or.inl rfl | exact Or.inr rfl) (pe_lst pa_nil))
      (pss_cut (ps_if (pt_cmpR (op_neDK (K := K) rfl hu1) (pv 7) (pe_lst pa_nil) (nomark _)) (pss_one (ps_comp (osc := defScope s__law_net) (ON := ["_law_script", "_law_start", "_law_most", "_law_cell_here", "_law_sizes", "_law_ins", "_law_stores", "_law_known", "_law_sums", "_law_k", "_law_wires_here", "_law_at", "_law_ends", "_law_name_here", "_law_outs"]) (N := ["_law_k", "_law_known", "_law_cell_here"]) (n := 1) (fx := [7, 3]) (i := 14) sc__law_net.nd rfl rfl rfl rfl rfl rfl (by decide +kernel) (pi_range1 (by rfl) T.n_range (pa_cons (pe_op op_mod (pe_call G__law_mix (hr.mono (by decide)) (by rfl) T.g__law_mix T.k__law_mix T.b__law_mix .nil pass0 (pa_cons (pv 3) (pa_cons pe_int pa_nil))) pe_int) pa_nil)) (gk_name (by decide)) (fun _ _ _ _ _ => ⟨(pg_name (i := 0) (show List.Nodup (["_law_k", "_law_known", "_law_cell_here"] : List Str) from by decide +kernel) rfl (by first | exact Or.inl rfl | exact Or.inr rfl)), pts_nil, (pe_ix (ix_listK (K := K) rfl) (pv 1) (pe_op op_mod (pe_call G__law_mix (hr.mono (by decide)) (by rfl) T.g__law_mix T.k__law_mix T.b__law_mix .nil pass0 (pa_cons (pv 2) (pa_cons (pe_op op_add pe_int (pv 0)) pa_nil))) (pe_callB (call_lenK (K := K) rfl) (by rfl) T.n_len PySem.boot_len (pa_cons (pv 1) pa_nil))) (fun _ _ => rfl))⟩))) pss_nil)
      (pss_one (ps_ret (pe_tup (pa_cons (pv 5) (pa_cons (pv 8) (pa_cons (pv 12) (pa_cons (pv 14) pa_nil))))))))))))))))))))), s_start (σ' := [some _, some _, some _, none, none, none, none, none, none, none, none, none, none, none, none]) rfl ?_⟩
    walk_at "l2"
    generalize cell ns ((st : Nat) : Int) = c
    intro Z H1 f1 s1 e1
    obtain ⟨ni, hni, lni⟩ := emod_nat (c := mixV c 1) (m := 4) (by decide)
    obtain ⟨nt, hnt, lnt⟩ := emod_nat (c := mixV c 2) (m := ((6 : Nat) : Int) + 1) (by decide)
    obtain ⟨nz, hnz, lnz⟩ := emod_nat (c := mixV c 3) (m := ((6 : Nat) : Int) + 1) (by decide)
    rw [hni, hnt, hnz] at e1
    have hni3 : ni ≤ 3 := by omega
    have hnt6 : nt ≤ 6 := by omega
    have hnz6 : nz ≤ 6 := by omega
    have hS1 := Same.seq s1 hS
    clear hni hnt hnz lni lnt lnz
    walk_at "l2"
    intro D2 hD2
    refine comp_range (fun i ys H' => Cs (fun i ys => ys = (nms c 0 i).map V.str) H1 D2 i ys H') (Cs.zero hD2 rfl) (fun i ys H' hi cs => ?_) (fun ys H2 cs => ?_)
    · have hi3 : i < 3 := by omega
      walk_at "l2"
      refine c_lname (by omega) (by omega) fun H3 s3 => ?_
      refine Cs.put hD2 (cs.same.trans s3) (s3.get cs.at') cs.len (by omega) ?_
      rw [cs.pv, nms_succ, List.map_append, show (0 : Int) + (i : Int) = ((0 + i : Nat) : Int) by push_cast; rfl]; rfl
    · have e2 := cs.at'
      rw [cs.pv, Int.toNat_natCast] at e2
      have s12 := cs.same
      clear cs
      have e12 := s12.get e1
      walk_at "l2"
      intro D3 hD3
      refine comp_range (fun i ys H' => Cs (fun i ys => ys = (nms c 6 i).map V.str) H2 D3 i ys H') (Cs.zero hD3 rfl) (fun i ys H' hi cs => ?_) (fun ys H3 cs => ?_)
      · have hi6 : i < 6 := by omega
        walk_at "l2"
        refine c_lname (by omega) (by omega) fun H4 s4 => ?_
        refine Cs.put hD3 (cs.same.trans s4) (s4.get cs.at') cs.len (by omega) ?_
        rw [cs.pv, nms_succ, List.map_append, show (6 : Int) + (0 + (i : Int)) = ((6 + i : Nat) : Int) by push_cast; omega]; rfl
      · have e3 := cs.at'
        rw [cs.pv, Int.toNat_natCast] at e3
        have s23 := cs.same
        clear cs
        walk_at "l2"
        refine s_cat (s23.get e2) e3 (by rw [List.length_map, List.length_map, nms_len, nms_len, sizeLine_eq]; omega) fun D4 H4 f4 s4 e4 => ?_
        rw [← List.map_append] at e4
        have s14 := s12.trans (s23.trans s4)
        have e14 := s14.get e1
        have e24 := s4.get (s23.get e2)
        have e34 := s4.get e3
        have hS4 := Same.seq s14 hS1
        have s04 := s1.trans s14
        clear e12 hD2 hD3 f1 f4 s12 s23 s4 s14 e1 e2 e3 hS1 s1
        walk_at "l2"
        intro D5 H5 f5 s5 e5
        have e15 := s5.get e14
        have s05 := s04.trans s5
        have f50 : H D5 = none := s04.free f5
        walk_at "l2"
        refine for_range (fun i σ H' => ∃ (v9 v10 : Option V) (Dk : Addr) (rs : List Rw), σ = [some (V.ref p), some (nat st), some (nat 6), some (V.int c), some (V.ref Z), some (V.ref D2), some (V.ref D3), some (V.ref Dk), some (V.ref D5), v9, v10, none, none, none, none] ∧ Same H4 H' ∧ H' Dk = some (.lst ((nms c 0 ni ++ nms c 6 nt ++ nms c 22 i).map V.str)) ∧ Dk ≠ D5 ∧ H' D5 = some (.lst (rs.map fun r => V.ref r.1)) ∧ RwL H' rs ∧ (∀ r ∈ rs, r.2.1 ≠ D5) ∧ Mk c ni nt (rs.map (·.2.2)) ∧ rs.length = i) ⟨none, none, D4, [], rfl, s5, by rw [show nms c 22 0 = [] from rfl, List.append_nil]; exact s5.get e4, ne_of_none e4 f5, e5, fun _ h => absurd h (by simp), fun _ h => absurd h (by simp), Mk.nil .., rfl⟩ ?_ ?_
        · rintro i σ H' hi ⟨v9, v10, Dk, rs, rfl, s', ek, nk, eD, rl, nr, mk, lr⟩
          have hi6 : i < 6 := by omega
          have hS' := Same.seq s' hS4
          walk_at "l2"
          refine ⟨_, 10, Dk, _, _, rfl, by decide, by decide, ek, by rw [List.length_append, List.length_append, nms_len, nms_len, nms_len]; omega, fun Dw H6 ws f6 s6 e6 l4 hw => ?_⟩
          have eD6 := s6.get eD
          walk_at "l2"
          refine c_lname (by omega) (by omega) fun H7 s7 => ?_
          walk_at "l2"
          intro tr H8 f8 s8 e8
          have s78 := s7.trans s8
          have eD8 := s78.get eD6
          have ek8 := s78.get (s6.get ek)
          have ew8 := s78.get e6
          walk_at "l2"
          refine s_append eD8 (by rw [List.length_map, sizeLine_eq]; omega) fun H9 u9 => ?_
          have nw : Dw ≠ D5 := (ne_of_none eD f6).symm
          have s'9 : Same H4 H9 := fun b o e => u9.oth _ _ (ne_of_none e f5) (s78.get (s6.get (s'.get e)))
          have ek9 := u9.oth _ _ nk ek8
          have et9 := u9.oth _ _ (ne_of e8 eD8 fun z => by cases z) e8
          have ew9 := u9.oth _ _ nw ew8
          have rl9 : RwL H9 rs := fun r hr => ⟨u9.oth _ _ (ne_of ((rl.same s6).same s78 r hr).1 eD8 fun z => by cases z) ((rl.same s6).same s78 r hr).1, u9.oth _ _ (nr r hr) ((rl.same s6).same s78 r hr).2⟩
          have eD9 := u9.at'
          clear u9 e8 ew8 ek8 eD8 s78 s7 s8 f8 eD6 e6 hS'
          walk_at "l2"
          refine c_lname (by omega) (by omega) fun H10 s10 => ?_
          walk_at "l2"
          intro D11 H11 f11 s11 e11
          have s911 := s10.trans s11
          refine s_cat (s911.get ek9) e11 (by rw [List.length_map, List.length_append, List.length_append, nms_len, nms_len, nms_len, sizeLine_eq]; show _ + 1 ≤ _; omega) fun D12 H12 f12 s12 e12 => ?_
          have s912 := s911.trans s12
          have ei : (22 : Int) + (0 + (i : Int)) = ((22 + i : Nat) : Int) := by push_cast; omega
          rw [ei] at e12 et9
          have ekn : (nms c 0 ni ++ nms c 6 nt ++ nms c 22 i).map V.str ++ [V.str (nmf c ((22 + i : Nat) : Int))] = (nms c 0 ni ++ nms c 6 nt ++ nms c 22 (i + 1)).map V.str := by
            rw [nms_succ, ← List.append_assoc, List.map_append (l₂ := [_])]; rfl
          rw [ekn] at e12
          walk_at "l2"
          refine ⟨_, _, D12, rs ++ [(tr, Dw, nmf c ((22 + i : Nat) : Int), ws)], rfl, s'9.trans s912, e12, (ne_of_none (s911.get eD9) f12).symm, by rw [s912.get eD9, List.map_append]; rfl, fun r hr => ?_, fun r hr => ?_, ?_, by rw [List.length_append, lr]; rfl⟩
          · rcases List.mem_append.mp hr with h | h
            · exact rl9.same s912 r h
            · rw [List.mem_singleton] at h; subst h
              exact ⟨s912.get et9, s912.get ew9⟩
          · rcases List.mem_append.mp hr with h | h
            · exact nr r h
            · rw [List.mem_singleton] at h; subst h; exact nw
          · have lm : (rs.map (·.2.2)).length = i := by rw [List.length_map, lr]
            have := mk.put (ws := ws) l4 (by rw [lm]; exact hw)
            rw [lm] at this
            rw [List.map_append]
            exact this
        · rintro σ H' ⟨v9, v10, Dk, rs, rfl, s', ek, nk, eD, rl, nr, mk, lr⟩
          rw [Int.toNat_natCast] at lr
          rw [Int.toNat_natCast] at ek
          have e2' := s'.get e24
          have e3' := s'.get e34
          have hS' := Same.seq s' hS4
          have s0' := s04.trans s'
          obtain ⟨j, hj, hjl⟩ := emod_nat (c := mixV c 4) (m := (((rs.map fun r => V.ref r.1).length : Nat) : Int) + 1) (by omega)
          have lrm : (rs.map fun r => V.ref r.1).length = rs.length := List.length_map ..
          have hjr : j ≤ rs.length := by omega
          clear e14 e24 e34 e4 e5 hS4 s04 s05 s5 f5 f50 e15
          walk_at "l2"
          rw [hj]
          intro D6 H6 f6 s6 e6
          rw [cut_drop _ j (by rw [lrm]; exact hjr), ← List.map_drop] at e6
          have eD6 := s6.get eD
          walk_at "l2"
          refine s_revT ?_
          walk_at "l2"
          intro D7 H7 f7 s7 e7
          rw [cut_take _ j (by rw [lrm]; exact hjr), ← List.map_take] at e7
          refine ⟨D7, _, rfl, SqL.of e7, fun D8 f8 => ?_⟩
          rw [← List.map_reverse]
          have s8 := same_new (o := HO.lst ((rs.take j).reverse.map fun r => V.ref r.1)) f8
          have e8 : upd H7 D8 (HO.lst ((rs.take j).reverse.map fun r => V.ref r.1)) D8 = some (HO.lst ((rs.take j).reverse.map fun r => V.ref r.1)) := upd_same
          generalize upd H7 D8 (HO.lst ((rs.take j).reverse.map fun r => V.ref r.1)) = H8 at s8 e8 ⊢
          refine s_cat (s8.get (s7.get e6)) e8 (by rw [List.length_map, List.length_map, List.length_reverse, List.length_drop, List.length_take, sizeLine_eq]; omega) fun D9 H9 f9 s9 e9 => ?_
          rw [← List.map_append] at e9
          have s'9 := s6.trans (s7.trans (s8.trans s9))
          have e29 := s'9.get e2'
          have e39 := s'9.get e3'
          have ek9 := s'9.get ek
          have rl9 := rl.same s'9
          have s09 := s0'.trans s'9
          have perm : (rs.drop j ++ (rs.take j).reverse).Perm rs := by
            refine List.Perm.trans (List.Perm.append_left _ (List.reverse_perm _)) ?_
            refine List.Perm.trans List.perm_append_comm ?_
            rw [List.take_append_drop]
          generalize hrs' : rs.drop j ++ (rs.take j).reverse = rs' at e9 perm
          have rl' : RwL H9 rs' := fun r hr => rl9 r (perm.mem_iff.mp hr)
          clear rl9 rl s8 e8 e7 f7 f8 s7 e6 f6 s6 s9 f9 s'9 e2' e3' eD eD6 nr nk s' s0' hS' ek hrs'
          walk_at "l2"
          intro D10 H10 f10 s10 e10
          have e310 := s10.get e39
          walk_at "l2"
          refine .inl ⟨⟨_, SqL.of e310⟩, ?_⟩
          have lk : (nms c 0 ni ++ nms c 6 nt ++ nms c 22 nz).length = ni + nt + nz := by rw [List.length_append, List.length_append, nms_len, nms_len, nms_len]
          generalize hkn : nms c 0 ni ++ nms c 6 nt ++ nms c 22 nz = kn at ek9 lk
          refine for_enum (xs := (nms c 6 nt).map V.str) (fun i σ H' => ∃ (v9 v13 : Option V) (qs : List Qs), σ = [some (V.ref p), some (nat st), some (nat 6), some (V.int c), some (V.ref Z), some (V.ref D2), some (V.ref D3), some (V.ref Dk), some (V.ref D9), v9, v10, some (V.int j), some (V.ref D10), v13, none] ∧ Same H9 H' ∧ H' D10 = some (.lst (qs.map fun q => V.ref q.1)) ∧ QsK H' qs ∧ qs.map (·.2.1) = nms c 6 i ∧ ∀ q ∈ qs, q.2.2 ∈ kn) ⟨_, none, [], rfl, s10, e10, fun _ h => absurd h (by simp), rfl, fun _ h => absurd h (by simp)⟩ (fun i σ H' _ ⟨_, _, _, _, s', _⟩ => SqL.of (s'.get e39)) ?_ ?_
          · rintro i y σ H' pz H7 hy ⟨v9, v13, qs, rfl, s', eq, qk, qn, qw⟩ fp s7 e7
            obtain ⟨z, hz, rfl⟩ := get_map hy
            have hlt := (List.getElem?_eq_some_iff.mp hz).1
            rw [nms_len] at hlt
            have ez : z = nmf c ((6 + i : Nat) : Int) := by
              unfold nms at hz
              rw [List.getElem?_map, List.getElem?_range hlt] at hz
              exact (Option.some.inj hz).symm
            have lq : qs.length = i := by have := congrArg List.length qn; rw [List.length_map, nms_len] at this; exact this
            have ek7 := s7.get (s'.get ek9)
            have elen : (kn.map V.str).length = ni + nt + nz := by rw [List.length_map, lk]
            have eq7 := s7.get eq
            walk_at "l2"
            obtain ⟨m, hm, hml⟩ := emod_nat (c := mixV c (50 + (i : Int))) (m := (((kn.map V.str).length : Nat) : Int)) (by omega)
            have hml : m < kn.length := by rw [List.length_map] at hml; omega
            have hat : atI (kn.map V.str) (mixV c (50 + (i : Int)) % (((kn.map V.str).length : Nat) : Int)) = some (.str kn[m]) := by
              rw [hm]
              exact atI_nat (by rw [List.getElem?_map, List.getElem?_eq_getElem hml]; rfl)
            walk_at "l2"
            intro tq H8 f8 s8 e8
            walk_at "l2"
            refine s_append (s8.get eq7) (by rw [List.length_map, sizeLine_eq]; omega) fun H9' u9 => ?_
            walk_at "l2"
            refine ⟨_, _, qs ++ [(tq, z, kn[m])], rfl, fun b o e => u9.oth _ _ (ne_of_none e f10) (s8.get (s7.get (s'.get e))), by rw [u9.at', List.map_append]; rfl, ?_, ?_, fun q' hq' => ?_⟩
            · intro q' hq'
              rcases List.mem_append.mp hq' with h | h
              · exact ((qk.same s7).same s8).updL (s8.get eq7) u9.oth q' h
              · rw [List.mem_singleton] at h; subst h
                exact u9.oth _ _ (ne_of e8 (s8.get eq7) fun z => by cases z) e8
            · rw [List.map_append, qn, nms_succ, ez]; rfl
            · rcases List.mem_append.mp hq' with h | h
              · exact qw q' h
              · rw [List.mem_singleton] at h; subst h; exact List.getElem_mem hml
          · rintro σ H' ⟨v9, v13, qs, rfl, s', eq, qk, qn, qw⟩
            rw [List.length_map, nms_len] at qn
            have ek' := s'.get ek9
            have e2' := s'.get e29
            have e9' := s'.get e9
            have rl2 := rl'.same s'
            walk_at "l2"
            intro D11 H11 f11 s11 e11
            walk_at "l2"
            refine s_cut (fun σ H2 => ∃ (Do : Addr) (outs : List Str), σ = [some (V.ref p), some (nat st), some (nat 6), some (V.int c), some (V.ref Z), some (V.ref D2), some (V.ref D3), some (V.ref Dk), some (V.ref D9), v9, v10, some (V.int j), some (V.ref D10), v13, some (V.ref Do)] ∧ Same H' H2 ∧ H2 Do = some (.lst (outs.map V.str)) ∧ outs.length ≤ 3 ∧ ∀ z ∈ outs, z ∈ kn) ?_ ?_
            · have ek11 := s11.get ek'
              walk_at "l2"
              intro L12 H12 f12 s12 e12
              have ek12 := s12.get ek11
              refine s_eqD (rep_strs ek12) (rep_strs (ws := []) e12) (by rw [depD, dep_strs]; decide) ?_
              rw [show (List.map Dt.str []) = [] from rfl, eqD_nil]
              have s'12 := s11.trans s12
              have e1112 := s12.get e11
              by_cases hz : kn = []
              · rw [decide_eq_true hz]
                walk_at "l2"
                exact ⟨D11, [], rfl, s'12, e1112, Nat.zero_le _, fun _ h => absurd h (by simp)⟩
              · rw [decide_eq_false hz]
                have m0 := Int.emod_nonneg (mixV c 5) (show (4 : Int) ≠ 0 by decide)
                have m1 := Int.emod_lt_of_pos (mixV c 5) (show (0 : Int) < 4 by decide)
                have hzl : 1 ≤ kn.length := List.length_pos_iff.mpr hz
                have elen : (kn.map V.str).length = kn.length := List.length_map ..
                walk_at "l2"
                intro D13 hD13
                refine comp_range (fun i ys H2 => ∃ ws : List Str, ys = ws.map V.str ∧ Same H12 H2 ∧ H2 D13 = some (.lst ys) ∧ ws.length = i ∧ ∀ w ∈ ws, w ∈ kn) ⟨[], rfl, same_new hD13, upd_same, rfl, fun _ h => absurd h (by simp)⟩ ?_ ?_
                · rintro i ys H2 hi ⟨ws, rfl, s2, eD, lw, hw⟩
                  have ek2 := s2.get ek12
                  have hi4 : i < 4 := by omega
                  walk_at "l2"
                  obtain ⟨m, hm, hml⟩ := emod_nat (c := mixV c (80 + (0 + (i : Int)))) (m := (((kn.map V.str).length : Nat) : Int)) (by omega)
                  have hml : m < kn.length := by omega
                  have hat : atI (kn.map V.str) (mixV c (80 + (0 + (i : Int))) % (((kn.map V.str).length : Nat) : Int)) = some (.str kn[m]) := by
                    rw [hm]
                    exact atI_nat (by rw [List.getElem?_map, List.getElem?_eq_getElem hml]; rfl)
                  walk_at "l2"
                  refine ⟨eD, by rw [List.length_map]; exact small1000 (by omega), ws ++ [kn[m]], by rw [List.map_append]; rfl, fun b o e => ?_, upd_same, by rw [List.length_append, lw]; rfl, fun w hw' => ?_⟩
                  · rw [upd_ne (ne_of_none e hD13)]; exact s2.get e
                  · rcases List.mem_append.mp hw' with h | h
                    · exact hw w h
                    · rw [List.mem_singleton.mp h]; exact List.getElem_mem hml
                · rintro ys H2 ⟨ws, rfl, s2, eD, lw, hw⟩
                  walk_at "l2"
                  exact ⟨D13, ws, rfl, s'12.trans s2, eD, by omega, hw⟩
            · rintro σ H12 ⟨Do, outs, rfl, s12, e12, lo, ho⟩
              have e212 := s12.get e2'
              walk_at "l2"
              intro tt H13 f13 s13 e13
              have s'13 := s12.trans s13
              have hzl : (rs.map (·.2.2)).length = nz := by rw [List.length_map, lr]
              subst hkn
              refine q tt D2 D9 D10 Do H13 rs' qs ⟨nms c 0 ni, rs'.map (·.2.2), qs.map (·.2), outs⟩ (s09.trans (s'.trans s'13)) e13 ⟨s13.get e212, s'13.get e9', fun r hr => rl2.same s'13 r hr, rfl, s'13.get eq, fun q' hq' => qk.same s'13 q' hq', rfl, s13.get e12⟩ (mk_good mk hni3 hnt6 (by rw [hzl]; exact hnz6) (perm.map _) (by rw [List.map_map]; exact qn) (by omega) (fun q' hq' => ?_) (by rw [hzl]; exact ho)) (by show (nms c 0 ni).length ≤ 3; rw [nms_len]; exact hni3)
              obtain ⟨q'', hq'', rfl⟩ := List.mem_map.mp hq'
              rw [hzl]
              exact qw q'' hq''
end
section
variable {P : Program} {w : World} {K : PySem.W.Frag} {mg : Str → Option Value} {base : Heap} {a : Ad}
local macro_rules | `(tactic| walk_at "l2step") => `(tactic| first | ((with_reducible refine' c_whole ?e ?_); (case e => walk_at "l2kind")) | ((with_reducible refine' c_mask ?e ?_); (case e => walk_at "l2kind")) | (with_reducible refine s_iEnumT ?_) | (with_reducible refine s_methX ?_))
theorem bit_bn (r k : Nat) : Builtin.bitAnd ((r : Int) / 2 ^ k) 1 = ((M.bn (r.testBit k) : Nat) : Int) := by
  have := bit_test' r k
  rw [Int.toNat_natCast] at this
  rw [this]
  unfold M.bn; cases r.testBit k <;> rfl
theorem ok__law_bits (T : Tx K mg a) : FnOk P w K mg base CX0 1 a.f__law_bits a.d__law_bits ["_law_net_here", "_law_row", "_law_state"] sp_lnbits := by
  refine T.F__law_bits.ok sc__law_bits (fun vs H Q E h => ?_) (fun cdv A outer s H vs Q E hr h => ?_)
  · obtain ⟨t, i, s, u, o, rs, qs, N, od, row, st, rfl, _⟩ := h; rfl
  · obtain ⟨t, i, s, u, o, rs, qs, N, od, row, st, rfl, et, hn, g, tp, q⟩ := h
    have hu := hu_of hr
    obtain ⟨F, vl⟩ := vals2 g tp row st
    have nl := names_len g
    have inN : ∀ z ∈ N.ins, z ∈ N.names := fun z h => by unfold Nt.names; exact List.mem_append_left _ (List.mem_append_left _ h)
    have stN : ∀ z ∈ N.sts.map (·.1), z ∈ N.names := fun z h => by unfold Nt.names; exact List.mem_append_right _ h
    have lkb : ∀ ks : List Str, ks.Nodup → (∀ z ∈ ks, z ∈ N.names) → (bitK F ks).length ≤ 1000 := fun ks a b => by unfold bitK; rw [List.length_map]; have := nodup_subS ks N.names a b; omega
    refine ⟨_, ((pss_cons (ps_asg (pv 0) (pg_tup rfl (pgs_cons (pg_name (i := 3) sc__law_bits.nd rfl (by first | exact Or.inl rfl | exact Or.inr rfl)) (pgs_cons (pg_name (i := 4) sc__law_bits.nd rfl (by first | exact Or.inl rfl | exact Or.inr rfl)) (pgs_cons (pg_name (i := 5) sc__law_bits.nd rfl (by first | exact Or.inl rfl | exact Or.inr rfl)) (pgs_cons (pg_name (i := 6) sc__law_bits.nd rfl (by first | exact Or.inl rfl | exact Or.inr rfl)) pgs_nil))))))
      (pss_cons (ps_set (i := 7) sc__law_bits.nd rfl (by first | exact Or.inl rfl | exact Or.inr rfl) pe_dnewK)
      (pss_cons (ps_for PassesOwn.never rfl (pi_enumT (K := K) rfl (by rfl) T.n_enumerate (pv 3)) (pg_tup rfl (pgs_cons (pg_name (i := 8) sc__law_bits.nd rfl (by first | exact Or.inl rfl | exact Or.inr rfl)) (pgs_cons (pg_name (i := 9) sc__law_bits.nd rfl (by first | exact Or.inl rfl | exact Or.inr rfl)) pgs_nil))) (pss_one (ps_dput hu (pv 7) (pv 9) (pe_op op_and (pe_op op_shr (pv 1) (pv 8)) pe_int) rfl)))
      (pss_cons (ps_for PassesOwn.never rfl (pi_enumT (K := K) rfl (by rfl) T.n_enumerate (pv 5)) (pg_tup rfl (pgs_cons (pg_name (i := 8) sc__law_bits.nd rfl (by first | exact Or.inl rfl | exact Or.inr rfl)) (pgs_cons (pg_tup rfl (pgs_cons (pg_name (i := 9) sc__law_bits.nd rfl (by first | exact Or.inl rfl | exact Or.inr rfl)) (pgs_cons (pg_name (i := 10) sc__law_bits.nd rfl (by first | exact Or.inl rfl | exact Or.inr rfl)) pgs_nil))) pgs_nil))) (pss_one (ps_dput hu (pv 7) (pv 9) (pe_op op_and (pe_op op_shr (pv 2) (pv 8)) pe_int) rfl)))
      (pss_cons (ps_for PassesOwn.never rfl (pi_range1 (by rfl) T.n_range (pa_cons (pe_callB (call_lenK (K := K) rfl) (by rfl) T.n_len PySem.boot_len (pa_cons (pv 4) pa_nil)) pa_nil)) (pg_name (i := 11) sc__law_bits.nd rfl (by first | exact Or.inl rfl | exact Or.inr rfl)) (pss_one (ps_for PassesOwn.never rfl (pi_listK (K := K) rfl (pv 4)) (pg_tup rfl (pgs_cons (pg_name (i := 9) sc__law_bits.nd rfl (by first | exact Or.inl rfl | exact Or.inr rfl)) (pgs_cons (pg_name (i := 12) sc__law_bits.nd rfl (by first | exact Or.inl rfl | exact Or.inr rfl)) pgs_nil))) (pss_cons (ps_comp (osc := defScope s__law_bits) (ON := ["_law_net_here", "_law_row", "_law_state", "_law_ins", "_law_sums", "_law_stores", "_law_outs", "_law_bits_here", "_law_k", "_law_name_here", "_law_wire", "_law_turn", "_law_wires_here", "_law_known"]) (N := ["_law_wire", "_law_bits_here"]) (n := 1) (fx := [7]) (i := 13) sc__law_bits.nd rfl rfl rfl rfl rfl rfl (by decide +kernel) (pi_listK (K := K) rfl (pv 12)) (gk_name (by decide)) (fun _ _ _ _ _ => ⟨(pg_name (i := 0) (show List.Nodup (["_law_wire", "_law_bits_here"] : List Str) from by decide +kernel) rfl (by first | exact Or.inl rfl | exact Or.inr rfl)), (pts_one (pt_cmp (pc_din hu (pv 0) (pv 1)))), (pv 0)⟩))
      (pss_one (ps_if (pt_cmpR op_eq (pe_callB (call_lenK (K := K) rfl) (by rfl) T.n_len PySem.boot_len (pa_cons (pv 13) pa_nil)) (pe_callB (call_lenK (K := K) rfl) (by rfl) T.n_len PySem.boot_len (pa_cons (pv 12) pa_nil)) (nomark _)) (pss_one (ps_dput hu (pv 7) (pv 9) (pe_op op_mod (pe_callB (call_sumL rfl) (by rfl) T.n_sum PyProof.Rows.boot_sum (pa_cons (pe_comp (osc := defScope s__law_bits) (ON := ["_law_net_here", "_law_row", "_law_state", "_law_ins", "_law_sums", "_law_stores", "_law_outs", "_law_bits_here", "_law_k", "_law_name_here", "_law_wire", "_law_turn", "_law_wires_here", "_law_known"]) (N := ["_law_wire", "_law_bits_here"]) (n := 1) (fx := [7]) rfl rfl rfl (by decide +kernel) (pi_listK (K := K) rfl (pv 12)) (gk_name (by decide)) (fun _ _ _ _ _ => ⟨(pg_name (i := 0) (show List.Nodup (["_law_wire", "_law_bits_here"] : List Str) from by decide +kernel) rfl (by first | exact Or.inl rfl | exact Or.inr rfl)), pts_nil, (pe_dget hu (pv 1) (pv 0) (fun _ _ => rfl))⟩)) pa_nil)) pe_int) rfl)) pss_nil))))))
      (pss_one (ps_ret (pv 7))))))))), s_start (σ' := [some _, some _, some _, none, none, none, none, none, none, none, none, none, none, none]) rfl ?_⟩
    walk_at "l2"
    intro Db H1 f1 s1 e1
    walk_at "l2"
    refine .inl ⟨⟨_, SqL.of (s1.get hn.i)⟩, ?_⟩
    refine for_enum (xs := N.ins.map V.str) (fun k σ H' => ∃ (v8 v9 : Option V) (ks : List Str), σ = [some (V.ref t), some (nat row), some (nat st), some (V.ref i), some (V.ref s), some (V.ref u), some (V.ref o), some (V.ref Db), v8, v9, none, none, none, none] ∧ Same H H' ∧ H' Db = some (.dK (bitK F ks)) ∧ ks.Nodup ∧ (∀ z ∈ ks, z ∈ N.names) ∧ ∀ z ∈ N.ins.take k, z ∈ ks) ⟨none, none, [], rfl, s1, e1, List.nodup_nil, fun _ h => absurd h (by simp), fun _ h => absurd h (by simp)⟩ (fun k σ H' _ ⟨_, _, _, _, s', _⟩ => SqL.of (s'.get hn.i)) ?_ ?_
    · rintro k y σ H' pz H7 hy ⟨v8, v9, ks, rfl, s', eb, nd, sub, ink⟩ fp s7 e7
      obtain ⟨z, hz, rfl⟩ := get_map hy
      have hlt := (List.getElem?_eq_some_iff.mp hz).1
      have eb7 := s7.get eb
      walk_at "l2"
      rw [Int.toNat_natCast, bit_bn, ← vl.i k z hz]
      refine s_dputS eb7 (small1000 (lkb ks nd sub)) fun H8 u8 => ?_
      have u8' := u8
      rw [show V.int ((M.bn (F z) : Nat) : Int) = nat (M.bn (F z)) from rfl, put_addK] at u8'
      walk_at "l2"
      refine ⟨_, _, addK z ks, rfl, fun b ob e => u8'.oth _ _ (ne_of_none e f1) (s7.get (s'.get e)), u8'.at', nd_addK nd, fun y hy => (mem_addK.mp hy).elim (sub y) fun e => e ▸ inN z (List.mem_of_getElem? hz), fun y hy => ?_⟩
      rw [take_succ hz] at hy
      rcases List.mem_append.mp hy with h | h
      · exact mem_addK.mpr (.inl (ink y h))
      · exact mem_addK.mpr (.inr (List.mem_singleton.mp h))
    · rintro σ H2 ⟨v8, v9, ks0, rfl, s2, e2, nd0, sub0, in0⟩
      rw [List.length_map, List.take_length] at in0
      have qsl : ∀ {k : Nat} {r : Qs}, qs[k]? = some r → N.sts[k]? = some (r.2.1, r.2.2) := fun {k r} h => by rw [← hn.et, List.getElem?_map, h]; rfl
      walk_at "l2"
      refine .inl ⟨⟨_, SqL.of (s2.get hn.t)⟩, ?_⟩
      refine for_enum (xs := qs.map fun r => V.ref r.1) (fun k σ H' => ∃ (v8 v9 v10 : Option V) (ks : List Str), σ = [some (V.ref t), some (nat row), some (nat st), some (V.ref i), some (V.ref s), some (V.ref u), some (V.ref o), some (V.ref Db), v8, v9, v10, none, none, none] ∧ Same H H' ∧ H' Db = some (.dK (bitK F ks)) ∧ ks.Nodup ∧ (∀ z ∈ ks, z ∈ N.names) ∧ (∀ z ∈ N.ins, z ∈ ks) ∧ ∀ r ∈ N.sts.take k, r.1 ∈ ks) ⟨_, _, none, ks0, rfl, s2, e2, nd0, sub0, in0, fun _ h => absurd h (by simp)⟩ (fun k σ H' _ ⟨_, _, _, _, _, s', _⟩ => SqL.of (s'.get hn.t)) ?_ ?_
      · rintro k y σ H' pz H7 hy ⟨v8, v9, v10, ks, rfl, s', eb, nd, sub, ink, stk⟩ fp s7 e7
        obtain ⟨r, hz, rfl⟩ := get_map hy
        have hlt := (List.getElem?_eq_some_iff.mp hz).1
        have eb7 := s7.get eb
        have er7 := s7.get (s'.get (hn.tr r (List.mem_of_getElem? hz)))
        have hst := qsl hz
        walk_at "l2"
        rw [Int.toNat_natCast, bit_bn, ← vl.t k _ _ hst]
        refine s_dputS eb7 (small1000 (lkb ks nd sub)) fun H8 u8 => ?_
        have u8' := u8
        rw [show V.int ((M.bn (F r.2.1) : Nat) : Int) = nat (M.bn (F r.2.1)) from rfl, put_addK] at u8'
        walk_at "l2"
        refine ⟨_, _, _, addK r.2.1 ks, rfl, fun b ob e => u8'.oth _ _ (ne_of_none e f1) (s7.get (s'.get e)), u8'.at', nd_addK nd, fun y hy => (mem_addK.mp hy).elim (sub y) fun e => e ▸ stN r.2.1 (List.mem_map.mpr ⟨_, List.mem_of_getElem? hst, rfl⟩), fun y hy => mem_addK.mpr (.inl (ink y hy)), fun y hy => ?_⟩
        rw [take_succ hst] at hy
        rcases List.mem_append.mp hy with h | h
        · exact mem_addK.mpr (.inl (stk y h))
        · rw [List.mem_singleton.mp h]; exact mem_addK.mpr (.inr rfl)
      · rintro σ H3 ⟨v8', v9', v10', ks1, rfl, s3, e3, nd1, sub1, in1, st1⟩
        have hql : qs.length = N.sts.length := by rw [← hn.et, List.length_map]
        rw [List.length_map, hql, List.take_length] at st1
        have kn0 : Kn N od 0 0 ks1 := ⟨nd1, sub1, in1, fun z hz => (by obtain ⟨r, hr, rfl⟩ := List.mem_map.mp hz; exact st1 r hr), fun j hj => by omega, fun j hj => by omega⟩
        clear nd1 sub1 in1 st1 e2 s2 nd0 sub0 in0
        have hs3 := s3.get hn.s
        have lrs : rs.length = N.sums.length := by rw [← hn.es, List.length_map]
        walk_at "l2"
        have ls := g.ls
        rw [List.length_map, lrs, Int.toNat_natCast]
        refine ⟨by omega, by omega, ?_⟩
        refine for_range (fun k σ H' => ∃ (v9 v10 v11 v12 v13 : Option V) (ks : List Str), σ = [some (V.ref t), some (nat row), some (nat st), some (V.ref i), some (V.ref s), some (V.ref u), some (V.ref o), some (V.ref Db), v8', v9, v10, v11, v12, v13] ∧ Same H H' ∧ H' Db = some (.dK (bitK F ks)) ∧ Kn N od k 0 ks) ⟨_, _, none, none, none, ks1, rfl, s3, e3, kn0⟩ ?_ ?_
        · rintro k σ H' hk ⟨v9, v10, v11, v12, v13, ks, rfl, s', eb, kn⟩
          have hs' := s'.get hn.s
          walk_at "l2"
          refine for_list (xs := rs.map fun r => V.ref r.1) (fun j σ H'' => ∃ (v9 v10 v12 v13 : Option V) (ks : List Str), σ = [some (V.ref t), some (nat row), some (nat st), some (V.ref i), some (V.ref s), some (V.ref u), some (V.ref o), some (V.ref Db), v8', v9, v10, some (V.int (0 + k)), v12, v13] ∧ Same H H'' ∧ H'' Db = some (.dK (bitK F ks)) ∧ Kn N od k j ks) ⟨_, _, _, _, ks, rfl, s', eb, kn⟩ (fun j σ H'' _ ⟨_, _, _, _, _, _, s'', _⟩ => SqL.of (s''.get hn.s)) ?_ ?_
          · rintro j y σ H4 hy ⟨v9, v10, v12, v13, ks, rfl, s4, eb4, kn4⟩
            obtain ⟨r, hz, rfl⟩ := get_map hy
            have hlt := (List.getElem?_eq_some_iff.mp hz).1
            obtain ⟨er, ew⟩ := hn.sr r (List.mem_of_getElem? hz)
            have er4 := s4.get er
            have ew4 := s4.get ew
            have hsm : N.sums[j]? = some (r.2.2.1, r.2.2.2) := by rw [← hn.es, List.getElem?_map, hz]; rfl
            have lw : r.2.2.2.length ≤ 24 := g.lw _ (List.mem_of_getElem? hsm)
            walk_at "l2"
            intro D5 hD5
            refine comp_list (xs := r.2.2.2.map V.str) (fun m ys H' => ys = ((r.2.2.2.take m).filter fun w => decide (w ∈ ks)).map V.str ∧ Same H4 H' ∧ H' D5 = some (.lst ys)) ⟨rfl, same_new hD5, upd_same⟩ (fun m ys H' _ ⟨_, s', _⟩ => SqL.of (s'.get ew4)) ?_ ?_
            · rintro m y ys H' hy ⟨rfl, s5, e5⟩
              obtain ⟨w', hw, rfl⟩ := get_map hy
              have hlt' := (List.getElem?_eq_some_iff.mp hw).1
              have eb5 := s5.get eb4
              have fs : (r.2.2.2.take (m + 1)).filter (fun w => decide (w ∈ ks)) = (r.2.2.2.take m).filter (fun w => decide (w ∈ ks)) ++ (if decide (w' ∈ ks) = true then [w'] else []) := by rw [take_succ hw, List.filter_append, List.filter_cons]; rfl
              walk_at "l2"
              refine s_dinS eb5 ?_
              rw [val_isSome]
              by_cases hk' : w' ∈ ks
              · rw [if_pos (decide_eq_true hk')] at fs
                refine ⟨_, rfl, ?_⟩
                rw [if_pos (decide_eq_true hk')]
                walk_at "l2"
                refine ⟨e5, ?_, ?_, fun b ob e => ?_, upd_same⟩
                · rw [List.length_map]
                  have := List.length_filter_le (fun w => decide (w ∈ ks)) (r.2.2.2.take m)
                  rw [List.length_take] at this
                  exact small1000 (by omega)
                · rw [fs, List.map_append]; rfl
                · rw [upd_ne (ne_of_none e hD5)]; exact s5.get e
              · rw [if_neg (by simpa using hk')] at fs
                refine ⟨_, rfl, ?_⟩
                rw [if_neg (by simpa using hk')]
                refine ⟨?_, s5, e5⟩
                rw [fs, List.append_nil]
            · rintro ys H5 ⟨rfl, s5, e5⟩
              rw [List.length_map, List.take_length] at e5
              have ew5 := s5.get ew4
              have eb5 := s5.get eb4
              walk_at "l2"
              rw [List.length_map, List.length_map]
              by_cases hall : ∀ w ∈ r.2.2.2, w ∈ ks
              · have ef : r.2.2.2.filter (fun w => decide (w ∈ ks)) = r.2.2.2 := List.filter_eq_self.mpr fun w hw => decide_eq_true (hall w hw)
                rw [ef, if_pos (decide_eq_true rfl)]
                walk_at "l2"
                intro D6 hD6
                refine comp_list (xs := r.2.2.2.map V.str) (fun m ys H' => Cs (fun m ys => ys = ((r.2.2.2.take m).map fun w => M.bn (F w)).map nat) H5 D6 m ys H') (Cs.zero hD6 rfl) (fun m ys H' _ c => SqL.of (c.same.get ew5)) ?_ ?_
                · intro m y ys H' hy c
                  obtain ⟨w', hw, rfl⟩ := get_map hy
                  have hlt' := (List.getElem?_eq_some_iff.mp hw).1
                  have eb6 := c.same.get eb5
                  walk_at "l2"
                  refine s_dgetS eb6 (val_bitK F (hall w' (List.mem_of_getElem? hw))) ?_
                  walk_at "l2"
                  refine Cs.put hD6 c.same c.at' c.len (by omega) ?_
                  rw [c.pv, take_succ hw, List.map_append, List.map_append]; rfl
                · intro ys H6 c
                  have e6 := c.at'
                  rw [c.pv, List.length_map, List.take_length] at e6
                  have eb6 := c.same.get eb5
                  have s46 := s5.trans c.same
                  clear c
                  walk_at "l2"
                  refine s_sumN e6 ?_
                  walk_at "l2"
                  have ev : (((r.2.2.2.map fun w => M.bn (F w)).sum : Nat) : Int) % 2 = ((M.bn (F r.2.2.1) : Nat) : Int) := by
                    rw [vl.s _ _ (List.mem_of_getElem? hsm), ← par_xb]; omega
                  rw [ev]
                  refine s_dputS eb6 (small1000 (lkb ks kn4.nd kn4.sub)) fun H8 u8 => ?_
                  have u8' := u8
                  rw [show V.int ((M.bn (F r.2.2.1) : Nat) : Int) = nat (M.bn (F r.2.2.1)) from rfl, put_addK] at u8'
                  walk_at "l2"
                  exact ⟨_, _, _, _, addK r.2.2.1 ks, rfl, fun b ob e => u8'.oth _ _ (ne_of_none e f1) (s46.get (s4.get e)), u8'.at', kn4.put hsm⟩
              · have hne : (r.2.2.2.filter fun w => decide (w ∈ ks)).length ≠ r.2.2.2.length := fun e => hall fun w hw => by
                  have := List.length_filter_eq_length_iff.mp e w hw
                  simpa using this
                rw [if_neg (by simp only [decide_eq_true_eq, V.int.injEq]; omega)]
                walk_at "l2"
                exact ⟨_, _, _, _, ks, rfl, s4.trans s5, eb5, kn4.skip g tp hsm hall⟩
          · rintro σ H4 ⟨v9, v10, v12, v13, ks, rfl, s4, eb4, kn4⟩
            rw [List.length_map, lrs] at kn4
            exact ⟨_, _, _, _, _, ks, rfl, s4, eb4, kn4.turn tp⟩
        · rintro σ H4 ⟨v9, v10, v11, v12, v13, ks, rfl, s4, eb4, kn4⟩
          walk_at "l2"
          exact q Db H4 ks F f1 s4 eb4 vl (kn4.all tp)
theorem ok__law_answer (T : Tx K mg a) : FnOk P w K mg base CX0 1 a.f__law_answer a.d__law_answer ["_law_net_here", "_law_bits_here"] sp_lansw := by
  refine T.F__law_answer.ok sc__law_answer (fun vs H Q E h => ?_) (fun cdv A outer s H vs Q E hr h => ?_)
  · obtain ⟨t, i, s, u, o, D, rs, qs, N, ks, F, rfl, _⟩ := h; rfl
  · obtain ⟨t, i, s, u, o, D, rs, qs, N, ks, F, rfl, et, hn, g, hD, sub, q⟩ := h
    have hu := hu_of hr
    have lo := g.lo
    have ho := hn.o
    refine ⟨_, ((pss_one (ps_ret (pe_callB (call_sumL rfl) (by rfl) T.n_sum PyProof.Rows.boot_sum (pa_cons (pe_comp (osc := defScope s__law_answer) (ON := ["_law_net_here", "_law_bits_here"]) (N := ["_law_k", "_law_wire", "_law_bits_here"]) (n := 2) (fx := [1]) rfl rfl rfl (by decide +kernel) (pi_enumT (K := K) rfl (by rfl) T.n_enumerate (pe_ix (ix_tupK (K := K) rfl) (pv 0) pe_int (fun _ _ => rfl))) (gk_tup (gks_cons (gk_name (by decide)) (gks_cons (gk_name (by decide)) gks_nil))) (fun _ _ _ _ _ => ⟨(pg_tupK (K := K) (n := 2) rfl rfl (pgs_cons (pg_name (i := 0) (show List.Nodup (["_law_k", "_law_wire", "_law_bits_here"] : List Str) from by decide +kernel) rfl (by first | exact Or.inl rfl | exact Or.inr rfl)) (pgs_cons (pg_name (i := 1) (show List.Nodup (["_law_k", "_law_wire", "_law_bits_here"] : List Str) from by decide +kernel) rfl (by first | exact Or.inl rfl | exact Or.inr rfl)) pgs_nil))), pts_nil, (pe_op op_shl (pe_dget hu (pv 2) (pv 1) (fun _ _ => rfl)) (pv 0))⟩)) pa_nil))))), s_start (σ' := [some _, some _]) rfl ?_⟩
    walk_at "l2"
    refine .inl ⟨⟨_, SqL.of ho⟩, ?_⟩
    intro D2 hD2
    refine comp_enumL (xs := N.outs.map V.str) (fun i ys H' => Cs (fun i ys => ys = (bitsum F N.outs i).map nat) H D2 i ys H') (Cs.zero hD2 rfl) (fun i ys H' _ c => SqL.of (c.same.get ho)) (fun i x ys H' pz H2 hx c fp s2 e2 => ?_) (fun ys H' c => ?_)
    · obtain ⟨z, hz, rfl⟩ := get_map hx
      have hlt := (List.getElem?_eq_some_iff.mp hz).1
      have eb2 := s2.get (c.same.get hD)
      walk_at "l2"
      refine s_dgetS eb2 (val_bitK F ((sub z).mpr (g.os z (List.mem_of_getElem? hz)))) ?_
      walk_at "l2"
      refine s_rI (i := ((M.bn (F z) : Nat) : Int)) ?_ ?_
      · have b1 : ∀ b : Bool, M.bn b ≤ 1 := fun b => by cases b <;> decide
        have := b1 (F z)
        dsimp only [CPow]; omega
      refine Cs.put hD2 (c.same.trans s2) (s2.get c.at') c.len (by omega) ?_
      rw [c.pv, bitsum_succ F hz, List.map_append, Int.toNat_natCast]
      congr 1
    · have e6 := c.at'
      rw [c.pv, List.length_map] at e6
      have s6 := c.same
      clear c
      walk_at "l2"
      refine s_sumN e6 ?_
      rw [bitsum_mat]
      walk_at "l2"
      exact q _ s6
theorem ok__law_next (T : Tx K mg a) : FnOk P w K mg base CX0 1 a.f__law_next a.d__law_next ["_law_net_here", "_law_bits_here"] sp_lnext := by
  refine T.F__law_next.ok sc__law_next (fun vs H Q E h => ?_) (fun cdv A outer s H vs Q E hr h => ?_)
  · obtain ⟨t, i, s, u, o, D, rs, qs, N, ks, F, rfl, _⟩ := h; rfl
  · obtain ⟨t, i, s, u, o, D, rs, qs, N, ks, F, rfl, et, hn, g, hD, sub, q⟩ := h
    have hu := hu_of hr
    have lt := g.lt
    have ht := hn.t
    have hql : qs.length = N.sts.length := by rw [← hn.et, List.length_map]
    have qsl : ∀ {k : Nat} {r : Qs}, qs[k]? = some r → (N.sts.map (·.2))[k]? = some r.2.2 := fun {k r} h => by rw [← hn.et, List.getElem?_map, List.getElem?_map, h]; rfl
    refine ⟨_, ((pss_one (ps_ret (pe_callB (call_sumL rfl) (by rfl) T.n_sum PyProof.Rows.boot_sum (pa_cons (pe_comp (osc := defScope s__law_next) (ON := ["_law_net_here", "_law_bits_here"]) (N := ["_law_k", "_law_name_here", "_law_wire", "_law_bits_here"]) (n := 3) (fx := [1]) rfl rfl rfl (by decide +kernel) (pi_enumT (K := K) rfl (by rfl) T.n_enumerate (pe_ix (ix_tupK (K := K) rfl) (pv 0) pe_int (fun _ _ => rfl))) (gk_tup (gks_cons (gk_name (by decide)) (gks_cons (gk_tup (gks_cons (gk_name (by decide)) (gks_cons (gk_name (by decide)) gks_nil))) gks_nil))) (fun _ _ _ _ _ => ⟨(pg_tupK (K := K) (n := 2) rfl rfl (pgs_cons (pg_name (i := 0) (show List.Nodup (["_law_k", "_law_name_here", "_law_wire", "_law_bits_here"] : List Str) from by decide +kernel) rfl (by first | exact Or.inl rfl | exact Or.inr rfl)) (pgs_cons (pg_tupK (K := K) (n := 2) rfl rfl (pgs_cons (pg_name (i := 1) (show List.Nodup (["_law_k", "_law_name_here", "_law_wire", "_law_bits_here"] : List Str) from by decide +kernel) rfl (by first | exact Or.inl rfl | exact Or.inr rfl)) (pgs_cons (pg_name (i := 2) (show List.Nodup (["_law_k", "_law_name_here", "_law_wire", "_law_bits_here"] : List Str) from by decide +kernel) rfl (by first | exact Or.inl rfl | exact Or.inr rfl)) pgs_nil))) pgs_nil))), pts_nil, (pe_op op_shl (pe_dget hu (pv 3) (pv 2) (fun _ _ => rfl)) (pv 0))⟩)) pa_nil))))), s_start (σ' := [some _, some _]) rfl ?_⟩
    walk_at "l2"
    refine .inl ⟨⟨_, SqL.of ht⟩, ?_⟩
    intro D2 hD2
    refine comp_enumL (xs := qs.map fun r => V.ref r.1) (fun i ys H' => Cs (fun i ys => ys = (bitsum F (N.sts.map (·.2)) i).map nat) H D2 i ys H') (Cs.zero hD2 rfl) (fun i ys H' _ c => SqL.of (c.same.get ht)) (fun i x ys H' pz H2 hx c fp s2 e2 => ?_) (fun ys H' c => ?_)
    · obtain ⟨r, hz, rfl⟩ := get_map hx
      have hlt := (List.getElem?_eq_some_iff.mp hz).1
      have eb2 := s2.get (c.same.get hD)
      have er2 := s2.get (c.same.get (hn.tr r (List.mem_of_getElem? hz)))
      have hst := qsl hz
      walk_at "l2"
      refine s_dgetS eb2 (val_bitK F ((sub r.2.2).mpr (by obtain ⟨q', hq', e'⟩ := List.mem_map.mp (List.mem_of_getElem? hst); rw [← e']; exact g.ts q' hq'))) ?_
      walk_at "l2"
      refine s_rI (i := ((M.bn (F r.2.2) : Nat) : Int)) ?_ ?_
      · have b1 : ∀ b : Bool, M.bn b ≤ 1 := fun b => by cases b <;> decide
        have := b1 (F r.2.2)
        dsimp only [CPow]; omega
      refine Cs.put hD2 (c.same.trans s2) (s2.get c.at') c.len (by omega) ?_
      rw [c.pv, bitsum_succ F hst, List.map_append, Int.toNat_natCast]
      congr 1
    · have e6 := c.at'
      rw [c.pv, List.length_map, hql] at e6
      have s6 := c.same
      clear c
      walk_at "l2"
      refine s_sumN e6 ?_
      rw [show bitsum F (N.sts.map (·.2)) N.sts.length = bitsum F (N.sts.map (·.2)) (N.sts.map (·.2)).length by rw [List.length_map], bitsum_mat]
      walk_at "l2"
      exact q _ s6
end
section
variable {P : Program} {w : World} {K : PySem.W.Frag} {mg : Str → Option Value} {base : Heap} {a : Ad}
local macro_rules | `(tactic| walk_at "l2step") => `(tactic| first | ((with_reducible refine' c_whole ?e ?_); (case e => walk_at "l2kind")) | ((with_reducible refine' c_mask ?e ?_); (case e => walk_at "l2kind")) | (with_reducible refine s_iEnumT ?_) | (with_reducible refine s_methX ?_))
local macro_rules | `(tactic| walk_at "l2step") => `(tactic| ((with_reducible refine' c_mixv ?a ?b ?_); (case a => omega); (case b => omega)))
theorem ok_law (T : Tx K mg a) : FnOk P w K mg base CX0 7 a.f_law a.d_law ["_law_script"] (sp_law K) := by
  have G__law_net := ok__law_net (P := P) (w := w) (base := base) T
  have G__law_mix := ok__law_mix (P := P) (w := w) (base := base) T
  have G__law_bits := ok__law_bits (P := P) (w := w) (base := base) T
  have G__law_answer := ok__law_answer (P := P) (w := w) (base := base) T
  have G__law_next := ok__law_next (P := P) (w := w) (base := base) T
  have G__law_wires_right := ok__law_wires_right (P := P) (w := w) (base := base) T
  have G_answers_of := ok_answers_of (P := P) (w := w) (base := base) T
  have G_Net___init__ := ok_Net___init__ (P := P) (w := w) (base := base) T
  have G_Run___init__ := ok_Run___init__ (P := P) (w := w) (base := base) T
  have G_Run_step := ok_Run_step (P := P) (w := w) (base := base) T
  have G_Run_state := ok_Run_state (P := P) (w := w) (base := base) T
  have G_Run_answered := ok_Run_answered (P := P) (w := w) (base := base) T
  refine T.F_law.ok sc_law (fun vs H Q E h => ?_) (fun cdv A outer s H vs Q E hr h => ?_)
  · obtain ⟨p, ns, rfl, _⟩ := h; rfl
  · obtain ⟨p0, ns, rfl, hS, hlen, q⟩ := h
    have hu0 := hu0_of hr
    refine ⟨_, ((pss_cons (ps_set (i := 1) sc_law.nd rfl (by first | exact Or.inl rfl | exact Or.inr rfl) (pe_call G__law_net (hr.mono (by decide)) (by rfl) T.g__law_net T.k__law_net T.b__law_net .nil pass0 (pa_cons (pv 0) (pa_cons pe_int (pa_cons pe_int pa_nil)))))
      (pss_cons (ps_set (i := 2) sc_law.nd rfl (by first | exact Or.inl rfl | exact Or.inr rfl) (pe_make T.M_Net G_Net___init__ (hr.mono (by decide)) (by rfl) T.g_Net T.b_Net___init__ .nil pass0 (pa_cons (pe_ix (ix_tupK (K := K) rfl) (pv 1) pe_int (fun _ _ => rfl)) (pa_cons (pe_ix (ix_tupK (K := K) rfl) (pv 1) pe_int (fun _ _ => rfl)) (pa_cons (pe_ix (ix_tupK (K := K) rfl) (pv 1) pe_int (fun _ _ => rfl)) (pa_cons (pe_ix (ix_tupK (K := K) rfl) (pv 1) pe_int (fun _ _ => rfl)) pa_nil))))))
      (pss_cons (ps_set (i := 3) sc_law.nd rfl (by first | exact Or.inl rfl | exact Or.inr rfl) (pe_make T.M_Run G_Run___init__ (hr.mono (by decide)) (by rfl) T.g_Run T.b_Run___init__ .nil pass0 (pa_cons (pv 2) pa_nil)))
      (pss_cons (ps_set (i := 4) sc_law.nd rfl (by first | exact Or.inl rfl | exact Or.inr rfl) pe_int)
      (pss_cons (ps_set (i := 5) sc_law.nd rfl (by first | exact Or.inl rfl | exact Or.inr rfl) (pe_lst pa_nil))
      (pss_cons (ps_set (i := 6) sc_law.nd rfl (by first | exact Or.inl rfl | exact Or.inr rfl) (pe_lst pa_nil))
      (pss_cons (ps_set (i := 7) sc_law.nd rfl (by first | exact Or.inl rfl | exact Or.inr rfl) (pe_make T.M_Run G_Run___init__ (hr.mono (by decide)) (by rfl) T.g_Run T.b_Run___init__ .nil pass0 (pa_cons (pv 2) pa_nil)))
      (pss_cons (ps_set (i := 8) sc_law.nd rfl (by first | exact Or.inl rfl | exact Or.inr rfl) pe_int)
      (pss_cons (ps_if (PW.pt (pw_or (pt_cmpR op_ne (pe_meth0 (pv 3) T.C_Run T.m_Run_state G_Run_state (hr.mono (by decide)) T.b_Run_state .nil pass0) pe_int (nomark _)) (pw_or1 (pt_cmpR (op_neLK (K := K) rfl hu0) (pe_meth0 (pv 3) T.C_Run T.m_Run_answered G_Run_answered (hr.mono (by decide)) T.b_Run_answered .nil pass0) (pe_lst pa_nil) (nomark _))))) (pss_one (ps_ret pe_bl)) pss_nil)
      (pss_cons (ps_for PassesOwn.never rfl (pi_listK (K := K) rfl (pe_slice (sl_listK (K := K) rfl) (pv 0) (po_some pe_int) (po_some pe_int))) (pg_name (i := 9) sc_law.nd rfl (by first | exact Or.inl rfl | exact Or.inr rfl)) (pss_cons (ps_set (i := 10) sc_law.nd rfl (by first | exact Or.inl rfl | exact Or.inr rfl) (pe_op op_mod (pe_call G__law_mix (hr.mono (by decide)) (by rfl) T.g__law_mix T.k__law_mix T.b__law_mix .nil pass0 (pa_cons (pv 9) (pa_cons pe_int pa_nil))) (pe_op op_shl pe_int (pe_callB (call_lenK (K := K) rfl) (by rfl) T.n_len PySem.boot_len (pa_cons (pe_ix (ix_tupK (K := K) rfl) (pv 1) pe_int (fun _ _ => rfl)) pa_nil)))))
      (pss_cons (ps_set (i := 11) sc_law.nd rfl (by first | exact Or.inl rfl | exact Or.inr rfl) (pe_call G__law_bits (hr.mono (by decide)) (by rfl) T.g__law_bits T.k__law_bits T.b__law_bits .nil pass0 (pa_cons (pv 1) (pa_cons (pv 10) (pa_cons (pv 8) pa_nil)))))
      (pss_cons (ps_if (pt_cmpR op_ne (pe_meth (pv 7) T.C_Run T.m_Run_step G_Run_step (hr.mono (by decide)) T.b_Run_step .nil pass0 (pa_cons (pv 10) pa_nil)) (pe_call G__law_answer (hr.mono (by decide)) (by rfl) T.g__law_answer T.k__law_answer T.b__law_answer .nil pass0 (pa_cons (pv 1) (pa_cons (pv 11) pa_nil))) (nomark _)) (pss_one (ps_ret pe_bl)) pss_nil)
      (pss_cons (ps_set (i := 8) sc_law.nd rfl (by first | exact Or.inl rfl | exact Or.inr rfl) (pe_call G__law_next (hr.mono (by decide)) (by rfl) T.g__law_next T.k__law_next T.b__law_next .nil pass0 (pa_cons (pv 1) (pa_cons (pv 11) pa_nil))))
      (pss_cons (ps_set (i := 10) sc_law.nd rfl (by first | exact Or.inl rfl | exact Or.inr rfl) (pe_op op_mod (pv 9) (pe_op op_shl pe_int (pe_callB (call_lenK (K := K) rfl) (by rfl) T.n_len PySem.boot_len (pa_cons (pe_ix (ix_tupK (K := K) rfl) (pv 1) pe_int (fun _ _ => rfl)) pa_nil)))))
      (pss_cons (ps_set (i := 11) sc_law.nd rfl (by first | exact Or.inl rfl | exact Or.inr rfl) (pe_call G__law_bits (hr.mono (by decide)) (by rfl) T.g__law_bits T.k__law_bits T.b__law_bits .nil pass0 (pa_cons (pv 1) (pa_cons (pv 10) (pa_cons (pv 4) pa_nil)))))
      (pss_cons (ps_set (i := 12) sc_law.nd rfl (by first | exact Or.inl rfl | exact Or.inr rfl) (pe_meth (pv 3) T.C_Run T.m_Run_step G_Run_step (hr.mono (by decide)) T.b_Run_step .nil pass0 (pa_cons (pv 10) pa_nil)))
      (pss_cons (ps_set (i := 4) sc_law.nd rfl (by first | exact Or.inl rfl | exact Or.inr rfl) (pe_call G__law_next (hr.mono (by decide)) (by rfl) T.g__law_next T.k__law_next T.b__law_next .nil pass0 (pa_cons (pv 1) (pa_cons (pv 11) pa_nil))))
      (pss_cons (ps_expr (pe_bmK (K := K) rfl PySem.F.plainAttrs_list PySem.F.slot_list_append PySem.F.type_list_append mt_append (pv 5) (pa_cons (pv 10) pa_nil)))
      (pss_cons (ps_expr (pe_bmK (K := K) rfl PySem.F.plainAttrs_list PySem.F.slot_list_append PySem.F.type_list_append mt_append (pv 6) (pa_cons (pe_call G__law_answer (hr.mono (by decide)) (by rfl) T.g__law_answer T.k__law_answer T.b__law_answer .nil pass0 (pa_cons (pv 1) (pa_cons (pv 11) pa_nil))) pa_nil)))
      (pss_cons (ps_if (PW.pt (pw_or (pt_val (pe_callB (call_isiK (K := K) rfl) (by rfl) T.n_isinstance PyProof.Rows.boot_isinstance (pa_cons (pv 12) (pa_cons (pe_bltn (v := .ty "bool") (by rfl) T.n_bool PyProof.Rows.boot_bool rfl) pa_nil)))) (pw_or (pt_cmpR op_ne (pv 12) (pe_ix (ix_listK (K := K) rfl) (pv 6) (pe_un un_neg pe_int) (fun _ _ => rfl)) (nomark _)) (pw_or1 (pt_cmpR op_ne (pe_meth0 (pv 3) T.C_Run T.m_Run_state G_Run_state (hr.mono (by decide)) T.b_Run_state .nil pass0) (pv 4) (nomark _)))))) (pss_one (ps_ret pe_bl)) pss_nil)
      (pss_cons (ps_if (pt_not (pt_val (pe_call G__law_wires_right (hr.mono (by decide)) (by rfl) T.g__law_wires_right T.k__law_wires_right T.b__law_wires_right .nil pass0 (pa_cons (pv 3) (pa_cons (pv 11) pa_nil))))) (pss_one (ps_ret pe_bl)) pss_nil)
      (pss_cons (ps_expr (pe_bmK (K := K) rfl PySem.F.plainAttrs_list PySem.F.slot_list_append PySem.F.type_list_append mt_append (pe_meth0 (pv 3) T.C_Run T.m_Run_answered G_Run_answered (hr.mono (by decide)) T.b_Run_answered .nil pass0) (pa_cons pe_int pa_nil)))
      (pss_one (ps_if (PW.pt (pw_and (pt_cmpR op_eq (pe_callB (call_lenK (K := K) rfl) (by rfl) T.n_len PySem.boot_len (pa_cons (pv 5) pa_nil)) pe_int (nomark _)) (pw_and1 (pt_cmpR (op_neLK (K := K) rfl hu0) (pe_call G_answers_of (hr.mono (by decide)) (by rfl) T.g_answers_of T.k_answers_of T.b_answers_of .nil pass0 (pa_cons (pv 2) (pa_cons (pv 5) pa_nil))) (pv 6) (nomark _))))) (pss_one (ps_ret pe_bl)) pss_nil))))))))))))))))
      (pss_cons (ps_set (i := 13) sc_law.nd rfl (by first | exact Or.inl rfl | exact Or.inr rfl) (pe_callTy (call_listK (K := K) rfl) (by rfl) T.n_list PyProof.Rows.boot_list (pa_cons (pv 5) pa_nil)))
      (pss_cons (ps_if (PW.pt (pw_or (pt_cmpR (op_neLK (K := K) rfl hu0) (pe_call G_answers_of (hr.mono (by decide)) (by rfl) T.g_answers_of T.k_answers_of T.b_answers_of .nil pass0 (pa_cons (pv 2) (pa_cons (pv 13) pa_nil))) (pv 6) (nomark _)) (pw_or1 (pt_cmpR (op_neLK (K := K) rfl hu0) (pv 13) (pv 5) (nomark _))))) (pss_one (ps_ret pe_bl)) pss_nil)
      (pss_one (ps_ret (pe_and (pe_callB (call_isiK (K := K) rfl) (by rfl) T.n_isinstance PyProof.Rows.boot_isinstance (pa_cons (pe_meth0 (pv 3) T.C_Run T.m_Run_answered G_Run_answered (hr.mono (by decide)) T.b_Run_answered .nil pass0) (pa_cons (pe_bltn (v := .ty "list") (by rfl) T.n_list PyProof.Rows.boot_list rfl) pa_nil))) (pe_and (pe_cmpR (op_eqLK (K := K) rfl hu0) (pe_meth0 (pv 3) T.C_Run T.m_Run_answered G_Run_answered (hr.mono (by decide)) T.b_Run_answered .nil pass0) (pv 6) (nomark _)) (pe_one (pe_cmpR op_eq (pe_meth0 (pv 7) T.C_Run T.m_Run_state G_Run_state (hr.mono (by decide)) T.b_Run_state .nil pass0) (pv 8) (nomark _)))))))))))))))))))), s_start (σ' := [some _, none, none, none, none, none, none, none, none, none, none, none, none, none]) rfl ?_⟩
    walk_at "l2"
    refine ⟨p0, ns, 2, rfl, hS, by decide, fun t i s u o H1 rs qs N s1 et hn g li => ?_⟩
    have hS1 := Same.seq s1 hS
    walk_at "l2"
    intro x dx H2 f2 s2 e2
    refine ⟨x, dx, i, s, u, o, rs, qs, N, rfl, e2, hn.same s2, g, fun H3 od k3 na => ⟨rfl, ?_⟩⟩
    have s13 : Same H1 H3 := fun b ob e => k3 _ _ (ne_of_none e f2) (s2.get e)
    have hS3 := Same.seq s13 hS1
    have et3 := s13.get et
    have hn3 := hn.same s13
    clear k3 e2 s2 f2 hn et hS1 s1 hS s13
    have tp := na.tp
    walk_at "l2"
    intro r1 dr1 H4 f4 s4 e4
    refine ⟨r1, dr1, x, N, od, rfl, e4, na.same s4, fun H5 l1 k5 fl1 ra1 => ⟨rfl, ?_⟩⟩
    have s35 : Same H3 H5 := fun b ob e => k5 _ _ (ne_of_none e f4) (s4.get e)
    have fl1' : H3 l1 = none := s4.free fl1
    clear k5 e4
    walk_at "l2"
    intro Dr H6 f6 s6 e6
    walk_at "l2"
    intro Da H7 f7 s7 e7
    walk_at "l2"
    intro r2 dr2 H8 f8 s8 e8
    have s38 := s35.trans (s6.trans (s7.trans s8))
    refine ⟨r2, dr2, x, N, od, rfl, e8, na.same s38, fun H9 l2 k9 fl2 ra2 => ⟨rfl, ?_⟩⟩
    have s89 : Same (H7) H9 := fun b ob e => k9 _ _ (ne_of_none e f8) (s8.get e)
    have s39 := s35.trans (s6.trans (s7.trans s89))
    obtain ⟨dx1, d1, h1⟩ := ra1.ho
    have s59 := s6.trans (s7.trans s89)
    have h19 := s59.get h1
    have n12 : r1 ≠ r2 := ne_of_none (s7.get (s6.get h1)) f8
    have l12 : l1 ≠ l2 := ne_of_none (s8.get (s7.get (s6.get ra1.hl))) fl2
    have lDr1 : l1 ≠ Dr := ne_of_none ra1.hl f6
    have lDa1 : l1 ≠ Da := ne_of_none (s6.get ra1.hl) f7
    have lDr2 : Dr ≠ l2 := ne_of_none (s8.get (s7.get e6)) fl2
    have lDa2 : Da ≠ l2 := ne_of_none (s8.get e7) fl2
    have lDD : Dr ≠ Da := ne_of_none e6 f7
    have fr1 := f4
    have fr2 : H3 r2 = none := s35.free (s6.free (s7.free f8))
    have fl2' : H3 l2 = none := s38.free fl2
    have fDr : H3 Dr = none := s35.free f6
    have fDa : H3 Da = none := s35.free (s6.free f7)
    have ra19 : RunA (NAof a) H9 a.c_Run r1 l1 x N od 0 [] := ⟨⟨dx1, d1, h19⟩, s59.get ra1.hl, na.same s39⟩
    have eDr9 := s89.get (s7.get e6)
    have eDa9 := s89.get e7
    clear ra1 e6 e7 e8 s6 s7 s8 f6 f7 f8 k9 s89 s59 fl2 fl1 s4 f4 s35 s38
    walk_at "l2"
    refine s_methAt h19 rfl ?_
    walk_at "l2"
    refine ⟨r1, l1, x, N, od, _, _, rfl, ra19, ?_⟩
    walk_at "l2"
    refine s_methAt h19 rfl ?_
    walk_at "l2"
    refine ⟨r1, l1, x, N, od, _, _, rfl, ra19, fun D10 H10 f10 s10 e10 => ?_⟩
    walk_at "l2"
    intro D11 H11 f11 s11 e11
    refine s_eqNil (l := []) (SqL.of (s11.get e10)) (SqL.of e11) ?_
    walk_at "l2"
    intro D12 H12 f12 s12 e12
    obtain ⟨cs, ecs, lcs⟩ := cut_ints ns (some 9) (some 62)
    rw [ecs] at e12
    have hp0 := Nat.two_pow_pos N.ins.length
    have s912 := s10.trans (s11.trans s12)
    have s312 := s39.trans s912
    have f12' : H3 D12 = none := s39.free (s10.free (s11.free f12))
    have lD121 : l1 ≠ D12 := ne_of_none (s11.get (s10.get ra19.hl)) f12
    have lD122 : l2 ≠ D12 := ne_of_none (s11.get (s10.get ra2.hl)) f12
    have lDrD : Dr ≠ D12 := ne_of_none (s11.get (s10.get eDr9)) f12
    have lDaD : Da ≠ D12 := ne_of_none (s11.get (s10.get eDa9)) f12
    walk_at "l2"
    refine for_list (xs := cs.map V.int) (fun i σ H' => ∃ (v9 v10 v11 v12 : Option V) (rw1 rw2 : List Nat), σ = [some (V.ref p0), some (V.ref t), some (V.ref x), some (V.ref r1), some (nat (rst N 0 rw1)), some (V.ref Dr), some (V.ref Da), some (V.ref r2), some (nat (rst N 0 rw2)), v9, v10, v11, v12, none] ∧ rw1.length = i ∧ rw2.length = i ∧ (∀ r ∈ rw1, r < 2 ^ N.ins.length) ∧ Same H3 H' ∧ RunA (NAof a) H' a.c_Run r1 l1 x N od (rst N 0 rw1) (ran N 0 rw1) ∧ RunA (NAof a) H' a.c_Run r2 l2 x N od (rst N 0 rw2) (ran N 0 rw2) ∧ H' Dr = some (.lst (rw1.map nat)) ∧ H' Da = some (.lst ((ran N 0 rw1).map nat)) ∧ H' D12 = some (.lst (cs.map V.int)))
      ⟨none, none, none, none, [], [], rfl, rfl, rfl, fun _ h => absurd h (by simp), s312, ?_, ?_, s912.get eDr9, s912.get eDa9, e12⟩ (fun i σ H' _ ⟨_, _, _, _, _, _, _, _, _, _, _, _, _, _, _, e⟩ => SqL.of e) ?_ ?_
    · exact ⟨⟨_, _, s912.get h19⟩, s912.get ra19.hl, na.same s312⟩
    · obtain ⟨dx2, d2, h2⟩ := ra2.ho
      exact ⟨⟨_, _, s912.get h2⟩, s912.get ra2.hl, na.same s312⟩
    · rintro k y σ H' hy ⟨v9, v10, v11, v12, rw1, rw2, rfl, lr1, lr2, hb, s', ra1', ra2', eDr, eDa, eD12⟩
      obtain ⟨cc, hc, rfl⟩ := get_map hy
      have hlt := (List.getElem?_eq_some_iff.mp hc).1
      have et' := s'.get et3
      have hi' := s'.get hn3.i
      walk_at "l2"
      rw [List.length_map]
      walk_at "l2"
      rw [shl1]
      walk_at "l2"
      obtain ⟨m2, hm2, hml2⟩ := emod_nat (c := mixV cc 3) (m := ((2 ^ N.ins.length : Nat) : Int)) (by omega)
      rw [hm2]
      refine ⟨t, i, s, u, o, rs, qs, N, od, m2, rst N 0 rw2, rfl, et', hn3.same s', g, tp, fun B1 H1' ks1 F1 fB1 sB1 eB1 vl1 ab1 => ?_⟩
      obtain ⟨dx2', d2', h2'⟩ := ra2'.ho
      walk_at "l2"
      refine s_methAt (sB1.get h2') rfl ?_
      walk_at "l2"
      have ra2B : RunA (NAof a) H1' a.c_Run r2 l2 x N od (rst N 0 rw2) (ran N 0 rw2) := ⟨⟨_, _, sB1.get h2'⟩, sB1.get ra2'.hl, na.same (s'.trans sB1)⟩
      refine ⟨r2, l2, x, N, od, _, m2, _, rfl, ra2B, by omega, by rw [ran_len]; omega, fun H2' _ _ _ kk2 ra2c _ _ _ _ => ?_⟩
      have s2' : Same H3 H2' := fun b ob e => kk2 _ _ (ne_of_none e fr2) (ne_of_none e fl2') (sB1.get (s'.get e))
      have eB1' := kk2 _ _ (ne_of eB1 (sB1.get h2') fun z => by cases z) (ne_of eB1 ra2B.hl fun z => by cases z) eB1
      walk_at "l2"
      refine ⟨t, i, s, u, o, B1, rs, qs, N, ks1, F1, rfl, s2'.get et3, hn3.same s2', g, eB1', ab1, fun H3' s3' => ?_⟩
      rw [nan_eq g tp vl1]
      walk_at "l2"
      refine s_ifF (by simp) ?_
      walk_at "l2"
      have s3a := s2'.trans s3'
      refine ⟨t, i, s, u, o, B1, rs, qs, N, ks1, F1, rfl, s3a.get et3, hn3.same s3a, g, s3'.get eB1', ab1, fun H4' s4' => ?_⟩
      rw [nst_eq g tp vl1]
      have s4a := s3a.trans s4'
      have kk24 : K2 r2 l2 H' H4' := fun b ob n1 n2 e => s4'.get (s3'.get (kk2 _ _ n1 n2 (sB1.get e)))
      have ra2d : RunA (NAof a) H4' a.c_Run r2 l2 x N od (rst N 0 (rw2 ++ [m2])) (ran N 0 (rw2 ++ [m2])) := by
        rw [rst_snoc, ran_snoc]
        obtain ⟨p1, p2, p3⟩ := ra2c.ho
        exact ⟨⟨p1, p2, s4'.get (s3'.get p3)⟩, s4'.get (s3'.get ra2c.hl), na.same s4a⟩
      obtain ⟨dx1', d1', h1'⟩ := ra1'.ho
      have h14 := kk24 _ _ n12 (ne_of h1' ra2'.hl fun z => by cases z) h1'
      have hl14 := kk24 _ _ (ne_of ra1'.hl h2' fun z => by cases z) l12 ra1'.hl
      have eDr4 := kk24 _ _ (ne_of eDr h2' fun z => by cases z) lDr2 eDr
      have eDa4 := kk24 _ _ (ne_of eDa h2' fun z => by cases z) lDa2 eDa
      have eD124 := kk24 _ _ (ne_of eD12 h2' fun z => by cases z) lD122.symm eD12
      have lr2' : (rw2 ++ [m2]).length = k + 1 := by rw [List.length_append, lr2]; rfl
      rw [← rst_snoc]
      generalize rw2 ++ [m2] = rw2' at ra2d lr2'
      clear kk24 ra2c s3a s4' s3' s2' eB1' kk2 ra2B eB1 vl1 ab1 sB1 fB1 h2' d2' hm2 et' hi' eDr eDa eD12 ra2' hml2 h1' ra1'
      have et4 := s4a.get et3
      have hi4 := s4a.get hn3.i
      walk_at "l2"
      rw [List.length_map]
      walk_at "l2"
      rw [shl1]
      walk_at "l2"
      obtain ⟨m1, hm1, hml1⟩ := emod_nat (c := cc) (m := ((2 ^ N.ins.length : Nat) : Int)) (by omega)
      rw [hm1]
      refine ⟨t, i, s, u, o, rs, qs, N, od, m1, rst N 0 rw1, rfl, et4, hn3.same s4a, g, tp, fun B1 H5' ks1 F1 fB1 sB1 eB1 vl1 ab1 => ?_⟩
      walk_at "l2"
      refine s_methAt (sB1.get h14) rfl ?_
      walk_at "l2"
      have ra1B : RunA (NAof a) H5' a.c_Run r1 l1 x N od (rst N 0 rw1) (ran N 0 rw1) := ⟨⟨_, _, sB1.get h14⟩, sB1.get hl14, na.same (s4a.trans sB1)⟩
      refine ⟨r1, l1, x, N, od, _, m1, _, rfl, ra1B, by omega, by rw [ran_len]; omega, fun H6' db dxb fb kk6 ra1c hp6 fdb eb6 vlb => ?_⟩
      have s6' : Same H3 H6' := fun b ob e => kk6 _ _ (ne_of_none e fr1) (ne_of_none e fl1') (sB1.get (s4a.get e))
      have eB6 := kk6 _ _ (ne_of eB1 (sB1.get h14) fun z => by cases z) (ne_of eB1 (sB1.get hl14) fun z => by cases z) eB1
      have hdbB : db ≠ B1 := fun z => by rw [z, eB1] at fdb; cases fdb
      have eDr6 := kk6 _ _ (ne_of (sB1.get eDr4) (sB1.get h14) fun z => by cases z) lDr1.symm (sB1.get eDr4)
      have eDa6 := kk6 _ _ (ne_of (sB1.get eDa4) (sB1.get h14) fun z => by cases z) lDa1.symm (sB1.get eDa4)
      have eD126 := kk6 _ _ (ne_of (sB1.get eD124) (sB1.get h14) fun z => by cases z) lD121.symm (sB1.get eD124)
      obtain ⟨dxd, dd, h24⟩ := ra2d.ho
      have h26 := kk6 _ _ n12.symm (ne_of (sB1.get h24) (sB1.get hl14) fun z => by cases z) (sB1.get h24)
      have hl26 := kk6 _ _ (ne_of (sB1.get ra2d.hl) (sB1.get h14) fun z => by cases z) l12.symm (sB1.get ra2d.hl)
      walk_at "l2"
      refine ⟨t, i, s, u, o, B1, rs, qs, N, ks1, F1, rfl, s6'.get et3, hn3.same s6', g, eB6, ab1, fun H7' s7' => ?_⟩
      rw [nst_eq g tp vl1]
      have hl17 := s7'.get ra1c.hl
      have eDr7 := s7'.get eDr6
      have hm1' : m1 < 2 ^ N.ins.length := by omega
      walk_at "l2"
      refine s_append eDr7 (by rw [List.length_map, sizeLine_eq]; omega) fun H8' u8 => ?_
      have s8a : Same H3 H8' := fun b ob e => u8.oth _ _ (ne_of_none e fDr) (s7'.get (s6'.get e))
      have eB8 := u8.oth _ _ (ne_of (s7'.get eB6) eDr7 fun z => by cases z) (s7'.get eB6)
      have eDa8 := u8.oth _ _ lDD.symm (s7'.get eDa6)
      walk_at "l2"
      refine ⟨t, i, s, u, o, B1, rs, qs, N, ks1, F1, rfl, s8a.get et3, hn3.same s8a, g, eB8, ab1, fun H9' s9' => ?_⟩
      rw [nan_eq g tp vl1]
      have eDa9' := s9'.get eDa8
      walk_at "l2"
      refine s_append eDa9' (by rw [List.length_map, ran_len, sizeLine_eq]; omega) fun H10' u10 => ?_
      have k710 : ∀ b ob, b ≠ Dr → b ≠ Da → H7' b = some ob → H10' b = some ob := fun b ob n1 n2 e => u10.oth _ _ n2 (s9'.get (u8.oth _ _ n1 e))
      have s10a : Same H3 H10' := fun b ob e => u10.oth _ _ (ne_of_none e fDa) (s9'.get (s8a.get e))
      have eDr10 : H10' Dr = some (.lst ((rw1 ++ [m1]).map nat)) := by rw [List.map_append]; exact u10.oth _ _ lDD (s9'.get u8.at')
      have eDa10 : H10' Da = some (.lst ((ran N 0 (rw1 ++ [m1])).map nat)) := by rw [ran_snoc, List.map_append]; exact u10.at'
      have h110 := k710 _ _ (ne_of (s7'.get hp6) eDr7 fun z => by cases z) (ne_of (s7'.get hp6) (s7'.get eDa6) fun z => by cases z) (s7'.get hp6)
      have hl110 := k710 _ _ lDr1 lDa1 hl17
      have h210 := k710 _ _ (ne_of (s7'.get h26) eDr7 fun z => by cases z) (ne_of (s7'.get h26) (s7'.get eDa6) fun z => by cases z) (s7'.get h26)
      have hl210 := k710 _ _ lDr2.symm lDa2.symm (s7'.get hl26)
      have eD1210 := k710 _ _ lDrD.symm lDaD.symm (s7'.get eD126)
      have eB10 := k710 _ _ (ne_of (s7'.get eB6) eDr7 fun z => by cases z) (ne_of (s7'.get eB6) (s7'.get eDa6) fun z => by cases z) (s7'.get eB6)
      have eb10 := k710 _ _ (ne_of (s7'.get eb6) eDr7 fun z => by cases z) (ne_of (s7'.get eb6) (s7'.get eDa6) fun z => by cases z) (s7'.get eb6)
      have lr1' : (rw1 ++ [m1]).length = k + 1 := by rw [List.length_append, lr1]; rfl
      have hb' : ∀ r ∈ rw1 ++ [m1], r < 2 ^ N.ins.length := fun r hr => (List.mem_append.mp hr).elim (hb r) fun e => by rw [List.mem_singleton.mp e]; exact hm1'
      have fvb : ∀ z ∈ need N od, fb z = F1 z := fun z hz => vlb.uniq g tp vl1 z ((need_mem g tp z).mp hz)
      rw [bitK_congr fvb] at eb10
      have elast : atI ((ran N 0 (rw1 ++ [m1])).map nat) (-1) = some (nat (nan N m1 (rst N 0 rw1))) := by
        rw [ran_snoc, List.map_append]
        exact atI_last _ _
      have eas : (ran N 0 rw1 ++ [nan N m1 (rst N 0 rw1)]) = ran N 0 (rw1 ++ [m1]) := (ran_snoc N m1 rw1 0).symm
      have est : nst N m1 (rst N 0 rw1) = rst N 0 (rw1 ++ [m1]) := (rst_snoc N m1 rw1 0).symm
      rw [eas] at hl110
      rw [est] at h110
      rw [est]
      have hne : (ran N 0 (rw1 ++ [m1])).map nat ≠ [] := fun e => by have := congrArg List.length e; rw [List.length_map, ran_len, lr1'] at this; simp at this
      have ra1e : RunA (NAof a) H10' a.c_Run r1 l1 x N od (rst N 0 (rw1 ++ [m1])) (ran N 0 (rw1 ++ [m1])) := ⟨⟨_, _, h110⟩, hl110, na.same s10a⟩
      have fB3 : H3 B1 = none := s4a.free fB1
      have lB1 : l1 ≠ B1 := ne_of hl110 eB10 fun z => by cases z
      have lB2 : l2 ≠ B1 := ne_of hl210 eB10 fun z => by cases z
      have rB1 : r1 ≠ B1 := ne_of h110 eB10 fun z => by cases z
      have rB2 : r2 ≠ B1 := ne_of h210 eB10 fun z => by cases z
      have DrB : Dr ≠ B1 := ne_of eDr10 eB10 fun z => by cases z
      have DaB : Da ≠ B1 := ne_of eDa10 eB10 fun z => by cases z
      have D12B : D12 ≠ B1 := ne_of eD1210 eB10 fun z => by cases z
      clear eas est k710 u8 u10 s9' s8a eB8 eDa8 eDa9' hl17 eDr7 s7' s6' eB6 eDr6 eDa6 eD126 h24 h26 hl26 kk6 ra1c hp6 fdb eb6 vlb ra1B eB1 sB1 fB1 h14 hl14 eDr4 eDa4 eD124 et4 hi4 s4a ra2d hm1 hml1
      walk_at "l2"
      refine s_ifF (by simp) ?_
      walk_at "l2"
      refine s_methAt h110 rfl ?_
      walk_at "l2"
      refine ⟨r1, l1, x, N, od, _, _, rfl, ra1e, ?_⟩
      walk_at "l2"
      refine s_ifF (by simp) ?_
      walk_at "l2"
      refine ⟨r1, l1, x, db, dxb, B1, N, od, _, _, F1, ks1, rfl, h110, fun H2 k2 => na.same fun b ob e => k2 _ _ (ne_of_none e fB3) (s10a.get e), hl110, hne, eb10, hdbB, eB10, ab1, fun H11' k11 => ?_⟩
      have s11a : Same H3 H11' := fun b ob e => k11 _ _ (ne_of_none e fB3) (s10a.get e)
      have h111 := k11 _ _ rB1 h110
      have hl111 := k11 _ _ lB1 hl110
      have h211 := k11 _ _ rB2 h210
      have hl211 := k11 _ _ lB2 hl210
      have eDr11 := k11 _ _ DrB eDr10
      have eDa11 := k11 _ _ DaB eDa10
      have eD1211 := k11 _ _ D12B eD1210
      clear k11 ra1e eb10 eB10 h110 hl110 h210 hl210 eDr10 eDa10 eD1210 s10a
      walk_at "l2"
      refine s_methAt h111 rfl ?_
      walk_at "l2"
      refine ⟨r1, l1, x, N, od, _, _, rfl, ⟨⟨_, _, h111⟩, hl111, na.same s11a⟩, fun D13 H13' f13 s13 e13 => ?_⟩
      walk_at "l2"
      refine s_append e13 (by rw [List.length_map, ran_len, sizeLine_eq]; omega) fun H14' u14 => ?_
      have s14 : Same H11' H14' := fun b ob e => u14.oth _ _ (ne_of_none e f13) (s13.get e)
      have s14a := s11a.trans s14
      have eDr14 := s14.get eDr11
      have fin : ∀ H15', Same H14' H15' → ∃ (v9 v10 v11 v12 : Option V) (rw1_1 rw2 : List Nat), [some (V.ref p0), some (V.ref t), some (V.ref x), some (V.ref r1), some (nat (rst N 0 (rw1 ++ [m1]))), some (V.ref Dr), some (V.ref Da), some (V.ref r2), some (nat (rst N 0 rw2')), some (V.int cc), some (nat m1), some (V.ref B1), some (nat (nan N m1 (rst N 0 rw1))), none] = [some (V.ref p0), some (V.ref t), some (V.ref x), some (V.ref r1), some (nat (rst N 0 rw1_1)), some (V.ref Dr), some (V.ref Da), some (V.ref r2), some (nat (rst N 0 rw2)), v9, v10, v11, v12, none] ∧ rw1_1.length = k + 1 ∧ rw2.length = k + 1 ∧ (∀ r ∈ rw1_1, r < 2 ^ N.ins.length) ∧ Same H3 H15' ∧ RunA (NAof a) H15' a.c_Run r1 l1 x N od (rst N 0 rw1_1) (ran N 0 rw1_1) ∧ RunA (NAof a) H15' a.c_Run r2 l2 x N od (rst N 0 rw2) (ran N 0 rw2) ∧ H15' Dr = some (.lst (rw1_1.map nat)) ∧ H15' Da = some (.lst ((ran N 0 rw1_1).map nat)) ∧ H15' D12 = some (.lst (cs.map V.int)) := fun H15' s15 =>
        ⟨_, _, _, _, rw1 ++ [m1], rw2', rfl, lr1', lr2', hb', s14a.trans s15, ⟨⟨_, _, s15.get (s14.get h111)⟩, s15.get (s14.get hl111), na.same (s14a.trans s15)⟩, ⟨⟨_, _, s15.get (s14.get h211)⟩, s15.get (s14.get hl211), na.same (s14a.trans s15)⟩, s15.get eDr14, s15.get (s14.get eDa11), s15.get (s14.get eD1211)⟩
      walk_at "l2"
      by_cases h7 : V.int ((((rw1 ++ [m1]).map nat).length : Nat) : Int) = V.int 7
      · rw [if_pos (decide_eq_true h7)]
        walk_at "l2"
        refine ⟨x, Dr, N, od, _, rfl, na.same s14a, eDr14, by omega, hb', fun D15 H15' f15 s15 e15 => ?_⟩
        walk_at "l2"
        refine s_eqLT (SqL.of e15) (SqL.of (s15.get (s14.get eDa11))) ?_
        walk_at "l2"
        exact fin _ s15
      · rw [if_neg (by simpa using h7)]
        walk_at "l2"
        exact fin _ (Same.refl _)
    · rintro σ H' ⟨v9, v10, v11, v12, rw1, rw2, rfl, lr1, lr2, hb, s', ra1', ra2', eDr, eDa, eD12⟩
      rw [List.length_map] at lr1
      walk_at "l2"
      intro D13 H13' f13 s13 e13
      have s13a := s'.trans s13
      walk_at "l2"
      refine ⟨x, D13, N, od, _, rfl, na.same s13a, e13, by omega, hb, fun D15 H15' f15 s15 e15 => ?_⟩
      walk_at "l2"
      refine s_eqLT (SqL.of e15) (SqL.of (s15.get (s13.get eDa))) ?_
      walk_at "l2"
      refine s_eqLT (SqL.of (s15.get e13)) (SqL.of (s15.get (s13.get eDr))) ?_
      have s15b := s13.trans s15
      have s15a := s'.trans s15b
      obtain ⟨dx1', d1', h1'⟩ := ra1'.ho
      obtain ⟨dx2', d2', h2'⟩ := ra2'.ho
      walk_at "l2"
      refine s_methAt (s15b.get h1') rfl ?_
      walk_at "l2"
      refine ⟨r1, l1, x, N, od, _, _, rfl, ⟨⟨_, _, s15b.get h1'⟩, s15b.get ra1'.hl, na.same s15a⟩, fun D16 H16' f16 s16 e16 => ?_⟩
      walk_at "l2"
      refine s_methAt (s16.get (s15b.get h1')) rfl ?_
      walk_at "l2"
      refine ⟨r1, l1, x, N, od, _, _, rfl, ⟨⟨_, _, s16.get (s15b.get h1')⟩, s16.get (s15b.get ra1'.hl), na.same (s15a.trans s16)⟩, fun D17 H17' f17 s17 e17 => ?_⟩
      walk_at "l2"
      refine s_eqLT (SqL.of e17) (SqL.of (s17.get (s16.get (s15b.get eDa)))) ?_
      walk_at "l2"
      refine s_methAt (s17.get (s16.get (s15b.get h2'))) rfl ?_
      walk_at "l2"
      refine ⟨r2, l2, x, N, od, _, _, rfl, ⟨⟨_, _, s17.get (s16.get (s15b.get h2'))⟩, s17.get (s16.get (s15b.get ra2'.hl)), na.same (s15a.trans (s16.trans s17))⟩, ?_⟩
      walk_at "l2"
      rw [decide_eq_true rfl]
      exact q _
end
theorem all_mk {l : PySem.W.OpenLaw} {w : World} {K : PySem.W.Frag} {h : Heap} {mg : Str → Option Value} {fa : Addr} (X : K.In h) (G : h.Ns mainGlobals mg) (hfa : mg "law" = some (.ref fa))
    {od_is_whole an_is_whole : Option Addr} {sl_is_whole : Array (Option Value)} {oc_is_whole kv_is_whole dc_is_whole pm_is_whole cd_is_whole ct_is_whole : Value} {f_is_whole : Addr}
    {od_is_mask an_is_mask : Option Addr} {sl_is_mask : Array (Option Value)} {oc_is_mask kv_is_mask dc_is_mask pm_is_mask cd_is_mask ct_is_mask : Value} {f_is_mask : Addr}
    {od_is_name an_is_name : Option Addr} {sl_is_name : Array (Option Value)} {oc_is_name kv_is_name dc_is_name pm_is_name cd_is_name ct_is_name : Value} {f_is_name : Addr}
    {od_mask_of an_mask_of : Option Addr} {sl_mask_of : Array (Option Value)} {oc_mask_of kv_mask_of dc_mask_of pm_mask_of cd_mask_of ct_mask_of : Value} {f_mask_of : Addr}
    {od_turn_bits an_turn_bits : Option Addr} {sl_turn_bits : Array (Option Value)} {oc_turn_bits kv_turn_bits dc_turn_bits pm_turn_bits cd_turn_bits ct_turn_bits : Value} {f_turn_bits : Addr}
    {od_mask_at an_mask_at : Option Addr} {sl_mask_at : Array (Option Value)} {oc_mask_at kv_mask_at dc_mask_at pm_mask_at cd_mask_at ct_mask_at : Value} {f_mask_at : Addr}
    {od_Run___init__ an_Run___init__ : Option Addr} {sl_Run___init__ : Array (Option Value)} {oc_Run___init__ kv_Run___init__ dc_Run___init__ pm_Run___init__ cd_Run___init__ ct_Run___init__ : Value} {f_Run___init__ : Addr}
    {od_Run_step an_Run_step : Option Addr} {sl_Run_step : Array (Option Value)} {oc_Run_step kv_Run_step dc_Run_step pm_Run_step cd_Run_step ct_Run_step : Value} {f_Run_step : Addr}
    {od_Run_state an_Run_state : Option Addr} {sl_Run_state : Array (Option Value)} {oc_Run_state kv_Run_state dc_Run_state pm_Run_state cd_Run_state ct_Run_state : Value} {f_Run_state : Addr}
    {od_Run_wire_now an_Run_wire_now : Option Addr} {sl_Run_wire_now : Array (Option Value)} {oc_Run_wire_now kv_Run_wire_now dc_Run_wire_now pm_Run_wire_now cd_Run_wire_now ct_Run_wire_now : Value} {f_Run_wire_now : Addr}
    {od_Run_answered an_Run_answered : Option Addr} {sl_Run_answered : Array (Option Value)} {oc_Run_answered kv_Run_answered dc_Run_answered pm_Run_answered cd_Run_answered ct_Run_answered : Value} {f_Run_answered : Addr}
    {od_answers_of an_answers_of : Option Addr} {sl_answers_of : Array (Option Value)} {oc_answers_of kv_answers_of dc_answers_of pm_answers_of cd_answers_of ct_answers_of : Value} {f_answers_of : Addr}
    {od_Wire___init__ an_Wire___init__ : Option Addr} {sl_Wire___init__ : Array (Option Value)} {oc_Wire___init__ kv_Wire___init__ dc_Wire___init__ pm_Wire___init__ cd_Wire___init__ ct_Wire___init__ : Value} {f_Wire___init__ : Addr}
    {od_InWire___init__ an_InWire___init__ : Option Addr} {sl_InWire___init__ : Array (Option Value)} {oc_InWire___init__ kv_InWire___init__ dc_InWire___init__ pm_InWire___init__ cd_InWire___init__ ct_InWire___init__ : Value} {f_InWire___init__ : Addr}
    {od_InWire_bit an_InWire_bit : Option Addr} {sl_InWire_bit : Array (Option Value)} {oc_InWire_bit kv_InWire_bit dc_InWire_bit pm_InWire_bit cd_InWire_bit ct_InWire_bit : Value} {f_InWire_bit : Addr}
    {od_SumWire___init__ an_SumWire___init__ : Option Addr} {sl_SumWire___init__ : Array (Option Value)} {oc_SumWire___init__ kv_SumWire___init__ dc_SumWire___init__ pm_SumWire___init__ cd_SumWire___init__ ct_SumWire___init__ : Value} {f_SumWire___init__ : Addr}
    {od_SumWire_bit an_SumWire_bit : Option Addr} {sl_SumWire_bit : Array (Option Value)} {oc_SumWire_bit kv_SumWire_bit dc_SumWire_bit pm_SumWire_bit cd_SumWire_bit ct_SumWire_bit : Value} {f_SumWire_bit : Addr}
    {od_StoreWire___init__ an_StoreWire___init__ : Option Addr} {sl_StoreWire___init__ : Array (Option Value)} {oc_StoreWire___init__ kv_StoreWire___init__ dc_StoreWire___init__ pm_StoreWire___init__ cd_StoreWire___init__ ct_StoreWire___init__ : Value} {f_StoreWire___init__ : Addr}
    {od_StoreWire_bit an_StoreWire_bit : Option Addr} {sl_StoreWire_bit : Array (Option Value)} {oc_StoreWire_bit kv_StoreWire_bit dc_StoreWire_bit pm_StoreWire_bit cd_StoreWire_bit ct_StoreWire_bit : Value} {f_StoreWire_bit : Addr}
    {od_check_sizes an_check_sizes : Option Addr} {sl_check_sizes : Array (Option Value)} {oc_check_sizes kv_check_sizes dc_check_sizes pm_check_sizes cd_check_sizes ct_check_sizes : Value} {f_check_sizes : Addr}
    {od_check_names an_check_names : Option Addr} {sl_check_names : Array (Option Value)} {oc_check_names kv_check_names dc_check_names pm_check_names cd_check_names ct_check_names : Value} {f_check_names : Addr}
    {od_check_wire an_check_wire : Option Addr} {sl_check_wire : Array (Option Value)} {oc_check_wire kv_check_wire dc_check_wire pm_check_wire cd_check_wire ct_check_wire : Value} {f_check_wire : Addr}
    {od_check_wires an_check_wires : Option Addr} {sl_check_wires : Array (Option Value)} {oc_check_wires kv_check_wires dc_check_wires pm_check_wires cd_check_wires ct_check_wires : Value} {f_check_wires : Addr}
    {od_wires_by_name an_wires_by_name : Option Addr} {sl_wires_by_name : Array (Option Value)} {oc_wires_by_name kv_wires_by_name dc_wires_by_name pm_wires_by_name cd_wires_by_name ct_wires_by_name : Value} {f_wires_by_name : Addr}
    {od_waits an_waits : Option Addr} {sl_waits : Array (Option Value)} {oc_waits kv_waits dc_waits pm_waits cd_waits ct_waits : Value} {f_waits : Addr}
    {od_ordered an_ordered : Option Addr} {sl_ordered : Array (Option Value)} {oc_ordered kv_ordered dc_ordered pm_ordered cd_ordered ct_ordered : Value} {f_ordered : Addr}
    {od_Net___init__ an_Net___init__ : Option Addr} {sl_Net___init__ : Array (Option Value)} {oc_Net___init__ kv_Net___init__ dc_Net___init__ pm_Net___init__ cd_Net___init__ ct_Net___init__ : Value} {f_Net___init__ : Addr}
    {od_Net_in_names an_Net_in_names : Option Addr} {sl_Net_in_names : Array (Option Value)} {oc_Net_in_names kv_Net_in_names dc_Net_in_names pm_Net_in_names cd_Net_in_names ct_Net_in_names : Value} {f_Net_in_names : Addr}
    {od_Net_store_rows an_Net_store_rows : Option Addr} {sl_Net_store_rows : Array (Option Value)} {oc_Net_store_rows kv_Net_store_rows dc_Net_store_rows pm_Net_store_rows cd_Net_store_rows ct_Net_store_rows : Value} {f_Net_store_rows : Addr}
    {od_Net_out_wires an_Net_out_wires : Option Addr} {sl_Net_out_wires : Array (Option Value)} {oc_Net_out_wires kv_Net_out_wires dc_Net_out_wires pm_Net_out_wires cd_Net_out_wires ct_Net_out_wires : Value} {f_Net_out_wires : Addr}
    {od_Net_wire_of an_Net_wire_of : Option Addr} {sl_Net_wire_of : Array (Option Value)} {oc_Net_wire_of kv_Net_wire_of dc_Net_wire_of pm_Net_wire_of cd_Net_wire_of ct_Net_wire_of : Value} {f_Net_wire_of : Addr}
    {od_Net_names_by_need an_Net_names_by_need : Option Addr} {sl_Net_names_by_need : Array (Option Value)} {oc_Net_names_by_need kv_Net_names_by_need dc_Net_names_by_need pm_Net_names_by_need cd_Net_names_by_need ct_Net_names_by_need : Value} {f_Net_names_by_need : Addr}
    {od__law_cell an__law_cell : Option Addr} {sl__law_cell : Array (Option Value)} {oc__law_cell kv__law_cell dc__law_cell pm__law_cell cd__law_cell ct__law_cell : Value} {f__law_cell : Addr}
    {od__law_mix an__law_mix : Option Addr} {sl__law_mix : Array (Option Value)} {oc__law_mix kv__law_mix dc__law_mix pm__law_mix cd__law_mix ct__law_mix : Value} {f__law_mix : Addr}
    {od__law_name an__law_name : Option Addr} {sl__law_name : Array (Option Value)} {oc__law_name kv__law_name dc__law_name pm__law_name cd__law_name ct__law_name : Value} {f__law_name : Addr}
    {od__law_wires an__law_wires : Option Addr} {sl__law_wires : Array (Option Value)} {oc__law_wires kv__law_wires dc__law_wires pm__law_wires cd__law_wires ct__law_wires : Value} {f__law_wires : Addr}
    {od__law_net an__law_net : Option Addr} {sl__law_net : Array (Option Value)} {oc__law_net kv__law_net dc__law_net pm__law_net cd__law_net ct__law_net : Value} {f__law_net : Addr}
    {od__law_bits an__law_bits : Option Addr} {sl__law_bits : Array (Option Value)} {oc__law_bits kv__law_bits dc__law_bits pm__law_bits cd__law_bits ct__law_bits : Value} {f__law_bits : Addr}
    {od__law_answer an__law_answer : Option Addr} {sl__law_answer : Array (Option Value)} {oc__law_answer kv__law_answer dc__law_answer pm__law_answer cd__law_answer ct__law_answer : Value} {f__law_answer : Addr}
    {od__law_next an__law_next : Option Addr} {sl__law_next : Array (Option Value)} {oc__law_next kv__law_next dc__law_next pm__law_next cd__law_next ct__law_next : Value} {f__law_next : Addr}
    {od__law_wires_right an__law_wires_right : Option Addr} {sl__law_wires_right : Array (Option Value)} {oc__law_wires_right kv__law_wires_right dc__law_wires_right pm__law_wires_right cd__law_wires_right ct__law_wires_right : Value} {f__law_wires_right : Addr}
    {od_law an_law : Option Addr} {sl_law : Array (Option Value)} {oc_law kv_law dc_law pm_law cd_law ct_law : Value} {f_law : Addr}
    {c_Run : Addr} (a_Run : PySem.W.nsIn K mainGlobals "Run" = some (some (.ref c_Run)))
    {c_Wire : Addr} (a_Wire : PySem.W.nsIn K mainGlobals "Wire" = some (some (.ref c_Wire)))
    {c_InWire : Addr} (a_InWire : PySem.W.nsIn K mainGlobals "InWire" = some (some (.ref c_InWire)))
    {c_SumWire : Addr} (a_SumWire : PySem.W.nsIn K mainGlobals "SumWire" = some (some (.ref c_SumWire)))
    {c_StoreWire : Addr} (a_StoreWire : PySem.W.nsIn K mainGlobals "StoreWire" = some (some (.ref c_StoreWire)))
    {c_Net : Addr} (a_Net : PySem.W.nsIn K mainGlobals "Net" = some (some (.ref c_Net)))
    (a_is_whole : PySem.W.nsIn K mainGlobals "is_whole" = some (some (.ref f_is_whole)))
    (l_is_whole : K.lookup f_is_whole = some ⟨oc_is_whole, od_is_whole, .func (PySem.W.fnOf "is_whole" "is_whole" (defArgs s_is_whole) (defBody s_is_whole) (defScope s_is_whole) .none kv_is_whole dc_is_whole pm_is_whole an_is_whole cd_is_whole ct_is_whole), sl_is_whole⟩)
    (c_is_whole : PySem.W.codeIn K cd_is_whole "is_whole" = true)
    (p_is_whole : PySem.W.keepIn K (.ref f_is_whole) = true)
    (a_is_mask : PySem.W.nsIn K mainGlobals "is_mask" = some (some (.ref f_is_mask)))
    (l_is_mask : K.lookup f_is_mask = some ⟨oc_is_mask, od_is_mask, .func (PySem.W.fnOf "is_mask" "is_mask" (defArgs s_is_mask) (defBody s_is_mask) (defScope s_is_mask) .none kv_is_mask dc_is_mask pm_is_mask an_is_mask cd_is_mask ct_is_mask), sl_is_mask⟩)
    (c_is_mask : PySem.W.codeIn K cd_is_mask "is_mask" = true)
    (p_is_mask : PySem.W.keepIn K (.ref f_is_mask) = true)
    (a_is_name : PySem.W.nsIn K mainGlobals "is_name" = some (some (.ref f_is_name)))
    (l_is_name : K.lookup f_is_name = some ⟨oc_is_name, od_is_name, .func (PySem.W.fnOf "is_name" "is_name" (defArgs s_is_name) (defBody s_is_name) (defScope s_is_name) .none kv_is_name dc_is_name pm_is_name an_is_name cd_is_name ct_is_name), sl_is_name⟩)
    (c_is_name : PySem.W.codeIn K cd_is_name "is_name" = true)
    (p_is_name : PySem.W.keepIn K (.ref f_is_name) = true)
    (a_mask_of : PySem.W.nsIn K mainGlobals "mask_of" = some (some (.ref f_mask_of)))
    (l_mask_of : K.lookup f_mask_of = some ⟨oc_mask_of, od_mask_of, .func (PySem.W.fnOf "mask_of" "mask_of" (defArgs s_mask_of) (defBody s_mask_of) (defScope s_mask_of) .none kv_mask_of dc_mask_of pm_mask_of an_mask_of cd_mask_of ct_mask_of), sl_mask_of⟩)
    (c_mask_of : PySem.W.codeIn K cd_mask_of "mask_of" = true)
    (p_mask_of : PySem.W.keepIn K (.ref f_mask_of) = true)
    (a_turn_bits : PySem.W.nsIn K mainGlobals "turn_bits" = some (some (.ref f_turn_bits)))
    (l_turn_bits : K.lookup f_turn_bits = some ⟨oc_turn_bits, od_turn_bits, .func (PySem.W.fnOf "turn_bits" "turn_bits" (defArgs s_turn_bits) (defBody s_turn_bits) (defScope s_turn_bits) .none kv_turn_bits dc_turn_bits pm_turn_bits an_turn_bits cd_turn_bits ct_turn_bits), sl_turn_bits⟩)
    (c_turn_bits : PySem.W.codeIn K cd_turn_bits "turn_bits" = true)
    (p_turn_bits : PySem.W.keepIn K (.ref f_turn_bits) = true)
    (a_mask_at : PySem.W.nsIn K mainGlobals "mask_at" = some (some (.ref f_mask_at)))
    (l_mask_at : K.lookup f_mask_at = some ⟨oc_mask_at, od_mask_at, .func (PySem.W.fnOf "mask_at" "mask_at" (defArgs s_mask_at) (defBody s_mask_at) (defScope s_mask_at) .none kv_mask_at dc_mask_at pm_mask_at an_mask_at cd_mask_at ct_mask_at), sl_mask_at⟩)
    (c_mask_at : PySem.W.codeIn K cd_mask_at "mask_at" = true)
    (p_mask_at : PySem.W.keepIn K (.ref f_mask_at) = true)
    (x_Run___init__ : PySem.W.findIn K (.ref c_Run) "__init__" = some (some (.ref f_Run___init__)))
    (l_Run___init__ : K.lookup f_Run___init__ = some ⟨oc_Run___init__, od_Run___init__, .func (PySem.W.fnOf "__init__" "Run.__init__" (defArgs s_Run___init__) (defBody s_Run___init__) (defScope s_Run___init__) .none kv_Run___init__ dc_Run___init__ pm_Run___init__ an_Run___init__ cd_Run___init__ ct_Run___init__), sl_Run___init__⟩)
    (c_Run___init__ : PySem.W.codeIn K cd_Run___init__ "Run.__init__" = true)
    (p_Run___init__ : PySem.W.keepIn K (.ref f_Run___init__) = true)
    (x_Run_step : PySem.W.findIn K (.ref c_Run) "step" = some (some (.ref f_Run_step)))
    (l_Run_step : K.lookup f_Run_step = some ⟨oc_Run_step, od_Run_step, .func (PySem.W.fnOf "step" "Run.step" (defArgs s_Run_step) (defBody s_Run_step) (defScope s_Run_step) .none kv_Run_step dc_Run_step pm_Run_step an_Run_step cd_Run_step ct_Run_step), sl_Run_step⟩)
    (c_Run_step : PySem.W.codeIn K cd_Run_step "Run.step" = true)
    (p_Run_step : PySem.W.keepIn K (.ref f_Run_step) = true)
    (x_Run_state : PySem.W.findIn K (.ref c_Run) "state" = some (some (.ref f_Run_state)))
    (l_Run_state : K.lookup f_Run_state = some ⟨oc_Run_state, od_Run_state, .func (PySem.W.fnOf "state" "Run.state" (defArgs s_Run_state) (defBody s_Run_state) (defScope s_Run_state) .none kv_Run_state dc_Run_state pm_Run_state an_Run_state cd_Run_state ct_Run_state), sl_Run_state⟩)
    (c_Run_state : PySem.W.codeIn K cd_Run_state "Run.state" = true)
    (p_Run_state : PySem.W.keepIn K (.ref f_Run_state) = true)
    (x_Run_wire_now : PySem.W.findIn K (.ref c_Run) "wire_now" = some (some (.ref f_Run_wire_now)))
    (l_Run_wire_now : K.lookup f_Run_wire_now = some ⟨oc_Run_wire_now, od_Run_wire_now, .func (PySem.W.fnOf "wire_now" "Run.wire_now" (defArgs s_Run_wire_now) (defBody s_Run_wire_now) (defScope s_Run_wire_now) .none kv_Run_wire_now dc_Run_wire_now pm_Run_wire_now an_Run_wire_now cd_Run_wire_now ct_Run_wire_now), sl_Run_wire_now⟩)
    (c_Run_wire_now : PySem.W.codeIn K cd_Run_wire_now "Run.wire_now" = true)
    (p_Run_wire_now : PySem.W.keepIn K (.ref f_Run_wire_now) = true)
    (x_Run_answered : PySem.W.findIn K (.ref c_Run) "answered" = some (some (.ref f_Run_answered)))
    (l_Run_answered : K.lookup f_Run_answered = some ⟨oc_Run_answered, od_Run_answered, .func (PySem.W.fnOf "answered" "Run.answered" (defArgs s_Run_answered) (defBody s_Run_answered) (defScope s_Run_answered) .none kv_Run_answered dc_Run_answered pm_Run_answered an_Run_answered cd_Run_answered ct_Run_answered), sl_Run_answered⟩)
    (c_Run_answered : PySem.W.codeIn K cd_Run_answered "Run.answered" = true)
    (p_Run_answered : PySem.W.keepIn K (.ref f_Run_answered) = true)
    (a_answers_of : PySem.W.nsIn K mainGlobals "answers_of" = some (some (.ref f_answers_of)))
    (l_answers_of : K.lookup f_answers_of = some ⟨oc_answers_of, od_answers_of, .func (PySem.W.fnOf "answers_of" "answers_of" (defArgs s_answers_of) (defBody s_answers_of) (defScope s_answers_of) .none kv_answers_of dc_answers_of pm_answers_of an_answers_of cd_answers_of ct_answers_of), sl_answers_of⟩)
    (c_answers_of : PySem.W.codeIn K cd_answers_of "answers_of" = true)
    (p_answers_of : PySem.W.keepIn K (.ref f_answers_of) = true)
    (x_Wire___init__ : PySem.W.findIn K (.ref c_Wire) "__init__" = some (some (.ref f_Wire___init__)))
    (l_Wire___init__ : K.lookup f_Wire___init__ = some ⟨oc_Wire___init__, od_Wire___init__, .func (PySem.W.fnOf "__init__" "Wire.__init__" (defArgs s_Wire___init__) (defBody s_Wire___init__) (defScope s_Wire___init__) .none kv_Wire___init__ dc_Wire___init__ pm_Wire___init__ an_Wire___init__ cd_Wire___init__ ct_Wire___init__), sl_Wire___init__⟩)
    (c_Wire___init__ : PySem.W.codeIn K cd_Wire___init__ "Wire.__init__" = true)
    (p_Wire___init__ : PySem.W.keepIn K (.ref f_Wire___init__) = true)
    (x_InWire___init__ : PySem.W.findIn K (.ref c_InWire) "__init__" = some (some (.ref f_InWire___init__)))
    (l_InWire___init__ : K.lookup f_InWire___init__ = some ⟨oc_InWire___init__, od_InWire___init__, .func (PySem.W.fnOf "__init__" "InWire.__init__" (defArgs s_InWire___init__) (defBody s_InWire___init__) (defScope s_InWire___init__) .none kv_InWire___init__ dc_InWire___init__ pm_InWire___init__ an_InWire___init__ cd_InWire___init__ ct_InWire___init__), sl_InWire___init__⟩)
    (c_InWire___init__ : PySem.W.codeIn K cd_InWire___init__ "InWire.__init__" = true)
    (p_InWire___init__ : PySem.W.keepIn K (.ref f_InWire___init__) = true)
    (x_InWire_bit : PySem.W.findIn K (.ref c_InWire) "bit" = some (some (.ref f_InWire_bit)))
    (l_InWire_bit : K.lookup f_InWire_bit = some ⟨oc_InWire_bit, od_InWire_bit, .func (PySem.W.fnOf "bit" "InWire.bit" (defArgs s_InWire_bit) (defBody s_InWire_bit) (defScope s_InWire_bit) .none kv_InWire_bit dc_InWire_bit pm_InWire_bit an_InWire_bit cd_InWire_bit ct_InWire_bit), sl_InWire_bit⟩)
    (c_InWire_bit : PySem.W.codeIn K cd_InWire_bit "InWire.bit" = true)
    (p_InWire_bit : PySem.W.keepIn K (.ref f_InWire_bit) = true)
    (x_SumWire___init__ : PySem.W.findIn K (.ref c_SumWire) "__init__" = some (some (.ref f_SumWire___init__)))
    (l_SumWire___init__ : K.lookup f_SumWire___init__ = some ⟨oc_SumWire___init__, od_SumWire___init__, .func (PySem.W.fnOf "__init__" "SumWire.__init__" (defArgs s_SumWire___init__) (defBody s_SumWire___init__) (defScope s_SumWire___init__) .none kv_SumWire___init__ dc_SumWire___init__ pm_SumWire___init__ an_SumWire___init__ cd_SumWire___init__ ct_SumWire___init__), sl_SumWire___init__⟩)
    (c_SumWire___init__ : PySem.W.codeIn K cd_SumWire___init__ "SumWire.__init__" = true)
    (p_SumWire___init__ : PySem.W.keepIn K (.ref f_SumWire___init__) = true)
    (x_SumWire_bit : PySem.W.findIn K (.ref c_SumWire) "bit" = some (some (.ref f_SumWire_bit)))
    (l_SumWire_bit : K.lookup f_SumWire_bit = some ⟨oc_SumWire_bit, od_SumWire_bit, .func (PySem.W.fnOf "bit" "SumWire.bit" (defArgs s_SumWire_bit) (defBody s_SumWire_bit) (defScope s_SumWire_bit) .none kv_SumWire_bit dc_SumWire_bit pm_SumWire_bit an_SumWire_bit cd_SumWire_bit ct_SumWire_bit), sl_SumWire_bit⟩)
    (c_SumWire_bit : PySem.W.codeIn K cd_SumWire_bit "SumWire.bit" = true)
    (p_SumWire_bit : PySem.W.keepIn K (.ref f_SumWire_bit) = true)
    (x_StoreWire___init__ : PySem.W.findIn K (.ref c_StoreWire) "__init__" = some (some (.ref f_StoreWire___init__)))
    (l_StoreWire___init__ : K.lookup f_StoreWire___init__ = some ⟨oc_StoreWire___init__, od_StoreWire___init__, .func (PySem.W.fnOf "__init__" "StoreWire.__init__" (defArgs s_StoreWire___init__) (defBody s_StoreWire___init__) (defScope s_StoreWire___init__) .none kv_StoreWire___init__ dc_StoreWire___init__ pm_StoreWire___init__ an_StoreWire___init__ cd_StoreWire___init__ ct_StoreWire___init__), sl_StoreWire___init__⟩)
    (c_StoreWire___init__ : PySem.W.codeIn K cd_StoreWire___init__ "StoreWire.__init__" = true)
    (p_StoreWire___init__ : PySem.W.keepIn K (.ref f_StoreWire___init__) = true)
    (x_StoreWire_bit : PySem.W.findIn K (.ref c_StoreWire) "bit" = some (some (.ref f_StoreWire_bit)))
    (l_StoreWire_bit : K.lookup f_StoreWire_bit = some ⟨oc_StoreWire_bit, od_StoreWire_bit, .func (PySem.W.fnOf "bit" "StoreWire.bit" (defArgs s_StoreWire_bit) (defBody s_StoreWire_bit) (defScope s_StoreWire_bit) .none kv_StoreWire_bit dc_StoreWire_bit pm_StoreWire_bit an_StoreWire_bit cd_StoreWire_bit ct_StoreWire_bit), sl_StoreWire_bit⟩)
    (c_StoreWire_bit : PySem.W.codeIn K cd_StoreWire_bit "StoreWire.bit" = true)
    (p_StoreWire_bit : PySem.W.keepIn K (.ref f_StoreWire_bit) = true)
    (a_check_sizes : PySem.W.nsIn K mainGlobals "check_sizes" = some (some (.ref f_check_sizes)))
    (l_check_sizes : K.lookup f_check_sizes = some ⟨oc_check_sizes, od_check_sizes, .func (PySem.W.fnOf "check_sizes" "check_sizes" (defArgs s_check_sizes) (defBody s_check_sizes) (defScope s_check_sizes) .none kv_check_sizes dc_check_sizes pm_check_sizes an_check_sizes cd_check_sizes ct_check_sizes), sl_check_sizes⟩)
    (c_check_sizes : PySem.W.codeIn K cd_check_sizes "check_sizes" = true)
    (p_check_sizes : PySem.W.keepIn K (.ref f_check_sizes) = true)
    (a_check_names : PySem.W.nsIn K mainGlobals "check_names" = some (some (.ref f_check_names)))
    (l_check_names : K.lookup f_check_names = some ⟨oc_check_names, od_check_names, .func (PySem.W.fnOf "check_names" "check_names" (defArgs s_check_names) (defBody s_check_names) (defScope s_check_names) .none kv_check_names dc_check_names pm_check_names an_check_names cd_check_names ct_check_names), sl_check_names⟩)
    (c_check_names : PySem.W.codeIn K cd_check_names "check_names" = true)
    (p_check_names : PySem.W.keepIn K (.ref f_check_names) = true)
    (a_check_wire : PySem.W.nsIn K mainGlobals "check_wire" = some (some (.ref f_check_wire)))
    (l_check_wire : K.lookup f_check_wire = some ⟨oc_check_wire, od_check_wire, .func (PySem.W.fnOf "check_wire" "check_wire" (defArgs s_check_wire) (defBody s_check_wire) (defScope s_check_wire) .none kv_check_wire dc_check_wire pm_check_wire an_check_wire cd_check_wire ct_check_wire), sl_check_wire⟩)
    (c_check_wire : PySem.W.codeIn K cd_check_wire "check_wire" = true)
    (p_check_wire : PySem.W.keepIn K (.ref f_check_wire) = true)
    (a_check_wires : PySem.W.nsIn K mainGlobals "check_wires" = some (some (.ref f_check_wires)))
    (l_check_wires : K.lookup f_check_wires = some ⟨oc_check_wires, od_check_wires, .func (PySem.W.fnOf "check_wires" "check_wires" (defArgs s_check_wires) (defBody s_check_wires) (defScope s_check_wires) .none kv_check_wires dc_check_wires pm_check_wires an_check_wires cd_check_wires ct_check_wires), sl_check_wires⟩)
    (c_check_wires : PySem.W.codeIn K cd_check_wires "check_wires" = true)
    (p_check_wires : PySem.W.keepIn K (.ref f_check_wires) = true)
    (a_wires_by_name : PySem.W.nsIn K mainGlobals "wires_by_name" = some (some (.ref f_wires_by_name)))
    (l_wires_by_name : K.lookup f_wires_by_name = some ⟨oc_wires_by_name, od_wires_by_name, .func (PySem.W.fnOf "wires_by_name" "wires_by_name" (defArgs s_wires_by_name) (defBody s_wires_by_name) (defScope s_wires_by_name) .none kv_wires_by_name dc_wires_by_name pm_wires_by_name an_wires_by_name cd_wires_by_name ct_wires_by_name), sl_wires_by_name⟩)
    (c_wires_by_name : PySem.W.codeIn K cd_wires_by_name "wires_by_name" = true)
    (p_wires_by_name : PySem.W.keepIn K (.ref f_wires_by_name) = true)
    (a_waits : PySem.W.nsIn K mainGlobals "waits" = some (some (.ref f_waits)))
    (l_waits : K.lookup f_waits = some ⟨oc_waits, od_waits, .func (PySem.W.fnOf "waits" "waits" (defArgs s_waits) (defBody s_waits) (defScope s_waits) .none kv_waits dc_waits pm_waits an_waits cd_waits ct_waits), sl_waits⟩)
    (c_waits : PySem.W.codeIn K cd_waits "waits" = true)
    (p_waits : PySem.W.keepIn K (.ref f_waits) = true)
    (a_ordered : PySem.W.nsIn K mainGlobals "ordered" = some (some (.ref f_ordered)))
    (l_ordered : K.lookup f_ordered = some ⟨oc_ordered, od_ordered, .func (PySem.W.fnOf "ordered" "ordered" (defArgs s_ordered) (defBody s_ordered) (defScope s_ordered) .none kv_ordered dc_ordered pm_ordered an_ordered cd_ordered ct_ordered), sl_ordered⟩)
    (c_ordered : PySem.W.codeIn K cd_ordered "ordered" = true)
    (p_ordered : PySem.W.keepIn K (.ref f_ordered) = true)
    (x_Net___init__ : PySem.W.findIn K (.ref c_Net) "__init__" = some (some (.ref f_Net___init__)))
    (l_Net___init__ : K.lookup f_Net___init__ = some ⟨oc_Net___init__, od_Net___init__, .func (PySem.W.fnOf "__init__" "Net.__init__" (defArgs s_Net___init__) (defBody s_Net___init__) (defScope s_Net___init__) .none kv_Net___init__ dc_Net___init__ pm_Net___init__ an_Net___init__ cd_Net___init__ ct_Net___init__), sl_Net___init__⟩)
    (c_Net___init__ : PySem.W.codeIn K cd_Net___init__ "Net.__init__" = true)
    (p_Net___init__ : PySem.W.keepIn K (.ref f_Net___init__) = true)
    (x_Net_in_names : PySem.W.findIn K (.ref c_Net) "in_names" = some (some (.ref f_Net_in_names)))
    (l_Net_in_names : K.lookup f_Net_in_names = some ⟨oc_Net_in_names, od_Net_in_names, .func (PySem.W.fnOf "in_names" "Net.in_names" (defArgs s_Net_in_names) (defBody s_Net_in_names) (defScope s_Net_in_names) .none kv_Net_in_names dc_Net_in_names pm_Net_in_names an_Net_in_names cd_Net_in_names ct_Net_in_names), sl_Net_in_names⟩)
    (c_Net_in_names : PySem.W.codeIn K cd_Net_in_names "Net.in_names" = true)
    (p_Net_in_names : PySem.W.keepIn K (.ref f_Net_in_names) = true)
    (x_Net_store_rows : PySem.W.findIn K (.ref c_Net) "store_rows" = some (some (.ref f_Net_store_rows)))
    (l_Net_store_rows : K.lookup f_Net_store_rows = some ⟨oc_Net_store_rows, od_Net_store_rows, .func (PySem.W.fnOf "store_rows" "Net.store_rows" (defArgs s_Net_store_rows) (defBody s_Net_store_rows) (defScope s_Net_store_rows) .none kv_Net_store_rows dc_Net_store_rows pm_Net_store_rows an_Net_store_rows cd_Net_store_rows ct_Net_store_rows), sl_Net_store_rows⟩)
    (c_Net_store_rows : PySem.W.codeIn K cd_Net_store_rows "Net.store_rows" = true)
    (p_Net_store_rows : PySem.W.keepIn K (.ref f_Net_store_rows) = true)
    (x_Net_out_wires : PySem.W.findIn K (.ref c_Net) "out_wires" = some (some (.ref f_Net_out_wires)))
    (l_Net_out_wires : K.lookup f_Net_out_wires = some ⟨oc_Net_out_wires, od_Net_out_wires, .func (PySem.W.fnOf "out_wires" "Net.out_wires" (defArgs s_Net_out_wires) (defBody s_Net_out_wires) (defScope s_Net_out_wires) .none kv_Net_out_wires dc_Net_out_wires pm_Net_out_wires an_Net_out_wires cd_Net_out_wires ct_Net_out_wires), sl_Net_out_wires⟩)
    (c_Net_out_wires : PySem.W.codeIn K cd_Net_out_wires "Net.out_wires" = true)
    (p_Net_out_wires : PySem.W.keepIn K (.ref f_Net_out_wires) = true)
    (x_Net_wire_of : PySem.W.findIn K (.ref c_Net) "wire_of" = some (some (.ref f_Net_wire_of)))
    (l_Net_wire_of : K.lookup f_Net_wire_of = some ⟨oc_Net_wire_of, od_Net_wire_of, .func (PySem.W.fnOf "wire_of" "Net.wire_of" (defArgs s_Net_wire_of) (defBody s_Net_wire_of) (defScope s_Net_wire_of) .none kv_Net_wire_of dc_Net_wire_of pm_Net_wire_of an_Net_wire_of cd_Net_wire_of ct_Net_wire_of), sl_Net_wire_of⟩)
    (c_Net_wire_of : PySem.W.codeIn K cd_Net_wire_of "Net.wire_of" = true)
    (p_Net_wire_of : PySem.W.keepIn K (.ref f_Net_wire_of) = true)
    (x_Net_names_by_need : PySem.W.findIn K (.ref c_Net) "names_by_need" = some (some (.ref f_Net_names_by_need)))
    (l_Net_names_by_need : K.lookup f_Net_names_by_need = some ⟨oc_Net_names_by_need, od_Net_names_by_need, .func (PySem.W.fnOf "names_by_need" "Net.names_by_need" (defArgs s_Net_names_by_need) (defBody s_Net_names_by_need) (defScope s_Net_names_by_need) .none kv_Net_names_by_need dc_Net_names_by_need pm_Net_names_by_need an_Net_names_by_need cd_Net_names_by_need ct_Net_names_by_need), sl_Net_names_by_need⟩)
    (c_Net_names_by_need : PySem.W.codeIn K cd_Net_names_by_need "Net.names_by_need" = true)
    (p_Net_names_by_need : PySem.W.keepIn K (.ref f_Net_names_by_need) = true)
    (a__law_cell : PySem.W.nsIn K mainGlobals "_law_cell" = some (some (.ref f__law_cell)))
    (l__law_cell : K.lookup f__law_cell = some ⟨oc__law_cell, od__law_cell, .func (PySem.W.fnOf "_law_cell" "_law_cell" (defArgs s__law_cell) (defBody s__law_cell) (defScope s__law_cell) .none kv__law_cell dc__law_cell pm__law_cell an__law_cell cd__law_cell ct__law_cell), sl__law_cell⟩)
    (c__law_cell : PySem.W.codeIn K cd__law_cell "_law_cell" = true)
    (p__law_cell : PySem.W.keepIn K (.ref f__law_cell) = true)
    (a__law_mix : PySem.W.nsIn K mainGlobals "_law_mix" = some (some (.ref f__law_mix)))
    (l__law_mix : K.lookup f__law_mix = some ⟨oc__law_mix, od__law_mix, .func (PySem.W.fnOf "_law_mix" "_law_mix" (defArgs s__law_mix) (defBody s__law_mix) (defScope s__law_mix) .none kv__law_mix dc__law_mix pm__law_mix an__law_mix cd__law_mix ct__law_mix), sl__law_mix⟩)
    (c__law_mix : PySem.W.codeIn K cd__law_mix "_law_mix" = true)
    (p__law_mix : PySem.W.keepIn K (.ref f__law_mix) = true)
    (a__law_name : PySem.W.nsIn K mainGlobals "_law_name" = some (some (.ref f__law_name)))
    (l__law_name : K.lookup f__law_name = some ⟨oc__law_name, od__law_name, .func (PySem.W.fnOf "_law_name" "_law_name" (defArgs s__law_name) (defBody s__law_name) (defScope s__law_name) .none kv__law_name dc__law_name pm__law_name an__law_name cd__law_name ct__law_name), sl__law_name⟩)
    (c__law_name : PySem.W.codeIn K cd__law_name "_law_name" = true)
    (p__law_name : PySem.W.keepIn K (.ref f__law_name) = true)
    (a__law_wires : PySem.W.nsIn K mainGlobals "_law_wires" = some (some (.ref f__law_wires)))
    (l__law_wires : K.lookup f__law_wires = some ⟨oc__law_wires, od__law_wires, .func (PySem.W.fnOf "_law_wires" "_law_wires" (defArgs s__law_wires) (defBody s__law_wires) (defScope s__law_wires) .none kv__law_wires dc__law_wires pm__law_wires an__law_wires cd__law_wires ct__law_wires), sl__law_wires⟩)
    (c__law_wires : PySem.W.codeIn K cd__law_wires "_law_wires" = true)
    (p__law_wires : PySem.W.keepIn K (.ref f__law_wires) = true)
    (a__law_net : PySem.W.nsIn K mainGlobals "_law_net" = some (some (.ref f__law_net)))
    (l__law_net : K.lookup f__law_net = some ⟨oc__law_net, od__law_net, .func (PySem.W.fnOf "_law_net" "_law_net" (defArgs s__law_net) (defBody s__law_net) (defScope s__law_net) .none kv__law_net dc__law_net pm__law_net an__law_net cd__law_net ct__law_net), sl__law_net⟩)
    (c__law_net : PySem.W.codeIn K cd__law_net "_law_net" = true)
    (p__law_net : PySem.W.keepIn K (.ref f__law_net) = true)
    (a__law_bits : PySem.W.nsIn K mainGlobals "_law_bits" = some (some (.ref f__law_bits)))
    (l__law_bits : K.lookup f__law_bits = some ⟨oc__law_bits, od__law_bits, .func (PySem.W.fnOf "_law_bits" "_law_bits" (defArgs s__law_bits) (defBody s__law_bits) (defScope s__law_bits) .none kv__law_bits dc__law_bits pm__law_bits an__law_bits cd__law_bits ct__law_bits), sl__law_bits⟩)
    (c__law_bits : PySem.W.codeIn K cd__law_bits "_law_bits" = true)
    (p__law_bits : PySem.W.keepIn K (.ref f__law_bits) = true)
    (a__law_answer : PySem.W.nsIn K mainGlobals "_law_answer" = some (some (.ref f__law_answer)))
    (l__law_answer : K.lookup f__law_answer = some ⟨oc__law_answer, od__law_answer, .func (PySem.W.fnOf "_law_answer" "_law_answer" (defArgs s__law_answer) (defBody s__law_answer) (defScope s__law_answer) .none kv__law_answer dc__law_answer pm__law_answer an__law_answer cd__law_answer ct__law_answer), sl__law_answer⟩)
    (c__law_answer : PySem.W.codeIn K cd__law_answer "_law_answer" = true)
    (p__law_answer : PySem.W.keepIn K (.ref f__law_answer) = true)
    (a__law_next : PySem.W.nsIn K mainGlobals "_law_next" = some (some (.ref f__law_next)))
    (l__law_next : K.lookup f__law_next = some ⟨oc__law_next, od__law_next, .func (PySem.W.fnOf "_law_next" "_law_next" (defArgs s__law_next) (defBody s__law_next) (defScope s__law_next) .none kv__law_next dc__law_next pm__law_next an__law_next cd__law_next ct__law_next), sl__law_next⟩)
    (c__law_next : PySem.W.codeIn K cd__law_next "_law_next" = true)
    (p__law_next : PySem.W.keepIn K (.ref f__law_next) = true)
    (a__law_wires_right : PySem.W.nsIn K mainGlobals "_law_wires_right" = some (some (.ref f__law_wires_right)))
    (l__law_wires_right : K.lookup f__law_wires_right = some ⟨oc__law_wires_right, od__law_wires_right, .func (PySem.W.fnOf "_law_wires_right" "_law_wires_right" (defArgs s__law_wires_right) (defBody s__law_wires_right) (defScope s__law_wires_right) .none kv__law_wires_right dc__law_wires_right pm__law_wires_right an__law_wires_right cd__law_wires_right ct__law_wires_right), sl__law_wires_right⟩)
    (c__law_wires_right : PySem.W.codeIn K cd__law_wires_right "_law_wires_right" = true)
    (p__law_wires_right : PySem.W.keepIn K (.ref f__law_wires_right) = true)
    (a_law : PySem.W.nsIn K mainGlobals "law" = some (some (.ref f_law)))
    (l_law : K.lookup f_law = some ⟨oc_law, od_law, .func (PySem.W.fnOf "law" "law" (defArgs s_law) (defBody s_law) (defScope s_law) .none kv_law dc_law pm_law an_law cd_law ct_law), sl_law⟩)
    (c_law : PySem.W.codeIn K cd_law "law" = true)
    (p_law : PySem.W.keepIn K (.ref f_law) = true)
    (q1_Run : PySem.W.plainGet K c_Run Str.empty = true)
    (q2_Run : PySem.W.hasDictIn K c_Run = true)
    (q3_Run : PySem.W.plainOver K c_Run = true)
    (q4_Run : PySem.W.findIn K (.ref c_Run) "__setattr__" = some (some (.builtin "object.__setattr__")))
    (q5_Run : PySem.W.findIn K (.ref c_Run) "__class__" = some (some (.builtin "object.__class__")))
    (q6_Run : PySem.W.mroIn K c_Run (.type "object") = some true)
    (e1_Run : PySem.W.makesIn K c_Run = true)
    (e2_Run : PySem.W.findIn K (.ref c_Run) "__init__" = some (some (.ref f_Run___init__)))
    (e3_Run : PySem.W.isFn K (.ref f_Run___init__) = true)
    (e4_Run : PySem.W.keepIn K (.ref c_Run) = true)
    (m1_Run_step : PySem.W.findIn K (.ref c_Run) "step" = some (some (.ref f_Run_step)))
    (m2_Run_step : PySem.W.isFn K (.ref f_Run_step) = true)
    (m1_Run_state : PySem.W.findIn K (.ref c_Run) "state" = some (some (.ref f_Run_state)))
    (m2_Run_state : PySem.W.isFn K (.ref f_Run_state) = true)
    (m1_Run_wire_now : PySem.W.findIn K (.ref c_Run) "wire_now" = some (some (.ref f_Run_wire_now)))
    (m2_Run_wire_now : PySem.W.isFn K (.ref f_Run_wire_now) = true)
    (m1_Run_answered : PySem.W.findIn K (.ref c_Run) "answered" = some (some (.ref f_Run_answered)))
    (m2_Run_answered : PySem.W.isFn K (.ref f_Run_answered) = true)
    (o_Run_bits : PySem.W.findIn K (.ref c_Run) "bits" = some none)
    (o_Run_by_name : PySem.W.findIn K (.ref c_Run) "by_name" = some none)
    (o_Run_given : PySem.W.findIn K (.ref c_Run) "given" = some none)
    (o_Run_held : PySem.W.findIn K (.ref c_Run) "held" = some none)
    (o_Run_ins : PySem.W.findIn K (.ref c_Run) "ins" = some none)
    (o_Run_kept_stores : PySem.W.findIn K (.ref c_Run) "kept_stores" = some none)
    (o_Run_name : PySem.W.findIn K (.ref c_Run) "name" = some none)
    (o_Run_net : PySem.W.findIn K (.ref c_Run) "net" = some none)
    (o_Run_number : PySem.W.findIn K (.ref c_Run) "number" = some none)
    (o_Run_outs : PySem.W.findIn K (.ref c_Run) "outs" = some none)
    (o_Run_ring : PySem.W.findIn K (.ref c_Run) "ring" = some none)
    (o_Run_sum_order : PySem.W.findIn K (.ref c_Run) "sum_order" = some none)
    (o_Run_sums : PySem.W.findIn K (.ref c_Run) "sums" = some none)
    (o_Run_wire : PySem.W.findIn K (.ref c_Run) "wire" = some none)
    (o_Run_wires : PySem.W.findIn K (.ref c_Run) "wires" = some none)
    (q1_Wire : PySem.W.plainGet K c_Wire Str.empty = true)
    (q2_Wire : PySem.W.hasDictIn K c_Wire = true)
    (q3_Wire : PySem.W.plainOver K c_Wire = true)
    (q4_Wire : PySem.W.findIn K (.ref c_Wire) "__setattr__" = some (some (.builtin "object.__setattr__")))
    (q5_Wire : PySem.W.findIn K (.ref c_Wire) "__class__" = some (some (.builtin "object.__class__")))
    (q6_Wire : PySem.W.mroIn K c_Wire (.type "object") = some true)
    (o_Wire_bits : PySem.W.findIn K (.ref c_Wire) "bits" = some none)
    (o_Wire_by_name : PySem.W.findIn K (.ref c_Wire) "by_name" = some none)
    (o_Wire_given : PySem.W.findIn K (.ref c_Wire) "given" = some none)
    (o_Wire_held : PySem.W.findIn K (.ref c_Wire) "held" = some none)
    (o_Wire_ins : PySem.W.findIn K (.ref c_Wire) "ins" = some none)
    (o_Wire_kept_stores : PySem.W.findIn K (.ref c_Wire) "kept_stores" = some none)
    (o_Wire_name : PySem.W.findIn K (.ref c_Wire) "name" = some none)
    (o_Wire_net : PySem.W.findIn K (.ref c_Wire) "net" = some none)
    (o_Wire_number : PySem.W.findIn K (.ref c_Wire) "number" = some none)
    (o_Wire_outs : PySem.W.findIn K (.ref c_Wire) "outs" = some none)
    (o_Wire_ring : PySem.W.findIn K (.ref c_Wire) "ring" = some none)
    (o_Wire_sum_order : PySem.W.findIn K (.ref c_Wire) "sum_order" = some none)
    (o_Wire_sums : PySem.W.findIn K (.ref c_Wire) "sums" = some none)
    (o_Wire_wire : PySem.W.findIn K (.ref c_Wire) "wire" = some none)
    (o_Wire_wires : PySem.W.findIn K (.ref c_Wire) "wires" = some none)
    (q1_InWire : PySem.W.plainGet K c_InWire Str.empty = true)
    (q2_InWire : PySem.W.hasDictIn K c_InWire = true)
    (q3_InWire : PySem.W.plainOver K c_InWire = true)
    (q4_InWire : PySem.W.findIn K (.ref c_InWire) "__setattr__" = some (some (.builtin "object.__setattr__")))
    (q5_InWire : PySem.W.findIn K (.ref c_InWire) "__class__" = some (some (.builtin "object.__class__")))
    (q6_InWire : PySem.W.mroIn K c_InWire (.type "object") = some true)
    (e1_InWire : PySem.W.makesIn K c_InWire = true)
    (e2_InWire : PySem.W.findIn K (.ref c_InWire) "__init__" = some (some (.ref f_InWire___init__)))
    (e3_InWire : PySem.W.isFn K (.ref f_InWire___init__) = true)
    (e4_InWire : PySem.W.keepIn K (.ref c_InWire) = true)
    (m1_InWire_bit : PySem.W.findIn K (.ref c_InWire) "bit" = some (some (.ref f_InWire_bit)))
    (m2_InWire_bit : PySem.W.isFn K (.ref f_InWire_bit) = true)
    (o_InWire_bits : PySem.W.findIn K (.ref c_InWire) "bits" = some none)
    (o_InWire_by_name : PySem.W.findIn K (.ref c_InWire) "by_name" = some none)
    (o_InWire_given : PySem.W.findIn K (.ref c_InWire) "given" = some none)
    (o_InWire_held : PySem.W.findIn K (.ref c_InWire) "held" = some none)
    (o_InWire_ins : PySem.W.findIn K (.ref c_InWire) "ins" = some none)
    (o_InWire_kept_stores : PySem.W.findIn K (.ref c_InWire) "kept_stores" = some none)
    (o_InWire_name : PySem.W.findIn K (.ref c_InWire) "name" = some none)
    (o_InWire_net : PySem.W.findIn K (.ref c_InWire) "net" = some none)
    (o_InWire_number : PySem.W.findIn K (.ref c_InWire) "number" = some none)
    (o_InWire_outs : PySem.W.findIn K (.ref c_InWire) "outs" = some none)
    (o_InWire_ring : PySem.W.findIn K (.ref c_InWire) "ring" = some none)
    (o_InWire_sum_order : PySem.W.findIn K (.ref c_InWire) "sum_order" = some none)
    (o_InWire_sums : PySem.W.findIn K (.ref c_InWire) "sums" = some none)
    (o_InWire_wire : PySem.W.findIn K (.ref c_InWire) "wire" = some none)
    (o_InWire_wires : PySem.W.findIn K (.ref c_InWire) "wires" = some none)
    (q1_SumWire : PySem.W.plainGet K c_SumWire Str.empty = true)
    (q2_SumWire : PySem.W.hasDictIn K c_SumWire = true)
    (q3_SumWire : PySem.W.plainOver K c_SumWire = true)
    (q4_SumWire : PySem.W.findIn K (.ref c_SumWire) "__setattr__" = some (some (.builtin "object.__setattr__")))
    (q5_SumWire : PySem.W.findIn K (.ref c_SumWire) "__class__" = some (some (.builtin "object.__class__")))
    (q6_SumWire : PySem.W.mroIn K c_SumWire (.type "object") = some true)
    (e1_SumWire : PySem.W.makesIn K c_SumWire = true)
    (e2_SumWire : PySem.W.findIn K (.ref c_SumWire) "__init__" = some (some (.ref f_SumWire___init__)))
    (e3_SumWire : PySem.W.isFn K (.ref f_SumWire___init__) = true)
    (e4_SumWire : PySem.W.keepIn K (.ref c_SumWire) = true)
    (m1_SumWire_bit : PySem.W.findIn K (.ref c_SumWire) "bit" = some (some (.ref f_SumWire_bit)))
    (m2_SumWire_bit : PySem.W.isFn K (.ref f_SumWire_bit) = true)
    (o_SumWire_bits : PySem.W.findIn K (.ref c_SumWire) "bits" = some none)
    (o_SumWire_by_name : PySem.W.findIn K (.ref c_SumWire) "by_name" = some none)
    (o_SumWire_given : PySem.W.findIn K (.ref c_SumWire) "given" = some none)
    (o_SumWire_held : PySem.W.findIn K (.ref c_SumWire) "held" = some none)
    (o_SumWire_ins : PySem.W.findIn K (.ref c_SumWire) "ins" = some none)
    (o_SumWire_kept_stores : PySem.W.findIn K (.ref c_SumWire) "kept_stores" = some none)
    (o_SumWire_name : PySem.W.findIn K (.ref c_SumWire) "name" = some none)
    (o_SumWire_net : PySem.W.findIn K (.ref c_SumWire) "net" = some none)
    (o_SumWire_number : PySem.W.findIn K (.ref c_SumWire) "number" = some none)
    (o_SumWire_outs : PySem.W.findIn K (.ref c_SumWire) "outs" = some none)
    (o_SumWire_ring : PySem.W.findIn K (.ref c_SumWire) "ring" = some none)
    (o_SumWire_sum_order : PySem.W.findIn K (.ref c_SumWire) "sum_order" = some none)
    (o_SumWire_sums : PySem.W.findIn K (.ref c_SumWire) "sums" = some none)
    (o_SumWire_wire : PySem.W.findIn K (.ref c_SumWire) "wire" = some none)
    (o_SumWire_wires : PySem.W.findIn K (.ref c_SumWire) "wires" = some none)
    (q1_StoreWire : PySem.W.plainGet K c_StoreWire Str.empty = true)
    (q2_StoreWire : PySem.W.hasDictIn K c_StoreWire = true)
    (q3_StoreWire : PySem.W.plainOver K c_StoreWire = true)
    (q4_StoreWire : PySem.W.findIn K (.ref c_StoreWire) "__setattr__" = some (some (.builtin "object.__setattr__")))
    (q5_StoreWire : PySem.W.findIn K (.ref c_StoreWire) "__class__" = some (some (.builtin "object.__class__")))
    (q6_StoreWire : PySem.W.mroIn K c_StoreWire (.type "object") = some true)
    (e1_StoreWire : PySem.W.makesIn K c_StoreWire = true)
    (e2_StoreWire : PySem.W.findIn K (.ref c_StoreWire) "__init__" = some (some (.ref f_StoreWire___init__)))
    (e3_StoreWire : PySem.W.isFn K (.ref f_StoreWire___init__) = true)
    (e4_StoreWire : PySem.W.keepIn K (.ref c_StoreWire) = true)
    (m1_StoreWire_bit : PySem.W.findIn K (.ref c_StoreWire) "bit" = some (some (.ref f_StoreWire_bit)))
    (m2_StoreWire_bit : PySem.W.isFn K (.ref f_StoreWire_bit) = true)
    (o_StoreWire_bits : PySem.W.findIn K (.ref c_StoreWire) "bits" = some none)
    (o_StoreWire_by_name : PySem.W.findIn K (.ref c_StoreWire) "by_name" = some none)
    (o_StoreWire_given : PySem.W.findIn K (.ref c_StoreWire) "given" = some none)
    (o_StoreWire_held : PySem.W.findIn K (.ref c_StoreWire) "held" = some none)
    (o_StoreWire_ins : PySem.W.findIn K (.ref c_StoreWire) "ins" = some none)
    (o_StoreWire_kept_stores : PySem.W.findIn K (.ref c_StoreWire) "kept_stores" = some none)
    (o_StoreWire_name : PySem.W.findIn K (.ref c_StoreWire) "name" = some none)
    (o_StoreWire_net : PySem.W.findIn K (.ref c_StoreWire) "net" = some none)
    (o_StoreWire_number : PySem.W.findIn K (.ref c_StoreWire) "number" = some none)
    (o_StoreWire_outs : PySem.W.findIn K (.ref c_StoreWire) "outs" = some none)
    (o_StoreWire_ring : PySem.W.findIn K (.ref c_StoreWire) "ring" = some none)
    (o_StoreWire_sum_order : PySem.W.findIn K (.ref c_StoreWire) "sum_order" = some none)
    (o_StoreWire_sums : PySem.W.findIn K (.ref c_StoreWire) "sums" = some none)
    (o_StoreWire_wire : PySem.W.findIn K (.ref c_StoreWire) "wire" = some none)
    (o_StoreWire_wires : PySem.W.findIn K (.ref c_StoreWire) "wires" = some none)
    (q1_Net : PySem.W.plainGet K c_Net Str.empty = true)
    (q2_Net : PySem.W.hasDictIn K c_Net = true)
    (q3_Net : PySem.W.plainOver K c_Net = true)
    (q4_Net : PySem.W.findIn K (.ref c_Net) "__setattr__" = some (some (.builtin "object.__setattr__")))
    (q5_Net : PySem.W.findIn K (.ref c_Net) "__class__" = some (some (.builtin "object.__class__")))
    (q6_Net : PySem.W.mroIn K c_Net (.type "object") = some true)
    (e1_Net : PySem.W.makesIn K c_Net = true)
    (e2_Net : PySem.W.findIn K (.ref c_Net) "__init__" = some (some (.ref f_Net___init__)))
    (e3_Net : PySem.W.isFn K (.ref f_Net___init__) = true)
    (e4_Net : PySem.W.keepIn K (.ref c_Net) = true)
    (m1_Net_in_names : PySem.W.findIn K (.ref c_Net) "in_names" = some (some (.ref f_Net_in_names)))
    (m2_Net_in_names : PySem.W.isFn K (.ref f_Net_in_names) = true)
    (m1_Net_store_rows : PySem.W.findIn K (.ref c_Net) "store_rows" = some (some (.ref f_Net_store_rows)))
    (m2_Net_store_rows : PySem.W.isFn K (.ref f_Net_store_rows) = true)
    (m1_Net_out_wires : PySem.W.findIn K (.ref c_Net) "out_wires" = some (some (.ref f_Net_out_wires)))
    (m2_Net_out_wires : PySem.W.isFn K (.ref f_Net_out_wires) = true)
    (m1_Net_wire_of : PySem.W.findIn K (.ref c_Net) "wire_of" = some (some (.ref f_Net_wire_of)))
    (m2_Net_wire_of : PySem.W.isFn K (.ref f_Net_wire_of) = true)
    (m1_Net_names_by_need : PySem.W.findIn K (.ref c_Net) "names_by_need" = some (some (.ref f_Net_names_by_need)))
    (m2_Net_names_by_need : PySem.W.isFn K (.ref f_Net_names_by_need) = true)
    (o_Net_bits : PySem.W.findIn K (.ref c_Net) "bits" = some none)
    (o_Net_by_name : PySem.W.findIn K (.ref c_Net) "by_name" = some none)
    (o_Net_given : PySem.W.findIn K (.ref c_Net) "given" = some none)
    (o_Net_held : PySem.W.findIn K (.ref c_Net) "held" = some none)
    (o_Net_ins : PySem.W.findIn K (.ref c_Net) "ins" = some none)
    (o_Net_kept_stores : PySem.W.findIn K (.ref c_Net) "kept_stores" = some none)
    (o_Net_name : PySem.W.findIn K (.ref c_Net) "name" = some none)
    (o_Net_net : PySem.W.findIn K (.ref c_Net) "net" = some none)
    (o_Net_number : PySem.W.findIn K (.ref c_Net) "number" = some none)
    (o_Net_outs : PySem.W.findIn K (.ref c_Net) "outs" = some none)
    (o_Net_ring : PySem.W.findIn K (.ref c_Net) "ring" = some none)
    (o_Net_sum_order : PySem.W.findIn K (.ref c_Net) "sum_order" = some none)
    (o_Net_sums : PySem.W.findIn K (.ref c_Net) "sums" = some none)
    (o_Net_wire : PySem.W.findIn K (.ref c_Net) "wire" = some none)
    (o_Net_wires : PySem.W.findIn K (.ref c_Net) "wires" = some none)
    (w1 : PySem.W.specialIn K (.builtin "object.__class__") "__get__" = some (some (.builtin "getset_descriptor.__get__")))
    (w2 : PySem.W.takesIn K (.builtin "object.__class__") = some true)
    {c_TooMany : Addr} (a_TooMany : PySem.W.nsIn K mainGlobals "TooMany" = some (some (.ref c_TooMany)))
    {c_BadMask : Addr} (a_BadMask : PySem.W.nsIn K mainGlobals "BadMask" = some (some (.ref c_BadMask)))
    {c_BadRow : Addr} (a_BadRow : PySem.W.nsIn K mainGlobals "BadRow" = some (some (.ref c_BadRow)))
    (x_TooMany : PySem.W.excIn K c_TooMany [.type "ValueError", .type "Exception", .type "BaseException", .type "object"] "ValueError.__new__" = true)
    (y1_TooMany : PySem.W.isClsIn K c_TooMany = true)
    (y2_TooMany : PySem.W.findIn K (.ref c_TooMany) "__getattribute__" = some (some (.builtin "BaseException.__getattribute__")))
    (y3_TooMany : PySem.W.findIn K (.ref c_TooMany) "__getattr__" = some none)
    (y4_TooMany : PySem.W.findIn K (.ref c_TooMany) "__class__" = some (some (.builtin "object.__class__")))
    (y5_TooMany : PySem.W.mroIn K c_TooMany (.type "object") = some true)
    (y6_TooMany : PySem.W.mroIn K c_TooMany (.type "BaseException") = some true)
    (x_BadMask : PySem.W.excIn K c_BadMask [.type "ValueError", .type "Exception", .type "BaseException", .type "object"] "ValueError.__new__" = true)
    (y1_BadMask : PySem.W.isClsIn K c_BadMask = true)
    (y2_BadMask : PySem.W.findIn K (.ref c_BadMask) "__getattribute__" = some (some (.builtin "BaseException.__getattribute__")))
    (y3_BadMask : PySem.W.findIn K (.ref c_BadMask) "__getattr__" = some none)
    (y4_BadMask : PySem.W.findIn K (.ref c_BadMask) "__class__" = some (some (.builtin "object.__class__")))
    (y5_BadMask : PySem.W.mroIn K c_BadMask (.type "object") = some true)
    (y6_BadMask : PySem.W.mroIn K c_BadMask (.type "BaseException") = some true)
    (x_BadRow : PySem.W.excIn K c_BadRow [.type "ValueError", .type "Exception", .type "BaseException", .type "object"] "ValueError.__new__" = true)
    (y1_BadRow : PySem.W.isClsIn K c_BadRow = true)
    (y2_BadRow : PySem.W.findIn K (.ref c_BadRow) "__getattribute__" = some (some (.builtin "BaseException.__getattribute__")))
    (y3_BadRow : PySem.W.findIn K (.ref c_BadRow) "__getattr__" = some none)
    (y4_BadRow : PySem.W.findIn K (.ref c_BadRow) "__class__" = some (some (.builtin "object.__class__")))
    (y5_BadRow : PySem.W.mroIn K c_BadRow (.type "object") = some true)
    (y6_BadRow : PySem.W.mroIn K c_BadRow (.type "BaseException") = some true)
    (u1_Wire___init__ : PySem.W.specialIn K (.ref c_Wire) "__getattribute__" = some (some (.builtin "type.__getattribute__")))
    (u2_Wire___init__ : PySem.W.readsIn K c_Wire (.type "type") = true)
    (u3_Wire___init__ : PySem.W.findCls K (.ref c_Wire) (.type "type") "__init__" = some (.val (.ref f_Wire___init__)))
    {t_LETTERS : Tok} (a_LETTERS : PySem.W.nsIn K mainGlobals "LETTERS" = some (some (.str "abcdefghijklmnopqrstuvwxyz" t_LETTERS)))
    {t_LONGEST_NAME : Tok} (a_LONGEST_NAME : PySem.W.nsIn K mainGlobals "LONGEST_NAME" = some (some (.int 6 t_LONGEST_NAME)))
    {t_MOST_INS : Tok} (a_MOST_INS : PySem.W.nsIn K mainGlobals "MOST_INS" = some (some (.int 6 t_MOST_INS)))
    {t_MOST_OUTS : Tok} (a_MOST_OUTS : PySem.W.nsIn K mainGlobals "MOST_OUTS" = some (some (.int 6 t_MOST_OUTS)))
    {t_MOST_STORES : Tok} (a_MOST_STORES : PySem.W.nsIn K mainGlobals "MOST_STORES" = some (some (.int 16 t_MOST_STORES)))
    {t_MOST_SUMS : Tok} (a_MOST_SUMS : PySem.W.nsIn K mainGlobals "MOST_SUMS" = some (some (.int 40 t_MOST_SUMS)))
    {t_MOST_WIRES : Tok} (a_MOST_WIRES : PySem.W.nsIn K mainGlobals "MOST_WIRES" = some (some (.int 24 t_MOST_WIRES)))
    {t_NAME_SIGNS : Tok} (a_NAME_SIGNS : PySem.W.nsIn K mainGlobals "NAME_SIGNS" = some (some (.str "abcdefghijklmnopqrstuvwxyz0123456789" t_NAME_SIGNS)))
    (z_all : PySem.W.nsIn K mainGlobals "all" = some none)
    (z_any : PySem.W.nsIn K mainGlobals "any" = some none)
    (z_bool : PySem.W.nsIn K mainGlobals "bool" = some none)
    (z_dict : PySem.W.nsIn K mainGlobals "dict" = some none)
    (z_enumerate : PySem.W.nsIn K mainGlobals "enumerate" = some none)
    (z_int : PySem.W.nsIn K mainGlobals "int" = some none)
    (z_isinstance : PySem.W.nsIn K mainGlobals "isinstance" = some none)
    (z_len : PySem.W.nsIn K mainGlobals "len" = some none)
    (z_list : PySem.W.nsIn K mainGlobals "list" = some none)
    (z_range : PySem.W.nsIn K mainGlobals "range" = some none)
    (z_reversed : PySem.W.nsIn K mainGlobals "reversed" = some none)
    (z_str : PySem.W.nsIn K mainGlobals "str" = some none)
    (z_sum : PySem.W.nsIn K mainGlobals "sum" = some none)
    (z_tuple : PySem.W.nsIn K mainGlobals "tuple" = some none) :
    ∃ fd : FuncData, (∀ (s : Shared) (v : Value), BindsTo s fd ⟨[v], []⟩ [("_law_script", v)]) ∧ ∀ base : Heap, K.In base → base.Ns mainGlobals mg → FnOk l.prog w K mg base CX0 7 fa fd ["_law_script"] (sp_law K) := by
  have e := hfa.symm.trans (PySem.W.mg_of X G a_law)
  cases e
  have F_is_whole := fun_mk (st := s_is_whole) l_is_whole c_is_whole p_is_whole
  have b_is_whole := F_is_whole.binds (ps := ["thing"]) fun _ _ _ _ _ _ us hl => match us, hl with | [_], _ => rfl
  have F_is_mask := fun_mk (st := s_is_mask) l_is_mask c_is_mask p_is_mask
  have b_is_mask := F_is_mask.binds (ps := ["thing", "width"]) fun _ _ _ _ _ _ us hl => match us, hl with | [_, _], _ => rfl
  have F_is_name := fun_mk (st := s_is_name) l_is_name c_is_name p_is_name
  have b_is_name := F_is_name.binds (ps := ["thing"]) fun _ _ _ _ _ _ us hl => match us, hl with | [_], _ => rfl
  have F_mask_of := fun_mk (st := s_mask_of) l_mask_of c_mask_of p_mask_of
  have b_mask_of := F_mask_of.binds (ps := ["places"]) fun _ _ _ _ _ _ us hl => match us, hl with | [_], _ => rfl
  have F_turn_bits := fun_mk (st := s_turn_bits) l_turn_bits c_turn_bits p_turn_bits
  have b_turn_bits := F_turn_bits.binds (ps := ["net", "row", "state"]) fun _ _ _ _ _ _ us hl => match us, hl with | [_, _, _], _ => rfl
  have F_mask_at := fun_mk (st := s_mask_at) l_mask_at c_mask_at p_mask_at
  have b_mask_at := F_mask_at.binds (ps := ["wires", "bits"]) fun _ _ _ _ _ _ us hl => match us, hl with | [_, _], _ => rfl
  have F_Run___init__ := fun_mk (st := s_Run___init__) l_Run___init__ c_Run___init__ p_Run___init__
  have b_Run___init__ := F_Run___init__.binds (ps := ["self", "net"]) fun _ _ _ _ _ _ us hl => match us, hl with | [_, _], _ => rfl
  have F_Run_step := fun_mk (st := s_Run_step) l_Run_step c_Run_step p_Run_step
  have b_Run_step := F_Run_step.binds (ps := ["self", "row"]) fun _ _ _ _ _ _ us hl => match us, hl with | [_, _], _ => rfl
  have F_Run_state := fun_mk (st := s_Run_state) l_Run_state c_Run_state p_Run_state
  have b_Run_state := F_Run_state.binds (ps := ["self"]) fun _ _ _ _ _ _ us hl => match us, hl with | [_], _ => rfl
  have F_Run_wire_now := fun_mk (st := s_Run_wire_now) l_Run_wire_now c_Run_wire_now p_Run_wire_now
  have b_Run_wire_now := F_Run_wire_now.binds (ps := ["self", "name"]) fun _ _ _ _ _ _ us hl => match us, hl with | [_, _], _ => rfl
  have F_Run_answered := fun_mk (st := s_Run_answered) l_Run_answered c_Run_answered p_Run_answered
  have b_Run_answered := F_Run_answered.binds (ps := ["self"]) fun _ _ _ _ _ _ us hl => match us, hl with | [_], _ => rfl
  have F_answers_of := fun_mk (st := s_answers_of) l_answers_of c_answers_of p_answers_of
  have b_answers_of := F_answers_of.binds (ps := ["net", "rows"]) fun _ _ _ _ _ _ us hl => match us, hl with | [_, _], _ => rfl
  have F_Wire___init__ := fun_mk (st := s_Wire___init__) l_Wire___init__ c_Wire___init__ p_Wire___init__
  have b_Wire___init__ := F_Wire___init__.binds (ps := ["self", "name"]) fun _ _ _ _ _ _ us hl => match us, hl with | [_, _], _ => rfl
  have F_InWire___init__ := fun_mk (st := s_InWire___init__) l_InWire___init__ c_InWire___init__ p_InWire___init__
  have b_InWire___init__ := F_InWire___init__.binds (ps := ["self", "name", "number"]) fun _ _ _ _ _ _ us hl => match us, hl with | [_, _, _], _ => rfl
  have F_InWire_bit := fun_mk (st := s_InWire_bit) l_InWire_bit c_InWire_bit p_InWire_bit
  have b_InWire_bit := F_InWire_bit.binds (ps := ["self", "known", "row", "state"]) fun _ _ _ _ _ _ us hl => match us, hl with | [_, _, _, _], _ => rfl
  have F_SumWire___init__ := fun_mk (st := s_SumWire___init__) l_SumWire___init__ c_SumWire___init__ p_SumWire___init__
  have b_SumWire___init__ := F_SumWire___init__.binds (ps := ["self", "name", "wires"]) fun _ _ _ _ _ _ us hl => match us, hl with | [_, _, _], _ => rfl
  have F_SumWire_bit := fun_mk (st := s_SumWire_bit) l_SumWire_bit c_SumWire_bit p_SumWire_bit
  have b_SumWire_bit := F_SumWire_bit.binds (ps := ["self", "known", "row", "state"]) fun _ _ _ _ _ _ us hl => match us, hl with | [_, _, _, _], _ => rfl
  have F_StoreWire___init__ := fun_mk (st := s_StoreWire___init__) l_StoreWire___init__ c_StoreWire___init__ p_StoreWire___init__
  have b_StoreWire___init__ := F_StoreWire___init__.binds (ps := ["self", "name", "wire", "number"]) fun _ _ _ _ _ _ us hl => match us, hl with | [_, _, _, _], _ => rfl
  have F_StoreWire_bit := fun_mk (st := s_StoreWire_bit) l_StoreWire_bit c_StoreWire_bit p_StoreWire_bit
  have b_StoreWire_bit := F_StoreWire_bit.binds (ps := ["self", "known", "row", "state"]) fun _ _ _ _ _ _ us hl => match us, hl with | [_, _, _, _], _ => rfl
  have F_check_sizes := fun_mk (st := s_check_sizes) l_check_sizes c_check_sizes p_check_sizes
  have b_check_sizes := F_check_sizes.binds (ps := ["ins", "sums", "stores", "outs"]) fun _ _ _ _ _ _ us hl => match us, hl with | [_, _, _, _], _ => rfl
  have F_check_names := fun_mk (st := s_check_names) l_check_names c_check_names p_check_names
  have b_check_names := F_check_names.binds (ps := ["names"]) fun _ _ _ _ _ _ us hl => match us, hl with | [_], _ => rfl
  have F_check_wire := fun_mk (st := s_check_wire) l_check_wire c_check_wire p_check_wire
  have b_check_wire := F_check_wire.binds (ps := ["wire", "known"]) fun _ _ _ _ _ _ us hl => match us, hl with | [_, _], _ => rfl
  have F_check_wires := fun_mk (st := s_check_wires) l_check_wires c_check_wires p_check_wires
  have b_check_wires := F_check_wires.binds (ps := ["sums", "stores", "outs", "known"]) fun _ _ _ _ _ _ us hl => match us, hl with | [_, _, _, _], _ => rfl
  have F_wires_by_name := fun_mk (st := s_wires_by_name) l_wires_by_name c_wires_by_name p_wires_by_name
  have b_wires_by_name := F_wires_by_name.binds (ps := ["ins", "sums", "stores"]) fun _ _ _ _ _ _ us hl => match us, hl with | [_, _, _], _ => rfl
  have F_waits := fun_mk (st := s_waits) l_waits c_waits p_waits
  have b_waits := F_waits.binds (ps := ["row", "waiting"]) fun _ _ _ _ _ _ us hl => match us, hl with | [_, _], _ => rfl
  have F_ordered := fun_mk (st := s_ordered) l_ordered c_ordered p_ordered
  have b_ordered := F_ordered.binds (ps := ["sums"]) fun _ _ _ _ _ _ us hl => match us, hl with | [_], _ => rfl
  have F_Net___init__ := fun_mk (st := s_Net___init__) l_Net___init__ c_Net___init__ p_Net___init__
  have b_Net___init__ := F_Net___init__.binds (ps := ["self", "ins", "sums", "stores", "outs"]) fun _ _ _ _ _ _ us hl => match us, hl with | [_, _, _, _, _], _ => rfl
  have F_Net_in_names := fun_mk (st := s_Net_in_names) l_Net_in_names c_Net_in_names p_Net_in_names
  have b_Net_in_names := F_Net_in_names.binds (ps := ["self"]) fun _ _ _ _ _ _ us hl => match us, hl with | [_], _ => rfl
  have F_Net_store_rows := fun_mk (st := s_Net_store_rows) l_Net_store_rows c_Net_store_rows p_Net_store_rows
  have b_Net_store_rows := F_Net_store_rows.binds (ps := ["self"]) fun _ _ _ _ _ _ us hl => match us, hl with | [_], _ => rfl
  have F_Net_out_wires := fun_mk (st := s_Net_out_wires) l_Net_out_wires c_Net_out_wires p_Net_out_wires
  have b_Net_out_wires := F_Net_out_wires.binds (ps := ["self"]) fun _ _ _ _ _ _ us hl => match us, hl with | [_], _ => rfl
  have F_Net_wire_of := fun_mk (st := s_Net_wire_of) l_Net_wire_of c_Net_wire_of p_Net_wire_of
  have b_Net_wire_of := F_Net_wire_of.binds (ps := ["self", "name"]) fun _ _ _ _ _ _ us hl => match us, hl with | [_, _], _ => rfl
  have F_Net_names_by_need := fun_mk (st := s_Net_names_by_need) l_Net_names_by_need c_Net_names_by_need p_Net_names_by_need
  have b_Net_names_by_need := F_Net_names_by_need.binds (ps := ["self"]) fun _ _ _ _ _ _ us hl => match us, hl with | [_], _ => rfl
  have F__law_cell := fun_mk (st := s__law_cell) l__law_cell c__law_cell p__law_cell
  have b__law_cell := F__law_cell.binds (ps := ["_law_script", "_law_k"]) fun _ _ _ _ _ _ us hl => match us, hl with | [_, _], _ => rfl
  have F__law_mix := fun_mk (st := s__law_mix) l__law_mix c__law_mix p__law_mix
  have b__law_mix := F__law_mix.binds (ps := ["_law_cell_here", "_law_k"]) fun _ _ _ _ _ _ us hl => match us, hl with | [_, _], _ => rfl
  have F__law_name := fun_mk (st := s__law_name) l__law_name c__law_name p__law_name
  have b__law_name := F__law_name.binds (ps := ["_law_cell_here", "_law_k"]) fun _ _ _ _ _ _ us hl => match us, hl with | [_, _], _ => rfl
  have F__law_wires := fun_mk (st := s__law_wires) l__law_wires c__law_wires p__law_wires
  have b__law_wires := F__law_wires.binds (ps := ["_law_cell_here", "_law_start", "_law_names", "_law_digits"]) fun _ _ _ _ _ _ us hl => match us, hl with | [_, _, _, _], _ => rfl
  have F__law_net := fun_mk (st := s__law_net) l__law_net c__law_net p__law_net
  have b__law_net := F__law_net.binds (ps := ["_law_script", "_law_start", "_law_most"]) fun _ _ _ _ _ _ us hl => match us, hl with | [_, _, _], _ => rfl
  have F__law_bits := fun_mk (st := s__law_bits) l__law_bits c__law_bits p__law_bits
  have b__law_bits := F__law_bits.binds (ps := ["_law_net_here", "_law_row", "_law_state"]) fun _ _ _ _ _ _ us hl => match us, hl with | [_, _, _], _ => rfl
  have F__law_answer := fun_mk (st := s__law_answer) l__law_answer c__law_answer p__law_answer
  have b__law_answer := F__law_answer.binds (ps := ["_law_net_here", "_law_bits_here"]) fun _ _ _ _ _ _ us hl => match us, hl with | [_, _], _ => rfl
  have F__law_next := fun_mk (st := s__law_next) l__law_next c__law_next p__law_next
  have b__law_next := F__law_next.binds (ps := ["_law_net_here", "_law_bits_here"]) fun _ _ _ _ _ _ us hl => match us, hl with | [_, _], _ => rfl
  have F__law_wires_right := fun_mk (st := s__law_wires_right) l__law_wires_right c__law_wires_right p__law_wires_right
  have b__law_wires_right := F__law_wires_right.binds (ps := ["_law_run", "_law_bits_here"]) fun _ _ _ _ _ _ us hl => match us, hl with | [_, _], _ => rfl
  have F_law := fun_mk (st := s_law) l_law c_law p_law
  have b_law := F_law.binds (ps := ["_law_script"]) fun _ _ _ _ _ _ us hl => match us, hl with | [_], _ => rfl
  have T : Tx K mg ⟨f_is_whole, _, f_is_mask, _, f_is_name, _, f_mask_of, _, f_turn_bits, _, f_mask_at, _, f_Run___init__, _, f_Run_step, _, f_Run_state, _, f_Run_wire_now, _, f_Run_answered, _, f_answers_of, _, f_Wire___init__, _, f_InWire___init__, _, f_InWire_bit, _, f_SumWire___init__, _, f_SumWire_bit, _, f_StoreWire___init__, _, f_StoreWire_bit, _, f_check_sizes, _, f_check_names, _, f_check_wire, _, f_check_wires, _, f_wires_by_name, _, f_waits, _, f_ordered, _, f_Net___init__, _, f_Net_in_names, _, f_Net_store_rows, _, f_Net_out_wires, _, f_Net_wire_of, _, f_Net_names_by_need, _, f__law_cell, _, f__law_mix, _, f__law_name, _, f__law_wires, _, f__law_net, _, f__law_bits, _, f__law_answer, _, f__law_next, _, f__law_wires_right, _, fa, _, c_Run, c_Wire, c_InWire, c_SumWire, c_StoreWire, c_Net, c_TooMany, c_BadMask, c_BadRow, _, _, _, _, _, _, _, _⟩ := ⟨F_is_whole, p_is_whole, b_is_whole, PySem.W.mg_of X G a_is_whole, F_is_mask, p_is_mask, b_is_mask, PySem.W.mg_of X G a_is_mask, F_is_name, p_is_name, b_is_name, PySem.W.mg_of X G a_is_name, F_mask_of, p_mask_of, b_mask_of, PySem.W.mg_of X G a_mask_of, F_turn_bits, p_turn_bits, b_turn_bits, PySem.W.mg_of X G a_turn_bits, F_mask_at, p_mask_at, b_mask_at, PySem.W.mg_of X G a_mask_at, F_Run___init__, p_Run___init__, b_Run___init__, F_Run_step, p_Run_step, b_Run_step, F_Run_state, p_Run_state, b_Run_state, F_Run_wire_now, p_Run_wire_now, b_Run_wire_now, F_Run_answered, p_Run_answered, b_Run_answered, F_answers_of, p_answers_of, b_answers_of, PySem.W.mg_of X G a_answers_of, F_Wire___init__, p_Wire___init__, b_Wire___init__, F_InWire___init__, p_InWire___init__, b_InWire___init__, F_InWire_bit, p_InWire_bit, b_InWire_bit, F_SumWire___init__, p_SumWire___init__, b_SumWire___init__, F_SumWire_bit, p_SumWire_bit, b_SumWire_bit, F_StoreWire___init__, p_StoreWire___init__, b_StoreWire___init__, F_StoreWire_bit, p_StoreWire_bit, b_StoreWire_bit, F_check_sizes, p_check_sizes, b_check_sizes, PySem.W.mg_of X G a_check_sizes, F_check_names, p_check_names, b_check_names, PySem.W.mg_of X G a_check_names, F_check_wire, p_check_wire, b_check_wire, PySem.W.mg_of X G a_check_wire, F_check_wires, p_check_wires, b_check_wires, PySem.W.mg_of X G a_check_wires, F_wires_by_name, p_wires_by_name, b_wires_by_name, PySem.W.mg_of X G a_wires_by_name, F_waits, p_waits, b_waits, PySem.W.mg_of X G a_waits, F_ordered, p_ordered, b_ordered, PySem.W.mg_of X G a_ordered, F_Net___init__, p_Net___init__, b_Net___init__, F_Net_in_names, p_Net_in_names, b_Net_in_names, F_Net_store_rows, p_Net_store_rows, b_Net_store_rows, F_Net_out_wires, p_Net_out_wires, b_Net_out_wires, F_Net_wire_of, p_Net_wire_of, b_Net_wire_of, F_Net_names_by_need, p_Net_names_by_need, b_Net_names_by_need, F__law_cell, p__law_cell, b__law_cell, PySem.W.mg_of X G a__law_cell, F__law_mix, p__law_mix, b__law_mix, PySem.W.mg_of X G a__law_mix, F__law_name, p__law_name, b__law_name, PySem.W.mg_of X G a__law_name, F__law_wires, p__law_wires, b__law_wires, PySem.W.mg_of X G a__law_wires, F__law_net, p__law_net, b__law_net, PySem.W.mg_of X G a__law_net, F__law_bits, p__law_bits, b__law_bits, PySem.W.mg_of X G a__law_bits, F__law_answer, p__law_answer, b__law_answer, PySem.W.mg_of X G a__law_answer, F__law_next, p__law_next, b__law_next, PySem.W.mg_of X G a__law_next, F__law_wires_right, p__law_wires_right, b__law_wires_right, PySem.W.mg_of X G a__law_wires_right, F_law, p_law, b_law, PySem.W.mg_of X G a_law, PySem.W.mg_of X G a_Run, ⟨q1_Run, q2_Run, q3_Run, q4_Run⟩, ⟨⟨q1_Run, q2_Run, q3_Run, q4_Run⟩, q5_Run, w1, w2, q6_Run⟩, ⟨e1_Run, e2_Run, e3_Run, e4_Run⟩, ⟨m1_Run_step, m2_Run_step, p_Run_step⟩, ⟨m1_Run_state, m2_Run_state, p_Run_state⟩, ⟨m1_Run_wire_now, m2_Run_wire_now, p_Run_wire_now⟩, ⟨m1_Run_answered, m2_Run_answered, p_Run_answered⟩, o_Run_bits, o_Run_by_name, o_Run_given, o_Run_held, o_Run_ins, o_Run_kept_stores, o_Run_name, o_Run_net, o_Run_number, o_Run_outs, o_Run_ring, o_Run_sum_order, o_Run_sums, o_Run_wire, o_Run_wires, PySem.W.mg_of X G a_Wire, ⟨q1_Wire, q2_Wire, q3_Wire, q4_Wire⟩, ⟨⟨q1_Wire, q2_Wire, q3_Wire, q4_Wire⟩, q5_Wire, w1, w2, q6_Wire⟩, o_Wire_bits, o_Wire_by_name, o_Wire_given, o_Wire_held, o_Wire_ins, o_Wire_kept_stores, o_Wire_name, o_Wire_net, o_Wire_number, o_Wire_outs, o_Wire_ring, o_Wire_sum_order, o_Wire_sums, o_Wire_wire, o_Wire_wires, PySem.W.mg_of X G a_InWire, ⟨q1_InWire, q2_InWire, q3_InWire, q4_InWire⟩, ⟨⟨q1_InWire, q2_InWire, q3_InWire, q4_InWire⟩, q5_InWire, w1, w2, q6_InWire⟩, ⟨e1_InWire, e2_InWire, e3_InWire, e4_InWire⟩, ⟨m1_InWire_bit, m2_InWire_bit, p_InWire_bit⟩, o_InWire_bits, o_InWire_by_name, o_InWire_given, o_InWire_held, o_InWire_ins, o_InWire_kept_stores, o_InWire_name, o_InWire_net, o_InWire_number, o_InWire_outs, o_InWire_ring, o_InWire_sum_order, o_InWire_sums, o_InWire_wire, o_InWire_wires, PySem.W.mg_of X G a_SumWire, ⟨q1_SumWire, q2_SumWire, q3_SumWire, q4_SumWire⟩, ⟨⟨q1_SumWire, q2_SumWire, q3_SumWire, q4_SumWire⟩, q5_SumWire, w1, w2, q6_SumWire⟩, ⟨e1_SumWire, e2_SumWire, e3_SumWire, e4_SumWire⟩, ⟨m1_SumWire_bit, m2_SumWire_bit, p_SumWire_bit⟩, o_SumWire_bits, o_SumWire_by_name, o_SumWire_given, o_SumWire_held, o_SumWire_ins, o_SumWire_kept_stores, o_SumWire_name, o_SumWire_net, o_SumWire_number, o_SumWire_outs, o_SumWire_ring, o_SumWire_sum_order, o_SumWire_sums, o_SumWire_wire, o_SumWire_wires, PySem.W.mg_of X G a_StoreWire, ⟨q1_StoreWire, q2_StoreWire, q3_StoreWire, q4_StoreWire⟩, ⟨⟨q1_StoreWire, q2_StoreWire, q3_StoreWire, q4_StoreWire⟩, q5_StoreWire, w1, w2, q6_StoreWire⟩, ⟨e1_StoreWire, e2_StoreWire, e3_StoreWire, e4_StoreWire⟩, ⟨m1_StoreWire_bit, m2_StoreWire_bit, p_StoreWire_bit⟩, o_StoreWire_bits, o_StoreWire_by_name, o_StoreWire_given, o_StoreWire_held, o_StoreWire_ins, o_StoreWire_kept_stores, o_StoreWire_name, o_StoreWire_net, o_StoreWire_number, o_StoreWire_outs, o_StoreWire_ring, o_StoreWire_sum_order, o_StoreWire_sums, o_StoreWire_wire, o_StoreWire_wires, PySem.W.mg_of X G a_Net, ⟨q1_Net, q2_Net, q3_Net, q4_Net⟩, ⟨⟨q1_Net, q2_Net, q3_Net, q4_Net⟩, q5_Net, w1, w2, q6_Net⟩, ⟨e1_Net, e2_Net, e3_Net, e4_Net⟩, ⟨m1_Net_in_names, m2_Net_in_names, p_Net_in_names⟩, ⟨m1_Net_store_rows, m2_Net_store_rows, p_Net_store_rows⟩, ⟨m1_Net_out_wires, m2_Net_out_wires, p_Net_out_wires⟩, ⟨m1_Net_wire_of, m2_Net_wire_of, p_Net_wire_of⟩, ⟨m1_Net_names_by_need, m2_Net_names_by_need, p_Net_names_by_need⟩, o_Net_bits, o_Net_by_name, o_Net_given, o_Net_held, o_Net_ins, o_Net_kept_stores, o_Net_name, o_Net_net, o_Net_number, o_Net_outs, o_Net_ring, o_Net_sum_order, o_Net_sums, o_Net_wire, o_Net_wires, ⟨u1_Wire___init__, u2_Wire___init__, u3_Wire___init__, (by rfl), p_Wire___init__⟩, PySem.W.mg_of X G a_TooMany, x_TooMany, ⟨y1_TooMany, y2_TooMany, y3_TooMany, y4_TooMany, w1, w2, y5_TooMany, y6_TooMany⟩, PySem.W.mg_of X G a_BadMask, x_BadMask, ⟨y1_BadMask, y2_BadMask, y3_BadMask, y4_BadMask, w1, w2, y5_BadMask, y6_BadMask⟩, PySem.W.mg_of X G a_BadRow, x_BadRow, ⟨y1_BadRow, y2_BadRow, y3_BadRow, y4_BadRow, w1, w2, y5_BadRow, y6_BadRow⟩, PySem.W.mg_of X G a_LETTERS, PySem.W.mg_of X G a_LONGEST_NAME, PySem.W.mg_of X G a_MOST_INS, PySem.W.mg_of X G a_MOST_OUTS, PySem.W.mg_of X G a_MOST_STORES, PySem.W.mg_of X G a_MOST_SUMS, PySem.W.mg_of X G a_MOST_WIRES, PySem.W.mg_of X G a_NAME_SIGNS, PySem.W.mg_none_of X G z_all, PySem.W.mg_none_of X G z_any, PySem.W.mg_none_of X G z_bool, PySem.W.mg_none_of X G z_dict, PySem.W.mg_none_of X G z_enumerate, PySem.W.mg_none_of X G z_int, PySem.W.mg_none_of X G z_isinstance, PySem.W.mg_none_of X G z_len, PySem.W.mg_none_of X G z_list, PySem.W.mg_none_of X G z_range, PySem.W.mg_none_of X G z_reversed, PySem.W.mg_none_of X G z_str, PySem.W.mg_none_of X G z_sum, PySem.W.mg_none_of X G z_tuple⟩
  exact ⟨_, fun s v => .of_eq rfl, fun base _ _ => ok_law T⟩
theorem walk {l : PySem.W.OpenLaw} {q : Program} {loose : List Str} {XP : (Str → Option Value) → Heap → Prop} {YP : World → Heap → Prop} {d : DefRec} {K : Params → PySem.W.Frag} (hn : l.most = some 63) (hdf : d.params.defaults = [])
    (hY : ∀ (w : World) (h : Heap), YP w h → (K w.params).In h)
    (F : ∀ (w : World) (mg : Str → Option Value) (fa : Addr) (h : Heap), (K w.params).In h → h.Ns mainGlobals mg → mg d.name = some (.ref fa) →
      ∃ fd : FuncData, (∀ (s : Shared) (u : Value), BindsTo s fd ⟨[u], []⟩ [("_law_script", u)]) ∧ ∀ base : Heap, (K w.params).In base → base.Ns mainGlobals mg → FnOk l.prog w (K w.params) mg base CX0 7 fa fd ["_law_script"] (sp_law (K w.params))) :
    PySem.W.WalkO q loose XP YP l.row.toRowW d [] (fun f vs => PySem.call f vs) :=
  L2.walk_of (n := 63) (k := 7) (x := "_law_script") (CX := fun _ => CX0) (sp := fun w => sp_law (K w.params)) hn (by decide) hdf ⟨rfl, by decide, by decide⟩ hY F (fun _ _ a ns hl _ hS => ⟨a, ns, rfl, hS, hl, fun _ => rfl⟩) fun _ _ _ _ _ z => z
end My
def PySem.W.Fast.tw10786121291353219933 : Unit := ()
def PySem.W.Fast.tw5602788069874551188 : Unit := ()
def PySem.W.Fast.tw15795291280014452757 : Unit := ()
def PySem.W.Fast.tw2788948595276939255 : Unit := ()
def PySem.W.Fast.tw13449322502922286976 : Unit := ()
def PySem.W.Fast.tw1844718625750924917 : Unit := ()
def PySem.W.Fast.tw6157728981934928869 : Unit := ()
def PySem.W.Fast.tw15342539160438400033 : Unit := ()
def PySem.W.Fast.tw4125722733812792064 : Unit := ()
def PySem.W.Fast.tw14996216947601676682 : Unit := ()
def PySem.W.Fast.tw8819214954075664258 : Unit := ()
def PySem.W.Fast.tw18278283636688015474 : Unit := ()
def PySem.W.Fast.tw211684298992768943 : Unit := ()
def PySem.W.Fast.tw2218778779401949294 : Unit := ()
def PySem.W.Fast.tw17758275237273110658 : Unit := ()
def PySem.W.Fast.tw16417473163094680168 : Unit := ()
def PySem.W.Fast.tw5024573009240944436 : Unit := ()
def PySem.W.Fast.tw12392578613509792433 : Unit := ()
def PySem.W.Fast.tw7683698795147237349 : Unit := ()
def PySem.W.Fast.tw9948496804222202351 : Unit := ()
def PySem.W.Fast.tw10764225053464072888 : Unit := ()
def PySem.W.Fast.tw7264780804987602565 : Unit := ()
def PySem.W.Fast.tw4549176700339965716 : Unit := ()
def PySem.W.Fast.tw4770058522665217673 : Unit := ()
def PySem.W.Fast.tw11268801303283382491 : Unit := ()
def PySem.W.Fast.tw13744548122926078752 : Unit := ()
def PySem.W.Fast.tw3916084570439668574 : Unit := ()
def PySem.W.Fast.tw18375902463037449927 : Unit := ()
def PySem.W.Fast.tw6139462005839680815 : Unit := ()
def PySem.W.Fast.tw3366135805087543572 : Unit := ()
def PySem.W.Fast.tw7072704206672080525 : Unit := ()
def PySem.W.Fast.tw10001333074887055652 : Unit := ()
def PySem.W.Fast.tw10638119805920863733 : Unit := ()
def PySem.W.Fast.tw13221440335911815203 : Unit := ()
def PySem.W.Fast.tw18264257433012552205 : Unit := ()
def PySem.W.Fast.tw10246060022247173159 : Unit := ()
def PySem.W.Fast.tw471491951973435345 : Unit := ()
def PySem.W.Fast.tw14676081748003476848 : Unit := ()
def PySem.W.Fast.tw3030507313740181049 : Unit := ()
def PySem.W.Fast.tw3724955832243571514 : Unit := ()
def PySem.W.Fast.tw15988538206638988441 : Unit := ()
def PySem.W.Fast.tw4606735858403562147 : Unit := ()
def PySem.W.Fast.tw6860579244942560143 : Unit := ()
def PySem.W.Fast.tw12588818304564731591 : Unit := ()
def PySem.W.Fast.tw11159980128632825470 : Unit := ()
def PySem.W.Fast.tw6113735534334382045 : Unit := ()
def PySem.W.Fast.tw4717493062446536278 : Unit := ()
def PySem.W.Fast.tw155146778543349544 : Unit := ()
def PySem.W.Fast.tw9428559796781439489 : Unit := ()
def PySem.W.Fast.tw2265835347662031770 : Unit := ()
def PySem.W.Fast.tw10323923705578457465 : Unit := ()
def PySem.W.Fast.tw9546803267608837015 : Unit := ()
def PySem.W.Fast.tw10026008548693608622 : Unit := ()
def PySem.W.Fast.tw2806707880198234 : Unit := ()
def PySem.W.Fast.tw5437984792752370847 : Unit := ()
def PySem.W.Fast.tw6684190487091023316 : Unit := ()
def PySem.W.Fast.tw8400720096881566108 : Unit := ()
def PySem.W.Fast.tw13953767472657508891 : Unit := ()
def PySem.W.Fast.tw7392290218551465818 : Unit := ()
def PySem.W.Fast.tw14003495094811276722 : Unit := ()
def PySem.W.Fast.tw1500044437765128276 : Unit := ()
def PySem.W.Fast.tw4717284271812149516 : Unit := ()
def PySem.W.Fast.tw17342496221515734245 : Unit := ()
def PySem.W.Fast.tw2843989312972541302 : Unit := ()
def PySem.W.Fast.tw17330766264211514264 : Unit := ()
open PySem PySem.W PyProof.Rows
set_option maxRecDepth 100000 in
set_option maxHeartbeats 0 in
theorem PySem.Challenge.cw_sumwires_k21_runs_sum_by_sum_holds : PySem.Challenge.rw_sumwires_k21_runs_sum_by_sum.Holds := by
  w_on; o_law; k_head; (case hw => w_witness2)
  k_fill
  refine My.walk (l := PySem.Challenge.rw_sumwires_k21_runs_sum_by_sum) rfl rfl (fun w h Y => PySem.W.kIn_of Y) ?F
  case F =>
    intro w mg fa h KX G hmg
    refine' My.all_mk KX G hmg ?a_Run ?a_Wire ?a_InWire ?a_SumWire ?a_StoreWire ?a_Net ?a_is_whole ?l_is_whole ?c_is_whole ?p_is_whole ?a_is_mask ?l_is_mask ?c_is_mask ?p_is_mask ?a_is_name ?l_is_name ?c_is_name ?p_is_name ?a_mask_of ?l_mask_of ?c_mask_of ?p_mask_of ?a_turn_bits ?l_turn_bits ?c_turn_bits ?p_turn_bits ?a_mask_at ?l_mask_at ?c_mask_at ?p_mask_at ?x_Run___init__ ?l_Run___init__ ?c_Run___init__ ?p_Run___init__ ?x_Run_step ?l_Run_step ?c_Run_step ?p_Run_step ?x_Run_state ?l_Run_state ?c_Run_state ?p_Run_state ?x_Run_wire_now ?l_Run_wire_now ?c_Run_wire_now ?p_Run_wire_now ?x_Run_answered ?l_Run_answered ?c_Run_answered ?p_Run_answered ?a_answers_of ?l_answers_of ?c_answers_of ?p_answers_of ?x_Wire___init__ ?l_Wire___init__ ?c_Wire___init__ ?p_Wire___init__ ?x_InWire___init__ ?l_InWire___init__ ?c_InWire___init__ ?p_InWire___init__ ?x_InWire_bit ?l_InWire_bit ?c_InWire_bit ?p_InWire_bit ?x_SumWire___init__ ?l_SumWire___init__ ?c_SumWire___init__ ?p_SumWire___init__ ?x_SumWire_bit ?l_SumWire_bit ?c_SumWire_bit ?p_SumWire_bit ?x_StoreWire___init__ ?l_StoreWire___init__ ?c_StoreWire___init__ ?p_StoreWire___init__ ?x_StoreWire_bit ?l_StoreWire_bit ?c_StoreWire_bit ?p_StoreWire_bit ?a_check_sizes ?l_check_sizes ?c_check_sizes ?p_check_sizes ?a_check_names ?l_check_names ?c_check_names ?p_check_names ?a_check_wire ?l_check_wire ?c_check_wire ?p_check_wire ?a_check_wires ?l_check_wires ?c_check_wires ?p_check_wires ?a_wires_by_name ?l_wires_by_name ?c_wires_by_name ?p_wires_by_name ?a_waits ?l_waits ?c_waits ?p_waits ?a_ordered ?l_ordered ?c_ordered ?p_ordered ?x_Net___init__ ?l_Net___init__ ?c_Net___init__ ?p_Net___init__ ?x_Net_in_names ?l_Net_in_names ?c_Net_in_names ?p_Net_in_names ?x_Net_store_rows ?l_Net_store_rows ?c_Net_store_rows ?p_Net_store_rows ?x_Net_out_wires ?l_Net_out_wires ?c_Net_out_wires ?p_Net_out_wires ?x_Net_wire_of ?l_Net_wire_of ?c_Net_wire_of ?p_Net_wire_of ?x_Net_names_by_need ?l_Net_names_by_need ?c_Net_names_by_need ?p_Net_names_by_need ?a__law_cell ?l__law_cell ?c__law_cell ?p__law_cell ?a__law_mix ?l__law_mix ?c__law_mix ?p__law_mix ?a__law_name ?l__law_name ?c__law_name ?p__law_name ?a__law_wires ?l__law_wires ?c__law_wires ?p__law_wires ?a__law_net ?l__law_net ?c__law_net ?p__law_net ?a__law_bits ?l__law_bits ?c__law_bits ?p__law_bits ?a__law_answer ?l__law_answer ?c__law_answer ?p__law_answer ?a__law_next ?l__law_next ?c__law_next ?p__law_next ?a__law_wires_right ?l__law_wires_right ?c__law_wires_right ?p__law_wires_right ?a_law ?l_law ?c_law ?p_law ?q1_Run ?q2_Run ?q3_Run ?q4_Run ?q5_Run ?q6_Run ?e1_Run ?e2_Run ?e3_Run ?e4_Run ?m1_Run_step ?m2_Run_step ?m1_Run_state ?m2_Run_state ?m1_Run_wire_now ?m2_Run_wire_now ?m1_Run_answered ?m2_Run_answered ?o_Run_bits ?o_Run_by_name ?o_Run_given ?o_Run_held ?o_Run_ins ?o_Run_kept_stores ?o_Run_name ?o_Run_net ?o_Run_number ?o_Run_outs ?o_Run_ring ?o_Run_sum_order ?o_Run_sums ?o_Run_wire ?o_Run_wires ?q1_Wire ?q2_Wire ?q3_Wire ?q4_Wire ?q5_Wire ?q6_Wire ?o_Wire_bits ?o_Wire_by_name ?o_Wire_given ?o_Wire_held ?o_Wire_ins ?o_Wire_kept_stores ?o_Wire_name ?o_Wire_net ?o_Wire_number ?o_Wire_outs ?o_Wire_ring ?o_Wire_sum_order ?o_Wire_sums ?o_Wire_wire ?o_Wire_wires ?q1_InWire ?q2_InWire ?q3_InWire ?q4_InWire ?q5_InWire ?q6_InWire ?e1_InWire ?e2_InWire ?e3_InWire ?e4_InWire ?m1_InWire_bit ?m2_InWire_bit ?o_InWire_bits ?o_InWire_by_name ?o_InWire_given ?o_InWire_held ?o_InWire_ins ?o_InWire_kept_stores ?o_InWire_name ?o_InWire_net ?o_InWire_number ?o_InWire_outs ?o_InWire_ring ?o_InWire_sum_order ?o_InWire_sums ?o_InWire_wire ?o_InWire_wires ?q1_SumWire ?q2_SumWire ?q3_SumWire ?q4_SumWire ?q5_SumWire ?q6_SumWire ?e1_SumWire ?e2_SumWire ?e3_SumWire ?e4_SumWire ?m1_SumWire_bit ?m2_SumWire_bit ?o_SumWire_bits ?o_SumWire_by_name ?o_SumWire_given ?o_SumWire_held ?o_SumWire_ins ?o_SumWire_kept_stores ?o_SumWire_name ?o_SumWire_net ?o_SumWire_number ?o_SumWire_outs ?o_SumWire_ring ?o_SumWire_sum_order ?o_SumWire_sums ?o_SumWire_wire ?o_SumWire_wires ?q1_StoreWire ?q2_StoreWire ?q3_StoreWire ?q4_StoreWire ?q5_StoreWire ?q6_StoreWire ?e1_StoreWire ?e2_StoreWire ?e3_StoreWire ?e4_StoreWire ?m1_StoreWire_bit ?m2_StoreWire_bit ?o_StoreWire_bits ?o_StoreWire_by_name ?o_StoreWire_given ?o_StoreWire_held ?o_StoreWire_ins ?o_StoreWire_kept_stores ?o_StoreWire_name ?o_StoreWire_net ?o_StoreWire_number ?o_StoreWire_outs ?o_StoreWire_ring ?o_StoreWire_sum_order ?o_StoreWire_sums ?o_StoreWire_wire ?o_StoreWire_wires ?q1_Net ?q2_Net ?q3_Net ?q4_Net ?q5_Net ?q6_Net ?e1_Net ?e2_Net ?e3_Net ?e4_Net ?m1_Net_in_names ?m2_Net_in_names ?m1_Net_store_rows ?m2_Net_store_rows ?m1_Net_out_wires ?m2_Net_out_wires ?m1_Net_wire_of ?m2_Net_wire_of ?m1_Net_names_by_need ?m2_Net_names_by_need ?o_Net_bits ?o_Net_by_name ?o_Net_given ?o_Net_held ?o_Net_ins ?o_Net_kept_stores ?o_Net_name ?o_Net_net ?o_Net_number ?o_Net_outs ?o_Net_ring ?o_Net_sum_order ?o_Net_sums ?o_Net_wire ?o_Net_wires ?w1 ?w2 ?a_TooMany ?a_BadMask ?a_BadRow ?x_TooMany ?y1_TooMany ?y2_TooMany ?y3_TooMany ?y4_TooMany ?y5_TooMany ?y6_TooMany ?x_BadMask ?y1_BadMask ?y2_BadMask ?y3_BadMask ?y4_BadMask ?y5_BadMask ?y6_BadMask ?x_BadRow ?y1_BadRow ?y2_BadRow ?y3_BadRow ?y4_BadRow ?y5_BadRow ?y6_BadRow ?u1_Wire___init__ ?u2_Wire___init__ ?u3_Wire___init__ ?a_LETTERS ?a_LONGEST_NAME ?a_MOST_INS ?a_MOST_OUTS ?a_MOST_STORES ?a_MOST_SUMS ?a_MOST_WIRES ?a_NAME_SIGNS ?z_all ?z_any ?z_bool ?z_dict ?z_enumerate ?z_int ?z_isinstance ?z_len ?z_list ?z_range ?z_reversed ?z_str ?z_sum ?z_tuple
    (case a_Run => k_is)
    (case a_Wire => k_is)
    (case a_InWire => k_is)
    (case a_SumWire => k_is)
    (case a_StoreWire => k_is)
    (case a_Net => k_is)
    (case a_is_whole => k_is)
    (case l_is_whole => k_is)
    (case c_is_whole => k_is)
    (case p_is_whole => k_is)
    (case a_is_mask => k_is)
    (case l_is_mask => k_is)
    (case c_is_mask => k_is)
    (case p_is_mask => k_is)
    (case a_is_name => k_is)
    (case l_is_name => k_is)
    (case c_is_name => k_is)
    (case p_is_name => k_is)
    (case a_mask_of => k_is)
    (case l_mask_of => k_is)
    (case c_mask_of => k_is)
    (case p_mask_of => k_is)
    (case a_turn_bits => k_is)
    (case l_turn_bits => k_is)
    (case c_turn_bits => k_is)
    (case p_turn_bits => k_is)
    (case a_mask_at => k_is)
    (case l_mask_at => k_is)
    (case c_mask_at => k_is)
    (case p_mask_at => k_is)
    (case x_Run___init__ => k_is)
    (case l_Run___init__ => k_is)
    (case c_Run___init__ => k_is)
    (case p_Run___init__ => k_is)
    (case x_Run_step => k_is)
    (case l_Run_step => k_is)
    (case c_Run_step => k_is)
    (case p_Run_step => k_is)
    (case x_Run_state => k_is)
    (case l_Run_state => k_is)
    (case c_Run_state => k_is)
    (case p_Run_state => k_is)
    (case x_Run_wire_now => k_is)
    (case l_Run_wire_now => k_is)
    (case c_Run_wire_now => k_is)
    (case p_Run_wire_now => k_is)
    (case x_Run_answered => k_is)
    (case l_Run_answered => k_is)
    (case c_Run_answered => k_is)
    (case p_Run_answered => k_is)
    (case a_answers_of => k_is)
    (case l_answers_of => k_is)
    (case c_answers_of => k_is)
    (case p_answers_of => k_is)
    (case x_Wire___init__ => k_is)
    (case l_Wire___init__ => k_is)
    (case c_Wire___init__ => k_is)
    (case p_Wire___init__ => k_is)
    (case x_InWire___init__ => k_is)
    (case l_InWire___init__ => k_is)
    (case c_InWire___init__ => k_is)
    (case p_InWire___init__ => k_is)
    (case x_InWire_bit => k_is)
    (case l_InWire_bit => k_is)
    (case c_InWire_bit => k_is)
    (case p_InWire_bit => k_is)
    (case x_SumWire___init__ => k_is)
    (case l_SumWire___init__ => k_is)
    (case c_SumWire___init__ => k_is)
    (case p_SumWire___init__ => k_is)
    (case x_SumWire_bit => k_is)
    (case l_SumWire_bit => k_is)
    (case c_SumWire_bit => k_is)
    (case p_SumWire_bit => k_is)
    (case x_StoreWire___init__ => k_is)
    (case l_StoreWire___init__ => k_is)
    (case c_StoreWire___init__ => k_is)
    (case p_StoreWire___init__ => k_is)
    (case x_StoreWire_bit => k_is)
    (case l_StoreWire_bit => k_is)
    (case c_StoreWire_bit => k_is)
    (case p_StoreWire_bit => k_is)
    (case a_check_sizes => k_is)
    (case l_check_sizes => k_is)
    (case c_check_sizes => k_is)
    (case p_check_sizes => k_is)
    (case a_check_names => k_is)
    (case l_check_names => k_is)
    (case c_check_names => k_is)
    (case p_check_names => k_is)
    (case a_check_wire => k_is)
    (case l_check_wire => k_is)
    (case c_check_wire => k_is)
    (case p_check_wire => k_is)
    (case a_check_wires => k_is)
    (case l_check_wires => k_is)
    (case c_check_wires => k_is)
    (case p_check_wires => k_is)
    (case a_wires_by_name => k_is)
    (case l_wires_by_name => k_is)
    (case c_wires_by_name => k_is)
    (case p_wires_by_name => k_is)
    (case a_waits => k_is)
    (case l_waits => k_is)
    (case c_waits => k_is)
    (case p_waits => k_is)
    (case a_ordered => k_is)
    (case l_ordered => k_is)
    (case c_ordered => k_is)
    (case p_ordered => k_is)
    (case x_Net___init__ => k_is)
    (case l_Net___init__ => k_is)
    (case c_Net___init__ => k_is)
    (case p_Net___init__ => k_is)
    (case x_Net_in_names => k_is)
    (case l_Net_in_names => k_is)
    (case c_Net_in_names => k_is)
    (case p_Net_in_names => k_is)
    (case x_Net_store_rows => k_is)
    (case l_Net_store_rows => k_is)
    (case c_Net_store_rows => k_is)
    (case p_Net_store_rows => k_is)
    (case x_Net_out_wires => k_is)
    (case l_Net_out_wires => k_is)
    (case c_Net_out_wires => k_is)
    (case p_Net_out_wires => k_is)
    (case x_Net_wire_of => k_is)
    (case l_Net_wire_of => k_is)
    (case c_Net_wire_of => k_is)
    (case p_Net_wire_of => k_is)
    (case x_Net_names_by_need => k_is)
    (case l_Net_names_by_need => k_is)
    (case c_Net_names_by_need => k_is)
    (case p_Net_names_by_need => k_is)
    (case a__law_cell => k_is)
    (case l__law_cell => k_is)
    (case c__law_cell => k_is)
    (case p__law_cell => k_is)
    (case a__law_mix => k_is)
    (case l__law_mix => k_is)
    (case c__law_mix => k_is)
    (case p__law_mix => k_is)
    (case a__law_name => k_is)
    (case l__law_name => k_is)
    (case c__law_name => k_is)
    (case p__law_name => k_is)
    (case a__law_wires => k_is)
    (case l__law_wires => k_is)
    (case c__law_wires => k_is)
    (case p__law_wires => k_is)
    (case a__law_net => k_is)
    (case l__law_net => k_is)
    (case c__law_net => k_is)
    (case p__law_net => k_is)
    (case a__law_bits => k_is)
    (case l__law_bits => k_is)
    (case c__law_bits => k_is)
    (case p__law_bits => k_is)
    (case a__law_answer => k_is)
    (case l__law_answer => k_is)
    (case c__law_answer => k_is)
    (case p__law_answer => k_is)
    (case a__law_next => k_is)
    (case l__law_next => k_is)
    (case c__law_next => k_is)
    (case p__law_next => k_is)
    (case a__law_wires_right => k_is)
    (case l__law_wires_right => k_is)
    (case c__law_wires_right => k_is)
    (case p__law_wires_right => k_is)
    (case a_law => k_is)
    (case l_law => k_is)
    (case c_law => k_is)
    (case p_law => k_is)
    (case q1_Run => k_is)
    (case q2_Run => k_is)
    (case q3_Run => k_is)
    (case q4_Run => k_is)
    (case q5_Run => k_is)
    (case q6_Run => k_is)
    (case e1_Run => k_is)
    (case e2_Run => k_is)
    (case e3_Run => k_is)
    (case e4_Run => k_is)
    (case m1_Run_step => k_is)
    (case m2_Run_step => k_is)
    (case m1_Run_state => k_is)
    (case m2_Run_state => k_is)
    (case m1_Run_wire_now => k_is)
    (case m2_Run_wire_now => k_is)
    (case m1_Run_answered => k_is)
    (case m2_Run_answered => k_is)
    (case o_Run_bits => k_is)
    (case o_Run_by_name => k_is)
    (case o_Run_given => k_is)
    (case o_Run_held => k_is)
    (case o_Run_ins => k_is)
    (case o_Run_kept_stores => k_is)
    (case o_Run_name => k_is)
    (case o_Run_net => k_is)
    (case o_Run_number => k_is)
    (case o_Run_outs => k_is)
    (case o_Run_ring => k_is)
    (case o_Run_sum_order => k_is)
    (case o_Run_sums => k_is)
    (case o_Run_wire => k_is)
    (case o_Run_wires => k_is)
    (case q1_Wire => k_is)
    (case q2_Wire => k_is)
    (case q3_Wire => k_is)
    (case q4_Wire => k_is)
    (case q5_Wire => k_is)
    (case q6_Wire => k_is)
    (case o_Wire_bits => k_is)
    (case o_Wire_by_name => k_is)
    (case o_Wire_given => k_is)
    (case o_Wire_held => k_is)
    (case o_Wire_ins => k_is)
    (case o_Wire_kept_stores => k_is)
    (case o_Wire_name => k_is)
    (case o_Wire_net => k_is)
    (case o_Wire_number => k_is)
    (case o_Wire_outs => k_is)
    (case o_Wire_ring => k_is)
    (case o_Wire_sum_order => k_is)
    (case o_Wire_sums => k_is)
    (case o_Wire_wire => k_is)
    (case o_Wire_wires => k_is)
    (case q1_InWire => k_is)
    (case q2_InWire => k_is)
    (case q3_InWire => k_is)
    (case q4_InWire => k_is)
    (case q5_InWire => k_is)
    (case q6_InWire => k_is)
    (case e1_InWire => k_is)
    (case e2_InWire => k_is)
    (case e3_InWire => k_is)
    (case e4_InWire => k_is)
    (case m1_InWire_bit => k_is)
    (case m2_InWire_bit => k_is)
    (case o_InWire_bits => k_is)
    (case o_InWire_by_name => k_is)
    (case o_InWire_given => k_is)
    (case o_InWire_held => k_is)
    (case o_InWire_ins => k_is)
    (case o_InWire_kept_stores => k_is)
    (case o_InWire_name => k_is)
    (case o_InWire_net => k_is)
    (case o_InWire_number => k_is)
    (case o_InWire_outs => k_is)
    (case o_InWire_ring => k_is)
    (case o_InWire_sum_order => k_is)
    (case o_InWire_sums => k_is)
    (case o_InWire_wire => k_is)
    (case o_InWire_wires => k_is)
    (case q1_SumWire => k_is)
    (case q2_SumWire => k_is)
    (case q3_SumWire => k_is)
    (case q4_SumWire => k_is)
    (case q5_SumWire => k_is)
    (case q6_SumWire => k_is)
    (case e1_SumWire => k_is)
    (case e2_SumWire => k_is)
    (case e3_SumWire => k_is)
    (case e4_SumWire => k_is)
    (case m1_SumWire_bit => k_is)
    (case m2_SumWire_bit => k_is)
    (case o_SumWire_bits => k_is)
    (case o_SumWire_by_name => k_is)
    (case o_SumWire_given => k_is)
    (case o_SumWire_held => k_is)
    (case o_SumWire_ins => k_is)
    (case o_SumWire_kept_stores => k_is)
    (case o_SumWire_name => k_is)
    (case o_SumWire_net => k_is)
    (case o_SumWire_number => k_is)
    (case o_SumWire_outs => k_is)
    (case o_SumWire_ring => k_is)
    (case o_SumWire_sum_order => k_is)
    (case o_SumWire_sums => k_is)
    (case o_SumWire_wire => k_is)
    (case o_SumWire_wires => k_is)
    (case q1_StoreWire => k_is)
    (case q2_StoreWire => k_is)
    (case q3_StoreWire => k_is)
    (case q4_StoreWire => k_is)
    (case q5_StoreWire => k_is)
    (case q6_StoreWire => k_is)
    (case e1_StoreWire => k_is)
    (case e2_StoreWire => k_is)
    (case e3_StoreWire => k_is)
    (case e4_StoreWire => k_is)
    (case m1_StoreWire_bit => k_is)
    (case m2_StoreWire_bit => k_is)
    (case o_StoreWire_bits => k_is)
    (case o_StoreWire_by_name => k_is)
    (case o_StoreWire_given => k_is)
    (case o_StoreWire_held => k_is)
    (case o_StoreWire_ins => k_is)
    (case o_StoreWire_kept_stores => k_is)
    (case o_StoreWire_name => k_is)
    (case o_StoreWire_net => k_is)
    (case o_StoreWire_number => k_is)
    (case o_StoreWire_outs => k_is)
    (case o_StoreWire_ring => k_is)
    (case o_StoreWire_sum_order => k_is)
    (case o_StoreWire_sums => k_is)
    (case o_StoreWire_wire => k_is)
    (case o_StoreWire_wires => k_is)
    (case q1_Net => k_is)
    (case q2_Net => k_is)
    (case q3_Net => k_is)
    (case q4_Net => k_is)
    (case q5_Net => k_is)
    (case q6_Net => k_is)
    (case e1_Net => k_is)
    (case e2_Net => k_is)
    (case e3_Net => k_is)
    (case e4_Net => k_is)
    (case m1_Net_in_names => k_is)
    (case m2_Net_in_names => k_is)
    (case m1_Net_store_rows => k_is)
    (case m2_Net_store_rows => k_is)
    (case m1_Net_out_wires => k_is)
    (case m2_Net_out_wires => k_is)
    (case m1_Net_wire_of => k_is)
    (case m2_Net_wire_of => k_is)
    (case m1_Net_names_by_need => k_is)
    (case m2_Net_names_by_need => k_is)
    (case o_Net_bits => k_is)
    (case o_Net_by_name => k_is)
    (case o_Net_given => k_is)
    (case o_Net_held => k_is)
    (case o_Net_ins => k_is)
    (case o_Net_kept_stores => k_is)
    (case o_Net_name => k_is)
    (case o_Net_net => k_is)
    (case o_Net_number => k_is)
    (case o_Net_outs => k_is)
    (case o_Net_ring => k_is)
    (case o_Net_sum_order => k_is)
    (case o_Net_sums => k_is)
    (case o_Net_wire => k_is)
    (case o_Net_wires => k_is)
    (case w1 => k_is)
    (case w2 => k_is)
    (case a_TooMany => k_is)
    (case a_BadMask => k_is)
    (case a_BadRow => k_is)
    (case x_TooMany => k_exc)
    (case y1_TooMany => k_is)
    (case y2_TooMany => k_is)
    (case y3_TooMany => k_is)
    (case y4_TooMany => k_is)
    (case y5_TooMany => k_is)
    (case y6_TooMany => k_is)
    (case x_BadMask => k_exc)
    (case y1_BadMask => k_is)
    (case y2_BadMask => k_is)
    (case y3_BadMask => k_is)
    (case y4_BadMask => k_is)
    (case y5_BadMask => k_is)
    (case y6_BadMask => k_is)
    (case x_BadRow => k_exc)
    (case y1_BadRow => k_is)
    (case y2_BadRow => k_is)
    (case y3_BadRow => k_is)
    (case y4_BadRow => k_is)
    (case y5_BadRow => k_is)
    (case y6_BadRow => k_is)
    (case u1_Wire___init__ => k_is)
    (case u2_Wire___init__ => k_is)
    (case u3_Wire___init__ => k_is)
    (case a_LETTERS => k_is)
    (case a_LONGEST_NAME => k_is)
    (case a_MOST_INS => k_is)
    (case a_MOST_OUTS => k_is)
    (case a_MOST_STORES => k_is)
    (case a_MOST_SUMS => k_is)
    (case a_MOST_WIRES => k_is)
    (case a_NAME_SIGNS => k_is)
    (case z_all => k_is)
    (case z_any => k_is)
    (case z_bool => k_is)
    (case z_dict => k_is)
    (case z_enumerate => k_is)
    (case z_int => k_is)
    (case z_isinstance => k_is)
    (case z_len => k_is)
    (case z_list => k_is)
    (case z_range => k_is)
    (case z_reversed => k_is)
    (case z_str => k_is)
    (case z_sum => k_is)
    (case z_tuple => k_is)
