import PyProof.Rows.All
import Wide.All
import OpenK.AllK
import Wide.FinOn
import Lean
import PyProof.EqAt
import PyProof.EqKinds
import PyProof.TupleCall
import PyProof.NeKinds
import KE.KIsAll
import PyProof.RulesAs
import PyProof.StationsW
import PyProof.ExcClass2
import OpenK.KOwn
import PyProof.NsDelKeeps
import PyProof.ExcAttrAll.ValueError
import KE.KDictList
import KE.KSorted
import PyProof.SumAny
import PyProof.WalkInts
import PyProof.EnumMake
import KE.KItemsList
import KE.KRevIter
import PySem.Challenge.RW_sumwires_k81_whole_states_go_round
set_option Elab.async false
set_option linter.all false
set_option maxRecDepth 100000
namespace L2
open PySem PySem.Spec PyProof.Rows
noncomputable abbrev Key := Sum Int Str
noncomputable def keyIs : Key → Value → Bool
  | .inl k, v => Value.isInt k v
  | .inr x, v => Value.isStrOf x v
noncomputable def keyH (w : World) : Key → Int
  | .inl k => hashInt k
  | .inr x => hashStr w x
theorem keyIs_shape : ∀ {k : Key} {v : Value}, keyIs k v = true → (∃ i t, k = Sum.inl i ∧ v = Value.int i t) ∨ (∃ x t, k = Sum.inr x ∧ v = Value.str x t)
  | .inl i, v, h => by
    obtain ⟨t, e⟩ := Value.isInt_shape (k := i) (v := v) h
    exact .inl ⟨i, t, rfl, e⟩
  | .inr x, v, h => by
    obtain ⟨t, e⟩ := Value.isStrOf_shape (x := x) (v := v) h
    exact .inr ⟨x, t, rfl, e⟩
theorem keyIs_int (i : Int) (t : Tok) : keyIs (.inl i) (.int i t) = true := by simp [keyIs, Value.isInt]
theorem keyIs_str (x : Str) (t : Tok) : keyIs (.inr x) (.str x t) = true := by simp [keyIs, Value.isStrOf]
theorem key_ll (a b : Int) : decide ((Sum.inl a : Key) = Sum.inl b) = (a == b) := by
  by_cases e : a = b
  · subst e; simp
  · have h : ¬ (Sum.inl a : Key) = Sum.inl b := fun q => e (Sum.inl.inj q)
    rw [decide_eq_false h]
    exact (beq_eq_false_iff_ne.mpr e).symm
theorem key_rr (a b : Str) : decide ((Sum.inr a : Key) = Sum.inr b) = decide (a = b) := by
  by_cases e : a = b
  · subst e; simp
  · have h : ¬ (Sum.inr a : Key) = Sum.inr b := fun q => e (Sum.inr.inj q)
    rw [decide_eq_false h, decide_eq_false e]
theorem key_lr (a : Int) (b : Str) : decide ((Sum.inl a : Key) = Sum.inr b) = false := decide_eq_false (fun q => nomatch q)
theorem key_rl (a : Str) (b : Int) : decide ((Sum.inr a : Key) = Sum.inl b) = false := decide_eq_false (fun q => nomatch q)
noncomputable def mixKind (prog : Program) (w : World) : PySem.KeyKind prog w Key where
  is := keyIs
  hash := keyH w
  inj := fun v a b ha hb => by
    rcases keyIs_shape ha with ⟨i, t, rfl, rfl⟩ | ⟨x, t, rfl, rfl⟩
    · rcases keyIs_shape hb with ⟨j, u, rfl, e⟩ | ⟨y, u, rfl, e⟩
      · injection e with e1 _; rw [e1]
      · exact nomatch e
    · rcases keyIs_shape hb with ⟨j, u, rfl, e⟩ | ⟨y, u, rfl, e⟩
      · exact nomatch e
      · injection e with e1 _; rw [e1]
  byValue := fun k v h => by
    rcases keyIs_shape h with ⟨i, t, rfl, rfl⟩ | ⟨x, t, rfl, rfl⟩ <;> rfl
  pyHash := fun hv h => by
    rcases keyIs_shape hv with ⟨i, t, rfl, rfl⟩ | ⟨x, t, rfl, rfl⟩
    · exact wpAny_pyHash_int h
    · exact wpAny_pyHash_str h
  eqBool := fun hu hv h => by
    rcases keyIs_shape hu with ⟨i, t, rfl, rfl⟩ | ⟨x, t, rfl, rfl⟩
    · rcases keyIs_shape hv with ⟨j, u, rfl, rfl⟩ | ⟨y, u, rfl, rfl⟩
      · rw [key_ll] at h; exact wpAny_eqBool_int h
      · rw [key_lr] at h; exact SeqAt.EqAt.int_str i t y u _ _ _ _ h
    · rcases keyIs_shape hv with ⟨j, u, rfl, rfl⟩ | ⟨y, u, rfl, rfl⟩
      · rw [key_rl] at h; exact SeqAt.EqAt.str_int x t j u _ _ _ _ h
      · rw [key_rr] at h; exact wpAny_eqBool_str h
  «strs» := fun k x t v h => by
    rcases keyIs_shape h with ⟨i, u, rfl, e⟩ | ⟨y, u, rfl, e⟩
    · exact nomatch e
    · injection e with e1 _
      subst e1
      cases v <;> rfl
theorem mixKind_int (prog : Program) (w : World) (i : Int) (t : Tok) : (mixKind prog w).is (.inl i) (.int i t) = true := keyIs_int i t
theorem mixKind_str (prog : Program) (w : World) (x : Str) (t : Tok) : (mixKind prog w).is (.inr x) (.str x t) = true := keyIs_str x t
end L2
namespace L2
open PySem PySem.Spec PyProof.Rows
inductive V where
  | non | bl (b : Bool) | int (i : Int) | str (x : Str) | byt (b : Array UInt8) | flt (b : UInt64) | ref (a : Addr) | ty (n : String)
  deriving DecidableEq
noncomputable def RelV : V → Value → Prop
  | .non, u => u = Value.none
  | .bl b, u => u = Value.bool b
  | .int i, u => ∃ t, u = Value.int i t
  | .str x, u => ∃ t, u = Value.str x t
  | .byt b, u => ∃ t, u = Value.bytes b t
  | .flt b, u => ∃ t, u = Value.float b t
  | .ref a, u => u = Value.ref a
  | .ty n, u => u = Value.type n
noncomputable abbrev Vals : List V → List Value → Prop := Paired RelV
theorem Vals.length {xs : List V} {us : List Value} (r : Vals xs us) : xs.length = us.length := Paired.length r
theorem Vals.get : ∀ {xs : List V} {us : List Value} {i : Nat} {x : V}, Vals xs us → xs[i]? = some x → ∃ u, us[i]? = some u ∧ RelV x u
  | _, _, _, _, .nil, e => by simp at e
  | _, _, 0, _, .cons r _, e => by simp at e; subst e; exact ⟨_, rfl, r⟩
  | _, _, i + 1, x, .cons _ t, e => by
    obtain ⟨u, h1, h2⟩ := Vals.get (i := i) (x := x) t (by simpa using e)
    exact ⟨u, by simpa using h1, h2⟩
theorem Vals.append : ∀ {xs ys : List V} {us ws : List Value}, Vals xs us → Vals ys ws → Vals (xs ++ ys) (us ++ ws)
  | _, _, _, _, .nil, s => s
  | _, _, _, _, .cons r t, s => .cons r (Vals.append t s)
theorem Vals.take : ∀ {xs : List V} {us : List Value} (n : Nat), Vals xs us → Vals (xs.take n) (us.take n)
  | _, _, 0, _ => .nil
  | _, _, _ + 1, .nil => .nil
  | _, _, n + 1, .cons r t => .cons r (Vals.take n t)
theorem Vals.drop : ∀ {xs : List V} {us : List Value} (n : Nat), Vals xs us → Vals (xs.drop n) (us.drop n)
  | _, _, 0, r => r
  | _, _, _ + 1, .nil => .nil
  | _, _, n + 1, .cons _ t => Vals.drop n t
noncomputable def RelO : Option V → Option Value → Prop
  | some v, some u => RelV v u
  | none, none => True
  | _, _ => False
noncomputable def KV {κ : Type} : List (κ × V) → List (κ × Value) → Prop := Paired fun (p : κ × V) (q : κ × Value) => p.1 = q.1 ∧ RelV p.2 q.2
noncomputable def kV : Key → V
  | .inl i => .int i
  | .inr x => .str x
inductive HO where
  | lst (xs : List V)
  | tup (xs : List V)
  | dK (kvs : List (Key × V)) | dT (kvs : List (List Key × V))
  | set (S : Int → Bool) (n : Nat)
  | ins (C dx : Addr) (fs : List (Str × V))
  | own (x : Addr)
  | xd (fs : List (Str × V))
  | met (f x : Addr)
  | rng (lo hi : Int)
  | frz (o : Obj) (u : HO)
  | tbl (ps : Array Value)
  | ext (φ : Heap → Prop)
noncomputable abbrev Hp := Addr → Option HO
noncomputable def upd (H : Hp) (a : Addr) (o : HO) : Hp := fun b => if b = a then some o else H b
theorem upd_same {H : Hp} {a : Addr} {o : HO} : upd H a o a = some o := by unfold upd; rw [if_pos rfl]
theorem upd_ne {H : Hp} {a b : Addr} {o : HO} (h : b ≠ a) : upd H a o b = H b := by unfold upd; rw [if_neg h]
theorem ne_of {H : Hp} {a b : Addr} {o u : HO} (h : H a = some o) (h' : H b = some u) (d : o ≠ u) : a ≠ b := by
  intro e; subst e; rw [h] at h'; exact d (Option.some.inj h')
theorem ne_of_none {H : Hp} {a b : Addr} {o : HO} (h : H a = some o) (h' : H b = none) : a ≠ b := by
  intro e; subst e; rw [h] at h'; cases h'
section
variable (P : Program) (w : World)
noncomputable def ObjOk (H : Hp) (h : Heap) (a : Addr) : HO → Prop
  | .lst xs => xs.length ≤ sizeLine ∧ ∃ (its : List Value) (n : Nat), Vals xs its ∧ h.get? a = some { cls := .type "list", data := .seq its.toArray n }
  | .tup xs => xs.length ≤ sizeLine ∧ ∃ its : List Value, Vals xs its ∧ IsTup h a its.toArray
  | .dK kvs => kvs.length ≤ sizeLine ∧ (a == sysModules) = false ∧ ∃ vs, KV kvs vs ∧ h.DictOf (mixKind P w) a vs
  | .dT kvs => kvs.length ≤ sizeLine ∧ (a == sysModules) = false ∧ ∃ xs : List (List Key × Addr × Value),
      Paired (fun (p : List Key × V) (q : List Key × Addr × Value) => p.1 = q.1 ∧ H q.2.1 = some (.tup (p.1.map kV)) ∧ RelV p.2 q.2.2) kvs xs ∧
      ∃ o es ep, h.get? a = some o ∧ o.ExactDict ∧ o.data = .dict es ep ∧ es.toList = xs.map (entryOfKey (tupleKind (mixKind P w))) ∧ (xs.map (·.1)).Nodup
  | .set S n => h.SetOf (intKind P w) a S n
  | .ins C dx fs => H dx = some (.own a) ∧ fs.length ≤ 1000 ∧ dx ≠ a ∧ h.get? a = some (PySem.W.instObj C dx) ∧
      ∃ mA, h.Ns1 dx mA ∧ (∀ f, RelO (fs.lookup f) (mA f)) ∧ PySem.Within mA (fs.map (·.1))
  | .own _ => ∃ o, h.get? a = some o
  | .xd fs => ∃ mA, h.Ns1 a mA ∧ ∀ f, RelO (fs.lookup f) (mA f)
  | .rng lo hi => ∃ t u v, h.get? a = some { cls := .type "range", data := .fields #[.int lo t, .int hi u, .int 1 v] }
  | .frz o u => h.get? a = some o ∧ ObjOk H h a u
  | .tbl ps => h.get? a = some { cls := .none, data := .fields ps }
  | .met f x => h.get? a = some (PySem.W.methodObj (.ref f) (.ref x))
  | .ext φ => φ h ∧ (∃ o, h.get? a = some o) ∧ ∀ h1 h2 : Heap, φ h1 → (∀ o, h1.get? a = some o → h2.get? a = some o) → φ h2
noncomputable def HOk (H : Hp) (h : Heap) : Prop := ∀ a o, H a = some o → ObjOk P w H h a o
end
section
variable {P : Program} {w : World} {H H' : Hp} {h h' : Heap} {a : Addr} {o : HO}
theorem ObjOk.lt (x : ObjOk P w H h a o) : a < h.objs.size := by
  cases o with
  | lst xs => obtain ⟨_, _, _, _, e⟩ := x; exact Heap.lt_size e
  | tup xs => obtain ⟨_, _, _, p⟩ := x; exact p.lt
  | dK kvs => obtain ⟨_, _, _, _, o, _, _, e, _⟩ := x; exact Heap.lt_size e
  | dT kvs => obtain ⟨_, _, _, _, o, _, _, e, _⟩ := x; exact Heap.lt_size e
  | set S n => obtain ⟨o, _, _, _, e, _⟩ := x; exact Heap.lt_size e
  | ins C dx fs => obtain ⟨_, _, _, e, _⟩ := x; exact Heap.lt_size e
  | own y => obtain ⟨_, e⟩ := x; exact Heap.lt_size e
  | xd fs => obtain ⟨_, ⟨_, _, _, e, _⟩, _⟩ := x; exact Heap.lt_size e
  | rng lo hi => obtain ⟨_, _, _, e⟩ := x; exact Heap.lt_size e
  | frz ob u => obtain ⟨e, _⟩ := x; exact Heap.lt_size e
  | tbl ps => exact Heap.lt_size (show h.get? a = some _ from x)
  | met f y => exact Heap.lt_size (show h.get? a = some _ from x)
  | ext φ => obtain ⟨_, ⟨_, e⟩, _⟩ := x; exact Heap.lt_size e
theorem Paired.mapP {α β : Type} {F G : α → β → Prop} : ∀ {l₁ : List α} {l₂ : List β}, Paired F l₁ l₂ → (∀ a b, F a b → G a b) → Paired G l₁ l₂
  | _, _, .nil, _ => .nil
  | _, _, .cons r t, f => .cons (f _ _ r) (Paired.mapP t f)
theorem ObjOk.stay (x : ObjOk P w H h a o) (k : ∀ b u, (b = a ∨ H b = some (.own a)) → h.get? b = some u → h'.get? b = some u)
    (ho : ∀ b, H b = some (.own a) → H' b = some (.own a)) (ht : ∀ b xs, H b = some (.tup xs) → H' b = some (.tup xs)) : ObjOk P w H' h' a o := by
  induction o with
  | lst xs => obtain ⟨z, its, n, r, e⟩ := x; exact ⟨z, its, n, r, k _ _ (.inl rfl) e⟩
  | tup xs => obtain ⟨z, its, r, ob, e, c⟩ := x; exact ⟨z, its, r, ob, k _ _ (.inl rfl) e, c⟩
  | dK kvs => obtain ⟨z, y, vs, r, ob, es, ep, e, c⟩ := x; exact ⟨z, y, vs, r, ob, es, ep, k _ _ (.inl rfl) e, c⟩
  | dT kvs =>
    obtain ⟨z, y, xs, r, ob, es, ep, e, c⟩ := x
    exact ⟨z, y, xs, Paired.mapP r fun p q z => ⟨z.1, ht _ _ z.2.1, z.2.2⟩, ob, es, ep, k _ _ (.inl rfl) e, c⟩
  | set S n => obtain ⟨ob, es, ep, t, e, c⟩ := x; exact ⟨ob, es, ep, t, k _ _ (.inl rfl) e, c⟩
  | ins C dx fs =>
    obtain ⟨d, z, ne, e, mA, ⟨od, es, ep, e2, c⟩, r⟩ := x
    exact ⟨ho _ d, z, ne, k _ _ (.inl rfl) e, mA, ⟨od, es, ep, k _ _ (.inr d) e2, c⟩, r⟩
  | own y => obtain ⟨ob, e⟩ := x; exact ⟨ob, k _ _ (.inl rfl) e⟩
  | xd fs => obtain ⟨mA, ⟨od, es, ep, e, c⟩, r⟩ := x; exact ⟨mA, ⟨od, es, ep, k _ _ (.inl rfl) e, c⟩, r⟩
  | rng lo hi => obtain ⟨t, u, v, e⟩ := x; exact ⟨t, u, v, k _ _ (.inl rfl) e⟩
  | frz ob u ih => obtain ⟨e, q⟩ := x; exact ⟨k _ _ (.inl rfl) e, ih q⟩
  | tbl ps =>
    have e : h.get? a = some { cls := .none, data := .fields ps } := x
    show h'.get? a = some { cls := .none, data := .fields ps }
    exact k a _ (.inl rfl) e
  | met f y =>
    have e : h.get? a = some (PySem.W.methodObj (.ref f) (.ref y)) := x
    show h'.get? a = some (PySem.W.methodObj (.ref f) (.ref y))
    exact k a _ (.inl rfl) e
  | ext φ => obtain ⟨p, ⟨o, e⟩, st⟩ := x; exact ⟨st _ _ p fun o q => k _ _ (.inl rfl) q, ⟨o, k _ _ (.inl rfl) e⟩, st⟩
theorem HOk.lt (x : HOk P w H h) (e : H a = some o) : a < h.objs.size := (x a o e).lt
theorem HOk.fresh (x : HOk P w H h) (e : h.objs.size ≤ a) : H a = none := by
  cases q : H a with
  | none => rfl
  | some u => exact absurd (Nat.lt_of_lt_of_le (x.lt q) e) (Nat.lt_irrefl _)
theorem HOk.kept (x : HOk P w H h) (k : ∀ b u, h.get? b = some u → h'.get? b = some u) : HOk P w H h' := fun a o e =>
  (x a o e).stay (fun b u _ q => k b u q) (fun _ q => q) fun _ _ q => q
theorem HOk.laid (x : HOk P w H h) (k : ∀ b u, h.get? b = some u → h'.get? b = some u) (hp : h.objs.size ≤ a) (new : ObjOk P w (upd H a o) h' a o) : HOk P w (upd H a o) h' := fun b u e => by
  have hn := x.fresh hp
  by_cases hb : b = a
  · subst hb; rw [upd_same] at e; cases e; exact new
  · rw [upd_ne hb] at e
    exact (x b u e).stay (fun c v _ q => k c v q) (fun c q => by rw [upd_ne (ne_of_none q hn)]; exact q) fun c xs q => by rw [upd_ne (ne_of_none q hn)]; exact q
end
noncomputable def Rd (H : Hp) (a : Addr) (u : HO) : Prop := H a = some u ∨ ∃ o, H a = some (.frz o u)
theorem Rd.ok {P : Program} {w : World} {H : Hp} {h : Heap} {a : Addr} {u : HO} (r : Rd H a u) (x : HOk P w H h) : ObjOk P w H h a u := by
  rcases r with r | ⟨o, r⟩
  · exact x a u r
  · obtain ⟨_, q⟩ := x a _ r
    exact q
noncomputable def Mut : Option HO → Prop
  | some (.lst _) => True
  | some (.dK _) => True
  | some (.dT _) => True
  | some (.set _ _) => True
  | some (.ins _ _ _) => True
  | some (.ext _) => True
  | _ => False
section
variable {P : Program} {w : World} {H : Hp} {h h' : Heap} {x e : Addr} {o' : HO}
theorem HOk.write (ok : HOk P w H h) (mu : Mut (H x)) (he : e = x ∨ H e = some (.own x)) (k : ∀ b u, b ≠ e → h.get? b = some u → h'.get? b = some u) (heo : ∃ u, h'.get? e = some u)
    (new : ObjOk P w (upd H x o') h' x o') : HOk P w (upd H x o') h' := fun b u q => by
  have nown : ∀ c y, H c = some (.own y) → c ≠ x := fun c y r z => by subst z; rw [r] at mu; exact mu
  have ntup : ∀ c xs, H c = some (.tup xs) → c ≠ x := fun c xs r z => by subst z; rw [r] at mu; exact mu
  by_cases hb : b = x
  · subst hb; rw [upd_same] at q; cases q; exact new
  · rw [upd_ne hb] at q
    by_cases hbe : b = e
    · have q' : H b = some (.own x) := by
        rcases he with z | z
        · exact absurd (hbe.trans z) hb
        · rw [hbe]; exact z
      rw [q] at q'; cases q'
      obtain ⟨v, hv⟩ := heo
      exact ⟨v, by rw [hbe]; exact hv⟩
    · refine (ok b u q).stay (fun c v hc r => k c v ?_ r) (fun c r => by rw [upd_ne (nown c b r)]; exact r) fun c xs r => by rw [upd_ne (ntup c xs r)]; exact r
      rcases hc with rfl | hc
      · exact hbe
      · rintro rfl
        rcases he with z | z
        · exact nown c b hc z
        · rw [hc] at z; cases z; exact hb rfl
end
structure Un (fs ex : List Addr) (H H' : Hp) (h h' : Heap) : Prop where
  keep : ∀ b o, h.get? b = some o → H b = none → b ∉ fs → b ∉ ex → h'.get? b = some o
  slot : ∀ b o, h.get? b = some o → H b = none → b ∈ fs → b ∉ ex → ∃ sl, h'.get? b = some { o with slots := sl }
  free : ∀ b o, h.get? b = some o → H b = none → b ∉ ex → H' b = none
  there : ∀ b o, h.get? b = some o → b ∉ ex → ∃ o', h'.get? b = some o'
  tups : ∀ b xs, H b = some (.tup xs) → H' b = some (.tup xs)
  frzs : ∀ b o u, H b = some (.frz o u) → H' b = some (.frz o u)
  tbls : ∀ b ps, H b = some (.tbl ps) → ∃ more, H' b = some (.tbl (ps ++ more))
section
variable {fs fs' ex ex' : List Addr} {H H1 H2 : Hp} {h h1 h2 h' : Heap} {a x e : Addr} {o : HO}
theorem Un.any (u : Un fs ex H H1 h h1) {b : Addr} {ob : Obj} (q : h.get? b = some ob) (n : H b = none) (hx : b ∉ ex) : ∃ sl, h1.get? b = some { ob with slots := sl } := by
  by_cases hb : b ∈ fs
  · exact u.slot b ob q n hb hx
  · exact ⟨ob.slots, u.keep b ob q n hb hx⟩
theorem Un.kept (k : ∀ b u, h.get? b = some u → h'.get? b = some u) : Un fs ex H H h h' :=
  ⟨fun b ob q _ _ _ => k b ob q, fun b ob q _ _ _ => ⟨ob.slots, k b ob q⟩, fun _ _ _ n _ => n, fun b ob q _ => ⟨ob, k b ob q⟩, fun _ _ q => q, fun _ _ _ q => q, fun _ ps q => ⟨#[], by rw [q]; simp⟩⟩
theorem Un.refl : Un fs ex H H h h := Un.kept fun _ _ q => q
theorem Un.laid (k : ∀ b u, h.get? b = some u → h'.get? b = some u) (hp : h.objs.size ≤ a) (hn : H a = none) : Un fs ex H (upd H a o) h h' where
  keep := fun b u q _ _ _ => k b u q
  slot := fun b u q _ _ _ => ⟨u.slots, k b u q⟩
  free := fun b u q n _ => by rw [upd_ne (Nat.ne_of_lt (Nat.lt_of_lt_of_le (Heap.lt_size q) hp))]; exact n
  there := fun b u q _ => ⟨u, k b u q⟩
  tups := fun b xs q => by rw [upd_ne (ne_of_none q hn)]; exact q
  frzs := fun b u xs q => by rw [upd_ne (ne_of_none q hn)]; exact q
  tbls := fun b ps q => ⟨#[], by rw [upd_ne (ne_of_none q hn), q]; simp⟩
theorem Un.write (mu : Mut (H x)) (he : e = x ∨ H e = some (.own x)) (k : ∀ b u, b ≠ e → h.get? b = some u → h'.get? b = some u) (heo : ∃ u, h'.get? e = some u) : Un fs ex H (upd H x o) h h' := by
  have hx : ∀ b, H b = none → b ≠ x := fun b n z => by subst z; rw [n] at mu; exact mu
  have hb : ∀ b, H b = none → b ≠ e := fun b n z => by
    subst z
    rcases he with r | r
    · exact hx b n r
    · rw [n] at r; cases r
  have hm : ∀ b u, H b = some u → ¬ Mut (some u) → b ≠ x := fun b u q nm z => by subst z; rw [q] at mu; exact nm mu
  refine ⟨fun b u q n _ _ => k b u (hb b n) q, fun b u q n _ _ => ⟨u.slots, k b u (hb b n) q⟩, fun b u q n _ => by rw [upd_ne (hx b n)]; exact n, fun b u q _ => ?_,
    fun b xs q => by rw [upd_ne (hm b _ q fun z => z)]; exact q, fun b u xs q => by rw [upd_ne (hm b _ q fun z => z)]; exact q, fun b ps q => ⟨#[], by rw [upd_ne (hm b _ q fun z => z), q]; simp⟩⟩
  by_cases hbe : b = e
  · subst hbe; exact heo
  · exact ⟨u, k b u hbe q⟩
end
noncomputable def trk (h : Heap) (H : Hp) : List Addr := (List.range h.objs.size).filter fun a => (H a).isSome
noncomputable def hidT (h : Heap) (H : Hp) : Heap := PySem.W.hideAll h (trk h H)
theorem hidT_size (h : Heap) (H : Hp) : (hidT h H).objs.size = h.objs.size := PySem.W.hideAll_size _ _
theorem hidT_get {h : Heap} {H : Hp} {b : Addr} {o : Obj} (e : h.get? b = some o) (n : H b = none) : (hidT h H).get? b = some o :=
  PySem.W.hideAll_get _ e fun hm => by
    have q : (H b).isSome = true := (List.mem_filter.mp hm).2
    rw [n] at q; simp at q
theorem of_hidT {h : Heap} {H : Hp} {b : Addr} {o : Obj} (e : (hidT h H).get? b = some o) : h.get? b = some o ∧ H b = none := by
  have e' : h.get? b = some o := PySem.W.of_hideAll (trk h H) e
  refine ⟨e', ?_⟩
  cases q : H b with
  | none => rfl
  | some x =>
    have hm : b ∈ trk h H := List.mem_filter.mpr ⟨List.mem_range.mpr (Heap.lt_size e'), by simp [q]⟩
    have z : (hidT h H).get? b = none := PySem.W.hideAll_none (trk h H) hm
    rw [z] at e; cases e
noncomputable def allNews (g h : Heap) (L : Addr) : List (Addr × Obj) := (List.range h.objs.size).filterMap fun a => if a = L ∨ (g.get? a).isSome = true then none else (h.get? a).map fun o => (a, o)
noncomputable def rest (g h : Heap) (L d : Addr) : List (Addr × Obj) := (allNews g h L).filter fun p => decide (p.1 ≠ d)
end L2
namespace L2
open PySem PySem.Spec PyProof.Rows
structure Mod (K : PySem.W.Frag) (mg : Str → Option Value) (base : Heap) : Prop where
  kin : K.In base
  glob : base.Ns mainGlobals mg
  blt : ∃ mb, base.Ns builtinsNs mb ∧ ∀ x : Str, x ≠ "__name__" → mb x = bootBuiltins x
  nolimit : base.NoLimit
structure Cx where
  prog : Program
  w : World
  K : PySem.W.Frag
  mg : Str → Option Value
  base : Heap
  A : Around
  N : List Str
  s₀ : Shared
  H₀ : Hp
  env : Env
  outer : List Env
  stack : List Env
  ex : List Addr
  fn : Str → Bool
  calm : Bool
  pn : List (Addr × Obj)
  xe : Value → Shared → Prop
noncomputable def frs (l : List Env) : List Addr := l.filterMap (·.frame)
noncomputable abbrev Cx.fs (X : Cx) : List Addr := frs X.outer
noncomputable def Vis (sc : Scope) (x : Str) : Prop := sc.names.lookup x = some .local ∨ sc.names.lookup x = some .cell ∨ sc.names.lookup x = some .free
noncomputable def Loc (sc : Scope) (x : Str) : Prop := sc.names.lookup x = some .local ∨ sc.names.lookup x = some .cell
noncomputable def Look (env : Env) (h : Heap) (m : Str → Option Value) (x : Str) (u : Value) : Prop :=
  (env.kindOf x = some .local ∧ m x = some u) ∨ ((env.kindOf x = some .cell ∨ env.kindOf x = some .free) ∧ ∃ c, env.cells.lookup x = some c ∧ h.IsCell c (some u))
structure Cx.Ok (X : Cx) : Prop where
  mod : Mod X.K X.mg X.base
  kind : X.env.scope.kind = .function
  glob : X.env.globals = mainGlobals
  blt : X.env.builtins = builtinsNs
  above : X.s₀.heap.objs.size ≤ X.env.locals
  inj : ∀ x y c, X.env.cells.lookup x = some c → X.env.cells.lookup y = some c → x = y
  has : ∀ x, (X.env.kindOf x = some .cell ∨ X.env.kindOf x = some .free) → ∃ c, X.env.cells.lookup x = some c
  cab : ∀ x c, X.fn x = true → X.env.cells.lookup x = some c → X.s₀.heap.objs.size ≤ c
  hd : X.calm = true → X.A.handled = none
  frames : X.A.frames = some X.stack
  stk : X.stack = X.outer ∨ (X.stack = X.env :: X.outer ∧ X.env.frame = some X.env.locals)
  exf : ∀ b ∈ X.ex, b ≠ X.env.locals ∧ ∀ x c, X.env.cells.lookup x = some c → c ≠ b
  bs : ∀ b o, X.base.get? b = some o → X.s₀.heap.get? b = some o ∧ X.H₀ b = none
  bsz : X.base.objs.size ≤ X.s₀.heap.objs.size
  noex : ∀ b o, X.base.get? b = some o → b ∉ X.ex
  exfs : ∀ b ∈ X.ex, b ∉ X.fs
  funs : X.s₀.heap.FunFrames X.base X.outer
  frf : ∀ b ∈ X.fs, X.H₀ b = none
structure Inv (X : Cx) (pins : List (Addr × Obj)) (σ : List (Option V)) (H : Hp) (s : Shared) : Prop where
  ok : X.Ok
  os : s.os = X.s₀.os
  bare : AllBare s.gens
  base : Un X.fs X.ex X.H₀ H X.s₀.heap s.heap
  loc : ∃ m, s.heap.Ns X.env.locals m ∧ ∀ (i : Nat) (x : Str) (v : V), X.N[i]? = some x → σ[i]? = some (some v) → Vis X.env.scope x → ∃ u, RelV v u ∧ Look X.env s.heap m x u
  cell : ∀ x c, X.env.cells.lookup x = some c → ∃ v, s.heap.IsCell c v
  free : H X.env.locals = none
  freeC : ∀ x c, X.env.cells.lookup x = some c → H c = none
  pin : ∀ p ∈ X.pn ++ pins, s.heap.get? p.1 = some p.2 ∧ H p.1 = none ∧ p.1 ≠ X.env.locals ∧ p.1 ∉ X.fs ∧ ∀ v, p.2.data ≠ .cell v
  hok : HOk X.prog X.w H s.heap
  len : σ.length = X.N.length
section
variable {X : Cx} {pins : List (Addr × Obj)} {σ : List (Option V)} {H H' : Hp} {s : Shared} {h' : Heap}
theorem Cx.Ok.nofr (ok : X.Ok) {b : Addr} {o : Obj} (e : X.base.get? b = some o) : b ∉ X.fs := fun hb => by
  have := (ok.funs.mem hb).1
  rw [e] at this; cases this
theorem Inv.bs (I : Inv X pins σ H s) : ∀ b o, X.base.get? b = some o → s.heap.get? b = some o ∧ H b = none := fun b o e =>
  ⟨I.base.keep b o (I.ok.bs b o e).1 (I.ok.bs b o e).2 (I.ok.nofr e) (I.ok.noex b o e), I.base.free b o (I.ok.bs b o e).1 (I.ok.bs b o e).2 (I.ok.noex b o e)⟩
theorem Inv.bk (I : Inv X pins σ H s) : ∀ b o, X.base.get? b = some o → s.heap.get? b = some o := fun b o e => (I.bs b o e).1
theorem Inv.mod (I : Inv X pins σ H s) : Mod X.K X.mg X.base := I.ok.mod
theorem Inv.kIn (I : Inv X pins σ H s) : X.K.In s.heap := I.ok.mod.kin.keeps I.bk
theorem Inv.lt (I : Inv X pins σ H s) : X.env.locals < s.heap.objs.size := let ⟨_, hn, _⟩ := I.loc; hn.lt
theorem Inv.sz (I : Inv X pins σ H s) : X.s₀.heap.objs.size ≤ s.heap.objs.size := Nat.le_trans I.ok.above (Nat.le_of_lt I.lt)
theorem Inv.nofs (I : Inv X pins σ H s) {a : Addr} (h : s.heap.objs.size ≤ a) : a ∉ X.fs := fun hb => by
  obtain ⟨_, o, ho, _⟩ := I.ok.funs.mem hb
  exact absurd (Nat.lt_of_lt_of_le (Heap.lt_size ho) (Nat.le_trans I.sz h)) (Nat.lt_irrefl _)
theorem Inv.cne (I : Inv X pins σ H s) : ∀ x c, X.env.cells.lookup x = some c → c ≠ X.env.locals := fun x c e z => by
  obtain ⟨v, o, ho, hd⟩ := I.cell x c e
  obtain ⟨m, ⟨o', es, ep, ho', hd', _⟩, _⟩ := I.loc
  rw [z, ho'] at ho; cases ho; rw [hd'] at hd; cases hd
theorem Inv.funs (I : Inv X pins σ H s) : s.heap.FunFrames X.base X.outer := by
  have all : ∀ (l : List Env), (∀ b ∈ frs l, b ∈ X.fs) → X.s₀.heap.FunFrames X.base l → s.heap.FunFrames X.base l := by
    intro l
    induction l with
    | nil => intro _ _; trivial
    | cons env r ih =>
      intro hs hl
      obtain ⟨hk, ⟨L, o, hf, hn, ho, hd⟩, hr⟩ := hl
      have hL : L ∈ X.fs := hs L (by unfold frs; rw [List.filterMap_cons, hf]; exact List.mem_cons_self)
      obtain ⟨sl, e⟩ := I.base.slot L o ho (I.ok.frf L hL) hL fun z => I.ok.exfs L z hL
      exact ⟨hk, ⟨L, _, hf, hn, e, hd⟩, ih (fun b hb => hs b (by unfold frs; rw [List.filterMap_cons, hf]; exact List.mem_cons_of_mem _ hb)) hr⟩
  exact all X.outer (fun _ hb => hb) I.ok.funs
theorem Inv.stack (I : Inv X pins σ H s) : s.heap.FunFrames X.base X.stack := by
  rcases I.ok.stk with e | ⟨e, hf⟩
  · rw [e]; exact I.funs
  · rw [e]
    obtain ⟨m, hn, _⟩ := I.loc
    refine .cons (by rw [I.ok.kind]; decide) hf hn ?_ I.funs
    exact Heap.get?_none_of_le (Nat.le_trans I.ok.bsz I.ok.above)
theorem Inv.stkSub (I : Inv X pins σ H s) : ∀ b ∈ frs X.stack, b ∈ X.env.locals :: X.fs := fun b hb => by
  rcases I.ok.stk with e | ⟨e, hf⟩
  · rw [e] at hb; exact List.mem_cons_of_mem _ hb
  · rw [e] at hb
    unfold frs at hb
    rw [List.filterMap_cons, hf] at hb
    exact hb
theorem Inv.stkFree (I : Inv X pins σ H s) : ∀ b ∈ frs X.stack, H b = none := fun b hb => by
  rcases List.mem_cons.mp (I.stkSub b hb) with e | hb
  · rw [e]; exact I.free
  · obtain ⟨_, o, ho, _⟩ := I.ok.funs.mem hb
    exact I.base.free b o ho (I.ok.frf b hb) fun z => I.ok.exfs b z hb
theorem Inv.step {g' : Array GenState} {t' : Nat} {d' : Drawn} {ch : List Addr} (I : Inv X pins σ H s)
    (hch : ∀ b ∈ ch, (b ∈ X.ex ∨ X.s₀.heap.objs.size ≤ b) ∧ b ≠ X.env.locals ∧ (∀ x c, X.env.cells.lookup x = some c → c ≠ b) ∧ ∀ p ∈ X.pn ++ pins, p.1 ≠ b)
    (keep : ∀ b o, b ≠ X.env.locals → b ∉ X.fs → b ∉ ch → s.heap.get? b = some o → H b = none → h'.get? b = some o)
    (slot : ∀ b o, b ≠ X.env.locals → b ∈ X.fs → b ∉ ch → s.heap.get? b = some o → H b = none → ∃ sl, h'.get? b = some { o with slots := sl }) (free : ∀ b o, b ∉ ch → s.heap.get? b = some o → H b = none → H' b = none)
    (there : ∀ b o, b ∉ ch → s.heap.get? b = some o → ∃ o', h'.get? b = some o')
    (tups : ∀ b xs, H b = some (.tup xs) → H' b = some (.tup xs)) (frzs : ∀ b o u, H b = some (.frz o u) → H' b = some (.frz o u)) (tbls : ∀ b ps, H b = some (.tbl ps) → ∃ more, H' b = some (.tbl (ps ++ more)))
    (ns : ∀ m, s.heap.Ns X.env.locals m → h'.Ns X.env.locals m) (hok : HOk X.prog X.w H' h') (hg : AllBare g') :
    Inv X pins σ H' { s with heap := h', gens := g', drawn := d', toks := t' } := by
  have neL : ∀ b o, X.s₀.heap.get? b = some o → b ≠ X.env.locals := fun b o e => Nat.ne_of_lt (Nat.lt_of_lt_of_le (Heap.lt_size e) I.ok.above)
  have neC : ∀ b o, X.s₀.heap.get? b = some o → b ∉ X.ex → b ∉ ch := fun b o e hx hb => by
    rcases (hch b hb).1 with z | z
    · exact hx z
    · exact absurd (Nat.lt_of_lt_of_le (Heap.lt_size e) z) (Nat.lt_irrefl _)
  have cellK : ∀ x c, X.env.cells.lookup x = some c → ∀ v, s.heap.IsCell c v → h'.IsCell c v := fun x c e v ⟨o, ho, hd⟩ => by
    have nch : c ∉ ch := fun z => (hch c z).2.2.1 x c e rfl
    by_cases hc : c ∈ X.fs
    · obtain ⟨sl, q⟩ := slot c o (I.cne x c e) hc nch ho (I.freeC x c e)
      exact ⟨_, q, hd⟩
    · exact ⟨o, keep c o (I.cne x c e) hc nch ho (I.freeC x c e), hd⟩
  refine ⟨I.ok, I.os, hg, ⟨fun b o e n hb hx => ?_, fun b o e n hb hx => ?_, fun b o e n hx => ?_, fun b o e hx => ?_, fun b xs e => tups b xs (I.base.tups b xs e), fun b o xs e => frzs b o xs (I.base.frzs b o xs e), fun b ps e => ?_⟩, ?_, fun x c e => ?_, ?_, fun x c e => ?_, fun p hp => ?_, hok, I.len⟩
  · exact keep b o (neL b o e) hb (neC b o e hx) (I.base.keep b o e n hb hx) (I.base.free b o e n hx)
  · obtain ⟨sl, e1⟩ := I.base.slot b o e n hb hx
    obtain ⟨sl', e2⟩ := slot b _ (neL b o e) hb (neC b o e hx) e1 (I.base.free b o e n hx)
    exact ⟨sl', e2⟩
  · obtain ⟨o', e1⟩ := I.base.there b o e hx
    exact free b o' (neC b o e hx) e1 (I.base.free b o e n hx)
  · obtain ⟨o', e1⟩ := I.base.there b o e hx
    exact there b o' (neC b o e hx) e1
  · obtain ⟨m1, e1⟩ := I.base.tbls b ps e
    obtain ⟨m2, e2⟩ := tbls b _ e1
    exact ⟨m1 ++ m2, by rw [e2, Array.append_assoc]⟩
  · obtain ⟨m, hn, hl⟩ := I.loc
    refine ⟨m, ns m hn, fun i x v e1 e2 e3 => ?_⟩
    obtain ⟨u, r, l⟩ := hl i x v e1 e2 e3
    refine ⟨u, r, ?_⟩
    rcases l with l | ⟨k, c, e, z⟩
    · exact .inl l
    · exact .inr ⟨k, c, e, cellK x c e _ z⟩
  · obtain ⟨v, z⟩ := I.cell x c e
    exact ⟨v, cellK x c e v z⟩
  · obtain ⟨m, ⟨o, _, _, ho, _⟩, _⟩ := I.loc
    exact free _ o (fun z => (hch _ z).2.1 rfl) ho I.free
  · obtain ⟨v, o, ho, hd⟩ := I.cell x c e
    exact free c o (fun z => (hch c z).2.2.1 x c e rfl) ho (I.freeC x c e)
  · obtain ⟨e, n, ne, nf, d⟩ := I.pin p hp
    have nch : p.1 ∉ ch := fun z => (hch p.1 z).2.2.2 p hp rfl
    exact ⟨keep p.1 p.2 ne nf nch e n, free p.1 p.2 nch e n, ne, nf, d⟩
theorem Inv.un {t' : Nat} (I : Inv X pins σ H s) (u : Un X.fs [] H H' s.heap h') (hok : HOk X.prog X.w H' h') : Inv X pins σ H' { s with heap := h', toks := t' } := by
  obtain ⟨m, ⟨o, es, ep, ho, r⟩, _⟩ := id I.loc
  obtain ⟨sl, hL⟩ := u.any ho I.free (by simp)
  exact I.step (g' := s.gens) (d' := s.drawn) (ch := []) (fun _ z => nomatch z) (fun b o _ hb _ e n => u.keep b o e n hb (by simp)) (fun b o _ hb _ e n => u.slot b o e n hb (by simp)) (fun b o _ e n => u.free b o e n (by simp)) (fun b o _ e => u.there b o e (by simp)) u.tups u.frzs u.tbls (fun m' hm => by
    obtain ⟨o', es', ep', ho', r'⟩ := hm
    rw [ho] at ho'; cases ho'
    exact ⟨_, es', ep', hL, r'⟩) hok I.bare
theorem Inv.call {g' : Array GenState} {t' : Nat} {d' : Drawn} {ch : List Addr} (I : Inv X pins σ H s) (u : Un (frs X.stack) ch H H' s.heap h') (hok : HOk X.prog X.w H' h') (hg : AllBare g')
    (hch : ∀ b ∈ ch, (b ∈ X.ex ∨ X.s₀.heap.objs.size ≤ b) ∧ b ≠ X.env.locals ∧ (∀ x c, X.env.cells.lookup x = some c → c ≠ b) ∧ ∀ p ∈ X.pn ++ pins, p.1 ≠ b) :
    Inv X pins σ H' { s with heap := h', gens := g', drawn := d', toks := t' } := by
  obtain ⟨m, ⟨o, es, ep, ho, r⟩, _⟩ := id I.loc
  obtain ⟨sl, hL⟩ := u.any ho I.free fun z => (hch _ z).2.1 rfl
  exact I.step (ch := ch) hch (fun b o hL hb hc e n => u.keep b o e n (fun z => (List.mem_cons.mp (I.stkSub b z)).elim hL hb) hc) (fun b o _ _ hc e n => u.any e n hc) (fun b o hc e n => u.free b o e n hc) (fun b o hc e => u.there b o e hc) u.tups u.frzs u.tbls (fun m' hm => by
    obtain ⟨o', es', ep', ho', r'⟩ := hm
    rw [ho] at ho'; cases ho'
    exact ⟨_, es', ep', hL, r'⟩) hok hg
theorem Inv.turned {t' : Nat} {it : Addr} (I : Inv X pins σ H s) (k : ∀ b o, b ≠ it → s.heap.get? b = some o → h'.get? b = some o) (hn : H it = none) (hL : it ≠ X.env.locals)
    (h1 : it ∈ X.ex ∨ X.s₀.heap.objs.size ≤ it) (h2 : ∀ x c, X.env.cells.lookup x = some c → c ≠ it) (h3 : ∀ p ∈ X.pn ++ pins, p.1 ≠ it) : Inv X pins σ H { s with heap := h', toks := t' } := by
  have nit : ∀ b u, H b = some u → b ≠ it := fun b u e z => by rw [z, hn] at e; cases e
  refine I.step (g' := s.gens) (d' := s.drawn) (ch := [it]) (fun b hb => ?_) (fun b o _ _ hc e _ => k b o (fun z => hc (by simp [z])) e) (fun b o _ _ hc e _ => ⟨o.slots, k b o (fun z => hc (by simp [z])) e⟩) (fun _ _ _ _ n => n)
    (fun b o hc e => ⟨o, k b o (fun z => hc (by simp [z])) e⟩) (fun _ _ e => e) (fun _ _ _ e => e) (fun b ps e => ⟨#[], by rw [e]; simp⟩) (fun m hm => ?_) (fun b u e => ?_) I.bare
  · have e : b = it := by simpa using hb
    subst e
    exact ⟨h1, hL, h2, h3⟩
  · obtain ⟨o, es, ep, ho, r⟩ := hm
    exact ⟨o, es, ep, k _ o (Ne.symm hL) ho, r⟩
  · refine (I.hok b u e).stay (fun c v hc q => k c v ?_ q) (fun _ q => q) fun _ _ q => q
    rcases hc with z | z
    · rw [z]; exact nit b u e
    · exact nit c _ z
theorem Inv.tok (I : Inv X pins σ H s) (t : Nat) : Inv X pins σ H { s with toks := t } := I.un (h' := s.heap) (t' := t) Un.refl I.hok
theorem Inv.kept {t' : Nat} (I : Inv X pins σ H s) (k : ∀ b u, s.heap.get? b = some u → h'.get? b = some u) : Inv X pins σ H { s with heap := h', toks := t' } := I.un (Un.kept k) (I.hok.kept k)
theorem Inv.laid {a : Addr} {o : HO} {t' : Nat} (I : Inv X pins σ H s) (k : ∀ b u, s.heap.get? b = some u → h'.get? b = some u) (hp : s.heap.objs.size ≤ a) (new : ObjOk X.prog X.w (upd H a o) h' a o) :
    Inv X pins σ (upd H a o) { s with heap := h', toks := t' } := I.un (Un.laid k hp (I.hok.fresh hp)) (I.hok.laid k hp new)
theorem Inv.write {x e : Addr} {o : HO} {t' : Nat} (I : Inv X pins σ H s) (mu : Mut (H x)) (he : e = x ∨ H e = some (.own x)) (k : ∀ b u, b ≠ e → s.heap.get? b = some u → h'.get? b = some u) (heo : ∃ u, h'.get? e = some u)
    (new : ObjOk X.prog X.w (upd H x o) h' x o) : Inv X pins σ (upd H x o) { s with heap := h', toks := t' } := I.un (Un.write mu he k heo) (I.hok.write mu he k heo new)
theorem Inv.weak {σ' : List (Option V)} (I : Inv X pins σ H s) (hl : σ'.length = σ.length) (w : ∀ (i : Nat) v, σ'[i]? = some (some v) → σ[i]? = some (some v)) : Inv X pins σ' H s :=
  ⟨I.ok, I.os, I.bare, I.base, let ⟨m, hn, hl'⟩ := I.loc; ⟨m, hn, fun i x v e1 e2 e3 => hl' i x v e1 (w i v e2) e3⟩, I.cell, I.free, I.freeC, I.pin, I.hok, hl.trans I.len⟩
theorem Inv.pins_of {pins' : List (Addr × Obj)} (I : Inv X pins σ H s) (h : ∀ p ∈ pins', s.heap.get? p.1 = some p.2 ∧ H p.1 = none ∧ p.1 ≠ X.env.locals ∧ p.1 ∉ X.fs ∧ ∀ v, p.2.data ≠ .cell v) : Inv X pins' σ H s :=
  ⟨I.ok, I.os, I.bare, I.base, I.loc, I.cell, I.free, I.freeC, fun p hp => (List.mem_append.mp hp).elim (fun z => I.pin p (List.mem_append_left _ z)) (h p), I.hok, I.len⟩
theorem nodup_ix {N : List Str} (hN : N.Nodup) {i j : Nat} {x : Str} (a : N[i]? = some x) (b : N[j]? = some x) : i = j := by
  obtain ⟨h1, e1⟩ := List.getElem?_eq_some_iff.mp a
  obtain ⟨h2, e2⟩ := List.getElem?_eq_some_iff.mp b
  exact (List.getElem_inj hN).mp (e1.trans e2.symm)
theorem store_ok2 {M : Model} {A : Around} {E : Value → Shared → Prop} {i : Nat} {x : Str} {v : V} {u : Value} {Q : Unit → Shared → Prop} (I : Inv X pins σ H s) (hN : X.N.Nodup) (hi : X.N[i]? = some x) (hx : Loc X.env.scope x) (r : RelV v u)
    (h : ∀ s', Inv X pins (σ.set i (some v)) H s' → (∃ a, Heap.SameBut a s.heap s'.heap ∧ (a = X.env.locals ∨ X.env.cells.lookup x = some a)) → Q () s') (hf : X.fn x = true ∨ X.env.scope.names.lookup x = some .local := by first | exact .inl rfl | exact .inr rfl | assumption) : wpAny M A (storeName X.env x u) Q E s := by
  obtain ⟨m, hn, hl⟩ := id I.loc
  have hcls : (X.env.scope.kind == .class || (X.env.scope.kind == .module && X.env.locals != X.env.globals)) = false := by rw [I.ok.kind]; rfl
  have hiσ : i < σ.length := by rw [I.len]; exact (List.getElem?_eq_some_iff.mp hi).1
  have cne := I.cne
  have tracked : ∀ {a : Addr} {h' : Heap}, (∃ o, s.heap.get? a = some o ∧ H a = none) → Heap.SameBut a s.heap h' → HOk X.prog X.w H h' := fun {a h'} ha hs b ob e => by
    obtain ⟨_, _, hfree⟩ := ha
    refine (I.hok b ob e).stay (fun c w' hc q => (hs.2 c ?_).trans q) (fun _ q => q) fun _ _ q => q
    rintro rfl
    rcases hc with rfl | hc
    · rw [hfree] at e; cases e
    · rw [hfree] at hc; cases hc
  rcases hx with hk | hk
  · refine wpAny_storeName_local hk hn (fun h' hn' hs => ?_) hcls
    obtain ⟨oL, _, _, hoL, _⟩ := id hn
    refine h _ ⟨I.ok, I.os, I.bare, ⟨fun b o e n hb hx => ?_, fun b o e n hb hx => ?_, I.base.free, fun b o e hx => ?_, I.base.tups, I.base.frzs, I.base.tbls⟩, ⟨_, hn', fun j y v' e1 e2 e3 => ?_⟩, fun y c e => ?_, I.free, I.freeC, fun p hp => ?_, tracked ⟨oL, hoL, I.free⟩ hs, by simpa using I.len⟩ ⟨_, hs, .inl rfl⟩
    · exact (hs.2 b (Nat.ne_of_lt (Nat.lt_of_lt_of_le (Heap.lt_size e) I.ok.above))).trans (I.base.keep b o e n hb hx)
    · obtain ⟨sl, e1⟩ := I.base.slot b o e n hb hx
      exact ⟨sl, (hs.2 b (Nat.ne_of_lt (Nat.lt_of_lt_of_le (Heap.lt_size e) I.ok.above))).trans e1⟩
    · obtain ⟨o', e1⟩ := I.base.there b o e hx
      exact ⟨o', (hs.2 b (Nat.ne_of_lt (Nat.lt_of_lt_of_le (Heap.lt_size e) I.ok.above))).trans e1⟩
    · by_cases hj : j = i
      · subst hj
        rw [hi] at e1; cases e1
        rw [List.getElem?_set_self hiσ] at e2
        cases e2
        exact ⟨u, r, .inl ⟨hk, by simp⟩⟩
      · rw [List.getElem?_set_ne (Ne.symm hj)] at e2
        obtain ⟨u', r', q⟩ := hl j y v' e1 e2 e3
        refine ⟨u', r', ?_⟩
        rcases q with ⟨k, e⟩ | ⟨k, c, e, z⟩
        · refine .inl ⟨k, ?_⟩
          have : y ≠ x := fun e => hj (nodup_ix hN e1 (e ▸ hi))
          simp [this, e]
        · exact .inr ⟨k, c, e, z.sameBut hs (cne y c e)⟩
    · obtain ⟨w', z⟩ := I.cell y c e
      exact ⟨w', z.sameBut hs (cne y c e)⟩
    · obtain ⟨e, n, ne, nf, d⟩ := I.pin p hp
      exact ⟨(hs.2 p.1 ne).trans e, n, ne, nf, d⟩
  · have hfn : X.fn x = true := by
      rcases hf with z | z
      · exact z
      · rw [z] at hk; cases hk
    obtain ⟨c, hc⟩ := I.ok.has x (.inl hk)
    obtain ⟨w', z⟩ := I.cell x c hc
    refine wpAny_storeName_cell I.ok.kind hk hc z (fun h' hc' hs => ?_)
    obtain ⟨oc, hoc, hocd⟩ := id z
    refine h { s with heap := h' } ⟨I.ok, I.os, I.bare, ⟨fun b o e n hb hx => ?_, fun b o e n hb hx => ?_, I.base.free, fun b o e hx => ?_, I.base.tups, I.base.frzs, I.base.tbls⟩, ⟨m, hn.sameBut hs (Ne.symm (cne x c hc)), fun j y v' e1 e2 e3 => ?_⟩, fun y c' e => ?_, I.free, I.freeC, fun p hp => ?_, tracked ⟨oc, hoc, I.freeC x c hc⟩ hs, by simpa using I.len⟩ ⟨c, hs, .inr hc⟩
    · exact (hs.2 b (Nat.ne_of_lt (Nat.lt_of_lt_of_le (Heap.lt_size e) (I.ok.cab x c hfn hc)))).trans (I.base.keep b o e n hb hx)
    · obtain ⟨sl, e1⟩ := I.base.slot b o e n hb hx
      exact ⟨sl, (hs.2 b (Nat.ne_of_lt (Nat.lt_of_lt_of_le (Heap.lt_size e) (I.ok.cab x c hfn hc)))).trans e1⟩
    · obtain ⟨o', e1⟩ := I.base.there b o e hx
      exact ⟨o', (hs.2 b (Nat.ne_of_lt (Nat.lt_of_lt_of_le (Heap.lt_size e) (I.ok.cab x c hfn hc)))).trans e1⟩
    · by_cases hj : j = i
      · subst hj
        rw [hi] at e1; cases e1
        rw [List.getElem?_set_self hiσ] at e2
        cases e2
        exact ⟨u, r, .inr ⟨.inl hk, c, hc, hc'⟩⟩
      · rw [List.getElem?_set_ne (Ne.symm hj)] at e2
        obtain ⟨u', r', q⟩ := hl j y v' e1 e2 e3
        refine ⟨u', r', ?_⟩
        rcases q with q | ⟨k, c', e, z'⟩
        · exact .inl q
        · refine .inr ⟨k, c', e, z'.sameBut hs ?_⟩
          rintro rfl
          exact hj (nodup_ix hN e1 (I.ok.inj _ _ _ e hc ▸ hi))
    · by_cases hcc : c' = c
      · subst hcc; exact ⟨_, hc'⟩
      · obtain ⟨w2, z2⟩ := I.cell y c' e
        exact ⟨w2, z2.sameBut hs hcc⟩
    · obtain ⟨e, n, ne, nf, d⟩ := I.pin p hp
      refine ⟨(hs.2 p.1 ?_).trans e, n, ne, nf, d⟩
      intro q
      rw [q, hoc] at e
      have q' : oc = p.2 := Option.some.inj e
      exact d w' (by rw [← q']; exact hocd)
theorem store_ok {M : Model} {A : Around} {E : Value → Shared → Prop} {i : Nat} {x : Str} {v : V} {u : Value} {Q : Unit → Shared → Prop} (I : Inv X pins σ H s) (hN : X.N.Nodup) (hi : X.N[i]? = some x) (hx : Loc X.env.scope x) (r : RelV v u)
    (h : ∀ s', Inv X pins (σ.set i (some v)) H s' → Q () s') (hf : X.fn x = true ∨ X.env.scope.names.lookup x = some .local := by first | exact .inl rfl | exact .inr rfl | assumption) : wpAny M A (storeName X.env x u) Q E s :=
  store_ok2 I hN hi hx r (fun s' I' _ => h s' I') hf
theorem Inv.call' {s' : Shared} {ch : List Addr} (I : Inv X pins σ H s) (ho : s'.os = s.os) (u : Un (frs X.stack) ch H H' s.heap s'.heap) (hok : HOk X.prog X.w H' s'.heap) (hg : AllBare s'.gens)
    (hch : ∀ b ∈ ch, (b ∈ X.ex ∨ X.s₀.heap.objs.size ≤ b) ∧ b ≠ X.env.locals ∧ (∀ x c, X.env.cells.lookup x = some c → c ≠ b) ∧ ∀ p ∈ X.pn ++ pins, p.1 ≠ b) : Inv X pins σ H' s' := by
  obtain ⟨h', g', d', t', o'⟩ := s'
  have e : o' = s.os := ho
  subst e
  exact I.call (g' := g') (t' := t') (d' := d') u hok hg hch
end
noncomputable abbrev XK := Value → Option Addr → Hp → Prop
noncomputable abbrev St := List (Option V)
noncomputable abbrev VK := V → Hp → Prop
noncomputable abbrev TE := St → Hp → VK → Prop
noncomputable abbrev TT := St → Hp → (Bool → Hp → Prop) → Prop
noncomputable abbrev TA := St → Hp → (List V → Hp → Prop) → Prop
structure Ends where
  nx : St → Hp → Prop
  rt : VK
  bk : St → Hp → Prop := fun _ _ => False
  ct : St → Hp → Prop := fun _ _ => False
noncomputable abbrev TS := Ends → St → Hp → Prop
noncomputable def EP (X : Cx) (pins : List (Addr × Obj)) (σ : St) (Q : VK) (u : Value) (s' : Shared) : Prop := ∃ v H', Inv X pins σ H' s' ∧ RelV v u ∧ Q v H'
noncomputable def TP (X : Cx) (pins : List (Addr × Obj)) (σ : St) (Q : Bool → Hp → Prop) (b : Bool) (s' : Shared) : Prop := ∃ H', Inv X pins σ H' s' ∧ Q b H'
noncomputable def AP (X : Cx) (pins : List (Addr × Obj)) (σ : St) (Q : List V → Hp → Prop) (us : List Value) (s' : Shared) : Prop := ∃ vs H', Inv X pins σ H' s' ∧ Vals vs us ∧ Q vs H'
noncomputable def SP (X : Cx) (pins : List (Addr × Obj)) (D : Ends) (f : Flow) (s' : Shared) : Prop :=
  match f with
  | .next => ∃ σ' H', Inv X pins σ' H' s' ∧ D.nx σ' H'
  | .brk => ∃ σ' H', Inv X pins σ' H' s' ∧ D.bk σ' H'
  | .cont => ∃ σ' H', Inv X pins σ' H' s' ∧ D.ct σ' H'
  | .ret u => ∃ v σ' H', Inv X pins σ' H' s' ∧ RelV v u ∧ D.rt v H'
noncomputable def PE (X : Cx) (e : Expr) (t : TE) : Prop :=
  ∀ (pins : List (Addr × Obj)) (s : Shared) (σ : St) (H : Hp) (Q : VK), Inv X pins σ H s → t σ H Q → wpAny (model X.prog X.w) X.A (eval e X.env) (EP X pins σ Q) X.xe s
noncomputable def PT (X : Cx) (e : Expr) (t : TT) : Prop :=
  ∀ (pins : List (Addr × Obj)) (s : Shared) (σ : St) (H : Hp) (Q : Bool → Hp → Prop), Inv X pins σ H s → t σ H Q → wpAny (model X.prog X.w) X.A (isTrue e X.env (eval e X.env)) (TP X pins σ Q) X.xe s
noncomputable def PW (X : Cx) (e : Expr) (t : TT) : Prop :=
  ∀ (whole : Sem Value) (pins : List (Addr × Obj)) (s : Shared) (σ : St) (H : Hp) (Q : Bool → Hp → Prop), Inv X pins σ H s → t σ H Q → wpAny (model X.prog X.w) X.A (isTrue e X.env whole) (TP X pins σ Q) X.xe s
theorem PW.pt {X : Cx} {e : Expr} {t : TT} (h : PW X e t) : PT X e t := h _
noncomputable def PA (X : Cx) (es : List Expr) (t : TA) : Prop :=
  ∀ (pos : Pos) (pins : List (Addr × Obj)) (s : Shared) (σ : St) (H : Hp) (Q : List V → Hp → Prop), Inv X pins σ H s → t σ H Q → wpAny (model X.prog X.w) X.A (spliced (backTo pos (starEach es X.env))) (AP X pins σ Q) X.xe s
noncomputable def PS (X : Cx) (st : Stmt) (t : TS) : Prop :=
  ∀ (pins : List (Addr × Obj)) (s : Shared) (σ : St) (H : Hp) (D : Ends), Inv X pins σ H s → t D σ H → wpAny (model X.prog X.w) X.A (exec st X.env) (SP X pins D) X.xe s
noncomputable def PSs (X : Cx) (st : List Stmt) (t : TS) : Prop :=
  ∀ (pins : List (Addr × Obj)) (s : Shared) (σ : St) (H : Hp) (D : Ends), Inv X pins σ H s → t D σ H → wpAny (model X.prog X.w) X.A (execs st X.env) (SP X pins D) X.xe s
theorem thn {α : Type} {t : Sem α} {Q Q' : α → Shared → Prop} {M : Model} {A : Around} {E : Value → Shared → Prop} {s : Shared} (h : wpAny M A t Q E s) (hQ : ∀ a s, Q a s → Q' a s) : wpAny M A t Q' E s := wpAny_mono h hQ fun _ _ x => x
end L2
namespace L2
open PySem PySem.Spec PyProof.Rows
section
variable {X : Cx}
noncomputable def tVar (i : Nat) : TE := fun σ H Q => ∃ v, σ[i]? = some (some v) ∧ Q v H
noncomputable def tC (v : V) : TE := fun _ H Q => Q v H
theorem pe_var {i : Nat} {x : Str} {pos : Pos} (hN : X.N[i]? = some x) (hv : Vis X.env.scope x) (hd : (x == ("__debug__" : Str)) = false := by decide) (hcd : (x == ("__classdict__" : Str)) = false := by decide) : PE X (.Name x pos) (tVar i) := by
  intro pins s σ H Q I h
  obtain ⟨v, e, h⟩ := h
  obtain ⟨m, hn, hl⟩ := I.loc
  obtain ⟨u, r, l⟩ := hl i x v hN e hv
  have fin : EP X pins σ Q u s := ⟨v, H, I, r, h⟩
  rcases l with ⟨hk, hm⟩ | ⟨hk, c, hc, hcell⟩
  · exact wpAny_Name (wpAny_loadName_local I.ok.kind hk hn hm fin) hd
  · rcases hk with hk | hk
    · exact wpAny_Name (wpAny_loadName_cell I.ok.kind hk hc hcell fin) hd
    · exact wpAny_Name (wpAny_loadName_free I.ok.kind hk hc hcell fin hcd) hd
theorem pe_int {i j pos} : PE X (.Constant (.int i) j pos) (tC (.int i)) := fun _ _ _ H _ I h => wpAny_Constant_int ⟨.int i, H, I.tok _, ⟨_, rfl⟩, h⟩
theorem pe_bl {b j pos} : PE X (.Constant (.bool b) j pos) (tC (.bl b)) := fun _ _ _ H _ I h => Constant_bool ⟨.bl b, H, I, rfl, h⟩
theorem pe_non {j pos} : PE X (.Constant .none j pos) (tC .non) := fun _ _ _ H _ I h => Constant_none ⟨.non, H, I, rfl, h⟩
theorem pe_str {x j pos} : PE X (.Constant (.str x) j pos) (tC (.str x)) := fun _ _ _ H _ I h => Calls.Constant_str ⟨.str x, H, I.tok _, ⟨_, rfl⟩, h⟩
noncomputable def Gl (X : Cx) (x : Str) : Prop := X.env.kindOf x = some .globalImplicit
theorem ld_glob {E : Value → Shared → Prop} {pins : List (Addr × Obj)} {s : Shared} {σ : St} {H : Hp} {x : Str} {u : Value} {pos : Pos} {Q : Value → Shared → Prop} (I : Inv X pins σ H s) (hg : Gl X x) (hm : X.mg x = some u) (h : Q u s)
    (hd : (x == ("__debug__" : Str)) = false := by decide) : wpAny (model X.prog X.w) X.A (eval (.Name x pos) X.env) Q E s :=
  Calls.Name_function_global I.ok.kind hg (Calls.loadGlobal_global (by rw [I.ok.glob]; exact I.mod.glob.keeps I.bk) hm h) hd
theorem ld_blt {E : Value → Shared → Prop} {pins : List (Addr × Obj)} {s : Shared} {σ : St} {H : Hp} {x : Str} {u : Value} {pos : Pos} {Q : Value → Shared → Prop} (I : Inv X pins σ H s) (hg : Gl X x) (hm : X.mg x = none) (hv : bootBuiltins x = some u) (h : Q u s)
    (hn : x ≠ "__name__" := by decide) (hd : (x == ("__debug__" : Str)) = false := by decide) : wpAny (model X.prog X.w) X.A (eval (.Name x pos) X.env) Q E s := by
  obtain ⟨mb, h1, h2⟩ := I.mod.blt
  exact Calls.Name_function_global I.ok.kind hg (Calls.loadGlobal_builtin (by rw [I.ok.glob]; exact I.mod.glob.keeps I.bk) hm (by rw [I.ok.blt]; exact h1.keeps I.bk) ((h2 x hn).trans hv) h) hd
theorem pe_glob {x : Str} {v : V} {u : Value} {pos : Pos} (hg : Gl X x) (hm : X.mg x = some u) (r : RelV v u) (hd : (x == ("__debug__" : Str)) = false := by decide) : PE X (.Name x pos) (tC v) :=
  fun _ _ _ H _ I h => ld_glob I hg hm ⟨v, H, I, r, h⟩ hd
theorem pe_bltn {x : Str} {v : V} {u : Value} {pos : Pos} (hg : Gl X x) (hm : X.mg x = none) (hv : bootBuiltins x = some u) (r : RelV v u) (hn : x ≠ "__name__" := by decide) (hd : (x == ("__debug__" : Str)) = false := by decide) : PE X (.Name x pos) (tC v) :=
  fun _ _ _ H _ I h => ld_blt I hg hm hv ⟨v, H, I, r, h⟩ hn hd
variable {a b : Expr} {ta tb : TE} {pos : Pos}
noncomputable def PC (X : Cx) (op : CmpOp) (a b : Expr) (t : TE) : Prop :=
  ∀ (pins : List (Addr × Obj)) (s : Shared) (σ : St) (H : Hp) (Q : VK), Inv X pins σ H s → t σ H Q →
    wpAny (model X.prog X.w) X.A (eval a X.env) (fun v s₁ => wpAny (model X.prog X.w) X.A (eval b X.env) (fun u s₂ => wpAny (model X.prog X.w) X.A (compareOp op v u) (EP X pins σ Q) X.xe s₂) X.xe s₁) X.xe s
noncomputable def tB (t : TE) : TT := fun σ H Q => t σ H fun x H1 => ∃ c, x = .bl c ∧ Q c H1
theorem pt_cmp {op : CmpOp} {t : TE} (h : PC X op a b t) (h1 : behindInMarks op b = false := by first | exact nobehind _ (by decide) (by decide) | rfl) : PT X (.Compare a [op] [b] pos) (tB t) := by
  intro pins s σ H Q I hw
  refine wpAny_isTrue_Compare1 (thn (h pins s σ H _ I hw) fun v s1 h1 => thn h1 fun u s2 h2 => thn h2 fun c s3 ⟨x, H1, I1, r1, q1⟩ => ?_) h1
  obtain ⟨d, rfl, q⟩ := q1
  cases r1
  exact wpAny_truthy_bool ⟨H1, I1, q⟩
theorem pt_val {e : Expr} {t : TE} (h : PE X e t) (he : ∀ whole, isTrue e X.env whole = (do let v ← whole; standAt e.pos; holding [v] (truthy v)) := by intro _; rfl) : PT X e (tB t) := by
  intro pins s σ H Q I hw
  refine isTrue_plain (thn (h pins s σ H _ I hw) fun v s1 ⟨x, H1, I1, r1, q1⟩ => ?_) (he _)
  obtain ⟨d, rfl, q⟩ := q1
  cases r1
  exact wpAny_truthy_bool ⟨H1, I1, q⟩
variable {tA tB' : TT} {rest : List Expr}
noncomputable def tAnd (t u : TT) : TT := fun σ H Q => t σ H fun c H1 => if c = true then u σ H1 Q else Q false H1
noncomputable def tOr (t u : TT) : TT := fun σ H Q => t σ H fun c H1 => if c = true then Q true H1 else u σ H1 Q
noncomputable def tNot (t : TT) : TT := fun σ H Q => t σ H fun c H1 => Q (!c) H1
theorem pw_and1 (ha : PT X a tA) : PW X (.BoolOp .And [a] pos) tA := by
  intro wh pins s σ H Q I h
  refine isTrue_and (thn (ha pins s σ H Q I h) fun c s1 e => ?_)
  cases c with
  | true => exact isTrue_and_nil e
  | false => exact e
theorem pw_or1 (ha : PT X a tA) : PW X (.BoolOp .Or [a] pos) tA := by
  intro wh pins s σ H Q I h
  refine isTrue_or (thn (ha pins s σ H Q I h) fun c s1 e => ?_)
  cases c with
  | false => exact isTrue_or_nil e
  | true => exact e
theorem pw_and (ha : PT X a tA) (hb : PW X (.BoolOp .And (b :: rest) pos) tB') : PW X (.BoolOp .And (a :: b :: rest) pos) (tAnd tA tB') := by
  intro wh pins s σ H Q I h
  refine isTrue_and (thn (ha pins s σ H _ I h) fun c s1 ⟨H1, I1, q1⟩ => ?_)
  cases c with
  | true => exact hb wh pins s1 σ H1 Q I1 q1
  | false => exact ⟨H1, I1, q1⟩
theorem pw_or (ha : PT X a tA) (hb : PW X (.BoolOp .Or (b :: rest) pos) tB') : PW X (.BoolOp .Or (a :: b :: rest) pos) (tOr tA tB') := by
  intro wh pins s σ H Q I h
  refine isTrue_or (thn (ha pins s σ H _ I h) fun c s1 ⟨H1, I1, q1⟩ => ?_)
  cases c with
  | true => exact ⟨H1, I1, q1⟩
  | false => exact hb wh pins s1 σ H1 Q I1 q1
theorem pt_not (ha : PT X a tA) : PT X (.UnaryOp .Not a pos) (tNot tA) := by
  intro pins s σ H Q I h
  exact isTrue_not (ha pins s σ H (fun c H1 => Q (!c) H1) I h)
noncomputable def tAndV (ta tb : TE) : TE := fun σ H Q => ta σ H fun x H1 => ∃ c, x = .bl c ∧ if c = true then tb σ H1 Q else Q (.bl false) H1
noncomputable def tOrV (ta tb : TE) : TE := fun σ H Q => ta σ H fun x H1 => ∃ c, x = .bl c ∧ if c = true then Q (.bl true) H1 else tb σ H1 Q
noncomputable def tNotV (ta : TE) : TE := fun σ H Q => ta σ H fun x H1 => ∃ c, x = .bl c ∧ Q (.bl (!c)) H1
theorem pe_one {op} {t : TE} (h : PE X a t) : PE X (.BoolOp op [a] pos) t := fun pins s σ H Q I hw => BoolOp_one (h pins s σ H Q I hw)
theorem pe_and (ha : PE X a ta) (hb : PE X (.BoolOp .And (b :: rest) pos) tb) : PE X (.BoolOp .And (a :: b :: rest) pos) (tAndV ta tb) := by
  intro pins s σ H Q I h
  refine BoolOp_and (thn (ha pins s σ H _ I h) fun v s1 ⟨x, H1, I1, r1, q1⟩ => ?_)
  obtain ⟨c, rfl, q1⟩ := q1
  cases r1
  refine wpAny_truthy_bool ?_
  cases c with
  | true => exact hb pins s1 σ H1 Q I1 q1
  | false => exact ⟨.bl false, H1, I1, rfl, q1⟩
theorem pe_or (ha : PE X a ta) (hb : PE X (.BoolOp .Or (b :: rest) pos) tb) : PE X (.BoolOp .Or (a :: b :: rest) pos) (tOrV ta tb) := by
  intro pins s σ H Q I h
  refine BoolOp_or (thn (ha pins s σ H _ I h) fun v s1 ⟨x, H1, I1, r1, q1⟩ => ?_)
  obtain ⟨c, rfl, q1⟩ := q1
  cases r1
  refine wpAny_truthy_bool ?_
  cases c with
  | false => exact hb pins s1 σ H1 Q I1 q1
  | true => exact ⟨.bl true, H1, I1, rfl, q1⟩
theorem pe_not (ha : PE X a ta) : PE X (.UnaryOp .Not a pos) (tNotV ta) := by
  intro pins s σ H Q I h
  refine UnaryOp_ (thn (ha pins s σ H _ I h) fun v s1 ⟨x, H1, I1, r1, q1⟩ => ?_)
  obtain ⟨c, rfl, q1⟩ := q1
  cases r1
  exact not_of (wpAny_truthy_bool ⟨.bl (!c), H1, I1, rfl, q1⟩)
end
end L2
namespace L2
open PySem PySem.Spec PyProof.Rows
noncomputable def SqL (K : PySem.W.Frag) (H : Hp) (a : Addr) (xs : List V) : Prop :=
  Rd H a (.lst xs) ∨
    ∃ (o : Obj) (its : Array Value) (n : Nat), K.lookup a = some o ∧ o.cls = .type "list" ∧ o.dict = none ∧ o.data = .seq its n ∧ its.size ≤ sizeLine ∧ Vals xs its.toList
noncomputable def SqT (K : PySem.W.Frag) (H : Hp) (a : Addr) (xs : List V) : Prop :=
  Rd H a (.tup xs) ∨
    ∃ (o : Obj) (its : Array Value) (n : Nat), K.lookup a = some o ∧ o.cls = .type "tuple" ∧ o.data = .seq its n ∧ its.size ≤ sizeLine ∧ Vals xs its.toList
noncomputable def absV : Value → Option V
  | .none => some .non
  | .bool b => some (.bl b)
  | .int i _ => some (.int i)
  | .str x _ => some (.str x)
  | .bytes b _ => some (.byt b)
  | .float b _ => some (.flt b)
  | .ref a => some (.ref a)
  | .type n => some (.ty n)
  | _ => none
theorem RelV.abs {x : V} {u : Value} (r : RelV x u) : absV u = some x := by
  cases x with
  | non => cases r; rfl
  | bl _ => cases r; rfl
  | int _ => obtain ⟨t, rfl⟩ := r; rfl
  | str _ => obtain ⟨t, rfl⟩ := r; rfl
  | byt _ => obtain ⟨t, rfl⟩ := r; rfl
  | flt _ => obtain ⟨t, rfl⟩ := r; rfl
  | ref _ => cases r; rfl
  | ty _ => cases r; rfl
theorem RelV.inj {x y : V} {u : Value} (r : RelV x u) (q : RelV y u) : x = y := Option.some.inj (r.abs.symm.trans q.abs)
theorem Vals.inj : ∀ {xs ys : List V} {us : List Value}, Vals xs us → Vals ys us → xs = ys
  | _, _, _, .nil, .nil => rfl
  | _, _, _, .cons r t, .cons r' t' => by rw [r.inj r', Vals.inj t t']
section
variable {X : Cx} {pins : List (Addr × Obj)} {σ : St} {H : Hp} {s : Shared} {a : Addr} {xs ys : List V}
theorem SqL.of {K : PySem.W.Frag} (h : H a = some (.lst xs)) : SqL K H a xs := .inl (.inl h)
theorem SqT.of {K : PySem.W.Frag} (h : H a = some (.tup xs)) : SqT K H a xs := .inl (.inl h)
theorem Inv.list (I : Inv X pins σ H s) (h : SqL X.K H a xs) : ∃ its : List Value, Vals xs its ∧ PlainL s.heap a its.toArray ∧ xs.length ≤ sizeLine := by
  rcases h with h | ⟨o, its, n, hk, hc, hd, hs, hz, r⟩
  · obtain ⟨z, its, n, r, e⟩ := h.ok I.hok
    exact ⟨its, r, ⟨_, n, e, rfl, rfl, rfl⟩, z⟩
  · refine ⟨its.toList, r, ⟨o, n, I.kIn a o hk, hc, hd, by simpa using hs⟩, ?_⟩
    have e := r.length
    simp only [Array.length_toList] at e
    omega
theorem Inv.tuple (I : Inv X pins σ H s) (h : SqT X.K H a xs) : ∃ its : List Value, Vals xs its ∧ IsTup s.heap a its.toArray ∧ xs.length ≤ sizeLine := by
  rcases h with h | ⟨o, its, n, hk, hc, hs, hz, r⟩
  · obtain ⟨z, its, r, p⟩ := h.ok I.hok
    exact ⟨its, r, p, z⟩
  · refine ⟨its.toList, r, ⟨o, I.kIn a o hk, hc, n, by simpa using hs⟩, ?_⟩
    have e := r.length
    simp only [Array.length_toList] at e
    omega
theorem Inv.list_inj (I : Inv X pins σ H s) (h : SqL X.K H a xs) (h' : SqL X.K H a ys) : xs = ys := by
  obtain ⟨its, r, ⟨o, n, e, _, _, d⟩, _⟩ := I.list h
  obtain ⟨its', r', ⟨o', n', e', _, _, d'⟩, _⟩ := I.list h'
  rw [e] at e'; cases e'
  rw [d] at d'
  injection d' with d1 _
  have : its = its' := by simpa using congrArg Array.toList d1
  subst this
  exact r.inj r'
theorem Inv.tuple_inj (I : Inv X pins σ H s) (h : SqT X.K H a xs) (h' : SqT X.K H a ys) : xs = ys := by
  obtain ⟨its, r, ⟨o, e, _, n, d⟩, _⟩ := I.tuple h
  obtain ⟨its', r', ⟨o', e', _, n', d'⟩, _⟩ := I.tuple h'
  rw [e] at e'; cases e'
  rw [d] at d'
  injection d' with d1 _
  have : its = its' := by simpa using congrArg Array.toList d1
  subst this
  exact r.inj r'
end
noncomputable abbrev Cx.wish (X : Cx) (E : Value → Shared → Prop) : Cx := { X with xe := E }
noncomputable abbrev Cx.nox (X : Cx) : Cx := X.wish fun _ _ => False
theorem Cx.Ok.wish {X : Cx} (ok : X.Ok) (E : Value → Shared → Prop) : (X.wish E).Ok :=
  ⟨ok.mod, ok.kind, ok.glob, ok.blt, ok.above, ok.inj, ok.has, ok.cab, ok.hd, ok.frames, ok.stk, ok.exf, ok.bs, ok.bsz, ok.noex, ok.exfs, ok.funs, ok.frf⟩
theorem Cx.Ok.unwish {X : Cx} {E : Value → Shared → Prop} (ok : (X.wish E).Ok) : X.Ok :=
  ⟨ok.mod, ok.kind, ok.glob, ok.blt, ok.above, ok.inj, ok.has, ok.cab, ok.hd, ok.frames, ok.stk, ok.exf, ok.bs, ok.bsz, ok.noex, ok.exfs, ok.funs, ok.frf⟩
section
variable {X : Cx} {pins : List (Addr × Obj)} {σ : St} {H : Hp} {s : Shared} {E : Value → Shared → Prop}
theorem Inv.wish (I : Inv X pins σ H s) (E : Value → Shared → Prop) : Inv (X.wish E) pins σ H s := ⟨I.ok.wish E, I.os, I.bare, I.base, I.loc, I.cell, I.free, I.freeC, I.pin, I.hok, I.len⟩
theorem Inv.unwish (I : Inv (X.wish E) pins σ H s) : Inv X pins σ H s := ⟨I.ok.unwish, I.os, I.bare, I.base, I.loc, I.cell, I.free, I.freeC, I.pin, I.hok, I.len⟩
theorem SP.unwish {D : Ends} {f : Flow} {s' : Shared} (h : SP (X.wish E) pins D f s') : SP X pins D f s' := by
  cases f with
  | next => obtain ⟨σ', H', I, q⟩ := h; exact ⟨σ', H', I.unwish, q⟩
  | brk => obtain ⟨σ', H', I, q⟩ := h; exact ⟨σ', H', I.unwish, q⟩
  | cont => obtain ⟨σ', H', I, q⟩ := h; exact ⟨σ', H', I.unwish, q⟩
  | ret u => obtain ⟨v, σ', H', I, r, q⟩ := h; exact ⟨v, σ', H', I.unwish, r, q⟩
theorem PSs.nox {st : List Stmt} {t : TS} (h : PSs X.nox st t) : PSs X st t := fun pins s σ H D I hw =>
  wpAny_mono (h pins s σ H D (I.wish _) hw) (fun _ _ q => q.unwish) fun _ _ z => False.elim z
end
section
variable {X : Cx} {st : Stmt} {rest : List Stmt} {t u : TS} {e : Expr} {te : TE} {pos : Pos}
noncomputable def tNext : TS := fun D σ H => D.nx σ H
noncomputable def tSeq (t u : TS) : TS := fun D σ H => t { D with nx := u D } σ H
theorem pss_nil : PSs X [] tNext := fun _ _ σ H _ I h => wpAny_execs_nil ⟨σ, H, I, h⟩
theorem pss_cons (h1 : PS X st t) (h2 : PSs X rest u) : PSs X (st :: rest) (tSeq t u) := by
  intro pins s σ H D I h
  refine wpAny_execs_cons (thn (h1 pins s σ H { D with nx := u D } I h) fun f s1 q => ?_)
  cases f with
  | next =>
    obtain ⟨σ', H', I', q⟩ := q
    exact h2 pins s1 σ' H' D I' q
  | ret v => exact q
  | brk => exact q
  | cont => exact q
theorem pss_one (h1 : PS X st t) : PSs X [st] t := by
  intro pins s σ H D I h
  refine wpAny_execs_cons (thn (h1 pins s σ H D I h) fun f s1 q => ?_)
  cases f with
  | next => exact wpAny_execs_nil q
  | ret v => exact q
  | brk => exact q
  | cont => exact q
theorem Inv.quiet {pins : List (Addr × Obj)} {σ : St} {H : Hp} {s : Shared} (I : Inv X pins σ H s) : interactive X.env = false := by simp [interactive, I.ok.kind]
noncomputable def tDrop (te : TE) : TS := fun D σ H => te σ H fun _ H1 => D.nx σ H1
theorem ps_expr (he : PE X e te) (hs : swapsWith e none pos.line X.env = pure false := by rfl) : PS X (.Expr e pos) (tDrop te) := by
  intro pins s σ H D I h
  exact wpAny_Expr_any (thn (he pins s σ H _ I h) fun v s1 ⟨x, H1, I1, r1, q1⟩ => ⟨σ, H1, I1, q1⟩) I.quiet hs
noncomputable def tRet (te : TE) : TS := fun D σ H => te σ H D.rt
theorem ps_ret (he : PE X e te) : PS X (.Return (some e) pos) (tRet te) := by
  intro pins s σ H D I h
  exact wpAny_Return_some (thn (he pins s σ H _ I h) fun v s1 ⟨x, H1, I1, r1, q1⟩ => ⟨x, σ, H1, I1, r1, q1⟩)
noncomputable def tIfS (c : TT) (t u : TS) : TS := fun D σ H => c σ H fun b H1 => if b = true then t D σ H1 else u D σ H1
theorem ps_if {c : Expr} {a b : List Stmt} {tc : TT} (hc : PT X c tc) (ha : PSs X a t) (hb : PSs X b u) : PS X (.If c a b pos) (tIfS tc t u) := by
  intro pins s σ H D I h
  refine wpAny_If (thn (hc pins s σ H _ I h) fun d s1 ⟨H1, I1, q1⟩ => ?_)
  cases d with
  | true => exact ha pins s1 σ H1 D I1 q1
  | false => exact hb pins s1 σ H1 D I1 q1
end
noncomputable abbrev TG := V → St → Hp → (St → Hp → Prop) → Prop
noncomputable abbrev TGs := List V → St → Hp → (St → Hp → Prop) → Prop
noncomputable def PG (X : Cx) (target : Expr) (t : TG) : Prop :=
  ∀ (pins : List (Addr × Obj)) (s : Shared) (σ : St) (H : Hp) (v : V) (u : Value) (Q : St → Hp → Prop), Inv X pins σ H s → RelV v u → t v σ H Q →
    wpAny (model X.prog X.w) X.A (assign target X.env u) (fun _ s' => ∃ σ' H', Inv X pins σ' H' s' ∧ Q σ' H') X.xe s
noncomputable def PGs (X : Cx) (ts : List Expr) (t : TGs) : Prop :=
  ∀ (pins : List (Addr × Obj)) (s : Shared) (σ : St) (H : Hp) (vs : List V) (us : List Value) (Q : St → Hp → Prop), Inv X pins σ H s → Vals vs us → t vs σ H Q →
    wpAny (model X.prog X.w) X.A (assignInOrder ((assignEach ts X.env).map (·.2)) us) (fun _ s' => ∃ σ' H', Inv X pins σ' H' s' ∧ Q σ' H') X.xe s
section
variable {X : Cx} {pos : Pos}
noncomputable def gName (i : Nat) : TG := fun v σ H Q => Q (σ.set i (some v)) H
theorem pg_name {i : Nat} {x : Str} (hN : X.N.Nodup) (hi : X.N[i]? = some x) (hx : Loc X.env.scope x) (hf : X.fn x = true ∨ X.env.scope.names.lookup x = some .local := by first | exact .inl rfl | exact .inr rfl | assumption) : PG X (.Name x pos) (gName i) := by
  intro pins s σ H v u Q I r h
  exact wpAny_assign_Name (store_ok I hN hi hx r (fun s' I' => ⟨_, H, I', h⟩) hf)
noncomputable def gNil : TGs := fun vs σ H Q => vs = [] ∧ Q σ H
noncomputable def gCons (t : TG) (u : TGs) : TGs := fun vs σ H Q => ∃ v r, vs = v :: r ∧ t v σ H fun σ' H' => u r σ' H' Q
theorem pgs_nil : PGs X [] gNil := by
  intro pins s σ H vs us Q I r h
  obtain ⟨e, h⟩ := h
  subst e
  cases r
  exact assignInOrder_nil ⟨σ, H, I, h⟩
theorem pgs_cons {e : Expr} {es : List Expr} {t : TG} {u : TGs} (h1 : PG X e t) (h2 : PGs X es u)
    (hs : (assignEach (e :: es) X.env).map (·.2) = assign e X.env :: (assignEach es X.env).map (·.2) := by rfl) : PGs X (e :: es) (gCons t u) := by
  intro pins s σ H vs us Q I r h
  obtain ⟨v, vr, e1, h⟩ := h
  subst e1
  cases r with
  | cons r rr =>
    rw [hs]
    refine assignInOrder_cons (thn (h1 pins s σ H _ _ _ I r h) fun _ s1 ⟨σ1, H1, I1, q1⟩ => ?_)
    exact h2 pins s1 σ1 H1 _ _ Q I1 rr q1
noncomputable def gTup (K : PySem.W.Frag) (n : Nat) (t : TGs) : TG := fun v σ H Q => ∃ a xs, v = .ref a ∧ SqT K H a xs ∧ xs.length = n ∧ t xs σ H Q
theorem pg_tup {es : List Expr} {k : Nat} {t : TGs} {n : Nat} (hc : X.calm = true) (h : PGs X es t)
    (hn : (assignEach es X.env).length = n := by rfl) (hst : (assignEach es X.env).findIdx? (·.1) = none := by rfl) : PG X (.Tuple es k pos) (gTup X.K n t) := by
  intro pins s σ H v u Q I r hw
  obtain ⟨a, xs, e1, hq, hl, hw⟩ := hw
  subst e1
  cases r
  obtain ⟨its, rv, ht, hz⟩ := I.tuple hq
  refine assign_Tuple_tuple (I.ok.hd hc) ht (by simp [hn, ← hl, rv.length]) hst fun h' hx => ?_
  have I1 : Inv X pins σ H { s with heap := h' } := I.kept (t' := s.toks) fun b o e => hx b o (Nat.ne_of_lt (Heap.lt_size e)) e
  exact h pins _ σ H xs _ Q I1 (by simpa using rv) hw
noncomputable def tAsg (te : TE) (g : TG) : TS := fun D σ H => te σ H fun x H1 => g x σ H1 D.nx
theorem ps_asg {tg e : Expr} {te : TE} {g : TG} (he : PE X e te) (hg : PG X tg g) (hs : swapsWithSole [tg] e pos.line X.env = pure false := by rfl) (hw : swappedStores [tg] e X.env = pure none := by rfl)
    (h1 : (assignEach [tg] X.env).map (·.2) = [assign tg X.env] := by rfl) : PS X (.Assign [tg] e pos) (tAsg te g) := by
  intro pins s σ H D I h
  refine wpAny_Assign_stores (thn (he pins s σ H _ I h) fun v s1 ⟨x, H1, I1, r1, q1⟩ => ?_) hs hw
  rw [h1]
  exact thn (hg pins s1 σ H1 x v _ I1 r1 q1) fun _ s2 q => q
theorem ps_set {i : Nat} {x : Str} {e : Expr} {te : TE} {pos' : Pos} (hN : X.N.Nodup) (hi : X.N[i]? = some x) (hx : Loc X.env.scope x) (he : PE X e te) (hs : swapsWith e (some (.Name x pos')) pos.line X.env = pure false := by rfl) (hf : X.fn x = true ∨ X.env.scope.names.lookup x = some .local := by first | exact .inl rfl | exact .inr rfl | assumption) :
    PS X (.Assign [.Name x pos'] e pos) (tAsg te (gName i)) := by
  intro pins s σ H D I h
  refine wpAny_Assign_Name (thn (he pins s σ H _ I h) fun v s1 ⟨y, H1, I1, r1, q1⟩ => ?_) hs
  exact store_ok I1 hN hi hx r1 (fun s2 I2 => ⟨_, H1, I2, q1⟩) hf
end
section
variable {X : Cx} {pos : Pos}
noncomputable def tWhile (c : TT) (tb : TS) : TS := fun D σ H => ∃ W : Nat → St → Hp → Prop, (∃ m, W m σ H) ∧ ∀ m σ H, W m σ H →
  c σ H fun b H1 => if b = true then ∃ N : St → Hp → Prop, (∀ σ' H', N σ' H' → ∃ m', m' < m ∧ W m' σ' H') ∧ tb { D with nx := N, ct := N, bk := D.nx } σ H1 else D.nx σ H1
theorem ps_while {c : Expr} {body : List Stmt} {tc : TT} {tb : TS} (hp : PassesOwn (model X.prog X.w) X.A X.env X.xe) (hc : PT X c tc) (hb : PSs X body tb) : PS X (.While c body [] pos) (tWhile tc tb) := by
  intro pins s σ H D I h
  obtain ⟨W, ⟨m0, w0⟩, turn⟩ := h
  refine wpAny_While (codeAny_whileLoop (fun n s' => ∃ σ' H', Inv X pins σ' H' s' ∧ W n σ' H') ?_ m0 ⟨σ, H, I, w0⟩)
  rintro n s1 ⟨σ1, H1, I1, w1⟩
  refine wpAny_passesOwn hp (thn (hc pins s1 σ1 H1 _ I1 (turn n σ1 H1 w1)) fun b s2 ⟨H2, I2, q2⟩ => ?_)
  cases b with
  | true =>
    obtain ⟨N, hN, q2⟩ := q2
    rw [if_pos rfl]
    refine wpAny_passesOwn hp (thn (hb pins s2 σ1 H2 _ I2 q2) fun f s3 q3 => ?_)
    cases f with
    | next =>
      obtain ⟨σ3, H3, I3, n3⟩ := q3
      obtain ⟨m', hm, w3⟩ := hN σ3 H3 n3
      exact ⟨m', hm, σ3, H3, I3, w3⟩
    | cont =>
      obtain ⟨σ3, H3, I3, n3⟩ := q3
      obtain ⟨m', hm, w3⟩ := hN σ3 H3 n3
      exact ⟨m', hm, σ3, H3, I3, w3⟩
    | brk => exact q3
    | ret v => exact q3
  | false =>
    rw [if_neg Bool.false_ne_true]
    exact wpAny_execs_nil ⟨σ1, H2, I2, q2⟩
end
structure It where
  go : Nat → Hp → Prop
  yld : Nat → Hp → V → Hp → Prop
  stop : Nat → Hp → Prop
noncomputable def FpOk (X : Cx) (pins : List (Addr × Obj)) (H : Hp) (b : Addr) : Prop :=
  H b = none ∧ b ≠ X.env.locals ∧ b ∉ X.fs ∧ (b ∈ X.ex ∨ X.s₀.heap.objs.size ≤ b) ∧ (∀ x c, X.env.cells.lookup x = some c → c ≠ b) ∧ ∀ p ∈ X.pn ++ pins, p.1 ≠ b
theorem Inv.fpOk {X : Cx} {pins : List (Addr × Obj)} {σ : St} {H H' : Hp} {s : Shared} {b : Addr} (I : Inv X pins σ H s) (hb : s.heap.objs.size ≤ b) (hn : H' b = none) : FpOk X pins H' b := by
  refine ⟨hn, Nat.ne_of_gt (Nat.lt_of_lt_of_le I.lt hb), I.nofs hb, .inr (Nat.le_trans I.sz hb), fun x c e z => ?_, fun p hp z => ?_⟩
  · obtain ⟨v, q⟩ := I.cell x c e
    exact absurd (Nat.lt_of_lt_of_le q.lt (by rw [z]; exact hb)) (Nat.lt_irrefl _)
  · exact absurd (Nat.lt_of_lt_of_le (Heap.lt_size (I.pin p hp).1) (by rw [z]; exact hb)) (Nat.lt_irrefl _)
structure Turn (P : Program) (w : World) (K : PySem.W.Frag) (tg : Expr) (J : It) (fp : List Addr) (it : Addr) (tn : Nat → Heap → Prop) : Prop where
  mem : it ∈ fp
  obj : ∀ i h, tn i h → ∀ b ∈ fp, ∃ o, h.get? b = some o ∧ ∀ v, o.data ≠ .cell v
  keep : ∀ i h h', tn i h → (∀ b ∈ fp, ∀ o, h.get? b = some o → h'.get? b = some o) → tn i h'
  item : ∀ (X : Cx), X.prog = P → X.w = w → X.K = K → X.calm = true → ∀ (i : Nat) (pins : List (Addr × Obj)) (s : Shared) (σ : St) (H : Hp) (E : Value → Shared → Prop), Inv X pins σ H s → (∀ b ∈ fp, FpOk X pins H b) → tn i s.heap → J.go i H →
    wpAny (model P w) X.A (pyNext (.ref it)) (fun r s1 => ∃ u, r = some u ∧
      wpAny (model P w) X.A (letOwnedTupleGo tg (.ref it) u) (fun _ s2 => ∃ x H', Inv X pins σ H' s2 ∧ RelV x u ∧ J.yld i H x H' ∧ tn (i + 1) s2.heap ∧ ∀ b ∈ fp, H' b = none) E s1) E s
  done : ∀ (X : Cx), X.prog = P → X.w = w → X.K = K → X.calm = true → ∀ (i : Nat) (pins : List (Addr × Obj)) (s : Shared) (σ : St) (H : Hp) (E : Value → Shared → Prop), Inv X pins σ H s → (∀ b ∈ fp, FpOk X pins H b) → tn i s.heap → J.stop i H →
    wpAny (model P w) X.A (pyNext (.ref it)) (fun r s1 => r = none ∧ Inv X pins σ H s1) E s
  self : ∀ (A : Around) (i : Nat) (s : Shared) (Q : Value → Shared → Prop) (E : Value → Shared → Prop), tn i s.heap → Q (.ref it) s → wpAny (model P w) A (pyIter (.ref it)) Q E s
noncomputable abbrev TI := St → Hp → (It → Hp → Prop) → Prop
noncomputable def PIE (X : Cx) (pins : List (Addr × Obj)) (σ : St) (tg : Expr) (R : It → Hp → Prop) (itv : Value) (s2 : Shared) : Prop :=
  ∃ (it : Addr) (fp : List Addr) (tn : Nat → Heap → Prop) (J : It) (H' : Hp), itv = .ref it ∧ Inv X pins σ H' s2 ∧ Turn X.prog X.w X.K tg J fp it tn ∧ tn 0 s2.heap ∧ (∀ b ∈ fp, FpOk X pins H' b) ∧ R J H'
noncomputable def PI (X : Cx) (tg iter : Expr) (wi : TI) : Prop :=
  ∀ (pins : List (Addr × Obj)) (s : Shared) (σ : St) (H : Hp) (R : It → Hp → Prop), Inv X pins σ H s → wi σ H R →
    wpAny (model X.prog X.w) X.A (eval iter X.env) (fun v s1 => wpAny (model X.prog X.w) X.A (pyIter v) (PIE X pins σ tg R) X.xe s1) X.xe s
theorem go_of {M : Model} {A : Around} {E : Value → Shared → Prop} {s : Shared} {tg : Expr} {it : Addr} {u : Value} {o : Obj} {n : String} {vs : Array Value} {Q : Unit → Shared → Prop} (ho : s.heap.get? it = some o) (hc : o.cls = .type n) (hd : o.data = .fields vs)
    (hn : ["enumerate", "zip", "dict_itemiterator", "dict_reverseitemiterator", "odict_iterator", "itertools.zip_longest", "itertools.pairwise"].contains n = false) (hQ : Q () s) : wpAny M A (letOwnedTupleGo tg (.ref it) u) Q E s := by
  unfold letOwnedTupleGo
  cases tg <;> first
    | exact wpAny_pure hQ
    | (cases u <;> first
        | exact wpAny_pure hQ
        | (refine wpAny_bind (wpAny_load ho ?_)
           rw [hc, hd]
           show wpAny M A (if (["enumerate", "zip", "dict_itemiterator", "dict_reverseitemiterator", "odict_iterator", "itertools.zip_longest", "itertools.pairwise"].contains n && vs[0]? == some (rawInt _)) = true then _ else _) Q E s
           rw [if_neg (by intro h; rw [hn, Bool.false_and] at h; cases h)]
           exact wpAny_pure hQ))
noncomputable def Itl (K : PySem.W.Frag) (a : Addr) : It :=
  ⟨fun i H => ∃ xs x, SqL K H a xs ∧ xs[i]? = some x, fun i H x H' => H' = H ∧ ∀ xs, SqL K H a xs → xs[i]? = some x, fun i H => ∃ xs, SqL K H a xs ∧ xs.length ≤ i⟩
noncomputable def Itt (K : PySem.W.Frag) (a : Addr) : It :=
  ⟨fun i H => ∃ xs x, SqT K H a xs ∧ xs[i]? = some x, fun i H x H' => H' = H ∧ ∀ xs, SqT K H a xs → xs[i]? = some x, fun i H => ∃ xs, SqT K H a xs ∧ xs.length ≤ i⟩
noncomputable def Itr (lo : Int) (n : Nat) : It := ⟨fun i _ => i < n, fun i H x H' => H' = H ∧ x = .int (lo + i), fun i _ => n ≤ i⟩
theorem turn_list {P : Program} {w : World} {K : PySem.W.Frag} {tg : Expr} (a it : Addr) : Turn P w K tg (Itl K a) [it] it (fun i h => h.IsListIter it a i) where
  mem := by simp
  obj := fun i h st b hb => by
    have e : b = it := by simpa using hb
    subst e
    obtain ⟨o, e, c, d⟩ := st
    exact ⟨o, e, fun v z => by rw [d] at z; cases z⟩
  keep := fun i h h' st k => st.at fun o e => k it (by simp) o e
  item := by
    intro X hP hw hK hc i pins s σ H E I hf st hg
    subst hP hw hK
    obtain ⟨xs, x, hq, hx⟩ := hg
    obtain ⟨its, rv, p, hz⟩ := I.list hq
    obtain ⟨u, hu, ru⟩ := rv.get hx
    obtain ⟨f0, f1, f2, f3, f4, f5⟩ := hf it (by simp)
    refine wpAny_pyNext_list_item st p.isList (x := u) (by simpa using hu) fun h' st' sb => ?_
    have I1 : Inv X pins σ H { s with heap := h' } := I.turned (t' := s.toks) (fun b o hb e => (sb.2 b hb).trans e) f0 f1 f3 f4 f5
    obtain ⟨o, e, c, d⟩ := id st'
    exact ⟨u, rfl, go_of (s := { s with heap := h' }) e c d (by decide) ⟨x, H, I1, ru, ⟨rfl, fun ys hy => by rw [I.list_inj hy hq]; exact hx⟩, st', fun b hb => (hf b hb).1⟩⟩
  done := by
    intro X hP hw hK hc i pins s σ H E I hf st hg
    subst hP hw hK
    obtain ⟨xs, hq, hx⟩ := hg
    obtain ⟨its, rv, p, hz⟩ := I.list hq
    obtain ⟨f0, f1, f2, f3, f4, f5⟩ := hf it (by simp)
    have hl := rv.length
    exact wpAny_pyNext_list_end (I.ok.hd hc) st p.isList (by simp; omega) fun h' eb => ⟨rfl, I.turned (t' := s.toks) (fun b o hb e => eb b o hb e) f0 f1 f3 f4 f5⟩
  self := fun _ _ _ _ _ st h => wpAny_pyIter_listiter st h
theorem turn_tuple {P : Program} {w : World} {K : PySem.W.Frag} {tg : Expr} (a it : Addr) : Turn P w K tg (Itt K a) [it] it (fun i h => h.IsTupleIter it a i) where
  mem := by simp
  obj := fun i h st b hb => by
    have e : b = it := by simpa using hb
    subst e
    obtain ⟨o, e, c, d⟩ := st
    exact ⟨o, e, fun v z => by rw [d] at z; cases z⟩
  keep := fun i h h' st k => st.at fun o e => k it (by simp) o e
  item := by
    intro X hP hw hK hc i pins s σ H E I hf st hg
    subst hP hw hK
    obtain ⟨xs, x, hq, hx⟩ := hg
    obtain ⟨its, rv, p, hz⟩ := I.tuple hq
    obtain ⟨u, hu, ru⟩ := rv.get hx
    obtain ⟨f0, f1, f2, f3, f4, f5⟩ := hf it (by simp)
    refine wpAny_pyNext_tuple_item st (show s.heap.IsTuple a its.toArray from p) (x := u) (by simpa using hu) fun h' st' sb => ?_
    have I1 : Inv X pins σ H { s with heap := h' } := I.turned (t' := s.toks) (fun b o hb e => (sb.2 b hb).trans e) f0 f1 f3 f4 f5
    obtain ⟨o, e, c, d⟩ := id st'
    exact ⟨u, rfl, go_of (s := { s with heap := h' }) e c d (by decide) ⟨x, H, I1, ru, ⟨rfl, fun ys hy => by rw [I.tuple_inj hy hq]; exact hx⟩, st', fun b hb => (hf b hb).1⟩⟩
  done := by
    intro X hP hw hK hc i pins s σ H E I hf st hg
    subst hP hw hK
    obtain ⟨xs, hq, hx⟩ := hg
    obtain ⟨its, rv, p, hz⟩ := I.tuple hq
    obtain ⟨f0, f1, f2, f3, f4, f5⟩ := hf it (by simp)
    have hl := rv.length
    exact wpAny_pyNext_tuple_end (I.ok.hd hc) st (show s.heap.IsTuple a its.toArray from p) (by simp; omega) fun h' eb => ⟨rfl, I.turned (t' := s.toks) (fun b o hb e => eb b o hb e) f0 f1 f3 f4 f5⟩
  self := fun _ _ _ _ _ st h => wpAny_pyIter_tupleiter st h
theorem turn_range {P : Program} {w : World} {K : PySem.W.Frag} {tg : Expr} (it : Addr) (lo : Int) (n : Nat) : Turn P w K tg (Itr lo n) [it] it (fun i h => IsRangeIter h it (lo + (i : Nat) * 1) ((n : Int) - (i : Nat)) 1) where
  mem := by simp
  obj := fun i h st b hb => by
    have e : b = it := by simpa using hb
    subst e
    exact ⟨_, st, fun v z => by
      have z' : Data.fields _ = Data.cell v := z
      cases z'⟩
  keep := fun i h h' st k => k it (by simp) _ st
  item := by
    intro X hP hw hK hc i pins s σ H E I hf st hg
    subst hP hw hK
    obtain ⟨f0, f1, f2, f3, f4, f5⟩ := hf it (by simp)
    have W := Walks.range (prog := X.prog) (w := X.w) (I.ok.hd hc) it lo 1 n
    refine W.item i s _ _ hg st fun v h' tk hv st' kk => ?_
    obtain ⟨t, rfl⟩ := hv
    have I1 : Inv X pins σ H { s with heap := h', toks := tk } := I.turned (fun b o hb e => kk b o (by simpa using hb) e) f0 f1 f3 f4 f5
    refine ⟨_, rfl, go_of (s := { s with heap := h', toks := tk }) (n := "range_iterator") st' rfl rfl (by decide) ⟨.int (lo + i), H, I1, ⟨t, ?_⟩, ⟨rfl, rfl⟩, st', fun b hb => (hf b hb).1⟩⟩
    rw [Int.mul_one]
  done := by
    intro X hP hw hK hc i pins s σ H E I hf st hg
    subst hP hw hK
    obtain ⟨f0, f1, f2, f3, f4, f5⟩ := hf it (by simp)
    exact wpAny_pyNext_range_end (I.ok.hd hc) st (by have : n ≤ i := hg; omega) fun h' eb => ⟨rfl, I.turned (t' := s.toks) (fun b o hb e => eb b o hb e) f0 f1 f3 f4 f5⟩
  self := fun _ _ _ _ _ st h => wpAny_pyIter_rangeiter st h
end L2
namespace L2
open PySem PySem.Spec PyProof.Rows
section
variable {X : Cx} {tg : Expr}
noncomputable def iList (K : PySem.W.Frag) (tl : TE) : TI := fun σ H R => tl σ H fun x H1 => ∃ a, x = .ref a ∧ (∃ xs, SqL K H1 a xs) ∧ R (Itl K a) H1
noncomputable def iTup (K : PySem.W.Frag) (tl : TE) : TI := fun σ H R => tl σ H fun x H1 => ∃ a, x = .ref a ∧ (∃ xs, SqT K H1 a xs) ∧ R (Itt K a) H1
theorem pi_list {l : Expr} {tl : TE} (hl : PE X l tl) : PI X tg l (iList X.K tl) := by
  intro pins s σ H R I h
  refine thn (hl pins s σ H _ I h) fun v s1 ⟨x, H1, I1, r1, q1⟩ => ?_
  obtain ⟨a, e, ⟨xs, hq⟩, q⟩ := q1
  subst e
  cases r1
  obtain ⟨its, rv, p, hz⟩ := I1.list hq
  refine wpAny_pyIter_list p.isList ?_
  refine ⟨s1.heap.objs.size, [s1.heap.objs.size], _, _, H1, rfl, I1.kept (t' := s1.toks) fun b o e => Heap.get?_push_of_some _ e, turn_list a _, ⟨_, Heap.get?_push_size _ rfl, rfl, rfl⟩, fun b hb => ?_, q⟩
  have e : b = s1.heap.objs.size := by simpa using hb
  subst e
  exact I1.fpOk (Nat.le_refl _) (I1.hok.fresh (Nat.le_refl _))
theorem pi_tup {l : Expr} {tl : TE} (hl : PE X l tl) : PI X tg l (iTup X.K tl) := by
  intro pins s σ H R I h
  refine thn (hl pins s σ H _ I h) fun v s1 ⟨x, H1, I1, r1, q1⟩ => ?_
  obtain ⟨a, e, ⟨xs, hq⟩, q⟩ := q1
  subst e
  cases r1
  obtain ⟨its, rv, p, hz⟩ := I1.tuple hq
  refine wpAny_pyIter_tuple (show s1.heap.IsTuple a its.toArray from p) ?_
  refine ⟨s1.heap.objs.size, [s1.heap.objs.size], _, _, H1, rfl, I1.kept (t' := s1.toks) fun b o e => Heap.get?_push_of_some _ e, turn_tuple a _, ⟨_, Heap.get?_push_size _ rfl, rfl, rfl⟩, fun b hb => ?_, q⟩
  have e : b = s1.heap.objs.size := by simpa using hb
  subst e
  exact I1.fpOk (Nat.le_refl _) (I1.hok.fresh (Nat.le_refl _))
theorem range_it {pins : List (Addr × Obj)} {σ : St} {H : Hp} {s : Shared} {R : It → Hp → Prop} {E : Value → Shared → Prop} {lo hi : Int} {t u v : Tok} {tk : Nat} (I : Inv X pins σ H s) (h1 : -(2 ^ 62) ≤ lo) (h2 : lo < 2 ^ 62) (h3 : -(2 ^ 62) ≤ hi) (h4 : hi < 2 ^ 62)
    (q : R (Itr lo (hi - lo).toNat) H) : wpAny (model X.prog X.w) X.A (pyIter (.ref s.heap.objs.size)) (PIE X pins σ tg R) E { s with heap := s.heap.push { cls := .type "range", data := .fields #[.int lo t, .int hi u, .int 1 v] }, toks := tk } := by
  refine wpAny_pyIter_range (IsRange.new ..) (small_one h1 h2 h3 h4) ?_
  have I1 : Inv X pins σ H { s with heap := s.heap.push { cls := .type "range", data := .fields #[.int lo t, .int hi u, .int 1 v] }, toks := tk } := I.kept fun b o e => Heap.get?_push_of_some _ e
  refine ⟨(s.heap.push { cls := .type "range", data := .fields #[.int lo t, .int hi u, .int 1 v] }).objs.size, [(s.heap.push { cls := .type "range", data := .fields #[.int lo t, .int hi u, .int 1 v] }).objs.size], _, _, H, rfl,
    I1.kept (t' := tk) fun b o e => Heap.get?_push_of_some _ e, turn_range _ lo (hi - lo).toNat, ?_, fun b hb => ?_, q⟩
  · have e1 : lo + ((0 : Nat) : Int) * 1 = lo := by simp
    have e2 : (((hi - lo).toNat : Nat) : Int) - ((0 : Nat) : Int) = Builtin.Range.rangeSize lo hi 1 := by rw [rangeSize_one]; split <;> omega
    show IsRangeIter _ _ (lo + ((0 : Nat) : Int) * 1) ((((hi - lo).toNat : Nat) : Int) - ((0 : Nat) : Int)) 1
    rw [e1, e2]
    exact Heap.get?_push_size _ rfl
  · have e : b = (s.heap.push { cls := .type "range", data := .fields #[.int lo t, .int hi u, .int 1 v] }).objs.size := by simpa using hb
    subst e
    exact I1.fpOk (Nat.le_refl _) (I1.hok.fresh (Nat.le_refl _))
noncomputable def iRng1 (ta : TA) : TI := fun σ H R => ta σ H fun vs H1 => ∃ j : Int, vs = [.int j] ∧ -(2 ^ 62) ≤ j ∧ j < 2 ^ 62 ∧ R (Itr 0 j.toNat) H1
theorem pi_range1 {a : Expr} {ta : TA} {p pos : Pos} (hg : Gl X "range") (hm : X.mg "range" = none) (ha : PA X [a] ta) (hs : starEach [a] X.env = [(false, eval a X.env)] := by rfl) : PI X tg (.Call (.Name "range" p) [a] [] pos) (iRng1 ta) := by
  intro pins s σ H R I h
  refine Call_ (ld_blt I hg hm boot_range (PyProof.Rows.callWith_type1 (thn (ha pos pins s σ H _ I h) fun us s1 ⟨vs, H1, I1, r1, q1⟩ => ?_) hs rfl))
  obtain ⟨j, e, q1, q2, q⟩ := q1
  subst e
  cases r1 with
  | cons r rr =>
    cases rr
    obtain ⟨t, rfl⟩ := r
    exact call_range_1 (range_it I1 (by omega) (by omega) q1 q2 (by simpa using q))
noncomputable def tFor (wi : TI) (g : TG) (tb : TS) : TS := fun D σ H => wi σ H fun J H1 => ∃ W : Nat → Nat → St → Hp → Prop, (∃ m, W 0 m σ H1) ∧ ∀ i m σ H, W i m σ H →
  (J.stop i H ∧ D.nx σ H) ∨ (J.go i H ∧ ∃ N : St → Hp → Prop, (∀ σ' H', N σ' H' → ∃ m', m' < m ∧ W (i + 1) m' σ' H') ∧ ∀ x H', J.yld i H x H' → g x σ H' fun σ2 H2 => tb { D with nx := N, ct := N, bk := D.nx } σ2 H2)
noncomputable def pinsAt (fp : List Addr) (h : Heap) : List (Addr × Obj) := fp.filterMap fun b => (h.get? b).map fun o => (b, o)
theorem mem_pinsAt {fp : List Addr} {h : Heap} {b : Addr} {o : Obj} (hb : b ∈ fp) (e : h.get? b = some o) : (b, o) ∈ pinsAt fp h := List.mem_filterMap.mpr ⟨b, hb, by rw [e]; rfl⟩
theorem of_pinsAt {fp : List Addr} {h : Heap} {p : Addr × Obj} (hp : p ∈ pinsAt fp h) : p.1 ∈ fp ∧ h.get? p.1 = some p.2 := by
  obtain ⟨b, hb, e⟩ := List.mem_filterMap.mp hp
  cases q : h.get? b with
  | none => rw [q] at e; cases e
  | some o =>
    rw [q] at e
    have e' : (b, o) = p := Option.some.inj e
    subst e'
    exact ⟨hb, q⟩
theorem Inv.pinned {pins : List (Addr × Obj)} {σ : St} {H : Hp} {s : Shared} {fp : List Addr} (I : Inv X pins σ H s) (hf : ∀ b ∈ fp, FpOk X pins H b) (ho : ∀ b ∈ fp, ∃ o, s.heap.get? b = some o ∧ ∀ v, o.data ≠ .cell v) : Inv X (pins ++ pinsAt fp s.heap) σ H s :=
  I.pins_of fun p hp => (List.mem_append.mp hp).elim (fun z => I.pin p (List.mem_append_right _ z)) fun z => by
    obtain ⟨hb, e⟩ := of_pinsAt z
    obtain ⟨f0, f1, f2, _⟩ := hf p.1 hb
    obtain ⟨o, e', d⟩ := ho p.1 hb
    rw [e] at e'; cases e'
    exact ⟨e, f0, f1, f2, d⟩
theorem Inv.unpinned {pins pl : List (Addr × Obj)} {σ : St} {H : Hp} {s : Shared} (I : Inv X (pins ++ pl) σ H s) : Inv X pins σ H s := I.pins_of fun p hp => I.pin p (List.mem_append_right _ (List.mem_append_left _ hp))
theorem ps_for {iter : Expr} {body : List Stmt} {wi : TI} {g : TG} {tb : TS} {pos : Pos} (hp : PassesOwn (model X.prog X.w) X.A X.env X.xe) (hc : X.calm = true) (hi : PI X tg iter wi) (hg : PG X tg g) (hb : PSs X body tb)
    (hs : ∀ x, foldedSetIterable iter X.env x = pure x := by intro _; rfl) : PS X (.For tg iter body [] pos) (tFor wi g tb) := by
  intro pins s σ H D I h
  refine wpAny_For (thn (hi pins s σ H _ I h) fun v s1 h1 => thn h1 fun itv s2 h2 => ?_) hs
  obtain ⟨it, fp, tn, J, H2, e, I2, T, st2, f2, W, ⟨m0, w0⟩, turn⟩ := h2
  subst e
  have stat : ∀ {H' : Hp}, (∀ b ∈ fp, H' b = none) → ∀ b ∈ fp, FpOk X pins H' b := fun hn b hb => ⟨hn b hb, (f2 b hb).2⟩
  refine codeAny_forLoop_any (fun n s' => ∃ i σ' H', Inv X pins σ' H' s' ∧ tn i s'.heap ∧ (∀ b ∈ fp, H' b = none) ∧ W i n σ' H') ?_ m0 ⟨0, σ, H2, I2, st2, fun b hb => (f2 b hb).1, w0⟩
  rintro n s3 ⟨i, σ3, H3, I3, st3, fr3, w3⟩
  rcases turn i n σ3 H3 w3 with ⟨stop, qn⟩ | ⟨go, N, hN, step⟩
  · refine wpAny_passesOwn hp (thn (T.done X rfl rfl rfl hc i pins s3 σ3 H3 X.xe I3 (stat fr3) st3 stop) fun r s4 ⟨hr, I4⟩ => ?_)
    subst hr
    exact wpAny_execs_nil ⟨σ3, H3, I4, qn⟩
  · refine wpAny_passesOwn hp (thn (T.item X rfl rfl rfl hc i pins s3 σ3 H3 X.xe I3 (stat fr3) st3 go) fun r s4 ⟨u, hr, h4⟩ => ?_)
    subst hr
    refine wpAny_passesOwn hp (thn h4 fun _ s5 ⟨x, H5, I5, r5, y5, st5, fr5⟩ => ?_)
    have I5' := I5.pinned (stat fr5) (T.obj _ _ st5)
    refine wpAny_passesOwn hp (thn (hg _ s5 σ3 H5 x u _ I5' r5 (step x H5 y5)) fun _ s6 ⟨σ6, H6, I6, q6⟩ => ?_)
    refine wpAny_passesOwn hp (thn (hb _ s6 σ6 H6 _ I6 q6) fun f s7 q7 => ?_)
    have again : ∀ {σ7 : St} {H7 : Hp}, Inv X (pins ++ pinsAt fp s5.heap) σ7 H7 s7 → N σ7 H7 → ∃ m, m < n ∧ ∃ i σ' H', Inv X pins σ' H' s7 ∧ tn i s7.heap ∧ (∀ b ∈ fp, H' b = none) ∧ W i m σ' H' := fun {σ7 H7} I7 n7 => by
      obtain ⟨m', hm, w7⟩ := hN σ7 H7 n7
      refine ⟨m', hm, i + 1, σ7, H7, I7.unpinned, T.keep _ _ _ st5 fun b hb o e => (I7.pin (b, o) (List.mem_append_right _ (List.mem_append_right _ (mem_pinsAt hb e)))).1, fun b hb => ?_, w7⟩
      obtain ⟨o, e, d⟩ := T.obj _ _ st5 b hb
      exact (I7.pin (b, o) (List.mem_append_right _ (List.mem_append_right _ (mem_pinsAt hb e)))).2.1
    cases f with
    | next => obtain ⟨σ7, H7, I7, n7⟩ := q7; exact again I7 n7
    | cont => obtain ⟨σ7, H7, I7, n7⟩ := q7; exact again I7 n7
    | brk => obtain ⟨σ7, H7, I7, q7⟩ := q7; exact ⟨σ7, H7, I7.unpinned, q7⟩
    | ret v => obtain ⟨x7, σ7, H7, I7, r7, q7⟩ := q7; exact ⟨x7, σ7, H7, I7.unpinned, r7, q7⟩
end
theorem for_list {K : PySem.W.Frag} {a : Addr} {xs : List V} {g : TG} {tb : TS} {D : Ends} {σ : St} {H : Hp} (Pv : Nat → St → Hp → Prop) (h0 : Pv 0 σ H) (hl : ∀ i σ H, i ≤ xs.length → Pv i σ H → SqL K H a xs)
    (hs : ∀ i x σ H, xs[i]? = some x → Pv i σ H → g x σ H fun σ2 H2 => tb { D with nx := Pv (i + 1), ct := Pv (i + 1), bk := D.nx } σ2 H2) (hd : ∀ σ H, Pv xs.length σ H → D.nx σ H) :
    ∃ W : Nat → Nat → St → Hp → Prop, (∃ m, W 0 m σ H) ∧ ∀ i m σ H, W i m σ H →
      ((Itl K a).stop i H ∧ D.nx σ H) ∨ ((Itl K a).go i H ∧ ∃ N : St → Hp → Prop, (∀ σ' H', N σ' H' → ∃ m', m' < m ∧ W (i + 1) m' σ' H') ∧ ∀ x H', (Itl K a).yld i H x H' → g x σ H' fun σ2 H2 => tb { D with nx := N, ct := N, bk := D.nx } σ2 H2) := by
  refine ⟨fun i m σ H => m = xs.length - i ∧ i ≤ xs.length ∧ Pv i σ H, ⟨xs.length, by simp, Nat.zero_le _, h0⟩, ?_⟩
  rintro i m σ H ⟨rfl, hi, p⟩
  have q := hl i σ H hi p
  by_cases hlt : i < xs.length
  · refine .inr ⟨⟨xs, xs[i], q, by simp [hlt]⟩, Pv (i + 1), fun σ' H' p' => ⟨xs.length - (i + 1), by omega, rfl, hlt, p'⟩, fun x H' y => ?_⟩
    obtain ⟨e, y⟩ := y
    subst e
    exact hs i x σ _ (y xs q) p
  · have e : i = xs.length := by omega
    subst e
    exact .inl ⟨⟨xs, q, Nat.le_refl _⟩, hd σ H p⟩
theorem for_tup {K : PySem.W.Frag} {a : Addr} {xs : List V} {g : TG} {tb : TS} {D : Ends} {σ : St} {H : Hp} (Pv : Nat → St → Hp → Prop) (h0 : Pv 0 σ H) (hl : ∀ i σ H, i ≤ xs.length → Pv i σ H → SqT K H a xs)
    (hs : ∀ i x σ H, xs[i]? = some x → Pv i σ H → g x σ H fun σ2 H2 => tb { D with nx := Pv (i + 1), ct := Pv (i + 1), bk := D.nx } σ2 H2) (hd : ∀ σ H, Pv xs.length σ H → D.nx σ H) :
    ∃ W : Nat → Nat → St → Hp → Prop, (∃ m, W 0 m σ H) ∧ ∀ i m σ H, W i m σ H →
      ((Itt K a).stop i H ∧ D.nx σ H) ∨ ((Itt K a).go i H ∧ ∃ N : St → Hp → Prop, (∀ σ' H', N σ' H' → ∃ m', m' < m ∧ W (i + 1) m' σ' H') ∧ ∀ x H', (Itt K a).yld i H x H' → g x σ H' fun σ2 H2 => tb { D with nx := N, ct := N, bk := D.nx } σ2 H2) := by
  refine ⟨fun i m σ H => m = xs.length - i ∧ i ≤ xs.length ∧ Pv i σ H, ⟨xs.length, by simp, Nat.zero_le _, h0⟩, ?_⟩
  rintro i m σ H ⟨rfl, hi, p⟩
  have q := hl i σ H hi p
  by_cases hlt : i < xs.length
  · refine .inr ⟨⟨xs, xs[i], q, by simp [hlt]⟩, Pv (i + 1), fun σ' H' p' => ⟨xs.length - (i + 1), by omega, rfl, hlt, p'⟩, fun x H' y => ?_⟩
    obtain ⟨e, y⟩ := y
    subst e
    exact hs i x σ _ (y xs q) p
  · have e : i = xs.length := by omega
    subst e
    exact .inl ⟨⟨xs, q, Nat.le_refl _⟩, hd σ H p⟩
theorem for_range {lo : Int} {n : Nat} {g : TG} {tb : TS} {D : Ends} {σ : St} {H : Hp} (Pv : Nat → St → Hp → Prop) (h0 : Pv 0 σ H)
    (hs : ∀ i σ H, i < n → Pv i σ H → g (.int (lo + i)) σ H fun σ2 H2 => tb { D with nx := Pv (i + 1), ct := Pv (i + 1), bk := D.nx } σ2 H2) (hd : ∀ σ H, Pv n σ H → D.nx σ H) :
    ∃ W : Nat → Nat → St → Hp → Prop, (∃ m, W 0 m σ H) ∧ ∀ i m σ H, W i m σ H →
      ((Itr lo n).stop i H ∧ D.nx σ H) ∨ ((Itr lo n).go i H ∧ ∃ N : St → Hp → Prop, (∀ σ' H', N σ' H' → ∃ m', m' < m ∧ W (i + 1) m' σ' H') ∧ ∀ x H', (Itr lo n).yld i H x H' → g x σ H' fun σ2 H2 => tb { D with nx := N, ct := N, bk := D.nx } σ2 H2) := by
  refine ⟨fun i m σ H => m = n - i ∧ i ≤ n ∧ Pv i σ H, ⟨n, by simp, Nat.zero_le _, h0⟩, ?_⟩
  rintro i m σ H ⟨rfl, hi, p⟩
  by_cases hlt : i < n
  · refine .inr ⟨hlt, Pv (i + 1), fun σ' H' p' => ⟨n - (i + 1), by omega, rfl, hlt, p'⟩, fun x H' y => ?_⟩
    obtain ⟨e, y⟩ := y
    subst e y
    exact hs i σ _ hlt p
  · have e : i = n := by omega
    subst e
    exact .inl ⟨Nat.le_refl _, hd σ H p⟩
end L2
namespace L2
open PySem PySem.Spec PyProof.Rows
noncomputable abbrev R2 := V → V → Hp → VK → Prop
noncomputable def OpR (X : Cx) (f : Value → Value → Sem Value) (r : R2) : Prop :=
  ∀ (pins : List (Addr × Obj)) (s : Shared) (σ : St) (H : Hp) (x y : V) (v u : Value) (Q : VK), Inv X pins σ H s → RelV x v → RelV y u → r x y H Q →
    wpAny (model X.prog X.w) X.A (f v u) (EP X pins σ Q) X.xe s
noncomputable def UnR (X : Cx) (f : Value → Sem Value) (r : V → Hp → VK → Prop) : Prop :=
  ∀ (pins : List (Addr × Obj)) (s : Shared) (σ : St) (H : Hp) (x : V) (v : Value) (Q : VK), Inv X pins σ H s → RelV x v → r x H Q →
    wpAny (model X.prog X.w) X.A (f v) (EP X pins σ Q) X.xe s
noncomputable def CallR (X : Cx) (f : Value) (r : List V → Hp → VK → Prop) : Prop :=
  ∀ (pins : List (Addr × Obj)) (s : Shared) (σ : St) (H : Hp) (xs : List V) (us : List Value) (Q : VK), Inv X pins σ H s → Vals xs us → r xs H Q →
    wpAny (model X.prog X.w) X.A (call f us) (EP X pins σ Q) X.xe s
noncomputable def tOp (r : R2) (ta tb : TE) : TE := fun σ H Q => ta σ H fun x H1 => tb σ H1 fun y H2 => r x y H2 Q
noncomputable def tUn (r : V → Hp → VK → Prop) (ta : TE) : TE := fun σ H Q => ta σ H fun x H1 => r x H1 Q
noncomputable def rI (C : Int → Int → Prop) (g : Int → Int → V) : R2 := fun x y H Q => ∃ i j, x = .int i ∧ y = .int j ∧ C i j ∧ Q (g i j) H
noncomputable def rI0 (g : Int → Int → V) : R2 := fun x y H Q => ∃ i j, x = .int i ∧ y = .int j ∧ Q (g i j) H
noncomputable def rU (g : Int → V) : V → Hp → VK → Prop := fun x H Q => ∃ i, x = .int i ∧ Q (g i) H
section
variable {X : Cx} {a b c : Expr} {ta tb tc : TE} {pos : Pos}
theorem binT (ha : PE X a ta) (hb : PE X b tb) {pins : List (Addr × Obj)} {s : Shared} {σ : St} {H : Hp} {R : V → V → Hp → Prop} (I : Inv X pins σ H s)
    (h : ta σ H fun x H1 => tb σ H1 fun y H2 => R x y H2) {Q : Value → Shared → Prop} {f : Value → Value → Sem Value}
    (hf : ∀ v u s2 x y H2, Inv X pins σ H2 s2 → RelV x v → RelV y u → R x y H2 → wpAny (model X.prog X.w) X.A (f v u) Q X.xe s2) :
    wpAny (model X.prog X.w) X.A (eval a X.env) (fun v s₁ => wpAny (model X.prog X.w) X.A (eval b X.env) (fun u s₂ => wpAny (model X.prog X.w) X.A (f v u) Q X.xe s₂) X.xe s₁) X.xe s := by
  refine thn (ha pins s σ H _ I h) fun v s1 ⟨x, H1, I1, r1, q1⟩ => ?_
  refine thn (hb pins s1 σ H1 _ I1 q1) fun u s2 ⟨y, H2, I2, r2, q2⟩ => ?_
  exact hf v u s2 x y H2 I2 r1 r2 q2
theorem pe_op {op : Operator} {r : R2} (ho : OpR X (binaryOp op) r) (ha : PE X a ta) (hb : PE X b tb) : PE X (.BinOp a op b pos) (tOp r ta tb) := by
  intro pins s σ H Q I h
  exact wpAny_BinOp (binT ha hb I h fun v u s2 x y H2 I2 rx ry q => ho pins s2 σ H2 x y v u Q I2 rx ry q)
theorem pe_un {op : UnaryOp} {r : V → Hp → VK → Prop} (ho : UnR X (unaryOp op) r) (ha : PE X a ta) : PE X (.UnaryOp op a pos) (tUn r ta) := by
  intro pins s σ H Q I h
  exact UnaryOp_ (thn (ha pins s σ H _ I h) fun v s1 ⟨x, H1, I1, r1, q1⟩ => ho pins s1 σ H1 x v Q I1 r1 q1)
theorem opI {f : Value → Value → Sem Value} {C : Int → Int → Prop} {g : Int → Int → Int}
    (rule : ∀ (i j : Int) (t u : Tok) (s : Shared) (Q : Value → Shared → Prop) (E : Value → Shared → Prop), C i j → Q (.int (g i j) s.toks) { s with toks := s.toks + 1 } → wpAny (model X.prog X.w) X.A (f (.int i t) (.int j u)) Q E s) :
    OpR X f (rI C fun i j => .int (g i j)) := by
  intro pins s σ H x y v u Q I rx ry h
  obtain ⟨i, j, rfl, rfl, hc, q⟩ := h
  obtain ⟨t, rfl⟩ := rx
  obtain ⟨t', rfl⟩ := ry
  exact rule i j t t' s _ _ hc ⟨.int (g i j), H, I.tok _, ⟨_, rfl⟩, q⟩
theorem opI0 {f : Value → Value → Sem Value} {g : Int → Int → Int}
    (rule : ∀ (i j : Int) (t u : Tok) (s : Shared) (Q : Value → Shared → Prop) (E : Value → Shared → Prop), Q (.int (g i j) s.toks) { s with toks := s.toks + 1 } → wpAny (model X.prog X.w) X.A (f (.int i t) (.int j u)) Q E s) :
    OpR X f (rI0 fun i j => .int (g i j)) := by
  intro pins s σ H x y v u Q I rx ry h
  obtain ⟨i, j, rfl, rfl, q⟩ := h
  obtain ⟨t, rfl⟩ := rx
  obtain ⟨t', rfl⟩ := ry
  exact rule i j t t' s _ _ ⟨.int (g i j), H, I.tok _, ⟨_, rfl⟩, q⟩
theorem opB0 {f : Value → Value → Sem Value} {g : Int → Int → Bool}
    (rule : ∀ (i j : Int) (t u : Tok) (s : Shared) (Q : Value → Shared → Prop) (E : Value → Shared → Prop), Q (.bool (g i j)) s → wpAny (model X.prog X.w) X.A (f (.int i t) (.int j u)) Q E s) :
    OpR X f (rI0 fun i j => .bl (g i j)) := by
  intro pins s σ H x y v u Q I rx ry h
  obtain ⟨i, j, rfl, rfl, q⟩ := h
  obtain ⟨t, rfl⟩ := rx
  obtain ⟨t', rfl⟩ := ry
  exact rule i j t t' s _ _ ⟨.bl (g i j), H, I, rfl, q⟩
noncomputable def CDiv (i j : Int) : Prop := 0 < j ∧ j < 1073741824
noncomputable def CDivN (i j : Int) : Prop := j ≠ 0 ∧ j.natAbs < 1073741824
noncomputable def CPow (i j : Int) : Prop := 0 ≤ j ∧ j ≤ 1000000 ∧ i.natAbs < 2 ^ 64
noncomputable def CMul (i j : Int) : Prop := (-(2 ^ 64) < i ∧ i < 2 ^ 64) ∨ (-(2 ^ 64) < j ∧ j < 2 ^ 64)
theorem CMul.ok {i j : Int} (h : CMul i j) : IntMulOk i j := by
  rcases h with ⟨h1, h2⟩ | ⟨h1, h2⟩
  · exact .of_left (intBits_le_64 h1 h2)
  · exact .of_right (intBits_le_64 h1 h2)
theorem two_pow_nn (k : Nat) : (0 : Int) ≤ 2 ^ k := by
  rw [two_pow_cast]
  exact Int.natCast_nonneg _
theorem op_add : OpR X (binaryOp .Add) (rI0 fun i j => .int (i + j)) := opI0 fun _ _ _ _ _ _ _ q => add_int q
theorem op_sub : OpR X (binaryOp .Sub) (rI0 fun i j => .int (i - j)) := opI0 fun _ _ _ _ _ _ _ q => sub_int q
theorem op_mul : OpR X (binaryOp .Mult) (rI CMul fun i j => .int (i * j)) := opI fun _ _ _ _ _ _ _ hc q => mul_int q hc.ok
theorem op_fdiv : OpR X (binaryOp .FloorDiv) (rI CDiv fun i j => .int (i / j)) := opI fun i j _ _ _ _ _ hc q => by
  have h1 : (0 : Int) < j := hc.1
  have h2 : j < 1073741824 := hc.2
  exact floordiv_int (by omega) (by rw [Int.fdiv_eq_ediv_of_nonneg i (by omega)]; exact q) (.inl (PyProof.noPylong_small (by omega)))
theorem op_mod : OpR X (binaryOp .Mod) (rI (fun _ j => 0 < j) fun i j => .int (i % j)) := opI fun i j _ _ _ _ _ hc q => by
  have h1 : (0 : Int) < j := hc
  exact mod_int' (by omega) (by rw [Int.fmod_eq_emod_of_nonneg i (by omega)]; exact q)
theorem op_pow : OpR X (binaryOp .Pow) (rI CPow fun i j => .int (i ^ j.toNat)) := opI fun _ _ _ _ _ _ _ hc q => pow_int_small hc.1 hc.2.1 hc.2.2 q
theorem op_shl : OpR X (binaryOp .LShift) (rI CPow fun i j => .int (i * 2 ^ j.toNat)) := opI fun _ _ _ _ _ _ _ hc q => lshift_int_small hc.1 hc.2.1 hc.2.2 q
theorem op_shr : OpR X (binaryOp .RShift) (rI (fun _ j => 0 ≤ j) fun i j => .int (i / 2 ^ j.toNat)) := opI fun i j _ _ _ _ _ hc q =>
  rshift_int hc (by rw [Int.fdiv_eq_ediv_of_nonneg i (two_pow_nn _)]; exact q)
theorem op_and : OpR X (binaryOp .BitAnd) (rI0 fun i j => .int (Builtin.bitAnd i j)) := opI0 fun _ _ _ _ _ _ _ q => and_int q
theorem op_or : OpR X (binaryOp .BitOr) (rI0 fun i j => .int (Builtin.bitOr i j)) := opI0 fun _ _ _ _ _ _ _ q => or_int q
theorem op_xor : OpR X (binaryOp .BitXor) (rI0 fun i j => .int (Builtin.bitXor i j)) := opI0 fun _ _ _ _ _ _ _ q => xor_int q
theorem unI {f : Value → Sem Value} {g : Int → Int}
    (rule : ∀ (i : Int) (t : Tok) (s : Shared) (Q : Value → Shared → Prop) (E : Value → Shared → Prop), Q (.int (g i) s.toks) { s with toks := s.toks + 1 } → wpAny (model X.prog X.w) X.A (f (.int i t)) Q E s) :
    UnR X f (rU fun i => .int (g i)) := by
  intro pins s σ H x v Q I rx h
  obtain ⟨i, rfl, q⟩ := h
  obtain ⟨t, rfl⟩ := rx
  exact rule i t s _ _ ⟨.int (g i), H, I.tok _, ⟨_, rfl⟩, q⟩
theorem un_neg : UnR X (unaryOp .USub) (rU fun i => .int (-i)) := unI fun _ _ _ _ _ q => neg_int q
end
noncomputable def scal : V → V → Bool
  | .non, .non => true | .non, .int _ => true | .int _, .non => true | .non, .bl _ => true | .bl _, .non => true | .non, .str _ => true | .str _, .non => true
  | .int _, .int _ => true | .bl _, .bl _ => true | .str _, .str _ => true | .byt _, .byt _ => true
  | .int _, .str _ => true | .str _, .int _ => true | .bl _, .str _ => true | .str _, .bl _ => true
  | _, _ => false
noncomputable def rEq : R2 := fun x y H Q => scal x y = true ∧ Q (.bl (decide (x = y))) H
noncomputable def rNe : R2 := fun x y H Q => scal x y = true ∧ Q (.bl (!decide (x = y))) H
theorem dec_int {i j : Int} : decide (V.int i = V.int j) = (i == j) := by
  rw [Bool.eq_iff_iff]
  simp
theorem dec_bl {i j : Bool} : decide (V.bl i = V.bl j) = (i == j) := by
  rw [Bool.eq_iff_iff]
  simp
theorem dec_str {i j : Str} : decide (V.str i = V.str j) = (i == j) := by
  rw [Bool.eq_iff_iff]
  simp
theorem dec_byt {i j : Array UInt8} : decide (V.byt i = V.byt j) = (i.toList == j.toList) := by
  rw [Bool.eq_iff_iff]
  cases i
  cases j
  simp
section
variable {X : Cx} {a b c : Expr} {ta tb tc : TE} {pos : Pos}
theorem fin_bl {pins : List (Addr × Obj)} {σ : St} {H : Hp} {s : Shared} {Q : VK} {k k' : Bool} (I : Inv X pins σ H s) (q : Q (.bl k) H) (e : k = k') : EP X pins σ Q (.bool k') s := by
  subst e
  exact ⟨.bl k, H, I, rfl, q⟩
theorem op_eq : OpR X (compareOp .Eq) rEq := by
  intro pins s σ H x y v u Q I rx ry h
  obtain ⟨hs, q⟩ := h
  cases x with
  | non =>
    cases rx
    cases y with
    | non => cases ry; exact PySem.EqNone.eq_none_none (fin_bl I q (by simp))
    | bl j => cases ry; exact PySem.EqNone.eq_none_bool (fin_bl I q (by simp))
    | int j => obtain ⟨t', rfl⟩ := ry; exact PySem.EqNone.eq_none_int (fin_bl I q (by simp))
    | str j => obtain ⟨t', rfl⟩ := ry; exact PySem.EqNone.eq_none_str (fin_bl I q (by simp))
    | _ => exact absurd (show false = true from hs) Bool.false_ne_true
  | bl i =>
    cases rx
    cases y with
    | non => cases ry; exact PySem.EqNone.eq_bool_none (fin_bl I q (by simp))
    | bl j => cases ry; exact eq_bool (fin_bl I q dec_bl)
    | str j => obtain ⟨t', rfl⟩ := ry; exact PySem.EqMixed.eq_bool_str (fin_bl I q (by simp))
    | _ => exact absurd (show false = true from hs) Bool.false_ne_true
  | int i =>
    obtain ⟨t, rfl⟩ := rx
    cases y with
    | non => cases ry; exact PySem.EqNone.eq_int_none (fin_bl I q (by simp))
    | int j => obtain ⟨t', rfl⟩ := ry; exact eq_int (fin_bl I q dec_int)
    | str j => obtain ⟨t', rfl⟩ := ry; exact PySem.EqMixed.eq_int_str (fin_bl I q (by simp))
    | _ => exact absurd (show false = true from hs) Bool.false_ne_true
  | str i =>
    obtain ⟨t, rfl⟩ := rx
    cases y with
    | non => cases ry; exact PySem.EqNone.eq_str_none (fin_bl I q (by simp))
    | bl j => cases ry; exact PySem.EqMixed.eq_str_bool (fin_bl I q (by simp))
    | int j => obtain ⟨t', rfl⟩ := ry; exact PySem.EqMixed.eq_str_int (fin_bl I q (by simp))
    | str j => obtain ⟨t', rfl⟩ := ry; exact eq_str (fin_bl I q dec_str)
    | _ => exact absurd (show false = true from hs) Bool.false_ne_true
  | byt i =>
    obtain ⟨t, rfl⟩ := rx
    cases y with
    | byt j => obtain ⟨t', rfl⟩ := ry; exact PySem.W.eq_bytes (fin_bl I q dec_byt)
    | _ => exact absurd (show false = true from hs) Bool.false_ne_true
  | _ => cases y <;> exact absurd (show false = true from hs) Bool.false_ne_true
theorem op_ne : OpR X (compareOp .NotEq) rNe := by
  intro pins s σ H x y v u Q I rx ry h
  obtain ⟨hs, q⟩ := h
  cases x with
  | non =>
    cases rx
    cases y with
    | non => cases ry; exact PySem.EqNone.ne_none_none (fin_bl I q (by simp))
    | bl j => cases ry; exact PySem.EqNone.ne_none_bool (fin_bl I q (by simp))
    | int j => obtain ⟨t', rfl⟩ := ry; exact PySem.EqNone.ne_none_int (fin_bl I q (by simp))
    | str j => obtain ⟨t', rfl⟩ := ry; exact PySem.EqNone.ne_none_str (fin_bl I q (by simp))
    | _ => exact absurd (show false = true from hs) Bool.false_ne_true
  | bl i =>
    cases rx
    cases y with
    | non => cases ry; exact PySem.EqNone.ne_bool_none (fin_bl I q (by simp))
    | bl j => cases ry; exact ne_bool (fin_bl I q (congrArg not dec_bl))
    | str j => obtain ⟨t', rfl⟩ := ry; exact PySem.EqMixed.ne_bool_str (fin_bl I q (by simp))
    | _ => exact absurd (show false = true from hs) Bool.false_ne_true
  | int i =>
    obtain ⟨t, rfl⟩ := rx
    cases y with
    | non => cases ry; exact PySem.EqNone.ne_int_none (fin_bl I q (by simp))
    | int j => obtain ⟨t', rfl⟩ := ry; exact ne_int (fin_bl I q (congrArg not dec_int))
    | str j => obtain ⟨t', rfl⟩ := ry; exact PySem.EqMixed.ne_int_str (fin_bl I q (by simp))
    | _ => exact absurd (show false = true from hs) Bool.false_ne_true
  | str i =>
    obtain ⟨t, rfl⟩ := rx
    cases y with
    | non => cases ry; exact PySem.EqNone.ne_str_none (fin_bl I q (by simp))
    | bl j => cases ry; exact PySem.EqMixed.ne_str_bool (fin_bl I q (by simp))
    | int j => obtain ⟨t', rfl⟩ := ry; exact PySem.EqMixed.ne_str_int (fin_bl I q (by simp))
    | str j => obtain ⟨t', rfl⟩ := ry; exact ne_str (fin_bl I q (congrArg not dec_str))
    | _ => exact absurd (show false = true from hs) Bool.false_ne_true
  | byt i =>
    obtain ⟨t, rfl⟩ := rx
    cases y with
    | byt j => obtain ⟨t', rfl⟩ := ry; exact PySem.W.ne_bytes (fin_bl I q (congrArg not dec_byt))
    | _ => exact absurd (show false = true from hs) Bool.false_ne_true
  | _ => cases y <;> exact absurd (show false = true from hs) Bool.false_ne_true
theorem op_lt : OpR X (compareOp .Lt) (rI0 fun i j => .bl (decide (i < j))) := opB0 fun _ _ _ _ _ _ _ q => lt_int q
theorem op_le : OpR X (compareOp .LtE) (rI0 fun i j => .bl (decide (i ≤ j))) := opB0 fun _ _ _ _ _ _ _ q => le_int q
theorem op_gt : OpR X (compareOp .Gt) (rI0 fun i j => .bl (decide (j < i))) := opB0 fun _ _ _ _ _ _ _ q => gt_int q
theorem op_ge : OpR X (compareOp .GtE) (rI0 fun i j => .bl (decide (j ≤ i))) := opB0 fun _ _ _ _ _ _ _ q => ge_int q
theorem nomark (b : Expr) {op : CmpOp} (h : op ≠ .In := by decide) (h2 : op ≠ .NotIn := by decide) : behindInMarks op b = false := by
  have e1 : (op == CmpOp.In) = false := by cases op <;> first | rfl | exact absurd rfl h
  have e2 : (op == CmpOp.NotIn) = false := by cases op <;> first | rfl | exact absurd rfl h2
  cases b <;> simp [behindInMarks, e1, e2]
theorem pe_cmpR {op : CmpOp} {r : R2} (ho : OpR X (compareOp op) r) (ha : PE X a ta) (hb : PE X b tb) (hm : behindInMarks op b = false) : PE X (.Compare a [op] [b] pos) (tOp r ta tb) := by
  intro pins s σ H Q I h
  exact wpAny_Compare1 (binT ha hb I h fun v u s2 x y H2 I2 rx ry q => ho pins s2 σ H2 x y v u Q I2 rx ry q) hm
noncomputable def tTest (t : TE) : TT := fun σ H Q => t σ H fun x H' => ∃ k, x = .bl k ∧ Q k H'
theorem pt_cmpR {op : CmpOp} {r : R2} (ho : OpR X (compareOp op) r) (ha : PE X a ta) (hb : PE X b tb) (hm : behindInMarks op b = false) : PT X (.Compare a [op] [b] pos) (tTest (tOp r ta tb)) := by
  intro pins s σ H Q I h
  refine wpAny_isTrue_Compare1 (thn (ha pins s σ H _ I h) fun v s1 ⟨x, H1, I1, r1, q1⟩ => thn (hb pins s1 σ H1 _ I1 q1) fun u s2 ⟨y, H2, I2, r2, q2⟩ =>
    thn (ho pins s2 σ H2 x y v u _ I2 r1 r2 q2) fun c s3 ⟨z, H3, I3, r3, k, e, q3⟩ => ?_) hm
  subst e
  cases r3
  exact wpAny_truthy_bool ⟨H3, I3, q3⟩
noncomputable def tChain (r r' : R2) (ta tb tc : TE) : TE := fun σ H Q => ta σ H fun x H1 => tb σ H1 fun y H2 => r x y H2 fun z H3 => ∃ k, z = .bl k ∧
  (if k = true then tc σ H3 fun w' H4 => r' y w' H4 Q else Q (.bl false) H3)
theorem pt_chain {op op' : CmpOp} {r r' : R2} (ho : OpR X (compareOp op) r) (ho' : OpR X (compareOp op') r') (ha : PE X a ta) (hb : PE X b tb) (hc : PE X c tc)
    (hm : lastMarks [op, op'] [b, c] = false := by with_unfolding_all rfl) : PT X (.Compare a [op, op'] [b, c] pos) (tTest (tChain r r' ta tb tc)) := by
  intro pins s σ H Q I h
  refine isTrue_chain (thn (ha pins s σ H _ I h) fun v s1 ⟨x, H1, I1, r1, q1⟩ => test_link (thn (hb pins s1 σ H1 _ I1 q1) fun u s2 ⟨y, H2, I2, r2, q2⟩ =>
    thn (ho pins s2 σ H2 x y v u _ I2 r1 r2 q2) fun d s3 ⟨z, H3, I3, r3, k, e, q3⟩ => ?_)) hm
  subst e
  cases r3
  refine wpAny_truthy_bool ?_
  cases k with
  | false =>
    obtain ⟨k', e', q'⟩ := q3
    cases e'
    exact ite_ff ⟨H3, I3, q'⟩
  | true =>
    refine ite_tt (test_last (thn (hc pins s3 σ H3 _ I3 q3) fun w' s4 ⟨z', H4, I4, r4, q4⟩ => thn (ho' pins s4 σ H4 y z' u w' _ I4 r2 r4 q4) fun d' s5 ⟨z2, H5, I5, r5, k2, e2, q5⟩ => ?_))
    subst e2
    cases r5
    exact wpAny_truthy_bool ⟨H5, I5, q5⟩
theorem line63 : (sizeLine : Nat) < 2 ^ 63 := by rw [sizeLine_eq]; decide
theorem vals1 {x : V} {us : List Value} (r : Vals [x] us) : ∃ u, us = [u] ∧ RelV x u := by
  cases r with
  | cons r1 r2 => cases r2; exact ⟨_, rfl, r1⟩
theorem vals2 {x y : V} {us : List Value} (r : Vals [x, y] us) : ∃ u w', us = [u, w'] ∧ RelV x u ∧ RelV y w' := by
  cases r with
  | cons r1 r2 =>
    cases r2 with
    | cons r3 r4 => cases r4; exact ⟨_, _, rfl, r1, r3⟩
theorem call_int1 : CallR X (.type "int") (fun xs H Q => (∃ i, xs = [.int i] ∧ Q (.int i) H) ∨ ∃ k, xs = [.bl k] ∧ Q (.int (if k then 1 else 0)) H) := by
  intro pins s σ H xs us Q I r h
  rcases h with ⟨i, rfl, q⟩ | ⟨k, rfl, q⟩
  · obtain ⟨u, rfl, t, rfl⟩ := vals1 r
    exact call_int_int ⟨.int i, H, I, ⟨_, rfl⟩, q⟩
  · obtain ⟨u, rfl, r1⟩ := vals1 r
    cases r1
    exact call_int_bool ⟨.int (if k then 1 else 0), H, I.tok _, ⟨_, rfl⟩, q⟩
noncomputable def LenV (K : PySem.W.Frag) (x : V) (H : Hp) (n : Nat) : Prop :=
  match x with
  | .str y => y.length ≤ sizeLine ∧ n = y.length
  | .byt y => y.size ≤ sizeLine ∧ n = y.size
  | .ref p => (∃ xs, SqL K H p xs ∧ n = xs.length) ∨ ∃ xs, SqT K H p xs ∧ n = xs.length
  | _ => False
theorem call_len : CallR X (.builtin "len") (fun xs H Q => ∃ x n, xs = [x] ∧ LenV X.K x H n ∧ Q (.int n) H) := by
  intro pins s σ H xs us Q I r h
  obtain ⟨x, n, rfl, e, q⟩ := h
  obtain ⟨u, rfl, rx⟩ := vals1 r
  have hl := line63
  have hs : sizeLine = 16777216 := sizeLine_eq
  cases x with
  | str y =>
    obtain ⟨t, rfl⟩ := rx
    obtain ⟨hy, e'⟩ : y.length ≤ sizeLine ∧ n = y.length := e
    subst e'
    exact len_str (by omega) ⟨.int _, H, I.tok _, ⟨_, rfl⟩, q⟩
  | byt y =>
    obtain ⟨t, rfl⟩ := rx
    obtain ⟨hy, e'⟩ : y.size ≤ sizeLine ∧ n = y.size := e
    subst e'
    exact PySem.W.len_bytes (by omega) ⟨.int _, H, I.tok _, ⟨_, rfl⟩, q⟩
  | ref p =>
    cases rx
    have e' : (∃ xs, SqL X.K H p xs ∧ n = xs.length) ∨ ∃ xs, SqT X.K H p xs ∧ n = xs.length := e
    rcases e' with ⟨xs, hx, e'⟩ | ⟨xs, hx, e'⟩
    · subst e'
      obtain ⟨its, r', pl, hz⟩ := I.list hx
      have hlen := r'.length
      exact Calls.call_len_list pl.isList (by simp only [List.size_toArray]; omega) ⟨.int xs.length, H, I.tok _, ⟨_, by simp only [List.size_toArray]; rw [hlen]⟩, q⟩
    · subst e'
      obtain ⟨its, r', pl, hz⟩ := I.tuple hx
      have hlen := r'.length
      exact len_tuple pl (by simp only [List.size_toArray]; omega) ⟨.int xs.length, H, I.tok _, ⟨_, by simp only [List.size_toArray]; rw [hlen]⟩, q⟩
  | _ => exact (show False from e).elim
end
end L2
namespace L2
open PySem PySem.Spec PyProof.Rows
structure ObjM (h : Heap) (x dx C : Addr) (mA : Str → Option Value) : Prop where
  obj : h.get? x = some (PySem.W.instObj C dx)
  ns : h.Ns1 dx mA
  ne : dx ≠ x
theorem lookIn_ns {h : Heap} {dx : Addr} {mA : Str → Option Value} (n : h.Ns1 dx mA) : ∃ od, h.get? dx = some od ∧ ∀ name, PySem.W.lookIn name od = some (mA name) := by
  obtain ⟨o, es, ep, ho, hd, hk, _, hm⟩ := n
  refine ⟨o, ho, fun name => ?_⟩
  have e := hm name
  unfold nsFind findBy at e
  rw [← Array.find?_toList] at e
  unfold PySem.W.lookIn
  rw [hd]
  dsimp only
  split
  · rename_i y q
    rw [q] at e
    exact congrArg some e
  · rename_i q
    rw [q] at e
    have a : es.toList.any (·.refKey) = false := by
      rw [List.any_eq_false]
      intro y hy
      obtain ⟨z, t, hkey⟩ := hk y (Array.mem_toList_iff.mp hy)
      simp [DictEntry.refKey, hkey]
    have a' : ¬ es.toList.any (·.refKey) = true := by rw [a]; exact Bool.false_ne_true
    rw [if_neg a']
    exact congrArg some e
theorem ObjM.look {h : Heap} {x dx C : Addr} {mA : Str → Option Value} (I : ObjM h x dx C mA) : ∃ od, PySem.W.InstAt h x (PySem.W.instObj C dx) C (some od) ∧ ∀ name, PySem.W.lookIn name od = some (mA name) :=
  let ⟨od, ho, hl⟩ := lookIn_ns I.ns
  ⟨od, ⟨I.obj, rfl, rfl, ho⟩, hl⟩
section
variable {prog : Program} {w : World} {A : Around} {E : Value → Shared → Prop} {s : Shared} {K : PySem.W.Frag} {x dx C f : Addr} {mA : Str → Option Value} {name : Str} {v : Value}
theorem get_map {expr : Bool} {Q : Value → Shared → Prop} (X : K.In s.heap) (I : ObjM s.heap x dx C mA) (hg : PySem.W.plainGet K C name = true) (hh : PySem.W.hasDictIn K C = true)
    (ha : PySem.W.findIn K (.ref C) name = some none) (hv : mA name = some v) (hv' : PySem.W.handedIn v = true) (h : Q v { s with toks := s.toks + 1 }) :
    wpAny (model prog w) A (getAttr (.ref x) name expr) Q E s := by
  obtain ⟨od, J, hl⟩ := I.look
  exact PySem.W.get_value X J (PySem.W.plainGet_of hg).1 (PySem.W.findObj_own hh ha rfl (by rw [hl, hv])) hv' h
theorem get_meth {pl : Sem Bool} {Q : Value × List Value → Shared → Prop} (X : K.In s.heap) (I : ObjM s.heap x dx C mA) (hg : PySem.W.plainGet K C name = true)
    (hf : PySem.W.findIn K (.ref C) name = some (some (.ref f))) (ht : PySem.W.isFn K (.ref f) = true) (hv : mA name = none) (h : Q (.ref f, [.ref x]) s) :
    wpAny (model prog w) A (getMethod (.ref x) name pl) Q E s := by
  obtain ⟨od, J, hl⟩ := I.look
  exact PySem.W.method_fn X J (PySem.W.plainGet_of hg).1 (PySem.W.plainGet_of hg).2 hf (beq_iff_eq.mp ht) (by show (PySem.W.lookIn name od).map (·.isSome) = some false; rw [hl, hv]; rfl) h
theorem set_map {ns : List Str} {Q : Unit → Shared → Prop} (X : K.In s.heap) (I : ObjM s.heap x dx C mA)
    (hs : PySem.W.findIn K (.ref C) "__setattr__" = some (some (.builtin "object.__setattr__"))) (hp : PySem.W.plainOver K C = true) (ht : PySem.W.takerIn K C name = some none) (hh : PySem.W.hasDictIn K C = true)
    (hw : PySem.Within mA ns) (hsz : ns.length ≤ sizeLine)
    (h : ∀ h', ObjM h' x dx C (fun y => if y = name then some v else mA y) → Heap.SameBut dx s.heap h' → Q () { s with heap := h', toks := s.toks + 2 }) :
    wpAny (model prog w) A (setAttr (.ref x) name v) Q E s := by
  obtain ⟨od, J, hl⟩ := I.look
  refine PySem.W.set_plain X J hs (PySem.W.osa_open (s := { s with toks := s.toks + 1 }) (r := none) X J hp ht fun b => ?_)
  obtain ⟨cd, hc, hd'⟩ := PySem.W.any_some hh
  have hx : s.heap.get? x = some ⟨.ref C, some dx, .plain, #[]⟩ := I.obj
  refine wpAny_bind (wpAny_pure (wpAny_bind (wpAny_bind (wpAny_loadPart hx (wpAny_bind (PySem.W.Looks.here (s := { s with toks := s.toks + 1 }) (PySem.W.looks_clsIn X hc) ?_))))))
  rw [hd']
  refine wpAny_pure (a := some dx) (wpAny_bind (wpAny_pure (wpAny_bind ?_)))
  refine wpAny_nsSet1 (s := { s with toks := s.toks + 1 }) I.ns fun h' hn2 hs2 => ?_
  obtain ⟨oD, esD, epD, hoD, hdD, hcD⟩ := hn2.count (PySem.Within.cons name v hw)
  refine wpAny_bind (wpAny_lookBehind hoD (by rw [hdD]; exact pastItsLine_dict (Nat.le_trans hcD (by rw [List.length_cons]; omega))) ?_)
  exact wpAny_pure (h _ ⟨(hs2.2 _ (Ne.symm I.ne)).trans I.obj, hn2, I.ne⟩ hs2)
theorem make_map {R : Result → Shared → Prop} {vs : List Value} {kw : List (Str × Value)} (X : K.In s.heap) (hm : PySem.W.makesIn K C = true)
    (hi : PySem.W.findIn K (.ref C) "__init__" = some (some (.ref f))) (hf : PySem.W.typeIn K (.ref f) = some (.type "function"))
    (h : codeAny (model prog w) (A.under (.builtin "type.__call__" ⟨.ref C :: vs, kw⟩)) (.call (.ref f) ⟨.ref (s.heap.objs.size + 1) :: vs, kw⟩) (PySem.W.InitBack (s.heap.objs.size + 1) R)
      { s with heap := (s.heap.push PySem.W.emptyDict).push (PySem.W.instObj C s.heap.objs.size) }) :
    codeAny (model prog w) A (.call (.ref C) ⟨vs, kw⟩) R s := by
  obtain ⟨hh, g, d, t, os⟩ := s
  exact PySem.W.make_core (PySem.W.makes_of X hm) (PySem.W.looks_findIn X hi) (fun self => PySem.W.bind_fn X self hf) (.inl rfl) h
end
noncomputable def putF (f : Str) (v : V) : List (Str × V) → List (Str × V)
  | [] => [(f, v)]
  | (g, x) :: r => if g = f then (g, v) :: r else (g, x) :: putF f v r
theorem lookup_putF (f g : Str) (v : V) : ∀ fs : List (Str × V), (putF f v fs).lookup g = if g = f then some v else fs.lookup g
  | [] => by
    show List.lookup g [(f, v)] = _
    by_cases h : g = f
    · have hb : (g == f) = true := beq_iff_eq.mpr h
      simp only [List.lookup, hb, if_pos h]
    · have hb : (g == f) = false := beq_eq_false_iff_ne.mpr h
      simp only [List.lookup, hb, if_neg h]
  | (k, x) :: r => by
    have ih := lookup_putF f g v r
    rw [show putF f v ((k, x) :: r) = (if k = f then (k, v) :: r else (k, x) :: putF f v r) from rfl]
    by_cases hk : k = f
    · rw [if_pos hk]
      by_cases h : g = k
      · have hb : (g == k) = true := beq_iff_eq.mpr h
        simp only [List.lookup, hb, if_pos (h.trans hk)]
      · have hb : (g == k) = false := beq_eq_false_iff_ne.mpr h
        simp only [List.lookup, hb, if_neg (fun e : g = f => h (e.trans hk.symm))]
    · rw [if_neg hk]
      by_cases h : g = k
      · have hb : (g == k) = true := beq_iff_eq.mpr h
        simp only [List.lookup, hb, if_neg (fun e : g = f => hk (h.symm.trans e))]
      · have hb : (g == k) = false := beq_eq_false_iff_ne.mpr h
        simp only [List.lookup, hb]
        exact ih
theorem keys_putF (f : Str) (v : V) : ∀ fs : List (Str × V), f ∈ (putF f v fs).map (·.1) ∧ ∀ g, g ∈ fs.map (·.1) → g ∈ (putF f v fs).map (·.1)
  | [] => ⟨by simp [putF], fun g h => by simp at h⟩
  | (k, x) :: r => by
    obtain ⟨i1, i2⟩ := keys_putF f v r
    rw [show putF f v ((k, x) :: r) = (if k = f then (k, v) :: r else (k, x) :: putF f v r) from rfl]
    by_cases hk : k = f
    · rw [if_pos hk]
      subst hk
      exact ⟨by simp, fun g h => by simpa using h⟩
    · rw [if_neg hk]
      refine ⟨?_, fun g h => ?_⟩
      · rw [List.map_cons]
        exact List.mem_cons_of_mem _ i1
      · rw [List.map_cons] at h ⊢
        rcases List.mem_cons.mp h with e | e
        · exact List.mem_cons.mpr (.inl e)
        · exact List.mem_cons_of_mem _ (i2 g e)
theorem length_putF (f : Str) (v : V) : ∀ fs : List (Str × V), (putF f v fs).length ≤ fs.length + 1
  | [] => by simp [putF]
  | (k, x) :: r => by
    have ih := length_putF f v r
    rw [show putF f v ((k, x) :: r) = (if k = f then (k, v) :: r else (k, x) :: putF f v r) from rfl]
    by_cases hk : k = f
    · rw [if_pos hk, List.length_cons, List.length_cons]; omega
    · rw [if_neg hk, List.length_cons, List.length_cons]; omega
theorem RelO.some_of {v : V} {o : Option Value} (r : RelO (some v) o) : ∃ u, o = some u ∧ RelV v u := by
  cases o with
  | none => exact (show False from r).elim
  | some u => exact ⟨u, rfl, r⟩
theorem RelO.none_of {o : Option Value} (r : RelO none o) : o = none := by
  cases o with
  | none => rfl
  | some u => exact (show False from r).elim
theorem handed_of {v : V} {u : Value} (r : RelV v u) : PySem.W.handedIn u = true := by
  cases v with
  | non => cases (show u = Value.none from r); rfl
  | bl b => cases (show u = Value.bool b from r); rfl
  | int i => obtain ⟨t, e⟩ := (show ∃ t, u = Value.int i t from r); cases e; rfl
  | str x => obtain ⟨t, e⟩ := (show ∃ t, u = Value.str x t from r); cases e; rfl
  | byt b => obtain ⟨t, e⟩ := (show ∃ t, u = Value.bytes b t from r); cases e; rfl
  | flt b => obtain ⟨t, e⟩ := (show ∃ t, u = Value.float b t from r); cases e; rfl
  | ref a => cases (show u = Value.ref a from r); rfl
  | ty n => cases (show u = Value.type n from r); rfl
section
variable {P : Program} {w : World} {H H' : Hp} {h h' : Heap} {a C dx : Addr} {fs fs' : List (Str × V)}
theorem ins_get (hok : HOk P w H h) (e : H a = some (.ins C dx fs)) : ∃ mA, ObjM h a dx C mA ∧ (∀ f, RelO (fs.lookup f) (mA f)) ∧ PySem.Within mA (fs.map (·.1)) ∧ fs.length ≤ 1000 ∧ H dx = some (.own a) := by
  obtain ⟨d, z, ne, ob, mA, n, r, q⟩ := (show ObjOk P w H h a (.ins C dx fs) from hok a _ e)
  exact ⟨mA, ⟨ob, n, ne⟩, r, q, z, d⟩
end
structure Cls (K : PySem.W.Frag) (C : Addr) : Prop where
  pg : PySem.W.plainGet K C Str.empty = true
  hd : PySem.W.hasDictIn K C = true
  po : PySem.W.plainOver K C = true
  sa : PySem.W.findIn K (.ref C) "__setattr__" = some (some (.builtin "object.__setattr__"))
theorem Cls.get {K : PySem.W.Frag} {C : Addr} (c : Cls K C) (f : Str) : PySem.W.plainGet K C f = true := c.pg
noncomputable def NoAttr (K : PySem.W.Frag) (C : Addr) (f : Str) : Prop := PySem.W.findIn K (.ref C) f = some none
theorem NoAttr.taker {K : PySem.W.Frag} {C : Addr} {f : Str} (n : NoAttr K C f) : PySem.W.takerIn K C f = some none := by
  unfold PySem.W.takerIn
  rw [show PySem.W.findIn K (.ref C) f = some none from n]
  rfl
structure Con (K : PySem.W.Frag) (C : Addr) (f : Str) (v : V) (u : Value) : Prop where
  at_ : PySem.W.findIn K (.ref C) f = some (some u)
  rel : RelV v u
  get : PySem.W.specialIn K u "__get__" = some none
  cp : PySem.W.copiedNames.contains f = false
structure Meth (K : PySem.W.Frag) (C : Addr) (m : Str) (f : Addr) : Prop where
  at_ : PySem.W.findIn K (.ref C) m = some (some (.ref f))
  fn : PySem.W.isFn K (.ref f) = true
  kp : PySem.W.keepIn K (.ref f) = true
section
variable {X : Cx} {pins : List (Addr × Obj)} {σ : St} {H : Hp} {s : Shared} {a C dx : Addr} {fs : List (Str × V)} {f : Str} {v : V} {A : Around} {E : Value → Shared → Prop}
theorem getattr_ok {b : Bool} {Q : Value → Shared → Prop} (I : Inv X pins σ H s) (e : H a = some (.ins C dx fs)) (c : Cls X.K C) (n : NoAttr X.K C f) (l : fs.lookup f = some v)
    (h : ∀ u s', Inv X pins σ H s' → RelV v u → Q u s') : wpAny (model X.prog X.w) A (getAttr (.ref a) f b) Q E s := by
  obtain ⟨mA, O, r, _, _, _⟩ := ins_get I.hok e
  obtain ⟨u, hu, ru⟩ := RelO.some_of (v := v) (o := mA f) (by rw [← l]; exact r f)
  exact get_map I.kIn O (c.get f) c.hd n hu (handed_of ru) (h u _ (I.tok _) ru)
theorem getmeth_ok {m : Str} {g : Addr} {pl : Sem Bool} {Q : Value × List Value → Shared → Prop} (I : Inv X pins σ H s) (e : H a = some (.ins C dx fs)) (c : Cls X.K C) (k : Meth X.K C m g) (l : fs.lookup m = none)
    (h : Q (.ref g, [.ref a]) s) : wpAny (model X.prog X.w) A (getMethod (.ref a) m pl) Q E s := by
  obtain ⟨mA, O, r, _, _, _⟩ := ins_get I.hok e
  have hn : mA m = none := RelO.none_of (by rw [← l]; exact r m)
  exact get_meth I.kIn O (c.get m) k.at_ k.fn hn h
theorem setattr_ok {y : V} {u : Value} {Q : Unit → Shared → Prop} (I : Inv X pins σ H s) (e : H a = some (.ins C dx fs)) (c : Cls X.K C) (n : NoAttr X.K C f) (hl : fs.length < 1000) (ry : RelV y u)
    (h : ∀ s', Inv X pins σ (upd H a (.ins C dx (putF f y fs))) s' → Q () s') : wpAny (model X.prog X.w) A (setAttr (.ref a) f u) Q E s := by
  obtain ⟨mA, O, r, wi, _, ho⟩ := ins_get I.hok e
  have hz : (fs.map (·.1)).length ≤ sizeLine := by rw [List.length_map, sizeLine_eq]; omega
  refine set_map I.kIn O c.sa c.po n.taker c.hd wi hz fun h' O' sb => h _ ?_
  have hd : ∃ o, h'.get? dx = some o := let ⟨o, _, _, e', _⟩ := O'.ns; ⟨o, e'⟩
  refine I.write (x := a) (e := dx) (by rw [e]; exact True.intro) (.inr ho) (fun b q hb z => (sb.2 b hb).trans z) hd ?_
  refine ⟨by rw [upd_ne O.ne]; exact ho, ?_, O.ne, O'.obj, _, O'.ns, fun g => ?_, fun g hg => ?_⟩
  · have := length_putF f y fs; omega
  · show RelO ((putF f y fs).lookup g) (if g = f then some u else mA g)
    rw [lookup_putF]
    by_cases q : g = f
    · rw [if_pos q, if_pos q]; exact ry
    · rw [if_neg q, if_neg q]; exact r g
  · by_cases q : g = f
    · rw [q]; exact (keys_putF f y fs).1
    · refine (keys_putF f y fs).2 g (wi g fun z => hg ?_)
      show (if g = f then some u else mA g) = none
      rw [if_neg q]; exact z
theorem Inv.made (I : Inv X pins σ H s) : Inv X pins σ (upd (upd H s.heap.objs.size (.own (s.heap.objs.size + 1))) (s.heap.objs.size + 1) (.ins C s.heap.objs.size []))
    { s with heap := (s.heap.push PySem.W.emptyDict).push (PySem.W.instObj C s.heap.objs.size) } := by
  have e1 : (s.heap.push PySem.W.emptyDict).get? s.heap.objs.size = some PySem.W.emptyDict := Heap.get?_push_size s.heap rfl
  have e2 : ((s.heap.push PySem.W.emptyDict).push (PySem.W.instObj C s.heap.objs.size)).get? (s.heap.objs.size + 1) = some (PySem.W.instObj C s.heap.objs.size) := by
    have := Heap.get?_push_size (s.heap.push PySem.W.emptyDict) (o := PySem.W.instObj C s.heap.objs.size) rfl
    rwa [Heap.size_push] at this
  have e3 : (s.heap.push PySem.W.emptyDict).Ns s.heap.objs.size (fun _ => none) := ⟨PySem.W.emptyDict, #[], _, e1, rfl, (fun e he => absurd he (by simp)), fun _ => rfl⟩
  have I1 := I.laid (a := s.heap.objs.size) (o := .own (s.heap.objs.size + 1)) (h' := s.heap.push PySem.W.emptyDict) (t' := s.toks) (fun b u q => Heap.get?_push_of_some _ q) (Nat.le_refl _) ⟨_, e1⟩
  refine I1.laid (a := s.heap.objs.size + 1) (o := .ins C s.heap.objs.size []) (t' := s.toks) (fun b u q => Heap.get?_push_of_some _ q) (Nat.le_of_eq (Heap.size_push _ _)) ?_
  have ne : s.heap.objs.size ≠ s.heap.objs.size + 1 := Nat.ne_of_lt (Nat.lt_succ_self _)
  refine ⟨by rw [upd_ne ne, upd_same], Nat.zero_le _, ne, e2, fun _ => none, (Heap.Ns1.of_empty e3).at fun o q => Heap.get?_push_of_some _ q, fun _ => True.intro, fun y hy => absurd rfl hy⟩
theorem attr_of {prog : Program} {w : World} {env : Env} {e : Expr} {f : Str} {pos : Pos} {s : Shared} {Q : Value → Shared → Prop} (hb : attributeBase e f env (eval e env) = eval e env)
    (h : wpAny (model prog w) A (eval e env) (fun o s₁ => wpAny (model prog w) A (getAttr o f true) Q E s₁) E s) : wpAny (model prog w) A (eval (.Attribute e f pos) env) Q E s :=
  Attribute_any_ h (by rw [arm_eval_Attribute, hb])
end
noncomputable def tFld (K : PySem.W.Frag) (ta : TE) (f : Str) : TE := fun σ H Q => ta σ H fun x H1 => ∃ a C dx fs v, x = .ref a ∧ H1 a = some (.ins C dx fs) ∧ Cls K C ∧ NoAttr K C f ∧ fs.lookup f = some v ∧ Q v H1
noncomputable def sFld (K : PySem.W.Frag) (ta tv : TE) (f : Str) : TS := fun D σ H => tv σ H fun y H1 => ta σ H1 fun x H2 => ∃ a C dx fs, x = .ref a ∧ H2 a = some (.ins C dx fs) ∧ Cls K C ∧ NoAttr K C f ∧ fs.length < 1000 ∧
  D.nx σ (upd H2 a (.ins C dx (putF f y fs)))
section
variable {X : Cx} {o e value : Expr} {f : Str} {pos pos' tpos : Pos} {ta tv : TE}
theorem pe_fld (he : PE X e ta) (hb : attributeBase e f X.env (eval e X.env) = eval e X.env) : PE X (.Attribute e f pos) (tFld X.K ta f) := by
  intro pins s σ H Q I h
  refine attr_of hb (thn (he pins s σ H _ I h) fun u s1 ⟨x, H1, I1, rx, a, C, dx, fs, v, ex, ea, c, n, l, q⟩ => ?_)
  subst ex
  obtain rfl : u = Value.ref a := rx
  exact getattr_ok I1 ea c n l fun u' s2 I2 ru => ⟨v, H1, I2, ru, q⟩
theorem ps_fld (ha : PE X o ta) (hv : PE X value tv) (hs : swapsWith value (some (.Attribute o f pos')) pos.line X.env = pure false) : PS X (.Assign [.Attribute o f pos'] value pos) (sFld X.K ta tv f) := by
  intro pins s σ H D I h
  refine plainObj_wpAny_Assign_Attribute (thn (hv pins s σ H _ I h) fun u s1 ⟨y, H1, I1, ry, q⟩ => thn (ha pins s1 σ H1 _ I1 q) fun ov s2 ⟨x, H2, I2, rx, a, C, dx, fs, ex, ea, c, n, l, q2⟩ => ?_) hs
  subst ex
  obtain rfl : ov = Value.ref a := rx
  exact setattr_ok I2 ea c n l ry fun s3 I3 => ⟨σ, _, I3, q2⟩
end
section
variable {X : Cx} {pins : List (Addr × Obj)} {σ : St} {H : Hp} {s : Shared} {A : Around} {E : Value → Shared → Prop} {Q : Value → Shared → Prop} {c : Value} {b : Bool}
inductive TyOf (K : PySem.W.Frag) (H : Hp) : V → Value → Prop where
  | non : TyOf K H .non (.type "NoneType")
  | bl (x : Bool) : TyOf K H (.bl x) (.type "bool")
  | int (i : Int) : TyOf K H (.int i) (.type "int")
  | str (x : Str) : TyOf K H (.str x) (.type "str")
  | flt (x : UInt64) : TyOf K H (.flt x) (.type "float")
  | lst {a : Addr} {xs : List V} (e : H a = some (.lst xs)) : TyOf K H (.ref a) (.type "list")
  | frz {a : Addr} {o : Obj} {xs : List V} (e : H a = some (.frz o (.lst xs))) : TyOf K H (.ref a) (.type "list")
  | tup {a : Addr} {xs : List V} (e : H a = some (.tup xs)) : TyOf K H (.ref a) (.type "tuple")
  | dK {a : Addr} {kvs : List (Key × V)} (e : H a = some (.dK kvs)) : TyOf K H (.ref a) (.type "dict")
  | dT {a : Addr} {kvs : List (List Key × V)} (e : H a = some (.dT kvs)) : TyOf K H (.ref a) (.type "dict")
  | ins {a C dx : Addr} {fs : List (Str × V)} (e : H a = some (.ins C dx fs)) (cl : Cls K C) (ha : PySem.W.findIn K (.ref C) "__class__" = some (some (.builtin "object.__class__")))
      (hn : PySem.W.specialIn K (.builtin "object.__class__") "__get__" = some (some (.builtin "getset_descriptor.__get__"))) (htk : PySem.W.takesIn K (.builtin "object.__class__") = some true)
      (hm : PySem.W.mroIn K C (.type "object") = some true) : TyOf K H (.ref a) (.ref C)
end
end L2
namespace L2
open PySem PySem.Spec PyProof.Rows
structure Room (k : Nat) (A : Around) : Prop where
  hd : A.handled = none
  dp : A.depth + 3 * k + 5 < recursionLimit
  un : A.units + 16 * k + 200 < cLine
theorem Room.mono {j k : Nat} {A : Around} (r : Room k A) (h : j ≤ k) : Room j A := ⟨r.hd, by have := r.dp; omega, by have := r.un; omega⟩
theorem Room.deeper {k : Nat} {A : Around} (r : Room (k + 1) A) (env : Env) : Room k (A.deeper env) :=
  ⟨r.hd, by have := r.dp; show A.depth + 1 + 3 * k + 5 < _; omega, by have := r.un; show A.units + 3 + 16 * k + 200 < _; omega⟩
theorem make_depth {A : Around} {C : Addr} {us : List Value} {kw : List (Str × Value)} : (A.under (.builtin "type.__call__" ⟨.ref C :: us, kw⟩)).depth = A.depth + 1 := by
  first | rfl | simp [Around.under, Code.weight, Code.isCreation, Code.isGuard, Code.isCaller, Code.frames, Code.isFrame, guardIds]
theorem make_units {A : Around} {C : Addr} {us : List Value} {kw : List (Str × Value)} : (A.under (.builtin "type.__call__" ⟨.ref C :: us, kw⟩)).units = A.units + 1 := by
  first | rfl | simp [Around.under, Code.cUnits, Code.frames, Code.isFrame]
theorem Room.make {k : Nat} {A : Around} (r : Room (k + 1) A) (C : Addr) (us : List Value) (kw : List (Str × Value)) : Room k (A.under (.builtin "type.__call__" ⟨.ref C :: us, kw⟩)) :=
  ⟨r.hd, by have := r.dp; rw [make_depth]; omega, by have := r.un; rw [make_units]; omega⟩
theorem Room.depth {k : Nat} {A : Around} (r : Room k A) : A.depth < recursionLimit := by have := r.dp; omega
theorem Room.units {k : Nat} {A : Around} (r : Room k A) : A.units + 64 < cLine := by have := r.un; omega
noncomputable def tNil : TA := fun _ H Q => Q [] H
noncomputable def tCons (ta : TE) (tr : TA) : TA := fun σ H Q => ta σ H fun x H1 => tr σ H1 fun xs H2 => Q (x :: xs) H2
section
variable {X : Cx} {e : Expr} {es : List Expr} {te : TE} {t : TA} {pos : Pos}
theorem pa_nil : PA X [] tNil := fun _ _ _ _ H Q I h => Calls.spliced_nil ⟨[], H, I, .nil, h⟩
theorem pa_cons (ha : PE X e te) (hr : PA X es t) (hs : starEach (e :: es) X.env = (false, eval e X.env) :: starEach es X.env := by rfl) : PA X (e :: es) (tCons te t) := by
  intro pos pins s σ H Q I h
  rw [hs]
  show wpAny _ _ (spliced ((false, eval e X.env) :: backTo pos (starEach es X.env))) _ _ s
  refine Calls.spliced_cons (thn (ha pins s σ H _ I h) fun u s1 ⟨x, H1, I1, r1, q1⟩ => ?_)
  exact thn (hr pos pins s1 σ H1 _ I1 q1) fun us s2 ⟨xs, H2, I2, r2, q2⟩ => ⟨x :: xs, H2, I2, .cons r1 r2, q2⟩
noncomputable def tTup (t : TA) : TE := fun σ H Q => t σ H fun xs H1 => xs.length ≤ sizeLine ∧ ∀ p, H1 p = none → Q (.ref p) (upd H1 p (.tup xs))
noncomputable def tLst (t : TA) : TE := fun σ H Q => t σ H fun xs H1 => xs.length ≤ sizeLine ∧ ∀ p, H1 p = none → Q (.ref p) (upd H1 p (.lst xs))
theorem pe_tup {x1} (h : PA X es t) : PE X (.Tuple es x1 pos) (tTup t) := by
  intro pins s σ H Q I hq
  refine wpAny_Tuple_spliced (thn (h pos pins s σ H _ I hq) fun us s1 ⟨xs, H1, I1, r, z, q⟩ => ⟨by rw [← r.length]; exact z, ?_⟩)
  have hf : H1 s1.heap.objs.size = none := I1.hok.fresh (Nat.le_refl _)
  refine ⟨.ref s1.heap.objs.size, upd H1 s1.heap.objs.size (.tup xs), I1.laid (t' := s1.toks) (fun b u e => Heap.get?_push_of_some _ e) (Nat.le_refl _) ?_, rfl, q _ hf⟩
  exact ⟨z, us, r, ⟨_, Heap.get?_push_size _ rfl, rfl, _, rfl⟩⟩
theorem pe_lst (h : PA X es t) : PE X (.List es pos) (tLst t) := by
  intro pins s σ H Q I hq
  refine wpAny_List_spliced (thn (h pos pins s σ H _ I hq) fun us s1 ⟨xs, H1, I1, r, z, q⟩ => ⟨by rw [← r.length]; exact z, ?_⟩)
  have hf : H1 s1.heap.objs.size = none := I1.hok.fresh (Nat.le_refl _)
  refine ⟨.ref s1.heap.objs.size, upd H1 s1.heap.objs.size (.lst xs), I1.laid (t' := s1.toks) (fun b u e => Heap.get?_push_of_some _ e) (Nat.le_refl _) ?_, rfl, q _ hf⟩
  exact ⟨z, us, 0, r, Heap.get?_push_size _ rfl⟩
end
noncomputable abbrev Sp := List V → Hp → VK → XK → Prop
noncomputable abbrev CXT := List Env → Hp → Shared → XK → Value → Shared → Prop
structure Env0 (P : Program) (w : World) (K : PySem.W.Frag) (mg : Str → Option Value) (base : Heap) (A : Around) (outer : List Env) (s : Shared) (H : Hp) : Prop where
  frames : A.frames = some outer
  mod : Mod K mg base
  bs : ∀ b o, base.get? b = some o → s.heap.get? b = some o ∧ H b = none
  bsz : base.objs.size ≤ s.heap.objs.size
  funs : s.heap.FunFrames base outer
  frf : ∀ b ∈ frs outer, H b = none
  hok : HOk P w H s.heap
  bare : AllBare s.gens
noncomputable def CE (outer : List Env) (P : Program) (w : World) (H : Hp) (s : Shared) (Q : VK) (u : Value) (s' : Shared) : Prop :=
  ∃ v H', s'.os = s.os ∧ AllBare s'.gens ∧ Un (frs outer) [] H H' s.heap s'.heap ∧ HOk P w H' s'.heap ∧ RelV v u ∧ Q v H'
noncomputable def CR (CX : CXT) (outer : List Env) (P : Program) (w : World) (H : Hp) (s : Shared) (Q : VK) (E : XK) (r : Result) (s' : Shared) : Prop :=
  match r with
  | .ok (.ret u) => CE outer P w H s Q u s'
  | .ok _ => False
  | .error e => CX outer H s E e s'
structure FnOk (P : Program) (w : World) (K : PySem.W.Frag) (mg : Str → Option Value) (base : Heap) (CX : CXT) (k : Nat) (f : Addr) (fd : FuncData) (ps : List Str) (sp : Sp) : Prop where
  len : ∀ vs H Q E, sp vs H Q E → vs.length = ps.length
  run : ∀ (A : Around) (outer : List Env) (s : Shared) (H : Hp) (args : Args) (us : List Value) (vs : List V) (Q : VK) (E : XK), Room k A → Env0 P w K mg base A outer s H → BindsTo s fd args (ps.zip us) → Vals vs us → sp vs H Q E →
    codeAny (model P w) A (.call (.ref f) args) (CR CX outer P w H s Q E) s
theorem Env0.make {P : Program} {w : World} {K : PySem.W.Frag} {mg : Str → Option Value} {base : Heap} {A : Around} {outer : List Env} {s : Shared} {H : Hp} (e : Env0 P w K mg base A outer s H) (C : Addr) (us : List Value) (kw : List (Str × Value)) :
    Env0 P w K mg base (A.under (.builtin "type.__call__" ⟨.ref C :: us, kw⟩)) outer s H := ⟨by first | exact e.frames | (simpa [Around.under, Code.envs, Code.isFrame, pushEnvs] using e.frames), e.mod, e.bs, e.bsz, e.funs, e.frf, e.hok, e.bare⟩
section
variable {X : Cx} {pins : List (Addr × Obj)} {σ : St} {H : Hp} {s s' : Shared}
theorem Inv.env0 (I : Inv X pins σ H s) : Env0 X.prog X.w X.K X.mg X.base X.A X.stack s H :=
  ⟨I.ok.frames, I.ok.mod, I.bs, Nat.le_trans I.ok.bsz I.sz, I.stack, I.stkFree, I.hok, I.bare⟩
theorem Inv.after {Q : VK} {u : Value} (I : Inv X pins σ H s) (h : CE X.stack X.prog X.w H s Q u s') : EP X pins σ Q u s' := by
  obtain ⟨v, H', os, bare, un, hok, r, q⟩ := h
  obtain ⟨hh, g, d, t, os'⟩ := s'
  obtain rfl : os' = s.os := os
  exact ⟨v, H', I.call (h' := hh) (g' := g) (d' := d) (t' := t) (ch := []) un hok bare (fun b z => absurd z (by simp)), r, q⟩
end
noncomputable def tCall (sp : Sp) (dvs : List V) (E : XK) (t : TA) : TE := fun σ H Q => t σ H fun vs H1 => sp (vs ++ dvs) H1 Q E
noncomputable def tMeth (C : Addr) (m : Str) (sp : Sp) (dvs : List V) (E : XK) (ta : TE) (t : TA) : TE := fun σ H Q => ta σ H fun x H1 => ∃ a dx fs, x = .ref a ∧ H1 a = some (.ins C dx fs) ∧ fs.lookup m = none ∧
  t σ H1 fun vs H2 => sp (x :: (vs ++ dvs)) H2 Q E
noncomputable def tMake (C : Addr) (sp : Sp) (dvs : List V) (E : XK) (t : TA) : TE := fun σ H Q => t σ H fun vs H1 => ∀ x dx, H1 x = none → H1 dx = none → dx ≠ x →
  sp (.ref x :: (vs ++ dvs)) (upd (upd H1 dx (.own x)) x (.ins C dx [])) (fun v H2 => v = .non ∧ Q (.ref x) H2) E
noncomputable def Binds (K : PySem.W.Frag) (fd : FuncData) (ps : List Str) (ds : List Value) : Prop :=
  ∀ (s : Shared) (us : List Value), K.In s.heap → (us ++ ds).length = ps.length → BindsTo s fd ⟨us, []⟩ (ps.zip (us ++ ds))
theorem Binds.all {K : PySem.W.Frag} {fd : FuncData} {ps : List Str} (h : ∀ us : List Value, us.length = ps.length → bindArgs fd ⟨us, []⟩ = pure (ps.zip us)) : Binds K fd ps [] := fun s us _ hl => by
  rw [List.append_nil] at hl ⊢
  exact .of_eq (h us hl)
noncomputable def Passes (CX : CXT) (X : Cx) (E : XK) : Prop := ∀ (pins : List (Addr × Obj)) (σ : St) (H : Hp) (s : Shared) (e : Value) (s' : Shared), Inv X pins σ H s → CX X.stack H s E e s' → X.xe e s'
section
variable {X : Cx} {CX : CXT} {k : Nat} {f C : Addr} {fd : FuncData} {ps : List Str} {sp : Sp} {dvs : List V} {ds : List Value} {E : XK} {x m : Str} {p pos apos : Pos} {e o : Expr} {es : List Expr} {ta : TE} {t : TA}
theorem run_fn {pins : List (Addr × Obj)} {σ : St} {H : Hp} {s : Shared} {Q : VK} {us : List Value} {vs : List V} (F : FnOk X.prog X.w X.K X.mg X.base CX k f fd ps sp) (hr : Room k X.A) (hb : Binds X.K fd ps ds) (hd : Vals dvs ds) (hx : Passes CX X E)
    (I : Inv X pins σ H s) (r : Vals vs us) (h : sp (vs ++ dvs) H Q E) : wpAny (model X.prog X.w) X.A (call (.ref f) us) (EP X pins σ Q) X.xe s := by
  have r2 : Vals (vs ++ dvs) (us ++ ds) := r.append hd
  have hl : (us ++ ds).length = ps.length := by rw [← r2.length]; exact F.len _ _ _ _ h
  refine wpAny_call (codeAny_mono (F.run X.A X.stack s H ⟨us, []⟩ (us ++ ds) (vs ++ dvs) Q E hr I.env0 (hb s us I.kIn hl) r2 h) fun r s' hq => ?_)
  cases r with
  | error e => exact hx pins σ H s e s' I hq
  | ok fl =>
    cases fl with
    | ret u => exact I.after hq
    | next => exact False.elim hq
    | brk => exact False.elim hq
    | cont => exact False.elim hq
theorem pe_call (F : FnOk X.prog X.w X.K X.mg X.base CX k f fd ps sp) (hr : Room k X.A) (hg : Gl X x) (hm : X.mg x = some (.ref f)) (hk : PySem.W.keepIn X.K (.ref f) = true) (hb : Binds X.K fd ps ds) (hd : Vals dvs ds) (hx : Passes CX X E)
    (ha : PA X (e :: es) t) (hdb : (x == ("__debug__" : Str)) = false := by decide) (he : starEach (e :: es) X.env = (false, eval e X.env) :: starEach es X.env := by rfl) (hpl : (backTo pos (starEach es X.env)).any (·.1) = false := by rfl) :
    PE X (.Call (.Name x p) (e :: es) [] pos) (tCall sp dvs E t) := by
  intro pins s σ H Q I h
  refine wpAny_Call_Name_kw (ld_glob I hg hm ?_ hdb)
  refine PySem.W.callWith_K (h₀ := X.base) I.ok.mod.kin hk (thn (ha pos pins s σ H _ I h) fun us s1 ⟨vs, H1, I1, r, q⟩ => ⟨I1.kIn, ?_⟩) he hpl
  exact run_fn F hr hb hd hx I1 r q
theorem pe_meth {pl : Sem Bool} (he : PE X o ta) (c : Cls X.K C) (hm : Meth X.K C m f) (F : FnOk X.prog X.w X.K X.mg X.base CX k f fd ps sp) (hr : Room k X.A) (hb : Binds X.K fd ps ds) (hd : Vals dvs ds) (hx : Passes CX X E) (ha : PA X (e :: es) t)
    (hst : starEach (e :: es) X.env = (false, eval e X.env) :: starEach es X.env := by rfl) (hpl : (backTo pos (starEach es X.env)).any (·.1) = false := by rfl)
    (ht : eval (.Call (.Attribute o m apos) (e :: es) [] pos) X.env = (do
      let ov ← eval o X.env
      standAt apos.atName
      let (f, first) ← holding [ov] (getMethod ov m pl)
      callWith pos f first (backTo pos (starEach (e :: es) X.env)) (backToKw pos (keywordEach [] X.env))) := by rfl) :
    PE X (.Call (.Attribute o m apos) (e :: es) [] pos) (tMeth C m sp dvs E ta t) := by
  intro pins s σ H Q I h
  refine PySem.W.methodCall_KW (pl := pl) (thn (he pins s σ H _ I h) fun u s1 ⟨x, H1, I1, rx, a, dx, fs, ex, ea, l, q⟩ => ?_) ht
  subst ex
  obtain rfl : u = Value.ref a := rx
  refine getmeth_ok I1 ea c hm l ?_
  refine PySem.W.callWith_K (first := [.ref a]) (h₀ := X.base) I.ok.mod.kin hm.kp (thn (ha pos pins s1 σ H1 _ I1 q) fun us s2 ⟨vs, H2, I2, r, q2⟩ => ⟨I2.kIn, ?_⟩) hst hpl
  exact run_fn (us := .ref a :: us) (vs := .ref a :: vs) F hr hb hd hx I2 (.cons rfl r) q2
theorem pe_meth0 {pl : Sem Bool} (he : PE X o ta) (c : Cls X.K C) (hm : Meth X.K C m f) (F : FnOk X.prog X.w X.K X.mg X.base CX k f fd ps sp) (hr : Room k X.A) (hb : Binds X.K fd ps ds) (hd : Vals dvs ds) (hx : Passes CX X E)
    (ht : eval (.Call (.Attribute o m apos) [] [] pos) X.env = (do
      let ov ← eval o X.env
      standAt apos.atName
      let (f, first) ← holding [ov] (getMethod ov m pl)
      callWith pos f first (backTo pos (starEach [] X.env)) (backToKw pos (keywordEach [] X.env))) := by rfl) :
    PE X (.Call (.Attribute o m apos) [] [] pos) (tMeth C m sp dvs E ta tNil) := by
  intro pins s σ H Q I h
  refine PySem.W.methodCall_KW (pl := pl) (thn (he pins s σ H _ I h) fun u s1 ⟨x, H1, I1, rx, a, dx, fs, ex, ea, l, q⟩ => ?_) ht
  subst ex
  obtain rfl : u = Value.ref a := rx
  refine getmeth_ok I1 ea c hm l ?_
  exact PySem.W.callWith_K0 (first := [.ref a]) I1.kIn hm.kp (run_fn (us := [.ref a]) (vs := [.ref a]) F hr hb hd hx I1 (.cons rfl .nil) q)
structure Mk (K : PySem.W.Frag) (C f : Addr) : Prop where
  makes : PySem.W.makesIn K C = true
  init : PySem.W.findIn K (.ref C) "__init__" = some (some (.ref f))
  fn : PySem.W.isFn K (.ref f) = true
  kp : PySem.W.keepIn K (.ref C) = true
theorem run_make {pins : List (Addr × Obj)} {σ : St} {H : Hp} {s : Shared} {Q : VK} {us : List Value} {vs : List V} (M : Mk X.K C f) (F : FnOk X.prog X.w X.K X.mg X.base CX k f fd ps sp) (hr : Room (k + 1) X.A) (hb : Binds X.K fd ps ds) (hd : Vals dvs ds)
    (hx : Passes CX X E) (I : Inv X pins σ H s) (r : Vals vs us)
    (h : ∀ x dx, H x = none → H dx = none → dx ≠ x → sp (.ref x :: (vs ++ dvs)) (upd (upd H dx (.own x)) x (.ins C dx [])) (fun v H2 => v = .non ∧ Q (.ref x) H2) E) :
    wpAny (model X.prog X.w) X.A (call (.ref C) us) (EP X pins σ Q) X.xe s := by
  have hq := h (s.heap.objs.size + 1) s.heap.objs.size (I.hok.fresh (Nat.le_succ _)) (I.hok.fresh (Nat.le_refl _)) (Nat.ne_of_lt (Nat.lt_succ_self _))
  have I2 := Inv.made (C := C) I
  have r2 : Vals (V.ref (s.heap.objs.size + 1) :: (vs ++ dvs)) (Value.ref (s.heap.objs.size + 1) :: (us ++ ds)) := .cons rfl (r.append hd)
  have hl : (Value.ref (s.heap.objs.size + 1) :: us ++ ds).length = ps.length := by
    have e := r2.length
    rw [F.len _ _ _ _ hq] at e
    exact e.symm
  refine wpAny_call (make_map (f := f) I.kIn M.makes M.init (beq_iff_eq.mp M.fn) (codeAny_mono (F.run _ X.stack _ _ ⟨Value.ref (s.heap.objs.size + 1) :: us, []⟩ (Value.ref (s.heap.objs.size + 1) :: (us ++ ds)) _ _ E (hr.make C us [])
    (I2.env0.make C us []) (hb _ (Value.ref (s.heap.objs.size + 1) :: us) I2.kIn hl) r2 hq) fun r s' hq' => ?_))
  cases r with
  | error e => exact hx pins σ _ _ e s' I2 hq'
  | ok fl =>
    cases fl with
    | ret u =>
      obtain ⟨v, H', I3, rv, ev, q3⟩ := I2.after hq'
      subst ev
      exact ⟨rv, ⟨V.ref (s.heap.objs.size + 1), H', I3, rfl, q3⟩⟩
    | next => exact False.elim hq'
    | brk => exact False.elim hq'
    | cont => exact False.elim hq'
theorem pe_make (M : Mk X.K C f) (F : FnOk X.prog X.w X.K X.mg X.base CX k f fd ps sp) (hr : Room (k + 1) X.A) (hg : Gl X x) (hm : X.mg x = some (.ref C)) (hb : Binds X.K fd ps ds) (hd : Vals dvs ds) (hx : Passes CX X E)
    (ha : PA X (e :: es) t) (hdb : (x == ("__debug__" : Str)) = false := by decide) (he : starEach (e :: es) X.env = (false, eval e X.env) :: starEach es X.env := by rfl) (hpl : (backTo pos (starEach es X.env)).any (·.1) = false := by rfl) :
    PE X (.Call (.Name x p) (e :: es) [] pos) (tMake C sp dvs E t) := by
  intro pins s σ H Q I h
  refine wpAny_Call_Name_kw (ld_glob I hg hm ?_ hdb)
  refine PySem.W.callWith_K (h₀ := X.base) I.ok.mod.kin M.kp (thn (ha pos pins s σ H _ I h) fun us s1 ⟨vs, H1, I1, r, q⟩ => ⟨I1.kIn, ?_⟩) he hpl
  exact run_make M F hr hb hd hx I1 r q
end
section
variable {X : Cx} {CX : CXT} {k : Nat} {f C : Addr} {fd : FuncData} {ps ks : List Str} {sp : Sp} {E : XK} {x m : Str} {p pos apos kpos : Pos} {e o : Expr} {es : List Expr} {kws : List Keyword} {te ta : TE} {t tk : TA} {nm : Option Str}
structure KBinds (K : PySem.W.Frag) (fd : FuncData) (ps ks : List Str) (g : List Value → List Value → List Value) (gV : List V → List V → List V) : Prop where
  to : ∀ (s : Shared) (us ws : List Value), K.In s.heap → (g us ws).length = ps.length → BindsTo s fd ⟨us, ks.zip ws⟩ (ps.zip (g us ws))
  rel : ∀ {vs : List V} {us : List Value} {zs : List V} {ws : List Value}, Vals vs us → Vals zs ws → Vals (gV vs zs) (g us ws)
variable {g : List Value → List Value → List Value} {gV : List V → List V → List V}
end
structure FnScope (N P : List Str) (sc : Scope) : Prop where
  kind : sc.kind = .function
  co : sc.isCoroutine = false
  gen : sc.isGenerator = false
  nd : N.Nodup
  pre : N.take P.length = P
  par : ∀ x ∈ P, sc.names.lookup x = some .local ∨ sc.names.lookup x = some .cell
  nofree : ∀ y ∈ sc.names, y.2 ≠ .free
theorem bindL_out {kindOf : Str → Option NameKind} {x : Str} : ∀ {binds : List (Str × Value)} {m : Str → Option Value}, (∀ v, (x, v) ∉ binds) → bindL kindOf binds m x = m x
  | [], _, _ => rfl
  | (n, v) :: r, m, h => by
    unfold bindL
    rw [bindL_out fun w hw => h w (List.mem_cons_of_mem _ hw)]
    split
    · have : x ≠ n := by rintro rfl; exact h v List.mem_cons_self
      simp [this]
    · rfl
theorem bindC_out {kindOf : Str → Option NameKind} {x : Str} : ∀ {binds : List (Str × Value)} {m : Str → Option Value}, (∀ v, (x, v) ∉ binds) → bindC kindOf binds m x = m x
  | [], _, _ => rfl
  | (n, v) :: r, m, h => by
    unfold bindC
    rw [bindC_out fun w hw => h w (List.mem_cons_of_mem _ hw)]
    split
    · rfl
    · have : x ≠ n := by rintro rfl; exact h v List.mem_cons_self
      simp [this]
theorem bindL_get {kindOf : Str → Option NameKind} {x : Str} {v : Value} : ∀ {P : List Str} {vs : List Value} {i : Nat} {m : Str → Option Value}, P.Nodup → P[i]? = some x → vs[i]? = some v → kindOf x = some .local →
    bindL kindOf (P.zip vs) m x = some v
  | [], _, _, _, _, h, _, _ => by simp at h
  | _ :: _, [], _, _, _, _, h, _ => by simp at h
  | p :: P, w :: vs, 0, m, nd, h1, h2, hk => by
    simp at h1 h2; subst h1; subst h2
    show bindL kindOf ((p, w) :: P.zip vs) m p = _
    unfold bindL
    rw [bindL_out fun v hv => (List.nodup_cons.mp nd).1 (List.of_mem_zip hv).1, if_pos hk]
    simp
  | p :: P, w :: vs, i + 1, m, nd, h1, h2, hk => by
    show bindL kindOf ((p, w) :: P.zip vs) m x = _
    unfold bindL
    exact bindL_get (i := i) (List.nodup_cons.mp nd).2 (by simpa using h1) (by simpa using h2) hk
theorem bindC_get {kindOf : Str → Option NameKind} {x : Str} {v : Value} : ∀ {P : List Str} {vs : List Value} {i : Nat} {m : Str → Option Value}, P.Nodup → P[i]? = some x → vs[i]? = some v → kindOf x ≠ some .local →
    bindC kindOf (P.zip vs) m x = some v
  | [], _, _, _, _, h, _, _ => by simp at h
  | _ :: _, [], _, _, _, _, h, _ => by simp at h
  | p :: P, w :: vs, 0, m, nd, h1, h2, hk => by
    simp at h1 h2; subst h1; subst h2
    show bindC kindOf ((p, w) :: P.zip vs) m p = _
    unfold bindC
    rw [bindC_out fun v hv => (List.nodup_cons.mp nd).1 (List.of_mem_zip hv).1, if_neg hk]
    simp
  | p :: P, w :: vs, i + 1, m, nd, h1, h2, hk => by
    show bindC kindOf ((p, w) :: P.zip vs) m x = _
    unfold bindC
    exact bindC_get (i := i) (List.nodup_cons.mp nd).2 (by simpa using h1) (by simpa using h2) hk
noncomputable def start (N : List Str) (vs : List V) : St := vs.map some ++ List.replicate (N.length - vs.length) none
noncomputable def cxOf (CX : CXT) (P : Program) (w : World) (K : PySem.W.Frag) (mg : Str → Option Value) (base : Heap) (N : List Str) (qual : Str) (scope : Scope) (f : Addr) (cd : Value) (A : Around) (outer : List Env) (s : Shared) (H : Hp) (E : XK) : Cx where
  prog := P
  w := w
  K := K
  mg := mg
  base := base
  A := A.deeper (envOfC qual scope s.heap.objs.size f cd)
  N := N
  s₀ := s
  H₀ := H
  env := envOfC qual scope s.heap.objs.size f cd
  outer := outer
  stack := envOfC qual scope s.heap.objs.size f cd :: outer
  ex := []
  calm := true
  fn := fun _ => true
  pn := []
  xe := fun e s' => wpAny (model P w) (A.deeper (envOfC qual scope s.heap.objs.size f cd)) (leaving (envOfC qual scope s.heap.objs.size f cd) e) (fun _ s'' => CX outer H s E e s'') (fun e' s'' => CX outer H s E e' s'') s'
theorem cell_has {sc : Scope} {n : Nat} {x : Str} (h : sc.names.lookup x = some .cell) : ∃ c, (cellsFrom n sc.names []).lookup x = some c := by
  have q := PySem.W.cellsFrom_some sc.names n [] (.inl h)
  exact Option.isSome_iff_exists.mp q
theorem inv_start {CX : CXT} {P : Program} {w : World} {K : PySem.W.Frag} {mg : Str → Option Value} {base : Heap} {N ps : List Str} {qual : Str} {scope : Scope} {f : Addr} {cd : Value} {A : Around} {outer : List Env} {s s1 : Shared} {H : Hp} {E : XK} {us : List Value} {vs : List V}
    (S : FnScope N ps scope) (hd : A.handled = none) (e0 : Env0 P w K mg base A outer s H) (hl : vs.length = ps.length) (r : Vals vs us)
    (x : InCallC s s.heap.objs.size (bindL (envOfC qual scope s.heap.objs.size f cd).kindOf (ps.zip us) fun _ => none) (cellsFrom (s.heap.objs.size + 1) scope.names []) (bindC (envOfC qual scope s.heap.objs.size f cd).kindOf (ps.zip us) fun _ => none) s1) :
    Inv (cxOf CX P w K mg base N qual scope f cd A outer s H E) [] (start N vs) H s1 := by
  have hpl : ps.length ≤ N.length := by have := congrArg List.length S.pre; rw [List.length_take] at this; omega
  obtain ⟨h1, tk, rfl, hk⟩ := x.done
  have noA : ∀ b : Addr, b ∉ (cxOf CX P w K mg base N qual scope f cd A outer s H E).ex := fun b z => absurd (show b ∈ ([] : List Addr) from z) (by simp)
  refine ⟨⟨e0.mod, S.kind, rfl, rfl, Nat.le_refl _, fun y z c h1 h2 => ?_, fun y hy => ?_, fun y c _ h => ?_, fun _ => hd, Around.frames_deeper e0.frames, .inr ⟨rfl, rfl⟩, fun b z => absurd z (noA b), e0.bs, e0.bsz, fun b _ _ => noA b, fun b z => absurd z (noA b), e0.funs, e0.frf⟩,
    rfl, e0.bare, Un.kept hk, ⟨_, x.toInCall.ns, fun i y v h1 h2 h3 => ?_⟩, fun y c h => ⟨_, x.cell y c h⟩, e0.hok.fresh (Nat.le_refl _), fun y c h => ?_, fun p hp => absurd (show p ∈ ([] : List (Addr × Obj)) from hp) (by simp), e0.hok.kept hk, ?_⟩
  · exact name_of_addr x.apart (PySem.mem_of_lookup h1) (PySem.mem_of_lookup h2)
  · have hy : scope.names.lookup y = some .cell ∨ scope.names.lookup y = some .free := hy
    rcases hy with hy | hy
    · exact cell_has hy
    · exact absurd rfl (S.nofree _ (PySem.mem_of_lookup hy))
  · exact Nat.le_of_lt (x.above y c (PySem.mem_of_lookup h))
  · have hi : i < vs.length := by
      unfold start at h2
      by_cases hi : i < vs.length
      · exact hi
      · rw [List.getElem?_append_right (by simpa using hi)] at h2
        rw [List.getElem?_replicate] at h2
        split at h2 <;> cases h2
    have ha : vs[i]? = some v := by
      unfold start at h2
      rw [List.getElem?_append_left (by simpa using hi), List.getElem?_map] at h2
      cases e : vs[i]? with
      | none => rw [e] at h2; cases h2
      | some a => rw [e] at h2; cases h2; rfl
    obtain ⟨u, hu, rv⟩ := r.get ha
    have hp : ps[i]? = some y := by
      rw [← S.pre, List.getElem?_take_of_lt (by omega)]; exact h1
    have ndP : ps.Nodup := by rw [← S.pre]; exact S.nd.sublist (List.take_sublist _ _)
    refine ⟨u, rv, ?_⟩
    rcases S.par y (List.mem_of_getElem? hp) with k | k
    · exact .inl ⟨k, bindL_get ndP hp hu k⟩
    · obtain ⟨c, e⟩ := cell_has (n := s.heap.objs.size + 1) k
      refine .inr ⟨.inl k, c, e, ?_⟩
      have q := x.cell y c e
      rw [bindC_get ndP hp hu (by show scope.names.lookup y ≠ _; rw [k]; decide)] at q
      exact q
  · exact e0.hok.fresh (Nat.le_of_lt (x.above y c (PySem.mem_of_lookup h)))
  · unfold start
    show _ = N.length
    rw [List.length_append, List.length_map, List.length_replicate]
    omega
theorem fn_of {CX : CXT} {P : Program} {w : World} {K : PySem.W.Frag} {mg : Str → Option Value} {base : Heap} {k : Nat} {f : Addr} {name qual : Str} {params : Arguments} {body : List Stmt} {scope : Scope} {dV kV doc pm cdv ct oc : Value} {an od : Option Addr}
    {osl : Array (Option Value)} {N ps : List Str} {sp : Sp} (lk : K.lookup f = some ⟨oc, od, .func (PySem.W.fnOf name qual params body scope dV kV doc pm an cdv ct), osl⟩) (hcd : PySem.W.codeIn K cdv qual = true) (S : FnScope N ps scope)
    (len : ∀ vs H Q E, sp vs H Q E → vs.length = ps.length)
    (hbody : ∀ (A : Around) (outer : List Env) (s : Shared) (H : Hp) (vs : List V) (Q : VK) (E : XK), Room k (A.deeper (envOfC qual scope s.heap.objs.size f cdv)) → sp vs H Q E →
      ∃ t, PSs (cxOf CX P w K mg base N qual scope f cdv A outer s H E) body t ∧ t { nx := fun _ H' => Q .non H', rt := Q } (start N vs) H) :
    FnOk P w K mg base CX (k + 1) f (PySem.W.fnOf name qual params body scope dV kV doc pm an cdv ct) ps sp := by
  refine ⟨len, fun A outer s H args us vs Q E hr e0 hb r hsp => ?_⟩
  have hl := len _ _ _ _ hsp
  have KX : K.In s.heap := e0.mod.kin.keeps fun b o e => (e0.bs b o e).1
  have lim : s.heap.NoLimit := e0.mod.nolimit.keeps fun b o e => (e0.bs b o e).1
  have hkind : ∀ y ∈ ps.zip us, scope.names.lookup y.1 = some .local ∨ (scope.names.lookup y.1 = some .cell ∧ ((cellsFrom (s.heap.objs.size + 1) scope.names []).lookup y.1).isSome = true) := fun ⟨n, v⟩ hy => by
    rcases S.par n (List.of_mem_zip hy).1 with q | q
    · exact .inl q
    · exact .inr ⟨q, PySem.W.cellsFrom_some _ _ _ (.inl q)⟩
  refine codeAny_call_function hr.depth (KX _ _ lk) rfl S.co S.gen rfl (PySem.W.codeRec_of KX hcd) (hb _ _ _ _ ?_)
  refine wpAny_newFunctionEnv_cells S.kind hkind fun env he s1 x => ?_
  subst he
  refine ⟨lim.keeps x.toInCall.keep, codeAny_func ?_⟩
  obtain ⟨t, ht, hq⟩ := hbody A outer s H vs Q E (hr.deeper _) hsp
  have I : Inv (cxOf CX P w K mg base N qual scope f cdv A outer s H E) [] (start N vs) H s1 := inv_start S hr.hd e0 hl r x
  refine wpAny_mono (ht [] s1 (start N vs) H _ I hq) (fun fl s' hs => ?_) fun e s' hs => hs
  have fin : ∀ {σ' : St} {H' : Hp} {v : V} {u : Value}, Inv (cxOf CX P w K mg base N qual scope f cdv A outer s H E) [] σ' H' s' → RelV v u → Q v H' → CE outer P w H s Q u s' :=
    fun {σ' H' v u} J rv q => ⟨v, H', J.os, J.bare, J.base, J.hok, rv, q⟩
  cases fl with
  | ret u =>
    obtain ⟨v, σ', H', J, rv, q⟩ := hs
    exact fin J rv q
  | next =>
    obtain ⟨σ', H', J, q⟩ := hs
    exact fin (v := V.non) (u := Value.none) J rfl q
  | brk =>
    obtain ⟨_, _, _, q⟩ := hs
    exact False.elim q
  | cont =>
    obtain ⟨_, _, _, q⟩ := hs
    exact False.elim q
end L2
namespace L2
open PySem PySem.Spec PyProof.Rows
section
variable {X : Cx} {x : Str} {p pos : Pos} {e : Expr} {es : List Expr} {t : TA} {id T : String} {r : List V → Hp → VK → Prop}
noncomputable def tCB (r : List V → Hp → VK → Prop) (t : TA) : TE := fun σ H Q => t σ H fun vs H1 => r vs H1 Q
theorem pe_callB (hc : CallR X (.builtin id) r) (hg : Gl X x) (hm : X.mg x = none) (hv : bootBuiltins x = some (.builtin id)) (ha : PA X (e :: es) t) (hn : x ≠ "__name__" := by decide) (hdb : (x == ("__debug__" : Str)) = false := by decide)
    (he : starEach (e :: es) X.env = (false, eval e X.env) :: starEach es X.env := by rfl) (hpl : (backTo pos (starEach es X.env)).any (·.1) = false := by rfl) : PE X (.Call (.Name x p) (e :: es) [] pos) (tCB r t) := by
  intro pins s σ H Q I h
  refine wpAny_Call_Name_kw (ld_blt I hg hm hv ?_ hn hdb)
  exact PyProof.Rows.callWith_builtin1 (thn (ha pos pins s σ H _ I h) fun us s1 ⟨vs, H1, I1, r1, q1⟩ => hc pins s1 σ H1 vs us Q I1 r1 q1) he hpl
theorem pe_callTy (hc : CallR X (.type T) r) (hg : Gl X x) (hm : X.mg x = none) (hv : bootBuiltins x = some (.type T)) (ha : PA X (e :: es) t) (hn : x ≠ "__name__" := by decide) (hdb : (x == ("__debug__" : Str)) = false := by decide)
    (he : starEach (e :: es) X.env = (false, eval e X.env) :: starEach es X.env := by rfl) (hpl : (backTo pos (starEach es X.env)).any (·.1) = false := by rfl) : PE X (.Call (.Name x p) (e :: es) [] pos) (tCB r t) := by
  intro pins s σ H Q I h
  refine wpAny_Call_Name_kw (ld_blt I hg hm hv ?_ hn hdb)
  exact PyProof.Rows.callWith_type1 (thn (ha pos pins s σ H _ I h) fun us s1 ⟨vs, H1, I1, r1, q1⟩ => hc pins s1 σ H1 vs us Q I1 r1 q1) he hpl
end
end L2
namespace HT
open PySem PyProof.Rows
section
variable {prog : Program} {w : World} {A : Around} {E : Value → Shared → Prop} {s : Shared}
noncomputable def sIx (n d : Nat) : Option Int → Nat
  | none => d
  | some v => if v < 0 then (v + (n : Int)).toNat else min v.toNat n
theorem sIx_none (n d : Nat) : sIx n d none = d := rfl
theorem sIx_nat (n d k : Nat) : sIx n d (some (k : Int)) = min k n := by
  show (if (k : Int) < 0 then ((k : Int) + (n : Int)).toNat else min (k : Int).toNat n) = min k n
  rw [if_neg (by omega), Int.toNat_natCast]
end
end HT
namespace L2
open PySem PySem.Spec PyProof.Rows
noncomputable abbrev TO := St → Hp → (Option Int → Hp → Prop) → Prop
noncomputable def PO (X : Cx) (e : Option Expr) (t : TO) : Prop :=
  ∀ (pins : List (Addr × Obj)) (s : Shared) (σ : St) (H : Hp) (Q : Option Int → Hp → Prop), Inv X pins σ H s → t σ H Q →
    wpAny (model X.prog X.w) X.A (evalPart e X.env) (fun u s' => ∃ o H', Inv X pins σ H' s' ∧ IsPart u o ∧ Q o H') X.xe s
noncomputable def tNoPart : TO := fun _ H Q => Q none H
noncomputable def tPart (t : TE) : TO := fun σ H Q => t σ H fun x H1 => ∃ i, x = .int i ∧ Q (some i) H1
section
variable {X : Cx} {e : Expr} {te : TE} {lo hi : Option Expr} {tl th : TO} {pos p2 : Pos}
theorem po_none : PO X none tNoPart := by
  intro pins s σ H Q I h
  rw [evalPart_none]
  exact wpAny_pure ⟨none, H, I, .none, h⟩
theorem po_some (h : PE X e te) : PO X (some e) (tPart te) := by
  intro pins s σ H Q I hw
  rw [evalPart_some]
  refine thn (h pins s σ H _ I hw) fun u s1 ⟨x, H1, I1, r1, q1⟩ => ?_
  obtain ⟨i, rfl, q⟩ := q1
  obtain ⟨t, rfl⟩ := r1
  exact ⟨some i, H1, I1, .int i t, q⟩
noncomputable def SlR (X : Cx) (r : V → Option Int → Option Int → Hp → VK → Prop) : Prop :=
  ∀ (pins : List (Addr × Obj)) (s : Shared) (σ : St) (H : Hp) (x : V) (v vl vu : Value) (lo hi : Option Int) (sl : Addr) (Q : VK), Inv X pins σ H s → RelV x v → s.heap.IsSliceOf sl vl vu .none → IsPart vl lo → IsPart vu hi → r x lo hi H Q →
    ∃ T id, typeLookup (.type T) "__getitem__" = pure (some (.builtin id)) ∧ s.TypeIs v T ∧ wpAny (model X.prog X.w) X.A (getItem v (.ref sl)) (EP X pins σ Q) X.xe s
noncomputable def tSl (r : V → Option Int → Option Int → Hp → VK → Prop) (te : TE) (tl th : TO) : TE := fun σ H Q => te σ H fun x H1 => tl σ H1 fun l H2 => th σ H2 fun u H3 => r x l u H3 Q
theorem pe_slice {r : V → Option Int → Option Int → Hp → VK → Prop} (hr : SlR X r) (he : PE X e te) (hl : PO X lo tl) (hu : PO X hi th) : PE X (.Subscript e (.Slice lo hi none p2) pos) (tSl r te tl th) := by
  intro pins s σ H Q I h
  refine Subscript_ (thn (he pins s σ H _ I h) fun v s1 ⟨x, H1, I1, r1, q1⟩ => ?_)
  refine wpAny_Slice (thn (hl pins s1 σ H1 _ I1 q1) fun vl s2 ⟨l, H2, I2, pl, q2⟩ => thn (hu pins s2 σ H2 _ I2 q2) fun vu s3 ⟨u, H3, I3, pu, q3⟩ => ?_)
  rw [evalPart_none]
  refine wpAny_pure ?_
  have I4 : Inv X pins σ H3 { s3 with heap := s3.heap.push { cls := .type "slice", data := .fields #[vl, vu, .none] } } := I3.kept (t' := s3.toks) fun b ob q => Heap.get?_push_of_some _ q
  obtain ⟨T, id, hT, ht, hg⟩ := hr pins { s3 with heap := s3.heap.push { cls := .type "slice", data := .fields #[vl, vu, .none] } } σ H3 x v vl vu l u s3.heap.objs.size Q I4 r1 (Heap.IsSliceOf.new ..) pl pu q3
  show wpAny (model X.prog X.w) X.A (subscriptTail e (.Slice lo hi none p2) v (.ref s3.heap.objs.size)) (EP X pins σ Q) X.xe { s3 with heap := s3.heap.push { cls := .type "slice", data := .fields #[vl, vu, .none] } }
  exact tail_any (ops := [.ref s3.heap.objs.size, v]) ht hT hg (by with_unfolding_all rfl)
noncomputable def cutV (xs : List V) (lo hi : Option Int) : List V := (xs.drop (HT.sIx xs.length 0 lo)).take (HT.sIx xs.length xs.length hi - HT.sIx xs.length 0 lo)
theorem cutV_length (xs : List V) (lo hi : Option Int) : (cutV xs lo hi).length ≤ xs.length := by
  unfold cutV
  rw [List.length_take, List.length_drop]
  omega
end
end L2
namespace L2
open PySem PySem.Spec PyProof.Rows
noncomputable def ixN (n : Nat) (i : Int) : Option Nat := if 0 ≤ i then (if i < n then some i.toNat else none) else if -(n : Int) ≤ i then some (i + n).toNat else none
noncomputable def atI {α : Type} (xs : List α) (i : Int) : Option α := (ixN xs.length i).bind fun j => xs[j]?
theorem ixN_seq {n : Nat} {i : Int} {j : Nat} (h : ixN n i = some j) : seqIndex? i n = some j ∧ j < n ∧ -(n : Int) ≤ i ∧ i < n := by
  unfold ixN at h
  by_cases h0 : 0 ≤ i
  · rw [if_pos h0] at h
    by_cases h1 : i < n
    · rw [if_pos h1] at h
      have e : i.toNat = j := Option.some.inj h
      exact ⟨by rw [seqIndex_of h0 h1, e], by omega, by omega, h1⟩
    · rw [if_neg h1] at h; cases h
  · rw [if_neg h0] at h
    by_cases h1 : -(n : Int) ≤ i
    · rw [if_pos h1] at h
      have e : (i + n).toNat = j := Option.some.inj h
      exact ⟨by rw [seqIndex_neg (by omega) h1, e], by omega, h1, by omega⟩
    · rw [if_neg h1] at h; cases h
theorem atI_get {α : Type} {xs : List α} {i : Int} {v : α} (h : atI xs i = some v) : ∃ j, seqIndex? i xs.length = some j ∧ xs[j]? = some v ∧ j < xs.length ∧ -(xs.length : Int) ≤ i ∧ i < xs.length := by
  unfold atI at h
  cases e : ixN xs.length i with
  | none => rw [e] at h; cases h
  | some j =>
    rw [e] at h
    obtain ⟨h1, h2, h3, h4⟩ := ixN_seq e
    exact ⟨j, h1, h, h2, h3, h4⟩
theorem atI_nat {α : Type} {xs : List α} {j : Nat} {v : α} (h : xs[j]? = some v) : atI xs (j : Int) = some v := by
  have hj : j < xs.length := (List.getElem?_eq_some_iff.mp h).1
  have e : ixN xs.length (j : Int) = some j := by
    unfold ixN
    rw [if_pos (by omega), if_pos (by omega)]; simp
  unfold atI; rw [e]; exact h
theorem atI_last {α : Type} (xs : List α) (v : α) : atI (xs ++ [v]) (-1) = some v := by
  have hl : (xs ++ [v]).length = xs.length + 1 := by simp
  have e : ixN (xs ++ [v]).length (-1) = some xs.length := by
    unfold ixN
    rw [hl, if_neg (by decide), if_pos (by omega)]
    congr 1
    omega
  unfold atI
  rw [e]
  show (xs ++ [v])[xs.length]? = some v
  simp
noncomputable def PlainIx (b : Expr) : Prop := ∀ o i, subscripted b false o i = operate [o, i] (getItem o i)
noncomputable def IxR (X : Cx) (r : R2) : Prop :=
  ∀ (value slice : Expr) (pins : List (Addr × Obj)) (s : Shared) (σ : St) (H : Hp) (x y : V) (v u : Value) (Q : VK), Inv X pins σ H s → RelV x v → RelV y u → r x y H Q →
    subscripted slice false v u = operate [v, u] (getItem v u) → wpAny (model X.prog X.w) X.A (subscriptTail value slice v u) (EP X pins σ Q) X.xe s
noncomputable def MtR (X : Cx) (id : String) (r : V → List V → Hp → VK → Prop) : Prop :=
  ∀ (pins : List (Addr × Obj)) (s : Shared) (σ : St) (H : Hp) (x : V) (xs : List V) (v : Value) (us : List Value) (Q : VK), Inv X pins σ H s → RelV x v → Vals xs us → r x xs H Q →
    wpAny (model X.prog X.w) X.A (call (.builtin id) (v :: us)) (EP X pins σ Q) X.xe s
section
variable {X : Cx} {a b : Expr} {ta tb : TE} {pos : Pos}
theorem pe_ix {r : R2} (hr : IxR X r) (ha : PE X a ta) (hb : PE X b tb) (hs : PlainIx b) : PE X (.Subscript a b pos) (tOp r ta tb) := by
  intro pins s σ H Q I h
  exact Subscript_ (binT ha hb I h fun v u s2 x y H2 I2 rx ry q => hr a b pins s2 σ H2 x y v u Q I2 rx ry q (hs _ _))
noncomputable def rIxL (K : PySem.W.Frag) : R2 := fun x y H Q => ∃ p xs i v, x = .ref p ∧ y = .int i ∧ SqL K H p xs ∧ atI xs i = some v ∧ Q v H
noncomputable def rIxT (K : PySem.W.Frag) : R2 := fun x y H Q => ∃ p xs i v, x = .ref p ∧ y = .int i ∧ SqT K H p xs ∧ atI xs i = some v ∧ Q v H
theorem ix_list : IxR X (rIxL X.K) := by
  intro value slice pins s σ H x y v u Q I rx ry h hs
  obtain ⟨p, xs, i, z, rfl, rfl, hq, he, q⟩ := h
  cases rx
  obtain ⟨t, rfl⟩ := ry
  obtain ⟨its, r, pl, hz⟩ := I.list hq
  obtain ⟨j, h1, h2, h3, h4, h5⟩ := atI_get he
  obtain ⟨w, ew, rw'⟩ := r.get h2
  have hl := r.length
  have hn := line63
  have fin : EP X pins σ Q w s := ⟨z, H, I, rw', q⟩
  by_cases h0 : 0 ≤ i
  · have hj : i.toNat = j := by
      rw [seqIndex_of h0 h5] at h1
      exact Option.some.inj h1
    exact item_listR pl.isList h0 (by omega) (by rw [hj]; simpa using ew) fin hs
  · have hj : (i + (its.toArray.size : Int)).toNat = j := by
      rw [seqIndex_neg (by omega) h4] at h1
      rw [List.size_toArray, ← hl]
      exact Option.some.inj h1
    exact subscriptTail_builtinR (x := w) pl.isList.typeIs slot_list_getitem.lookup
      (wpAny_getItem_list_neg (Q := fun r s' => r = w ∧ EP X pins σ Q r s') pl.isList (by omega) (by rw [List.size_toArray] <;> omega) (by omega) (by rw [hj]; simpa using ew) ⟨rfl, fin⟩) hs
theorem ix_tup : IxR X (rIxT X.K) := by
  intro value slice pins s σ H x y v u Q I rx ry h hs
  obtain ⟨p, xs, i, z, rfl, rfl, hq, he, q⟩ := h
  cases rx
  obtain ⟨t, rfl⟩ := ry
  obtain ⟨its, r, pl, hz⟩ := I.tuple hq
  obtain ⟨j, h1, h2, h3, h4, h5⟩ := atI_get he
  obtain ⟨w, ew, rw'⟩ := r.get h2
  have hl := r.length
  have hn := line63
  have fin : EP X pins σ Q w s := ⟨z, H, I, rw', q⟩
  exact subscriptTail_builtinR (x := w) pl.typeIs slot_tuple_getitem.lookup
    (getItem_tuple (j := j) (Q := fun r s' => r = w ∧ EP X pins σ Q r s') pl (by omega) (by omega) (by rw [List.size_toArray, ← hl]; exact h1) (by simpa using ew) ⟨rfl, fin⟩) hs
theorem slice_bounds (lo hi : Option Int) (n : Nat) : (sliceBounds lo hi none n).1 = ((HT.sIx n 0 lo : Nat) : Int) ∧ (sliceBounds lo hi none n).2.1 = ((HT.sIx n n hi : Nat) : Int) ∧ (sliceBounds lo hi none n).2.2 = 1 := by
  refine ⟨?_, ?_, rfl⟩
  · cases lo with
    | none => simp [sliceBounds, HT.sIx]
    | some i =>
      simp only [sliceBounds, HT.sIx, Option.getD_none, show (1 : Int) > 0 by decide, if_true]
      by_cases h : i < 0
      · simp only [h, if_true] <;> omega
      · simp only [h, if_false] <;> omega
  · cases hi with
    | none => simp [sliceBounds, HT.sIx]
    | some i =>
      simp only [sliceBounds, HT.sIx, Option.getD_none, show (1 : Int) > 0 by decide, if_true]
      by_cases h : i < 0
      · simp only [h, if_true] <;> omega
      · simp only [h, if_false] <;> omega
theorem slicePick_cut (its : List Value) (lo hi : Option Int) : slicePick its.toArray lo hi none = ((its.drop (HT.sIx its.length 0 lo)).take (HT.sIx its.length its.length hi - HT.sIx its.length 0 lo)).toArray := by
  obtain ⟨h1, h2, h3⟩ := slice_bounds lo hi its.toArray.size
  unfold slicePick
  rw [h1, h2, h3]
  simp only [sliceRange_one, pick_run, List.size_toArray] <;> rfl
noncomputable def rSlL (K : PySem.W.Frag) : V → Option Int → Option Int → Hp → VK → Prop := fun x lo hi H Q => ∃ a xs, x = .ref a ∧ SqL K H a xs ∧ ∀ p, H p = none → Q (.ref p) (upd H p (.lst (cutV xs lo hi)))
theorem sl_list : SlR X (rSlL X.K) := by
  intro pins s σ H x v vl vu lo hi sl Q I rx hs pl pu h
  obtain ⟨a, xs, rfl, hx, q⟩ := h
  cases rx
  obtain ⟨its, r, ht, hz⟩ := I.list hx
  have hlen := r.length
  refine ⟨"list", _, slot_list_getitem.lookup, ht.isList.typeIs, ?_⟩
  refine wpAny_getItem_list_slice ht.isList hs pl pu .none (by simp) ?_ (by rw [List.size_toArray] <;> omega)
  rw [slicePick_cut, ← hlen]
  refine ⟨.ref s.heap.objs.size, _, I.laid (t' := s.toks) (o := .lst (cutV xs lo hi)) (fun b ob q => Heap.get?_push_of_some _ q) (Nat.le_refl _) ?_, rfl, q _ (I.hok.fresh (Nat.le_refl _))⟩
  exact ⟨Nat.le_trans (cutV_length xs lo hi) hz, _, 0, (r.drop (HT.sIx xs.length 0 lo)).take (HT.sIx xs.length xs.length hi - HT.sIx xs.length 0 lo), Heap.get?_push_size _ rfl⟩
theorem call_tuple_of : CallR X (.type "tuple") (fun xs H Q => ∃ p ys, xs = [.ref p] ∧ ((SqL X.K H p ys ∧ ∀ l, H l = none → Q (.ref l) (upd H l (.tup ys))) ∨ (SqT X.K H p ys ∧ Q (.ref p) H))) := by
  intro pins s σ H xs us Q I r h
  obtain ⟨p, ys, rfl, h⟩ := h
  obtain ⟨u, rfl, rx⟩ := vals1 r
  cases rx
  rcases h with ⟨hq, q⟩ | ⟨hq, q⟩
  · obtain ⟨its, r', pl, hz⟩ := I.list hq
    have hlen := r'.length
    refine call_tuple_list pl.isList (fun h' kp => ?_) (by simp only [List.size_toArray] <;> omega)
    have I1 : Inv X pins σ H { s with heap := h' } := I.kept (t' := s.toks) kp
    have I2 : Inv X pins σ (upd H h'.objs.size (.tup ys)) { s with heap := h'.push { cls := .type "tuple", data := .seq its.toArray } } :=
      I1.laid (t' := s.toks) (fun b o e => Heap.get?_push_of_some _ e) (Nat.le_refl _) (show ObjOk X.prog X.w _ _ _ (.tup ys) from ⟨hz, its, r', IsTup.new _ _⟩)
    exact ⟨.ref h'.objs.size, _, I2, rfl, q _ (I1.hok.fresh (Nat.le_refl _))⟩
  · obtain ⟨its, r', pl, hz⟩ := I.tuple hq
    exact call_tuple_same pl ⟨.ref p, H, I, rfl, q⟩
noncomputable def tyV (K : PySem.W.Frag) (T : String) (x : V) (H : Hp) : Prop := match x with
  | .str _ => T = "str"
  | .int _ => T = "int"
  | .ref p => (T = "list" ∧ ∃ xs, SqL K H p xs) ∨ (T = "tuple" ∧ ∃ o, K.lookup p = some o ∧ o.cls = .type "tuple" ∧ o.dict = none) ∨
      (T = "dict" ∧ ((∃ kvs, H p = some (.dK kvs)) ∨ ∃ kvs, H p = some (.dT kvs))) ∨ (T = "set" ∧ ∃ S n, H p = some (.set S n))
  | _ => False
theorem tyV_is {pins : List (Addr × Obj)} {σ : St} {H : Hp} {s : Shared} {T : String} {x : V} {v : Value} (I : Inv X pins σ H s) (r : RelV x v) (ty : tyV X.K T x H) :
    s.TypeIs v T ∧ ∀ a, v = .ref a → ∃ ob, s.heap.get? a = some ob ∧ ob.dict = none := by
  cases x with
  | str z =>
    obtain ⟨t, rfl⟩ := r
    cases (show T = "str" from ty)
    exact ⟨typeIs_str s z t, fun _ e => nomatch e⟩
  | int i =>
    obtain ⟨t, rfl⟩ := r
    cases (show T = "int" from ty)
    exact ⟨typeIs_int s i t, fun _ e => nomatch e⟩
  | ref p =>
    cases r
    rcases ty with ⟨rfl, xs, hq⟩ | ⟨rfl, o, hk, hc, hd⟩ | ⟨rfl, hk⟩ | ⟨rfl, S, n, hk⟩
    · obtain ⟨its, _, pl, _⟩ := I.list hq
      refine ⟨pl.isList.typeIs, fun a e => ?_⟩
      cases e
      obtain ⟨o, n, e, c, hd, _⟩ := pl
      exact ⟨o, e, hd⟩
    · refine ⟨⟨o, I.kIn p o hk, hc⟩, fun a e => ?_⟩
      cases e
      exact ⟨o, I.kIn _ o hk, hd⟩
    · have z : ∃ o, s.heap.get? p = some o ∧ o.ExactDict := by
        rcases hk with ⟨kvs, hk⟩ | ⟨kvs, hk⟩
        · obtain ⟨_, _, _, _, o, _, _, e, ex, _⟩ := I.hok p _ hk
          exact ⟨o, e, ex⟩
        · obtain ⟨_, _, _, _, o, _, _, e, ex, _⟩ := I.hok p _ hk
          exact ⟨o, e, ex⟩
      obtain ⟨o, e, ex⟩ := z
      refine ⟨⟨o, e, ex.1⟩, fun a e2 => ?_⟩
      cases e2
      exact ⟨o, e, ex.2.1⟩
    · obtain ⟨o, _, _, _, e, ex, _⟩ := I.hok p _ hk
      refine ⟨⟨o, e, ex.1⟩, fun a e2 => ?_⟩
      cases e2
      exact ⟨o, e, ex.2.1⟩
  | _ => exact False.elim ty
noncomputable def tBM0 (K : PySem.W.Frag) (T : String) (r : V → List V → Hp → VK → Prop) (to : TE) : TE := fun σ H Q => to σ H fun x H1 => tyV K T x H1 ∧ r x [] H1 Q
noncomputable def tBM (K : PySem.W.Frag) (T : String) (r : V → List V → Hp → VK → Prop) (to : TE) (t : TA) : TE := fun σ H Q => to σ H fun x H1 => tyV K T x H1 ∧ t σ H1 fun xs H2 => r x xs H2 Q
variable {o e : Expr} {es : List Expr} {to : TE} {t : TA} {name : Str} {apos cpos : Pos} {T id : String} {r : V → List V → Hp → VK → Prop}
theorem pe_bm0 (pa : PlainAttrs T) (slot : Slot T name id) (hty : typeOf (.builtin id) = pure (.type "method_descriptor")) (hm : MtR X id r) (ho : PE X o to)
    (hbase : attributeBase o name X.env (eval o X.env) = eval o X.env := by rfl) (hline : (apos.endLine == cpos.line) = true := by rfl) : PE X (.Call (.Attribute o name apos) [] [] cpos) (tBM0 X.K T r to) := by
  intro pins s σ H Q I h
  refine wpAny_Call_method0_late hbase hline (thn (ho pins s σ H _ I h) fun v s1 ⟨x, H1, I1, r1, ty, q1⟩ => ?_)
  obtain ⟨h1, h2⟩ := tyV_is I1 r1 ty
  exact ⟨T, id, pa, slot, hty, h1, h2, Calls.callWith_builtin rfl (PySem.evalArgs_none (hm pins s1 σ H1 x [] v [] Q I1 r1 .nil q1))⟩
theorem pe_bm (pa : PlainAttrs T) (slot : Slot T name id) (hty : typeOf (.builtin id) = pure (.type "method_descriptor")) (hm : MtR X id r) (ho : PE X o to) (ha : PA X (e :: es) t)
    (hbase : attributeBase o name X.env (eval o X.env) = eval o X.env := by rfl)
    (hfew : ((backTo cpos (starEach (e :: es) X.env)).all (fun x => !x.1) && (backToKw cpos (keywordEach [] X.env)).all (fun x => x.1.isSome)
      && decide ((e :: es).length + ([] : List Keyword).length + (if ([] : List Keyword).isEmpty then 0 else 1) < 30)) = true := by rfl)
    (hline : (apos.endLine == cpos.line) = true := by rfl) (hs : starEach (e :: es) X.env = (false, eval e X.env) :: starEach es X.env := by rfl) (hplain : (backTo cpos (starEach es X.env)).any (·.1) = false := by rfl) :
    PE X (.Call (.Attribute o name apos) (e :: es) [] cpos) (tBM X.K T r to t) := by
  intro pins s σ H Q I h
  refine wpAny_Call_method_late hbase hfew hline rfl (thn (ho pins s σ H _ I h) fun v s1 ⟨x, H1, I1, r1, ty, q1⟩ => ?_)
  obtain ⟨h1, h2⟩ := tyV_is I1 r1 ty
  refine ⟨T, id, pa, slot, hty, h1, h2, ?_⟩
  have hA := ha cpos pins s1 σ H1 _ I1 q1
  rw [hs] at hA ⊢
  refine Calls.callWith_builtin (by show (false || (backTo cpos (starEach es X.env)).any (·.1)) = false; rw [hplain] <;> rfl) (Calls.evalArgs_plain ?_)
  exact thn hA fun us s2 ⟨vs, H2, I2, r2, q2⟩ => hm pins s2 σ H2 x vs v us Q I2 r1 r2 q2
end
end L2
namespace L2
open PySem PySem.Spec PyProof.Rows
noncomputable def MtM (X : Cx) (id : String) (r : V → List V → Hp → VK → Prop) : Prop :=
  ∀ (pins : List (Addr × Obj)) (s : Shared) (σ : St) (H : Hp) (x : V) (xs : List V) (v : Value) (us : List Value) (Q : VK), Inv X pins σ H s → RelV x v → Vals xs us → r x xs H Q →
    wpAny (model X.prog X.w) X.A (call (.builtin id) (v :: us)) (EP X pins σ Q) X.xe s
theorem Vals.one : ∀ {x : V} {us : List Value}, Vals [x] us → ∃ u, us = [u] ∧ RelV x u
  | _, _, .cons r .nil => ⟨_, rfl, r⟩
theorem Vals.rep {xs : List V} {us : List Value} (h : Vals xs us) : ∀ k : Nat, Vals (List.replicate k xs).flatten (List.replicate k us).flatten
  | 0 => .nil
  | k + 1 => by
    rw [List.replicate_succ, List.replicate_succ, List.flatten_cons, List.flatten_cons]
    exact Vals.append h (Vals.rep h k)
theorem foldl_rep (its : List Value) : ∀ (k : Nat) (acc : List Value),
    List.foldl (fun x1 x2 => x1 ++ x2) acc.toArray (List.replicate k its.toArray) = (acc ++ (List.replicate k its).flatten).toArray
  | 0, acc => by simp
  | k + 1, acc => by
    have e : acc.toArray ++ its.toArray = (acc ++ its).toArray := by simp
    have e2 : (acc ++ its) ++ (List.replicate k its).flatten = acc ++ (List.replicate (k + 1) its).flatten := by
      rw [List.replicate_succ, List.flatten_cons, List.append_assoc]
    rw [← e2, ← foldl_rep its k (acc ++ its), ← e, List.replicate_succ, List.foldl_cons]
section
variable {X : Cx} {pins : List (Addr × Obj)} {σ : St} {H : Hp} {s : Shared} {l b : Addr} {xs ys zs : List V}
theorem Inv.lset {its its' : List Value} {n : Nat} {f : Array Value → Array Value} {t' : Nat} (I : Inv X pins σ H s) (hH : H l = some (.lst xs))
    (e : s.heap.get? l = some { cls := .type "list", data := .seq its.toArray n }) (hf : f its.toArray = its'.toArray) (hv : Vals ys its') (hz : ys.length ≤ sizeLine) :
    Inv X pins σ (upd H l (.lst ys)) { s with heap := s.heap.update l (Obj.mapSeq f), toks := t' } := by
  have q := PySem.IsL.update e f
  rw [hf] at q
  refine I.write (x := l) (e := l) (by rw [hH]; exact trivial) (.inl rfl) (fun b' u hb hu => (Heap.get?_update_other s.heap (Obj.mapSeq f) (Ne.symm hb)).trans hu) ⟨_, q⟩ ?_
  exact ⟨hz, its', _, hv, q⟩
theorem Inv.lnew {its : List Value} {t' : Nat} (I : Inv X pins σ H s) (hv : Vals ys its) (hz : ys.length ≤ sizeLine) :
    Inv X pins σ (upd H s.heap.objs.size (.lst ys)) { s with heap := s.heap.push { cls := .type "list", data := .seq its.toArray }, toks := t' } :=
  I.laid (fun _ _ q => Heap.get?_push_of_some _ q) (Nat.le_refl _) ⟨hz, its, 0, hv, Heap.get?_push_size _ rfl⟩
theorem Inv.fresh (I : Inv X pins σ H s) : H s.heap.objs.size = none := I.hok.fresh (Nat.le_refl _)
theorem Inv.lstM (I : Inv X pins σ H s) (hH : H l = some (.lst xs)) : xs.length ≤ sizeLine ∧ ∃ (its : List Value) (n : Nat), Vals xs its ∧ xs.length = its.length ∧ s.heap.get? l = some { cls := .type "list", data := .seq its.toArray n } := by
  obtain ⟨z, its, n, r, e⟩ := I.hok l _ hH
  exact ⟨z, its, n, r, r.length, e⟩
theorem notLongL {n : Nat} (h : n ≤ sizeLine) : Builtin.List.listTooLong n = false := by
  unfold Builtin.List.listTooLong
  exact decide_eq_false (by omega)
end
section
variable {X : Cx}
noncomputable def rAppend : V → List V → Hp → VK → Prop := fun x vs H Q => ∃ l xs y, x = .ref l ∧ vs = [y] ∧ H l = some (.lst xs) ∧ xs.length < sizeLine ∧ Q .non (upd H l (.lst (xs ++ [y])))
theorem mt_append : MtM X "list.append" rAppend := by
  intro pins s σ H x vs v us Q I rx rv h
  obtain ⟨l, xs, y, rfl, rfl, hH, hz, q⟩ := h
  cases rx
  obtain ⟨u, rfl, ru⟩ := rv.one
  obtain ⟨z, its, n, r, hl, e⟩ := I.lstM hH
  refine call_meets F.slot_list_append ⟨_, e, rfl⟩ F.entry_list_append (F.args_list_append_2 _ _) (PySem.list_append l its.toArray n u (by rw [List.size_toArray]; omega)) ⟨e, ?_⟩
  refine ⟨.non, _, I.lset (its' := its ++ [u]) hH e (by simp) (r.append (.cons ru .nil)) ?_, rfl, q⟩
  rw [List.length_append, List.length_singleton]
  omega
noncomputable def rCat : R2 := fun x y H Q => ∃ l b xs zs, x = .ref l ∧ y = .ref b ∧ H l = some (.lst xs) ∧ H b = some (.lst zs) ∧ xs.length + zs.length ≤ sizeLine ∧ ∀ p, H p = none → Q (.ref p) (upd H p (.lst (xs ++ zs)))
theorem op_cat : OpR X (binaryOp .Add) rCat := by
  intro pins s σ H x y v u Q I rx ry h
  obtain ⟨l, b, xs, zs, rfl, rfl, hH, hB, hz, q⟩ := h
  cases rx
  cases ry
  obtain ⟨z, its, n, r, hl, e⟩ := I.lstM hH
  obtain ⟨z2, its2, n2, r2, hl2, e2⟩ := I.lstM hB
  refine PySem.P.add_list e e2 ?_ (by rw [List.size_toArray, List.size_toArray]; omega)
  have ea : its.toArray ++ its2.toArray = (its ++ its2).toArray := by simp
  rw [ea]
  exact ⟨.ref _, _, I.lnew (t' := s.toks) (r.append r2) (by rw [List.length_append]; omega), rfl, q _ I.fresh⟩
noncomputable def rRep : R2 := fun x y H Q => ∃ l k xs, x = .ref l ∧ y = .int k ∧ H l = some (.lst xs) ∧ -(2 ^ 63) ≤ k ∧ k < 2 ^ 63 ∧ xs.length * k.toNat ≤ sizeLine ∧
  ∀ p, H p = none → Q (.ref p) (upd H p (.lst (List.replicate k.toNat xs).flatten))
theorem len_rep {α : Type} (xs : List α) (k : Nat) : (List.replicate k xs).flatten.length = k * xs.length := by
  induction k with
  | zero => simp
  | succ k ih => rw [List.replicate_succ, List.flatten_cons, List.length_append, ih, Nat.succ_mul, Nat.add_comm]
theorem op_rep : OpR X (binaryOp .Mult) rRep := by
  intro pins s σ H x y v u Q I rx ry h
  obtain ⟨l, k, xs, rfl, rfl, hH, h1, h2, hz, q⟩ := h
  cases rx
  obtain ⟨t, rfl⟩ := ry
  obtain ⟨z, its, n, r, hl, e⟩ := I.lstM hH
  have hlen : its.toArray.size * k.toNat ≤ sizeLine := by rw [List.size_toArray, ← hl]; exact hz
  have hcap : ¬ its.toArray.size * k.toNat > (2 ^ 63 - 1) / 8 := by
    have : (sizeLine : Nat) ≤ (2 ^ 63 - 1) / 8 := by decide
    omega
  have hfit : ¬ (!Builtin.List.listFitsIndex k) = true := by
    rw [fitsIndex_both h1 h2]
    exact Bool.false_ne_true
  have hlong : ¬ Builtin.List.listTooLong (its.toArray.size * k.toNat) = true := by
    rw [notLongL hlen]
    exact Bool.false_ne_true
  have hnew : List.foldl (fun x1 x2 => x1 ++ x2) #[] (List.replicate (if its.toArray.isEmpty = true then 0 else k.toNat) its.toArray) = (List.replicate k.toNat its).flatten.toArray := by
    have f0 : ∀ m : Nat, List.foldl (fun x1 x2 => x1 ++ x2) #[] (List.replicate m its.toArray) = (List.replicate m its).flatten.toArray := fun m => by
      have := foldl_rep its m []
      rw [List.nil_append] at this
      exact this
    rw [f0]
    cases its with
    | nil => simp
    | cons a r' => rw [if_neg (by simp)]
  refine wpAny_binaryOp_repeat_ref (T := "list") (U := "int") (by decide) ⟨_, e, rfl⟩ (fun s' => typeIs_int s' k t) noFill_list_mul F.fills_int_mul F.slot_int_rmul repeat_list F.slot_int_index.lookup
    (call_meets F.slot_int_rmul (typeIs_int s k t) F.entry_int_rmul (F.args_int_rmul_2 _ _) (int___rmul___int_list k t l its.toArray n)
      ⟨e, rfl, ⟨_, e, rfl⟩, call_meets F.slot_list_mul ⟨_, e, rfl⟩ F.entry_list_mul (F.args_list_mul_2 _ _) (AutoListH.list___mul___list_int_3 l its.toArray n k t hfit hcap hlong) ⟨e, ?_⟩⟩)
  rw [hnew]
  exact ⟨.ref _, _, I.lnew (t' := s.toks) (r.rep k.toNat) (by rw [len_rep, Nat.mul_comm]; exact hz), rfl, q _ I.fresh⟩
end
end L2
namespace Att
open PySem PySem.W PySem.Calls PyProof.Rows
theorem ints_of_wellAll {P : Params} {h : Heap} : ∀ (ns : List Int) (vs : List Value), WellAll P h vs (ns.map WData.int) → IntsAre vs ns := by
  intro ns
  induction ns with
  | nil =>
    intro vs w
    rw [List.map_nil] at w
    cases w
    exact .nil
  | cons n ns ih =>
    intro vs w
    rw [List.map_cons] at w
    cases w with
    | cons a b =>
      cases a
      exact .cons _ _ (ih _ b)
theorem script_of {l : OpenLaw} {n : Nat} (hn : l.most = some n) {P : Params} {h : Heap} {args : List WData} {vals : List Value}
    (hpre : l.row.toRowW.claim.pre args = true) (hwl : WellAll P h vals args) :
    ∃ a vs ns, vals = [Value.ref a] ∧ args = [WData.list (ns.map WData.int)] ∧ h.get? a = some { cls := .type "list", data := .seq vs.toArray } ∧ IntsAre vs ns ∧ ns.length ≤ n := by
  have hsh : WShape.hasAll [] args [.list .int] = true := (pre_splitW hpre).1
  have hc : l.pre.holds [] { args := args } = true := (pre_splitW hpre).2
  obtain ⟨d, r, rfl, h1, h2⟩ := hasAllW_cons hsh
  obtain rfl := hasAllW_nil h2
  obtain ⟨xs, rfl, h3⟩ := hasW_list h1
  obtain ⟨ns, rfl⟩ := items_int h3
  have hlen : ns.length ≤ n := by
    unfold OpenLaw.pre at hc
    have h4 : (WTm.not (.lt (.lit (.int (n : Int))) (.len (.arg 0)))).holds [] { args := [.list (ns.map .int)] } = true := by
      have h4 := (holds_andW hc).1
      rw [hn] at h4
      exact h4
    have h5 := condW_of h4 (w_not (w_lt w_lit (w_len_list (w_arg rfl))))
    rw [List.length_map] at h5
    refine Nat.le_of_not_lt fun q => ?_
    have q' : (n : Int) < ((ns.length : Nat) : Int) := by omega
    first
      | (rw [decide_eq_true q'] at h5; exact absurd h5 (by decide))
      | (simp at h5; omega)
  cases hwl with
  | cons w1 w2 =>
    cases w2
    cases w1 with
    | list ho hall => exact ⟨_, _, ns, rfl, rfl, ho, ints_of_wellAll ns _ hall, hlen⟩
theorem post_true (l : OpenLaw) (args : List WData) : l.row.toRowW.claim.post args (.bool true) args = true :=
  postW_of (r := l.row.toRowW) (X := (true == true))
    (show WShape.has [] (.bool true) .bool = true by first | rfl | decide | simp [WShape.has, WShape.arms, WShape.armsAll])
    (show (WTm.eq .res (.lit (.bool true))).value [] { args := args, res := some (.bool true), after := args } = some (.bool (true == true)) from w_eq_bool (w_res rfl) w_lit) rfl
theorem attach_call {l : OpenLaw} {n : Nat} {q : Program} {loose : List Str} {XP : (Str → Option Value) → Heap → Prop} {YP : World → Heap → Prop} {d : DefRec}
    (hn : l.most = some n) (hdf : d.params.defaults = [])
    (call : ∀ (w : World) (s₀ s₁ : Shared) (mg mb : Str → Option Value) (fa : Addr) (o : Obj) (pm cd doc : Value) (a : Addr) (vs : List Value) (ns : List Int),
      Ground q loose [] XP w s₀ mg mb s₁.heap → YP w s₁.heap →
      s₁.heap.get? fa = some o → o.data = .func (docDef d.name d.params d.body d.scope pm cd doc) → s₁.heap.CodeRec cd d.name → mg d.name = some (.ref fa) →
      s₁.heap.get? a = some { cls := .type "list", data := .seq vs.toArray } → IntsAre vs ns → ns.length ≤ n → s₁.gens = #[] →
      codeAny (model l.prog w) callerA (.call (.ref fa) ⟨[.ref a], []⟩) (fun r s' => r = .ok (.ret (.bool true)) ∧ OldK s₁.heap s'.heap ∧ s'.os = s₁.os ∧ AllBare s'.gens) s₁) :
    WalkO q loose XP YP l.row.toRowW d [] (fun f vs => PySem.call f vs) := by
  intro w s₀ s₁ mg mb G Y fa o pm cd doc dV kV ho hd hcd hD hmg hg args vals as hpre hlay hrd hwl hlo
  obtain rfl : dV = .none := Dflts.none hD hdf
  obtain rfl : kV = .none := Dflts.noKw hD
  obtain ⟨a, vs, ns, rfl, rfl, hobj, hints, hlen⟩ := script_of hn hpre hwl
  refine enter_call (codeAny_mono (call w s₀ s₁ mg mb fa o pm cd doc a vs ns G Y ho (fd_plain hd) hcd hmg hobj hints hlen hg) fun r s' hq => ?_)
  obtain ⟨rfl, h2, h3, h4⟩ := hq
  exact ⟨.inl ⟨.bool true, .bool true, [], rfl, fun _ => rfl, .bool true, post_true l _, fun _ => ⟨List.Pairwise.nil, fun _ hm => (nomatch hm)⟩⟩, h2, h3, h4⟩
section
variable {prog : Program} {w : World} {A : Around} {E : Value → Shared → Prop} {s : Shared} {K : Frag}
noncomputable def noObjs (h : Heap) : Heap := { h with objs := #[] }
end
end Att
namespace L2
open PySem PySem.Spec PyProof.Rows
theorem vals_ints : ∀ {vs : List Value} {ns : List Int}, IntsAre vs ns → Vals (ns.map V.int) vs
  | _, _, .nil => .nil
  | _, _, .cons n t h => .cons ⟨t, rfl⟩ (vals_ints h)
noncomputable def Only (H : Hp) : Prop := ∀ b, H b = none ∨ ∃ o xs, H b = some (.frz o (.lst xs))
theorem law_call {P : Program} {w : World} {K : PySem.W.Frag} {mg mb : Str → Option Value} {CX : CXT} {k : Nat} {fa a : Addr} {fd : FuncData} {x : Str} {sp : Sp} {s₁ : Shared} {vs : List Value} {ns : List Int}
    (KX : K.In s₁.heap) (hns : s₁.heap.Ns mainGlobals mg) (hb : s₁.heap.Ns builtinsNs mb) (hbb : ∀ x : Str, x ≠ "__name__" → mb x = bootBuiltins x) (hlim : s₁.heap.NoLimit) (hg : s₁.gens = #[])
    (ha : s₁.heap.get? a = some { cls := .type "list", data := .seq vs.toArray }) (hi : IntsAre vs ns) (hl : ns.length ≤ sizeLine) (hr : Room k callerA)
    (F : ∀ base : Heap, K.In base → base.Ns mainGlobals mg → FnOk P w K mg base CX k fa fd [x] sp) (hbind : ∀ (s : Shared) (u : Value), BindsTo s fd ⟨[u], []⟩ [(x, u)])
    (hsp : ∀ H : Hp, Only H → SqL K H a (ns.map V.int) → sp [.ref a] H (fun v _ => v = .bl true) fun _ _ _ => False)
    (hCX : ∀ H e s', CX [] H s₁ (fun _ _ _ => False) e s' → False) :
    codeAny (model P w) callerA (.call (.ref fa) ⟨[.ref a], []⟩) (fun r s' => r = .ok (.ret (.bool true)) ∧ OldK s₁.heap s'.heap ∧ s'.os = s₁.os ∧ AllBare s'.gens) s₁ := by
  have rv := vals_ints hi
  have lenV := hi.length
  have core : ∀ H : Hp, Only H → SqL K H a (ns.map V.int) → HOk P w H s₁.heap → (∀ b, H b ≠ none → b = a) → (H a ≠ none → K.lookup a = none) →
      codeAny (model P w) callerA (.call (.ref fa) ⟨[.ref a], []⟩) (fun r s' => r = .ok (.ret (.bool true)) ∧ OldK s₁.heap s'.heap ∧ s'.os = s₁.os ∧ AllBare s'.gens) s₁ := by
    intro H hO hS hok hA hK
    have base_of : ∀ {b : Addr} {o : Obj}, s₁.heap.get? b = some o → H b = none → (hidT s₁.heap H).get? b = some o := fun e n => hidT_get e n
    have noA : ∀ {b : Addr} {o : Obj} {es : Array DictEntry} {ep : Nat}, s₁.heap.get? b = some o → o.data = .dict es ep → H b = none := fun {b o es ep} e d => by
      cases q : H b with
      | none => rfl
      | some u =>
        have e' : b = a := hA b (by rw [q]; simp)
        subst e'
        rw [ha] at e; cases e
        have d' : Data.seq vs.toArray _ = Data.dict es ep := d
        cases d'
    have nsK : ∀ {b : Addr} {m : Str → Option Value}, s₁.heap.Ns b m → (hidT s₁.heap H).Ns b m := fun {b m} ⟨o, es, ep, e, d, r⟩ => ⟨o, es, ep, base_of e (noA e d), d, r⟩
    have hKb : K.In (hidT s₁.heap H) := fun b o e => base_of (KX b o e) (by
      cases q : H b with
      | none => rfl
      | some u =>
        have e' : b = a := hA b (by rw [q]; simp)
        subst e'
        rw [hK (by rw [q]; simp)] at e; cases e)
    have hM : Mod K mg (hidT s₁.heap H) := ⟨hKb, nsK hns, ⟨mb, nsK hb, hbb⟩, let ⟨mc, h1, h2⟩ := hlim; ⟨mc, nsK h1, h2⟩⟩
    have e0 : Env0 P w K mg (hidT s₁.heap H) callerA [] s₁ H := ⟨rfl, hM, fun b o e => of_hidT e, Nat.le_of_eq (hidT_size _ _), trivial, fun b hb => absurd (show b ∈ ([] : List Addr) from hb) (by simp), hok, .of_eq hg⟩
    refine codeAny_mono ((F _ hKb (nsK hns)).run callerA [] s₁ H ⟨[.ref a], []⟩ [.ref a] [.ref a] _ _ hr e0 (hbind s₁ (.ref a)) (.cons rfl .nil) (hsp H hO hS)) fun r s' h => ?_
    cases r with
    | error e => exact (hCX H e s' h).elim
    | ok fl =>
      cases fl with
      | next => exact False.elim h
      | brk => exact False.elim h
      | cont => exact False.elim h
      | ret u =>
        obtain ⟨v, H', os, bare, un, hok', r', q⟩ := h
        have q' : v = .bl true := q
        subst q'
        obtain rfl : u = Value.bool true := r'
        refine ⟨rfl, OldK.of_keep fun b o e => ?_, os, bare⟩
        cases q : H b with
        | none => exact un.keep b o e q (by intro z; exact absurd (show b ∈ ([] : List Addr) from z) (by simp)) (by simp)
        | some u =>
          rcases hO b with z | ⟨ob, xs, z⟩
          · rw [q] at z; cases z
          · have z2 := un.frzs b ob _ z
            obtain ⟨e1, _⟩ := hok b _ z
            obtain ⟨e2, _⟩ := hok' b _ z2
            rw [e] at e1; cases e1
            exact e2
  cases hk : K.lookup a with
  | some o =>
    have e := KX a o hk
    rw [ha] at e
    cases e
    refine core (fun _ => none) (fun _ => .inl rfl) (.inr ⟨_, vs.toArray, _, hk, rfl, rfl, rfl, by rw [List.size_toArray, lenV]; exact hl, by simpa using rv⟩) (fun b u z => by have z' : (none : Option HO) = some u := z; cases z') (fun b z => absurd rfl z) fun z => absurd rfl z
  | none =>
    refine core (fun b => if b = a then some (.frz { cls := .type "list", data := .seq vs.toArray } (.lst (ns.map V.int))) else none) (fun b => ?_) (.inl (.inr ⟨{ cls := .type "list", data := .seq vs.toArray }, if_pos rfl⟩)) (fun b u z => ?_) (fun b z => ?_) fun _ => hk
    · by_cases hb : b = a
      · exact .inr ⟨_, _, if_pos hb⟩
      · exact .inl (if_neg hb)
    · by_cases hb : b = a
      · have z' := (if_pos hb).symm.trans z
        cases z'
        subst hb
        exact ⟨ha, by rw [List.length_map]; exact hl, vs, _, rv, ha⟩
      · have z' := (if_neg hb).symm.trans z
        cases z'
    · by_cases hb : b = a
      · exact hb
      · exact absurd (if_neg hb) z
end L2
namespace L2
open PySem PySem.Spec PyProof.Rows
theorem walk_of {l : PySem.W.OpenLaw} {n k : Nat} {q : Program} {loose : List Str} {XP : (Str → Option Value) → Heap → Prop} {YP : World → Heap → Prop} {d : DefRec} {K : Params → PySem.W.Frag} {CX : World → CXT} {sp : World → Sp} {x : Str}
    (hn : l.most = some n) (hn2 : n ≤ sizeLine) (hdf : d.params.defaults = []) (hr : Room k callerA)
    (hY : ∀ (w : World) (h : Heap), YP w h → (K w.params).In h)
    (F : ∀ (w : World) (mg : Str → Option Value) (fa : Addr) (h : Heap), (K w.params).In h → h.Ns mainGlobals mg → mg d.name = some (.ref fa) →
      ∃ fd : FuncData, (∀ (s : Shared) (u : Value), BindsTo s fd ⟨[u], []⟩ [(x, u)]) ∧
        ∀ base : Heap, (K w.params).In base → base.Ns mainGlobals mg → FnOk l.prog w (K w.params) mg base (CX w) k fa fd [x] (sp w))
    (hsp : ∀ (w : World) (H : Hp) (a : Addr) (ns : List Int), ns.length ≤ n → Only H → SqL (K w.params) H a (ns.map V.int) → sp w [.ref a] H (fun v _ => v = .bl true) fun _ _ _ => False)
    (hCX : ∀ (w : World) (H : Hp) (s : Shared) (e : Value) (s' : Shared), CX w [] H s (fun _ _ _ => False) e s' → False) :
    PySem.W.WalkO q loose XP YP l.row.toRowW d [] (fun f vs => PySem.call f vs) := by
  refine Att.attach_call hn hdf fun w s₀ s₁ mg mb fa o pm cd doc a vs ns G Y ho hd hcd hmg hobj hints hlen hg => ?_
  have KX := hY w _ Y
  obtain ⟨fd, hb, hF⟩ := F w mg fa _ KX G.T.g hmg
  exact law_call KX G.T.g G.T.b G.T.builtins G.T.nolimit hg hobj hints (Nat.le_trans hlen hn2) hr hF hb (fun H hO hS => hsp w H a ns hlen hO hS) fun H e s' => hCX w H s₁ e s'
end L2
namespace L2
open PySem PySem.Spec PyProof.Rows
noncomputable def inClass (s : Stmt) (j : Nat) : Stmt := match s with
  | .ClassDef _ _ _ body _ _ _ _ _ _ _ => body.getD j (.Pass ⟨0, 0, 0, 0⟩)
  | _ => .Pass ⟨0, 0, 0, 0⟩
noncomputable def defArgs (s : Stmt) : Arguments := match s with
  | .FunctionDef _ a _ _ _ _ _ _ _ _ => a
  | _ => { posonlyargs := [], args := [], vararg := none, kwonlyargs := [], kw_defaults := [], kwarg := none, defaults := [] }
noncomputable def defBody (s : Stmt) : List Stmt := match s with
  | .FunctionDef _ _ b _ _ _ _ _ _ _ => b
  | _ => []
noncomputable def defScope (s : Stmt) : Scope := match s with
  | .FunctionDef _ _ _ _ _ _ sc _ _ _ => sc
  | _ => { kind := .function, names := [], isGenerator := false, isCoroutine := false }
noncomputable abbrev CX0 : CXT := fun _ _ _ _ _ _ => False
noncomputable abbrev E0 : XK := fun _ _ _ => False
theorem pass0 {X : Cx} : Passes CX0 X E0 := fun _ _ _ _ _ _ _ h => h.elim
structure Fun (K : PySem.W.Frag) (x qual : Str) (st : Stmt) (f : Addr) (fd : FuncData) : Prop where
  ex : ∃ (oc : Value) (od : Option Addr) (kV doc pm : Value) (an : Option Addr) (cdv ct : Value) (osl : Array (Option Value)),
    fd = PySem.W.fnOf x qual (defArgs st) (defBody st) (defScope st) .none kV doc pm an cdv ct ∧ K.lookup f = some ⟨oc, od, .func fd, osl⟩ ∧ PySem.W.codeIn K cdv qual = true
  kp : PySem.W.keepIn K (.ref f) = true
section
variable {P : Program} {w : World} {K : PySem.W.Frag} {mg : Str → Option Value} {base : Heap}
theorem Fun.ok {x qual : Str} {st : Stmt} {f : Addr} {fd : FuncData} {N ps : List Str} {k : Nat} {sp : Sp} (F : Fun K x qual st f fd) (S : FnScope N ps (defScope st)) (len : ∀ vs H Q E, sp vs H Q E → vs.length = ps.length)
    (hbody : ∀ (cdv : Value) (A : Around) (outer : List Env) (s : Shared) (H : Hp) (vs : List V) (Q : VK) (E : XK), Room k (A.deeper (envOfC qual (defScope st) s.heap.objs.size f cdv)) → sp vs H Q E →
      ∃ t, PSs (cxOf CX0 P w K mg base N qual (defScope st) f cdv A outer s H E).nox (defBody st) t ∧ t { nx := fun _ H' => Q .non H', rt := Q } (start N vs) H) : FnOk P w K mg base CX0 (k + 1) f fd ps sp := by
  obtain ⟨oc, od, kV, doc, pm, an, cdv, ct, osl, rfl, lk, hcd⟩ := F.ex
  refine fn_of lk hcd S len fun A outer s H vs Q E hr hsp => ?_
  obtain ⟨t, h, q⟩ := hbody cdv A outer s H vs Q E hr hsp
  exact ⟨t, h.nox, q⟩
theorem Fun.binds {x qual : Str} {st : Stmt} {f : Addr} {fd : FuncData} {ps : List Str} (F : Fun K x qual st f fd)
    (h : ∀ (kV doc pm : Value) (an : Option Addr) (cdv ct : Value) (us : List Value), us.length = ps.length → bindArgs (PySem.W.fnOf x qual (defArgs st) (defBody st) (defScope st) .none kV doc pm an cdv ct) ⟨us, []⟩ = pure (ps.zip us)) : Binds K fd ps [] := by
  obtain ⟨oc, od, kV, doc, pm, an, cdv, ct, osl, rfl, lk, hcd⟩ := F.ex
  exact .all (h kV doc pm an cdv ct)
theorem fun_mk {x qual : Str} {st : Stmt} {f : Addr} {oc : Value} {od an : Option Addr} {osl : Array (Option Value)} {kV doc pm cdv ct : Value} (l : K.lookup f = some ⟨oc, od, .func (PySem.W.fnOf x qual (defArgs st) (defBody st) (defScope st) .none kV doc pm an cdv ct), osl⟩)
    (c : PySem.W.codeIn K cdv qual = true) (k : PySem.W.keepIn K (.ref f) = true) : Fun K x qual st f (PySem.W.fnOf x qual (defArgs st) (defBody st) (defScope st) .none kV doc pm an cdv ct) := ⟨⟨oc, od, kV, doc, pm, an, cdv, ct, osl, rfl, l, c⟩, k⟩
end
theorem hu_of {A : Around} {k : Nat} (hr : Room k A) : A.units + 1 < cLine := Nat.lt_of_le_of_lt (Nat.add_le_add_left (by decide : 1 ≤ 64) _) hr.units
theorem small1000 {n : Nat} (h : n ≤ 1000) : n < sizeLine := Nat.lt_of_le_of_lt h (by decide)
section
variable {X : Cx}
theorem pv (i : Nat) {x : Str} {pos : Pos} (hN : X.N[i]? = some x := by rfl) (hv : Vis X.env.scope x := by first | exact Or.inl rfl | exact Or.inr (Or.inl rfl) | exact Or.inr (Or.inr rfl)) (hd : (x == ("__debug__" : Str)) = false := by decide)
    (hcd : (x == ("__classdict__" : Str)) = false := by decide) : PE X (.Name x pos) (tVar i) := pe_var hN hv hd hcd
end
theorem ite2 {c A B : Prop} [Decidable c] (h1 : c → A) (h2 : ¬ c → B) : if c then A else B := by
  by_cases h : c
  · rw [if_pos h]
    exact h1 h
  · rw [if_neg h]
    exact h2 h
noncomputable def Same (H H' : Hp) : Prop := ∀ b o, H b = some o → H' b = some o
theorem Same.refl (H : Hp) : Same H H := fun _ _ h => h
theorem Same.trans {H H1 H2 : Hp} (a : Same H H1) (b : Same H1 H2) : Same H H2 := fun c o h => b c o (a c o h)
theorem Same.free {H H' : Hp} (e : Same H H') {l : Addr} (h : H' l = Option.none) : H l = Option.none := by
  cases q : H l with
  | none => rfl
  | some o =>
    rw [e l o q] at h
    cases h
theorem Same.seq {K : PySem.W.Frag} {H H' : Hp} {a : Addr} {xs : List V} (e : Same H H') (h : SqL K H a xs) : SqL K H' a xs := by
  rcases h with (h | ⟨o, h⟩) | h
  · exact .inl (.inl (e _ _ h))
  · exact .inl (.inr ⟨o, e _ _ h⟩)
  · exact .inr h
end L2
namespace L2
open PySem PySem.Spec PyProof.Rows
section
variable {κ : Type} [DecidableEq κ]
noncomputable def valV (kvs : List (κ × V)) (k : κ) : Option V := (kvs.find? fun kv => decide (kv.1 = k)).map (·.2)
noncomputable def putK (kvs : List (κ × V)) (k : κ) (v : V) : List (κ × V) :=
  if (kvs.any fun kv => decide (kv.1 = k)) = true then kvs.map (fun kv => if kv.1 = k then (kv.1, v) else kv) else kvs ++ [(k, v)]
theorem valV_pos {p : κ × V} {r : List (κ × V)} {k : κ} (e : p.1 = k) : valV (p :: r) k = some p.2 := by simp [valV, List.find?_cons, e]
theorem valV_neg {p : κ × V} {r : List (κ × V)} {k : κ} (e : ¬ p.1 = k) : valV (p :: r) k = valV r k := by simp [valV, List.find?_cons, e]
theorem valV_any (k : κ) : ∀ kvs : List (κ × V), (kvs.any fun kv => decide (kv.1 = k)) = (valV kvs k).isSome
  | [] => rfl
  | p :: r => by
    rw [List.any_cons]
    by_cases e : p.1 = k
    · simp only [valV_pos e, decide_eq_true e, Bool.true_or, Option.isSome_some]
    · rw [valV_neg e, decide_eq_false e, Bool.false_or]; exact valV_any k r
theorem length_putK (kvs : List (κ × V)) (k : κ) (v : V) : (putK kvs k v).length ≤ kvs.length + 1 := by
  unfold putK
  split
  · rw [List.length_map]; omega
  · rw [List.length_append, List.length_cons, List.length_nil]; omega
theorem RelO.isSome_eq {o : Option V} {u : Option Value} (r : RelO o u) : o.isSome = u.isSome := by
  cases o with
  | none => cases u with
    | none => rfl
    | some _ => exact (show False from r).elim
  | some _ => cases u with
    | none => exact (show False from r).elim
    | some _ => rfl
theorem KV.val {kvs : List (κ × V)} {vs : List (κ × Value)} (r : KV kvs vs) (k : κ) : RelO (valV kvs k) (valueAt vs k) := by
  unfold KV at r
  induction r with
  | nil => exact True.intro
  | @cons p q ps qs h t ih =>
    obtain ⟨h1, h2⟩ := h
    by_cases e : p.1 = k
    · have e' : q.1 = k := h1.symm.trans e
      have b : valueAt (q :: qs) k = some q.2 := by simp [valueAt, List.find?_cons, e']
      rw [valV_pos e, b]; exact h2
    · have e' : ¬ q.1 = k := fun z => e (h1.trans z)
      have b : valueAt (q :: qs) k = valueAt qs k := by simp [valueAt, List.find?_cons, e']
      rw [valV_neg e, b]; exact ih
theorem KV.any {kvs : List (κ × V)} {vs : List (κ × Value)} (r : KV kvs vs) (k : κ) : (kvs.any fun kv => decide (kv.1 = k)) = vs.any fun kv => decide (kv.1 = k) := by
  unfold KV at r
  induction r with
  | nil => rfl
  | cons h t ih => rw [List.any_cons, List.any_cons, ih, h.1]
theorem KV.repl {kvs : List (κ × V)} {vs : List (κ × Value)} (r : KV kvs vs) (k : κ) {y : V} {u : Value} (ry : RelV y u) :
    KV (kvs.map fun kv => if kv.1 = k then (kv.1, y) else kv) (vs.map fun kv => if kv.1 = k then (kv.1, u) else kv) := by
  unfold KV at r ⊢
  induction r with
  | nil => exact .nil
  | @cons p q ps qs h t ih =>
    rw [List.map_cons, List.map_cons]
    refine .cons ?_ ih
    obtain ⟨h1, h2⟩ := h
    by_cases e : p.1 = k
    · rw [if_pos e, if_pos (h1.symm.trans e)]; exact ⟨h1, ry⟩
    · rw [if_neg e, if_neg (fun z => e (h1.trans z))]; exact ⟨h1, h2⟩
theorem KV.put {kvs : List (κ × V)} {vs : List (κ × Value)} (r : KV kvs vs) (k : κ) {y : V} {u : Value} (ry : RelV y u) : KV (putK kvs k y) (stored vs k u) := by
  unfold putK stored
  rw [r.any k]
  by_cases e : (vs.any fun kv => decide (kv.1 = k)) = true
  · rw [if_pos e, if_pos e]; exact r.repl k ry
  · rw [if_neg e, if_neg e]; exact Paired.snoc r ⟨rfl, ry⟩
theorem KV.keys {kvs : List (κ × V)} {vs : List (κ × Value)} (r : KV kvs vs) : kvs.map (·.1) = vs.map (·.1) := by
  unfold KV at r
  induction r with
  | nil => rfl
  | cons h t ih => rw [List.map_cons, List.map_cons, ih, h.1]
theorem KV.length {kvs : List (κ × V)} {vs : List (κ × Value)} (r : KV kvs vs) : kvs.length = vs.length := Paired.length r
end
theorem kV_is {P : Program} {w : World} {k : Key} {u : Value} (r : RelV (kV k) u) : (mixKind P w).is k u = true := by
  cases k with
  | inl i => obtain ⟨t, e⟩ := (show ∃ t, u = Value.int i t from r); subst e; exact mixKind_int P w i t
  | inr x => obtain ⟨t, e⟩ := (show ∃ t, u = Value.str x t from r); subst e; exact mixKind_str P w x t
theorem items_are {P : Program} {w : World} : ∀ {ks : List Key} {us : List Value}, Vals (ks.map kV) us → ItemsAre (mixKind P w) ks us
  | [], _, r => by rw [List.map_nil] at r; cases r; exact .nil
  | k :: ks, _, r => by
    rw [List.map_cons] at r
    cases r with
    | cons h t => exact .cons (kV_is h) (items_are t)
noncomputable abbrev KT (H : Hp) : List (List Key × V) → List (List Key × Addr × Value) → Prop := Paired fun p q => p.1 = q.1 ∧ H q.2.1 = some (.tup (p.1.map kV)) ∧ RelV p.2 q.2.2
theorem KT.val {H : Hp} {kvs : List (List Key × V)} {xs : List (List Key × Addr × Value)} (r : KT H kvs xs) (k : List Key) : RelO (valV kvs k) ((atKey xs k).map (·.2)) := by
  induction r with
  | nil => exact True.intro
  | @cons p q ps qs h t ih =>
    obtain ⟨h1, _, h2⟩ := h
    by_cases e : p.1 = k
    · have e' : q.1 = k := h1.symm.trans e
      have b : atKey (q :: qs) k = some q.2 := by simp [atKey, List.find?_cons, e']
      rw [valV_pos e, b]; exact h2
    · have e' : ¬ q.1 = k := fun z => e (h1.trans z)
      have b : atKey (q :: qs) k = atKey qs k := by simp [atKey, List.find?_cons, e']
      rw [valV_neg e, b]; exact ih
theorem KT.repl {H : Hp} {kvs : List (List Key × V)} {xs : List (List Key × Addr × Value)} (r : KT H kvs xs) (k : List Key) {y : V} {u : Value} (ry : RelV y u) :
    KT H (kvs.map fun kv => if kv.1 = k then (kv.1, y) else kv) (xs.map (putAt k u)) := by
  induction r with
  | nil => exact .nil
  | @cons p q ps qs h t ih =>
    rw [List.map_cons, List.map_cons]
    refine .cons ?_ ih
    obtain ⟨h1, h2, h3⟩ := h
    unfold putAt
    by_cases e : p.1 = k
    · rw [if_pos e, if_pos (h1.symm.trans e)]; exact ⟨h1, h2, ry⟩
    · rw [if_neg e, if_neg (fun z => e (h1.trans z))]; exact ⟨h1, h2, h3⟩
theorem KT.put {H : Hp} {kvs : List (List Key × V)} {xs : List (List Key × Addr × Value)} (r : KT H kvs xs) (k : List Key) {b : Addr} {y : V} {u : Value} (hb : H b = some (.tup (k.map kV))) (ry : RelV y u) :
    KT H (putK kvs k y) (storedH xs k b u) := by
  have e : (kvs.any fun kv => decide (kv.1 = k)) = (atKey xs k).isSome := by
    rw [valV_any, (r.val k).isSome_eq, Option.isSome_map]
  unfold putK storedH
  rw [e]
  by_cases q : (atKey xs k).isSome = true
  · rw [if_pos q, if_pos q]; exact r.repl k ry
  · rw [if_neg q, if_neg q]; exact Paired.snoc r ⟨rfl, hb, ry⟩
theorem KT.keeps {H H' : Hp} {kvs : List (List Key × V)} {xs : List (List Key × Addr × Value)} (r : KT H kvs xs) (ht : ∀ b ys, H b = some (.tup ys) → H' b = some (.tup ys)) : KT H' kvs xs :=
  Paired.mapP r fun _ _ z => ⟨z.1, ht _ _ z.2.1, z.2.2⟩
section
variable {P : Program} {w : World} {H : Hp} {h : Heap} {a : Addr}
theorem rd_of {u : HO} (ok : HOk P w H h) (e : Rd H a u) : ObjOk P w H h a u := e.ok ok
theorem dk_rd {kvs : List (Key × V)} (ok : HOk P w H h) (e : Rd H a (.dK kvs)) : kvs.length ≤ sizeLine ∧ (a == sysModules) = false ∧ ∃ vs, KV kvs vs ∧ h.DictOf (mixKind P w) a vs :=
  show ObjOk P w H h a (.dK kvs) from rd_of ok e
theorem dk_of {kvs : List (Key × V)} (ok : HOk P w H h) (e : H a = some (.dK kvs)) : kvs.length ≤ sizeLine ∧ (a == sysModules) = false ∧ ∃ vs, KV kvs vs ∧ h.DictOf (mixKind P w) a vs := dk_rd ok (.inl e)
theorem key_of {ks : List Key} (ok : HOk P w H h) (e : H a = some (.tup (ks.map kV))) : (tupleKind (mixKind P w)).is h ks a := by
  obtain ⟨_, its, r, o, h1, h2, n, h3⟩ := (show ObjOk P w H h a (.tup (ks.map kV)) from ok a _ e)
  exact ⟨o, its.toArray, n, h1, h2, h3, by simpa using items_are r⟩
theorem dt_rd {kvs : List (List Key × V)} (ok : HOk P w H h) (e : Rd H a (.dT kvs)) : kvs.length ≤ sizeLine ∧ (a == sysModules) = false ∧
    ∃ xs, KT H kvs xs ∧ h.DictOfH (tupleKind (mixKind P w)) a xs := by
  obtain ⟨z, y, xs, r, o, es, ep, h1, h2, h3, h4, h5⟩ := (show ObjOk P w H h a (.dT kvs) from rd_of ok e)
  refine ⟨z, y, xs, r, o, es, ep, h1, h2, h3, h4, fun x hx => ?_, h5⟩
  have all : ∀ {l : List (List Key × V)} {m : List (List Key × Addr × Value)}, KT H l m → ∀ x ∈ m, (tupleKind (mixKind P w)).is h x.1 x.2.1 := by
    intro l m q
    induction q with
    | nil => intro x hx; exact nomatch hx
    | @cons p q ps qs hq t ih =>
      intro x hx
      rcases List.mem_cons.mp hx with e | hx
      · subst e
        exact key_of ok (by rw [← hq.1]; exact hq.2.1)
      · exact ih x hx
  exact all r x hx
theorem dt_of {kvs : List (List Key × V)} (ok : HOk P w H h) (e : H a = some (.dT kvs)) : kvs.length ≤ sizeLine ∧ (a == sysModules) = false ∧
    ∃ xs, KT H kvs xs ∧ h.DictOfH (tupleKind (mixKind P w)) a xs := dt_rd ok (.inl e)
end
noncomputable def DGet (H : Hp) (a : Addr) (y : V) (r : Option V) : Prop :=
  (∃ kvs k, Rd H a (.dK kvs) ∧ y = kV k ∧ r = valV kvs k) ∨ ∃ kvs k b, Rd H a (.dT kvs) ∧ y = .ref b ∧ H b = some (.tup (k.map kV)) ∧ r = valV kvs k
noncomputable def DPut (H : Hp) (a : Addr) (y v : V) (H' : Hp) : Prop :=
  (∃ kvs k, H a = some (.dK kvs) ∧ y = kV k ∧ kvs.length < sizeLine ∧ H' = upd H a (.dK (putK kvs k v))) ∨
  ∃ kvs k b, H a = some (.dT kvs) ∧ y = .ref b ∧ H b = some (.tup (k.map kV)) ∧ kvs.length < sizeLine ∧ H' = upd H a (.dT (putK kvs k v))
theorem DGet.k {H : Hp} {a : Addr} {kvs : List (Key × V)} {k : Key} (e : H a = some (.dK kvs)) : DGet H a (kV k) (valV kvs k) := .inl ⟨kvs, k, .inl e, rfl, rfl⟩
theorem DPut.k {H : Hp} {a : Addr} {kvs : List (Key × V)} {k : Key} {v : V} (e : H a = some (.dK kvs)) (hl : kvs.length < sizeLine) : DPut H a (kV k) v (upd H a (.dK (putK kvs k v))) := .inl ⟨kvs, k, e, rfl, hl, rfl⟩
section
variable {X : Cx} {pins : List (Addr × Obj)} {σ : St} {H : Hp} {s : Shared} {a : Addr} {y v : V} {u r : Value} {o : Option V} {A : Around} {E : Value → Shared → Prop}
theorem Inv.big (I : Inv X pins σ H s) : sysModules < s.heap.objs.size := by
  have h : mainGlobals < s.heap.objs.size := (I.mod.glob.keeps I.bk).lt
  exact Nat.lt_trans (by decide) h
theorem d_getItem {Q : Value → Shared → Prop} (hu : A.units + 1 < cLine) (I : Inv X pins σ H s) (g : DGet H a y (some v)) (ry : RelV y u) (h : ∀ w' s', Inv X pins σ H s' → RelV v w' → Q w' s') :
    wpAny (model X.prog X.w) A (getItem (.ref a) u) Q E s := by
  rcases g with ⟨kvs, k, e, ey, l⟩ | ⟨kvs, k, b, e, ey, eb, l⟩
  · subst ey
    obtain ⟨z, hd, vs, rel, dd⟩ := dk_rd I.hok e
    obtain ⟨w', hw, rw'⟩ := RelO.some_of (v := v) (o := valueAt vs k) (by rw [l]; exact rel.val k)
    exact wpAny_getItem_of (kV_is ry) dd.mapOf hw (h w' _ (I.tok _) rw')
  · subst ey
    cases (show u = Value.ref b from ry)
    obtain ⟨z, hd, xs, rel, dd⟩ := dt_rd I.hok e
    obtain ⟨w', hw, rw'⟩ := RelO.some_of (v := v) (o := (atKey xs k).map (·.2)) (by rw [l]; exact rel.val k)
    obtain ⟨p, hp, hp2⟩ := Option.map_eq_some_iff.mp hw
    refine wpAny_getItem_heap (tupleKind_room_in1 hu) (key_of I.hok eb) dd hp ?_
    rw [hp2]
    exact h w' _ (I.tok _) rw'
theorem d_in {Q : Value → Shared → Prop} (hu : A.units + 1 < cLine) (I : Inv X pins σ H s) (g : DGet H a y o) (ry : RelV y u) (h : ∀ s', Inv X pins σ H s' → Q (.bool o.isSome) s') :
    wpAny (model X.prog X.w) A (compareOp .In u (.ref a)) Q E s := by
  rcases g with ⟨kvs, k, e, ey, l⟩ | ⟨kvs, k, b, e, ey, eb, l⟩
  · subst ey
    obtain ⟨z, hd, vs, rel, dd⟩ := dk_rd I.hok e
    refine wpAny_in_of (kV_is ry) hd dd.mapOf ?_
    rw [← (rel.val k).isSome_eq, ← l]
    exact h _ (I.tok _)
  · subst ey
    cases (show u = Value.ref b from ry)
    obtain ⟨z, hd, xs, rel, dd⟩ := dt_rd I.hok e
    refine wpAny_in_heap (tupleKind_room_in1 hu) (key_of I.hok eb) hd dd ?_
    have q := (rel.val k).isSome_eq
    rw [Option.isSome_map] at q
    rw [← q, ← l]
    exact h _ (I.tok _)
theorem d_write {h' : Heap} {t' : Nat} {ob : HO} (I : Inv X pins σ H s) (mu : Mut (H a)) (hs : Heap.SameBut a s.heap h') (he : ∃ q, h'.get? a = some q) (new : ObjOk X.prog X.w (upd H a ob) h' a ob) :
    Inv X pins σ (upd H a ob) { s with heap := h', toks := t' } :=
  I.write (x := a) (e := a) mu (.inl rfl) (fun b q hb z => (hs.2 b hb).trans z) he new
theorem dk_new {P : Program} {w : World} {H' : Hp} {h' : Heap} {kvs : List (Key × V)} {vs : List (Key × Value)} (z : kvs.length ≤ sizeLine) (hd : (a == sysModules) = false) (rel : KV kvs vs) (dd : h'.DictOf (mixKind P w) a vs) :
    ObjOk P w H' h' a (.dK kvs) := ⟨z, hd, vs, rel, dd⟩
theorem d_setItem {H' : Hp} {Q : Unit → Shared → Prop} (hu : A.units + 1 < cLine) (I : Inv X pins σ H s) (g : DPut H a y v H') (ry : RelV y u) (rv : RelV v r) (h : ∀ s', Inv X pins σ H' s' → Q () s') :
    wpAny (model X.prog X.w) A (setItem (.ref a) u r) Q E s := by
  rcases g with ⟨kvs, k, e, ey, l, eH⟩ | ⟨kvs, k, b, e, ey, eb, l, eH⟩
  · subst ey eH
    obtain ⟨z, hd, vs, rel, dd⟩ := dk_of I.hok e
    have hz : vs.length ≤ sizeLine := by rw [← rel.length]; exact z
    have hl : (putK kvs k v).length ≤ sizeLine := by have := length_putK kvs k v; omega
    refine wpAny_setItem_pairs (hsz := hz) (kV_is ry) dd fun h' dd' hs => h _ ?_
    have he : ∃ q, h'.get? a = some q := let ⟨q, _, _, hq, _⟩ := dd'; ⟨q, hq⟩
    exact d_write I (by rw [e]; exact True.intro) hs he (dk_new hl hd (rel.put k rv) dd')
  · subst ey eH
    cases (show u = Value.ref b from ry)
    obtain ⟨z, hd, xs, rel, dd⟩ := dt_of I.hok e
    have hz : xs.length ≤ sizeLine := by rw [← Paired.length rel]; exact z
    have hl : (putK kvs k v).length ≤ sizeLine := by have := length_putK kvs k v; omega
    refine wpAny_setItem_heap (hsz := hz) (tupleKind_room_in1 hu) (key_of I.hok eb) dd fun h' dd' hs => h _ ?_
    obtain ⟨q, es, ep, hq, h2, h3, h4, _, h5⟩ := dd'
    refine d_write I (by rw [e]; exact True.intro) hs ⟨q, hq⟩ ⟨hl, hd, _, (rel.put k eb rv).keeps fun c ys ec => ?_, q, es, ep, hq, h2, h3, h4, h5⟩
    rw [upd_ne (ne_of ec e (fun z => nomatch z))]
    exact ec
end
noncomputable def NoSl (i : Expr) : Prop := ∀ ov iv, subscripted i false ov iv = operate [ov, iv] (getItem ov iv)
theorem subD_of {prog : Program} {w : World} {A : Around} {E : Value → Shared → Prop} {s : Shared} {env : Env} {value slice : Expr} {pos : Pos} {T id : String} {Q : Value → Shared → Prop}
    (hl : typeLookup (.type T) "__getitem__" = pure (some (.builtin id))) (hs : NoSl slice)
    (h : wpAny (model prog w) A (eval value env) (fun o s₁ => wpAny (model prog w) A (eval slice env) (fun i s₂ => s₂.TypeIs o T ∧ wpAny (model prog w) A (getItem o i) Q E s₂) E s₁) E s) :
    wpAny (model prog w) A (eval (.Subscript value slice pos) env) Q E s := by
  refine Subscript_ (wpAny_mono h (fun o s₁ h₁ => wpAny_mono h₁ (fun i s₂ h₂ => ?_) fun _ _ x => x) fun _ _ x => x)
  obtain ⟨hT, h₂⟩ := h₂
  unfold subscriptTail
  refine wpAny_bind ?_
  rw [getitemInPython_of_ne hT.not_modules]
  refine wpAny_bind (wpAny_specialOf hT hl ?_)
  have fin : wpAny (model prog w) A (subscripted slice false o i) (fun r s₃ => wpAny (model prog w) A (letTemporaryGo value o r >>= fun _ => pure r) Q E s₃) E s₂ := by
    rw [hs o i]
    exact wpAny_operating (wpAny_mono h₂ (fun r s₃ h₃ => wpAny_bind (wpAny_letTemporaryGo (wpAny_pure h₃))) fun _ _ x => x)
  first
    | exact wpAny_pure (wpAny_bind fin)
    | exact wpAny_bind (wpAny_pure (wpAny_bind fin))
    | exact wpAny_bind fin
theorem dict_typeIs {X : Cx} {pins : List (Addr × Obj)} {σ : St} {H : Hp} {s : Shared} {a : Addr} {y : V} {o : Option V} (I : Inv X pins σ H s) (g : DGet H a y o) : s.TypeIs (.ref a) "dict" := by
  rcases g with ⟨kvs, k, e, _, _⟩ | ⟨kvs, k, b, e, _, _, _⟩
  · obtain ⟨_, _, vs, _, dd⟩ := dk_rd I.hok e
    exact dd.typeIs
  · obtain ⟨_, _, xs, _, dd⟩ := dt_rd I.hok e
    exact dd.typeIs
noncomputable def tDGet (td ty : TE) : TE := fun σ H Q => td σ H fun x H1 => ty σ H1 fun y H2 => ∃ a v, x = .ref a ∧ DGet H2 a y (some v) ∧ Q v H2
noncomputable def tDIn (ty td : TE) : TE := fun σ H Q => ty σ H fun y H1 => td σ H1 fun x H2 => ∃ a o, x = .ref a ∧ DGet H2 a y o ∧ Q (.bl o.isSome) H2
noncomputable def sDPut (td ty tv : TE) : TS := fun D σ H => tv σ H fun v H1 => td σ H1 fun x H2 => ty σ H2 fun y H3 => ∃ a H4, x = .ref a ∧ DPut H3 a y v H4 ∧ D.nx σ H4
section
variable {X : Cx} {o i e value : Expr} {pos pos' tpos : Pos} {td ty tv : TE}
theorem pe_dget (hu : X.A.units + 1 < cLine) (ho : PE X o td) (hi : PE X i ty) (hs : NoSl i) : PE X (.Subscript o i pos) (tDGet td ty) := by
  intro pins s σ H Q I h
  refine subD_of PySem.F.slot_dict_getitem.lookup hs (thn (ho pins s σ H _ I h) fun u s1 ⟨x, H1, I1, rx, q1⟩ => thn (hi pins s1 σ H1 _ I1 q1) fun iv s2 ⟨y, H2, I2, ry, a, v, ex, g, q2⟩ => ?_)
  subst ex
  obtain rfl : u = Value.ref a := rx
  exact ⟨dict_typeIs I2 g, d_getItem hu I2 g ry fun w' s3 I3 rw' => ⟨v, H2, I3, rw', q2⟩⟩
theorem pc_din (hu : X.A.units + 1 < cLine) (hi : PE X i ty) (ho : PE X o td) : PC X .In i o (tDIn ty td) := by
  intro pins s σ H Q I h
  refine thn (hi pins s σ H _ I h) fun iv s1 ⟨y, H1, I1, ry, q1⟩ => thn (ho pins s1 σ H1 _ I1 q1) fun u s2 ⟨x, H2, I2, rx, a, ov, ex, g, q2⟩ => ?_
  subst ex
  obtain rfl : u = Value.ref a := rx
  exact d_in hu I2 g ry fun s3 I3 => ⟨.bl ov.isSome, H2, I3, rfl, q2⟩
theorem ps_dput (hu : X.A.units + 1 < cLine) (ho : PE X o td) (hi : PE X i ty) (hv : PE X value tv) (hs : swapsWith value (some (.Subscript o i pos')) pos.line X.env = pure false) :
    PS X (.Assign [.Subscript o i pos'] value pos) (sDPut td ty tv) := by
  intro pins s σ H D I h
  refine wpAny_Assign_Subscript (thn (hv pins s σ H _ I h) fun r s1 ⟨v, H1, I1, rv, q1⟩ => thn (ho pins s1 σ H1 _ I1 q1) fun u s2 ⟨x, H2, I2, rx, q2⟩ => thn (hi pins s2 σ H2 _ I2 q2) fun iv s3 ⟨y, H3, I3, ry, a, H4, ex, g, q3⟩ => ?_) hs
  subst ex
  obtain rfl : u = Value.ref a := rx
  exact d_setItem hu I3 g ry rv fun s4 I4 => ⟨σ, H4, I4, q3⟩
end
theorem dk_empty {P : Program} {w : World} {H : Hp} (h : Heap) (hb : sysModules < h.objs.size) : ObjOk P w H (h.push { cls := .type "dict", data := .dict #[] }) h.objs.size (.dK []) :=
  ⟨Nat.zero_le _, beq_eq_false_iff_ne.mpr (Ne.symm (Nat.ne_of_lt hb)), [], .nil, Heap.DictOf.new h⟩
noncomputable def tDNewK : TE := fun _ H Q => ∀ p, H p = none → Q (.ref p) (upd H p (.dK []))
section
variable {X : Cx} {pos : Pos}
theorem pe_dnewK : PE X (.Dict [] [] pos) tDNewK := fun pins s σ H Q I h =>
  wpAny_Dict_empty ⟨.ref s.heap.objs.size, _, I.laid (a := s.heap.objs.size) (o := .dK []) (t' := s.toks) (fun _ _ q => Heap.get?_push_of_some _ q) (Nat.le_refl _) (dk_empty s.heap I.big), rfl, h _ (I.hok.fresh (Nat.le_refl _))⟩
end
structure M1 (X : Cx) (o : Expr) (m : Str) (apos : Pos) (e : Expr) (cpos : Pos) : Prop where
  base : attributeBase o m X.env (eval o X.env) = eval o X.env
  few : ((backTo cpos (starEach [e] X.env)).all (fun x => !x.1) && (backToKw cpos (keywordEach [] X.env)).all (fun x => x.1.isSome)
    && decide (([e] : List Expr).length + ([] : List Keyword).length + (if ([] : List Keyword).isEmpty then 0 else 1) < 30)) = true
  line : (apos.endLine == cpos.line) = true
  trees : backTo cpos (starEach [e] X.env) = [(false, eval e X.env)]
structure M2 (X : Cx) (o : Expr) (m : Str) (apos : Pos) (e f : Expr) (cpos : Pos) : Prop where
  base : attributeBase o m X.env (eval o X.env) = eval o X.env
  few : ((backTo cpos (starEach [e, f] X.env)).all (fun x => !x.1) && (backToKw cpos (keywordEach [] X.env)).all (fun x => x.1.isSome)
    && decide (([e, f] : List Expr).length + ([] : List Keyword).length + (if ([] : List Keyword).isEmpty then 0 else 1) < 30)) = true
  line : (apos.endLine == cpos.line) = true
  trees : backTo cpos (starEach [e, f] X.env) = [(false, eval e X.env), (false, eval f X.env)]
end L2
namespace L2
open PySem PySem.Spec PyProof.Rows
end L2
set_option Elab.async false
set_option linter.all false
set_option maxRecDepth 100000
set_option maxHeartbeats 4000000
namespace L2
open PySem PySem.Spec PyProof.Rows
section
variable {P0 : Program} {w0 : World} {A0 : Around} {R0 : Result → Shared → Prop} {t0 : Shared}
theorem comp_turns {elt tg iter : Expr} {ifs : List Expr} {sc : Scope} {pos : Pos} {it acc : Value} {ce : Env} (J : Nat → Shared → Prop)
    (turn : ∀ n s, J n s → wpAny (model P0 w0) A0 (pyNext it) (fun r s₁ => match r with
      | none => R0 (.ok .next) s₁
      | some v => wpAny (model P0 w0) A0 (letOwnedTupleGo tg it v) (fun _ s₂ => wpAny (model P0 w0) A0 (assign tg ce v) (fun _ s₃ =>
          wpAny (model P0 w0) A0 (forIn ifs true fun c r => if r = true then do let ok ← isTrue c ce (eval c ce); pure (ForInStep.yield ok) else pure (ForInStep.yield r)) (fun ok s₄ =>
            if ok = true then wpAny (model P0 w0) A0 (eval elt ce) (fun x s₅ =>
              wpAny (model P0 w0) A0 (call (.builtin "list.append") [acc, x]) (fun _ s₆ => ∃ m, m < n ∧ J m s₆) (fun _ _ => False) s₅) (fun _ _ => False) s₄
            else ∃ m, m < n ∧ J m s₄) (fun _ _ => False) s₃) (fun _ _ => False) s₂) (fun _ _ => False) s₁) (fun _ _ => False) s)
    (n : Nat) (h : J n t0) :
    codeAny (model P0 w0) A0 (.compLoop (.ListComp elt [⟨tg, iter, ifs, 0⟩] sc pos) 0 it acc ce) R0 t0 := by
  have no : ∀ {α : Type} {t : Sem α} {Q : α → Shared → Prop} {E : Value → Shared → Prop} {s : Shared}, wpAny (model P0 w0) A0 t Q (fun _ _ => False) s → wpAny (model P0 w0) A0 t Q E s :=
    fun h => wpAny_mono h (fun _ _ q => q) fun _ _ z => z.elim
  refine codeAny_loop rfl J (fun n s hJ => ?_) n h
  show wpAny _ A0 ((compTurn (.ListComp elt [⟨tg, iter, ifs, 0⟩] sc pos) 0 it acc ce).onRaise (fun x => do noteFrame x ce; theTreesLotGoes x)) _ _ s
  refine wpAny_noted ?_
  rw [compTurn_list]
  refine wpAny_bind (wpAny_standAt (wpAny_bind (thn (no (turn n s hJ)) fun r s₁ h₁ => ?_)))
  cases r with
  | none => exact wpAny_pure h₁
  | some v =>
    refine wpAny_bind (thn (no h₁) fun _ s₂ h₂ => ?_)
    refine wpAny_bind (thn (no h₂) fun _ s₃ h₃ => wpAny_bind (thn (no h₃) fun ok s₄ h₄ => ?_))
    cases ok with
    | false => exact wpAny_pure ⟨rfl, h₄⟩
    | true =>
      rw [if_pos rfl] at h₄
      refine wpAny_bind (wpAny_bind (thn (no h₄) fun x s₅ h₅ => ?_))
      refine wpAny_bind (thn (no h₅) fun _ s₆ h₆ => ?_)
      exact wpAny_pure (wpAny_pure ⟨rfl, h₆⟩)
end
theorem closure_go (env : Env) : ∀ (l : List (Str × NameKind)) (cs : List (Str × Addr)), (∀ y ∈ l, y.2 = .free → ∃ c, env.cells.lookup y.1 = some c) →
    ∃ r : List (Str × Addr), (forIn l cs (fun (x : Str × NameKind) (r : List (Str × Addr)) => if x.2 == NameKind.free then (do let c ← cellOf env x.1; pure (ForInStep.yield ((x.1, c) :: r))) else pure (ForInStep.yield r)) : Sem (List (Str × Addr))) = pure r ∧
      (∀ p ∈ r, p ∈ cs ∨ env.cells.lookup p.1 = some p.2) ∧ (∀ p ∈ cs, p ∈ r) ∧ (∀ y ∈ l, y.2 = .free → ∃ c, (y.1, c) ∈ r)
  | [], cs, _ => ⟨cs, rfl, fun p hp => .inl hp, fun p hp => hp, fun y hy => nomatch hy⟩
  | (x, k) :: l, cs, h => by
    by_cases hk : k = .free
    · subst hk
      obtain ⟨c, hc⟩ := h (x, .free) List.mem_cons_self rfl
      obtain ⟨r, e, h1, h2, h3⟩ := closure_go env l ((x, c) :: cs) fun y hy => h y (List.mem_cons_of_mem _ hy)
      refine ⟨r, ?_, fun p hp => ?_, fun p hp => h2 p (List.mem_cons_of_mem _ hp), fun y hy hf => ?_⟩
      · rw [List.forIn_cons]
        have e2 : cellOf env x = pure c := by unfold cellOf; rw [hc]
        simp only [beq_self_eq_true, if_true, e2, pure_bind]
        exact e
      · rcases h1 p hp with q | q
        · rcases List.mem_cons.mp q with z | z
          · subst z; exact .inr hc
          · exact .inl z
        · exact .inr q
      · rcases List.mem_cons.mp hy with z | z
        · subst z; exact ⟨c, h2 _ List.mem_cons_self⟩
        · exact h3 y z hf
    · obtain ⟨r, e, h1, h2, h3⟩ := closure_go env l cs fun y hy => h y (List.mem_cons_of_mem _ hy)
      refine ⟨r, ?_, h1, h2, fun y hy hf => ?_⟩
      · rw [List.forIn_cons]
        have hb : (k == NameKind.free) = false := by cases k <;> first | rfl | exact absurd rfl hk
        simp only [hb, Bool.false_eq_true, if_false, pure_bind]
        exact e
      · rcases List.mem_cons.mp hy with z | z
        · subst z; exact absurd hf hk
        · exact h3 y z hf
theorem closure_is (sc : Scope) (env : Env) (h : ∀ y ∈ sc.names, y.2 = .free → ∃ c, env.cells.lookup y.1 = some c) :
    ∃ cl, closureFor sc env = pure cl ∧ (∀ p ∈ cl, env.cells.lookup p.1 = some p.2) ∧ ∀ y ∈ sc.names, y.2 = .free → ∃ c, (y.1, c) ∈ cl := by
  obtain ⟨r, e, h1, h2, h3⟩ := closure_go env sc.names [] h
  refine ⟨r, ?_, fun p hp => (h1 p hp).resolve_left (fun z => nomatch z), h3⟩
  unfold closureFor
  have := e
  simp only [bind_pure] at *
  exact e
theorem mem_look {κ β : Type} [BEq κ] [LawfulBEq κ] : ∀ {l : List (κ × β)} {x : κ} {c : β}, (x, c) ∈ l → ∃ c', l.lookup x = some c'
  | [], _, _, h => nomatch h
  | (y, d) :: l, x, c, h => by
    by_cases e : x = y
    · subst e; exact ⟨d, by simp [List.lookup_cons]⟩
    · have hb : (x == y) = false := beq_eq_false_iff_ne.mpr e
      rcases List.mem_cons.mp h with z | z
      · exact absurd (congrArg Prod.fst z) e
      · obtain ⟨c', q⟩ := mem_look z
        exact ⟨c', by rw [List.lookup_cons, hb]; exact q⟩
theorem relabel_cases {env : Env} : ∀ {names : List (Str × NameKind)} {x : Str} {k' : NameKind},
    (names.map fun (n, k) => if (k == NameKind.free && env.scope.kind == .function && env.kindOf n == some .cell) then (n, NameKind.cell) else (n, k)).lookup x = some k' → ∃ k, (x, k) ∈ names ∧ (k' = k ∨ k = .free)
  | [], _, _, h => by cases h
  | (y, k) :: l, x, k', h => by
    rw [List.map_cons, List.lookup_cons] at h
    by_cases e : x = y
    · subst e
      by_cases hc : (k == NameKind.free && env.scope.kind == .function && env.kindOf x == some .cell) = true
      · refine ⟨k, List.mem_cons_self, .inr ?_⟩
        rw [Bool.and_eq_true, Bool.and_eq_true] at hc
        exact eq_of_beq hc.1.1
      · refine ⟨k, List.mem_cons_self, .inl ?_⟩
        simp only [if_neg hc, beq_self_eq_true] at h
        exact (Option.some.inj h).symm
    · have hb : (x == y) = false := beq_eq_false_iff_ne.mpr e
      have h' : (l.map fun (n, k) => if (k == NameKind.free && env.scope.kind == .function && env.kindOf n == some .cell) then (n, NameKind.cell) else (n, k)).lookup x = some k' := by
        by_cases hc : (k == NameKind.free && env.scope.kind == .function && env.kindOf y == some .cell) = true
        · simp only [if_pos hc, hb] at h; exact h
        · simp only [if_neg hc, hb] at h; exact h
      obtain ⟨q, hm, z⟩ := relabel_cases h'
      exact ⟨q, List.mem_cons_of_mem _ hm, z⟩
theorem relabel_free {env : Env} : ∀ {names : List (Str × NameKind)} {x : Str}, names.lookup x = some .free →
    (names.map fun (n, k) => if (k == NameKind.free && env.scope.kind == .function && env.kindOf n == some .cell) then (n, NameKind.cell) else (n, k)).lookup x = some .cell ∨
    (names.map fun (n, k) => if (k == NameKind.free && env.scope.kind == .function && env.kindOf n == some .cell) then (n, NameKind.cell) else (n, k)).lookup x = some .free
  | [], _, h => by cases h
  | (y, k) :: l, x, h => by
    rw [List.lookup_cons] at h
    rw [List.map_cons, List.lookup_cons]
    by_cases e : x = y
    · subst e
      simp only [beq_self_eq_true] at h
      cases h
      by_cases hc : (NameKind.free == NameKind.free && env.scope.kind == .function && env.kindOf x == some .cell) = true
      · refine .inl ?_
        rw [if_pos hc]
        simp only [beq_self_eq_true]
      · refine .inr ?_
        rw [if_neg hc]
        simp only [beq_self_eq_true]
    · have hb : (x == y) = false := beq_eq_false_iff_ne.mpr e
      simp only [hb] at h
      have q := relabel_free (env := env) h
      by_cases hc : (k == NameKind.free && env.scope.kind == .function && env.kindOf y == some .cell) = true
      · simp only [if_pos hc, hb]; exact q
      · simp only [if_neg hc, hb]; exact q
structure CompScope (osc : Scope) (ON N : List Str) (n : Nat) (fx : List Nat) (sc : Scope) : Prop where
  kind : sc.kind = .function
  noc : ∀ y ∈ sc.names, y.2 ≠ .cell
  own : ∀ y ∈ sc.names, y.2 = .local → sc.names.lookup y.1 = some .local
  fre : ∀ y ∈ sc.names, y.2 = .free → osc.names.lookup y.1 = some .cell ∨ osc.names.lookup y.1 = some .free
  len : N.length = n + fx.length
  frn : ∀ k, k < fx.length → ∃ x j, N[n + k]? = some x ∧ fx[k]? = some j ∧ ON[j]? = some x ∧ sc.names.lookup x = some .free
noncomputable def frnOk (ON : List Str) (sc : Scope) : List Str → List Nat → Bool
  | [], [] => true
  | x :: xs, j :: js => decide (ON[j]? = some x) && decide (sc.names.lookup x = some .free) && frnOk ON sc xs js
  | _, _ => false
theorem frnOk_get {ON : List Str} {sc : Scope} : ∀ {xs : List Str} {js : List Nat}, frnOk ON sc xs js = true → xs.length = js.length ∧ ∀ k, k < js.length → ∃ x j, xs[k]? = some x ∧ js[k]? = some j ∧ ON[j]? = some x ∧ sc.names.lookup x = some .free
  | [], [], _ => ⟨rfl, fun k h => absurd h (Nat.not_lt_zero k)⟩
  | [], _ :: _, h => by cases h
  | _ :: _, [], h => by cases h
  | x :: xs, j :: js, h => by
    simp only [frnOk, Bool.and_eq_true, decide_eq_true_eq] at h
    obtain ⟨l, q⟩ := frnOk_get h.2
    refine ⟨congrArg Nat.succ l, fun k hk => ?_⟩
    cases k with
    | zero => exact ⟨x, j, rfl, rfl, h.1.1, h.1.2⟩
    | succ k =>
      obtain ⟨x', j', a, b, c⟩ := q k (Nat.lt_of_succ_lt_succ hk)
      exact ⟨x', j', by simpa using a, by simpa using b, c⟩
noncomputable def compOk (osc : Scope) (ON N : List Str) (n : Nat) (fx : List Nat) (sc : Scope) : Bool :=
  decide (sc.kind = .function) && decide (∀ y ∈ sc.names, y.2 ≠ .cell) && decide (∀ y ∈ sc.names, y.2 = .local → sc.names.lookup y.1 = some .local) &&
  decide (∀ y ∈ sc.names, y.2 = .free → osc.names.lookup y.1 = some .cell ∨ osc.names.lookup y.1 = some .free) && decide (n ≤ N.length) && frnOk ON sc (N.drop n) fx
theorem CompScope.of {osc : Scope} {ON N : List Str} {n : Nat} {fx : List Nat} {sc : Scope} (h : compOk osc ON N n fx sc = true) : CompScope osc ON N n fx sc := by
  simp only [compOk, Bool.and_eq_true, decide_eq_true_eq] at h
  obtain ⟨⟨⟨⟨⟨h1, h2⟩, h3⟩, h4⟩, h5⟩, h6⟩ := h
  obtain ⟨l, q⟩ := frnOk_get h6
  refine ⟨h1, h2, h3, h4, ?_, fun k hk => ?_⟩
  · rw [List.length_drop] at l; omega
  · obtain ⟨x, j, a, b⟩ := q k hk
    exact ⟨x, j, by rw [List.getElem?_drop] at a; exact a, b⟩
noncomputable def cxComp (X : Cx) (N : List Str) (sc : Scope) (cl : List (Str × Addr)) (C : Addr) (fp : List Addr) (s : Shared) (H : Hp) : Cx where
  prog := X.prog
  w := X.w
  K := X.K
  mg := X.mg
  base := X.base
  A := X.A
  N := N
  s₀ := s
  H₀ := H
  env := compEnvC sc cl C X.env
  outer := X.stack
  stack := X.stack
  ex := fp
  fn := fun _ => false
  calm := X.calm
  pn := []
  xe := fun _ _ => False
noncomputable def compSt (n : Nat) (fx : List Nat) (σ : St) : St := List.replicate n none ++ fx.map fun j => (σ[j]?).join
noncomputable def GKeep (n : Nat) (g : TG) : Prop := ∀ v σ H (Q Q' : St → Hp → Prop), (∀ σ' H', Q σ' H' → σ'.drop n = σ.drop n → σ'.length = σ.length → Q' σ' H') → g v σ H Q → g v σ H Q'
noncomputable def GsKeep (n : Nat) (g : TGs) : Prop := ∀ vs σ H (Q Q' : St → Hp → Prop), (∀ σ' H', Q σ' H' → σ'.drop n = σ.drop n → σ'.length = σ.length → Q' σ' H') → g vs σ H Q → g vs σ H Q'
theorem gk_name {n i : Nat} (h : i < n) : GKeep n (gName i) := fun v σ H Q Q' k q => k _ _ q (by rw [List.drop_set_of_lt h]) (by rw [List.length_set])
theorem gks_nil {n : Nat} : GsKeep n gNil := fun vs σ H Q Q' k ⟨e, q⟩ => ⟨e, k _ _ q rfl rfl⟩
theorem gks_cons {n : Nat} {t : TG} {u : TGs} (ht : GKeep n t) (hu : GsKeep n u) : GsKeep n (gCons t u) := fun vs σ H Q Q' k ⟨v, r, e, q⟩ =>
  ⟨v, r, e, ht v σ H _ _ (fun σ1 H1 q1 e1 l1 => hu r σ1 H1 Q Q' (fun σ2 H2 q2 e2 l2 => k σ2 H2 q2 (e2.trans e1) (l2.trans l1)) q1) q⟩
theorem gk_tup {K : PySem.W.Frag} {n m : Nat} {t : TGs} (h : GsKeep n t) : GKeep n (gTup K m t) := fun v σ H Q Q' k ⟨a, xs, e, hs, hl, q⟩ => ⟨a, xs, e, hs, hl, h xs σ H Q Q' k q⟩
noncomputable def PTs (X : Cx) (ifs : List Expr) (t : TT) : Prop :=
  ∀ (pins : List (Addr × Obj)) (s : Shared) (σ : St) (H : Hp) (Q : Bool → Hp → Prop), Inv X pins σ H s → t σ H Q →
    wpAny (model X.prog X.w) X.A (forIn ifs true fun c r => if r = true then do let ok ← isTrue c X.env (eval c X.env); pure (ForInStep.yield ok) else pure (ForInStep.yield r)) (TP X pins σ Q) X.xe s
noncomputable def tYes : TT := fun _ H Q => Q true H
theorem pts_nil {X : Cx} : PTs X [] tYes := fun _ _ _ H _ I h => wpAny_tests_nil ⟨H, I, h⟩
theorem pts_one {X : Cx} {c : Expr} {t : TT} (h : PT X c t) : PTs X [c] t := fun pins s σ H Q I q => wpAny_tests_one (h pins s σ H Q I q)
noncomputable def tComp (n : Nat) (fx : List Nat) (wi : TI) (g : TG) (tc : TT) (te : TE) : TE := fun σ H Q => wi σ H fun J H1 => ∀ D, H1 D = none →
  ∃ W : Nat → Nat → List V → Hp → Prop, (∃ m, W 0 m [] (upd H1 D (.lst []))) ∧ ∀ i m ys H2, W i m ys H2 → (J.stop i H2 ∧ Q (.ref D) H2) ∨
    (J.go i H2 ∧ ∃ N : List V → Hp → Prop, (∀ ys' H', N ys' H' → ∃ m', m' < m ∧ W (i + 1) m' ys' H') ∧ ∀ x H3, J.yld i H2 x H3 → g x (compSt n fx σ) H3 fun σ4 H4 => tc σ4 H4 fun b H5 =>
      if b = true then te σ4 H5 fun v H6 => H6 D = some (.lst ys) ∧ ys.length < sizeLine ∧ N (ys ++ [v]) (upd H6 D (.lst (ys ++ [v]))) else N ys H5)
section
variable {X : Cx} {pins : List (Addr × Obj)} {σ : St} {H : Hp} {s : Shared}
theorem compSt_len {n : Nat} {fx : List Nat} : (compSt n fx σ).length = n + fx.length := by unfold compSt; simp
theorem compSt_get {n : Nat} {fx : List Nat} {i : Nat} {v : V} (e : (compSt n fx σ)[i]? = some (some v)) : ∃ k j, i = n + k ∧ fx[k]? = some j ∧ σ[j]? = some (some v) := by
  unfold compSt at e
  by_cases h : i < n
  · rw [List.getElem?_append_left (by simpa using h), List.getElem?_replicate, if_pos h] at e
    cases e
  · rw [List.getElem?_append_right (by simpa using h), List.length_replicate, List.getElem?_map] at e
    cases q : fx[i - n]? with
    | none => rw [q] at e; cases e
    | some j =>
      rw [q] at e
      have e' : (σ[j]?).join = some v := Option.some.inj e
      refine ⟨i - n, j, by omega, q, ?_⟩
      cases z : σ[j]? with
      | none => rw [z] at e'; cases e'
      | some o => rw [z] at e'; have : o = some v := e'; rw [this]
theorem comp_inv {osc : Scope} {ON N : List Str} {n : Nat} {fx : List Nat} {sc : Scope} {cl : List (Str × Addr)} {fp : List Addr} {h4 : Heap} {tk : Nat}
    (ho : X.env.scope = osc) (hN : X.N = ON) (S : CompScope osc ON N n fx sc)
    (hcl1 : ∀ p ∈ cl, X.env.cells.lookup p.1 = some p.2) (hcl2 : ∀ y ∈ sc.names, y.2 = .free → ∃ c, (y.1, c) ∈ cl)
    (I : Inv X pins σ H s) (hf : ∀ b ∈ fp, FpOk X pins H b) (hfo : ∀ b ∈ fp, b < s.heap.objs.size)
    (hns : ∃ m, h4.Ns s.heap.objs.size m) (old : ∀ b o, s.heap.get? b = some o → h4.get? b = some o) :
    Inv (cxComp X N sc cl s.heap.objs.size fp s H) [] (compSt n fx σ) H { s with heap := h4, toks := tk } := by
  have look : ∀ {x : Str} {c : Addr}, cl.lookup x = some c → X.env.cells.lookup x = some c := fun {x c} e => hcl1 (x, c) (PySem.mem_of_lookup e)
  have ok : (cxComp X N sc cl s.heap.objs.size fp s H).Ok := by
    refine ⟨I.ok.mod, S.kind, I.ok.glob, I.ok.blt, Nat.le_refl _, fun x y c h1 h2 => I.ok.inj x y c (look h1) (look h2), fun x hx => ?_, fun x c z => (by cases z), I.ok.hd, I.ok.frames, .inl rfl, fun b hb => ⟨Nat.ne_of_lt (hfo b hb), fun x c e => (hf b hb).2.2.2.2.1 x c (look e)⟩,
      I.bs, Nat.le_trans I.ok.bsz I.sz, fun b o e hb => ?_, fun b hb z => ?_, I.stack, I.stkFree⟩
    · have hx' : ∃ k', (k' = NameKind.cell ∨ k' = NameKind.free) ∧ (sc.names.map fun (n, k) => if (k == NameKind.free && X.env.scope.kind == .function && X.env.kindOf n == some .cell) then (n, NameKind.cell) else (n, k)).lookup x = some k' := by
        rcases hx with hx | hx
        · exact ⟨_, .inl rfl, hx⟩
        · exact ⟨_, .inr rfl, hx⟩
      obtain ⟨k', hk, e⟩ := hx'
      obtain ⟨k, hm, z⟩ := relabel_cases e
      have kf : k = .free := by
        rcases z with z | z
        · subst z
          rcases hk with q | q
          · exact absurd q (S.noc _ hm)
          · exact q
        · exact z
      subst kf
      obtain ⟨c, hc⟩ := hcl2 _ hm rfl
      exact mem_look hc
    · rcases (hf b hb).2.2.2.1 with z | z
      · exact I.ok.noex b o e z
      · exact absurd (Nat.lt_of_lt_of_le (Heap.lt_size (I.ok.bs b o e).1) z) (Nat.lt_irrefl _)
    · rcases List.mem_cons.mp (I.stkSub b z) with q | q
      · exact (hf b hb).2.1 q
      · exact (hf b hb).2.2.1 q
  obtain ⟨m, hns⟩ := hns
  refine ⟨ok, rfl, I.bare, Un.kept old, ⟨m, hns, fun i x v e1 e2 e3 => ?_⟩, fun x c e => ?_, I.hok.fresh (Nat.le_refl _), fun x c e => I.freeC x c (look e), fun p hp => absurd (show p ∈ ([] : List (Addr × Obj)) from hp) (by simp), I.hok.kept old, ?_⟩
  · obtain ⟨k, j, rfl, hj, hv⟩ := compSt_get e2
    obtain ⟨x', j', a1, a2, a3, a4⟩ := S.frn k (List.getElem?_eq_some_iff.mp hj).1
    have ex : x' = x := Option.some.inj (a1.symm.trans e1)
    have ej : j' = j := Option.some.inj (a2.symm.trans hj)
    subst ex; subst ej
    obtain ⟨m', _, hl⟩ := I.loc
    have hk : X.env.scope.names.lookup x' = some .cell ∨ X.env.scope.names.lookup x' = some .free := by rw [ho]; exact S.fre _ (PySem.mem_of_lookup a4) rfl
    have vis : Vis X.env.scope x' := by rcases hk with z | z; exact .inr (.inl z); exact .inr (.inr z)
    obtain ⟨u, r, q⟩ := hl j' x' v (by rw [hN]; exact a3) hv vis
    rcases q with ⟨z, _⟩ | ⟨_, c, ec, ic⟩
    · have z' : X.env.scope.names.lookup x' = some .local := z
      rcases hk with q | q <;> (rw [q] at z'; cases z')
    · refine ⟨u, r, .inr ⟨relabel_free a4, c, ?_, ic.keeps old⟩⟩
      obtain ⟨c0, hc0⟩ := hcl2 _ (PySem.mem_of_lookup a4) rfl
      obtain ⟨c1, hc1⟩ := mem_look hc0
      have := look hc1
      rw [ec] at this
      cases this
      exact hc1
  · obtain ⟨v, q⟩ := I.cell x c (look e)
    exact ⟨v, q.keeps old⟩
  · show _ = N.length
    rw [compSt_len, S.len]
theorem comp_core {osc : Scope} {ON N : List Str} {n : Nat} {fx : List Nat} {sc : Scope} {cl : List (Str × Addr)} {elt tg iter : Expr} {ifs : List Expr} {pos : Pos} {wi : TI} {g : TG} {tc : TT} {te : TE} {Q : VK} {RR : Value → Addr → Result → Shared → Prop}
    (hcalm : X.calm = true) (ho : X.env.scope = osc) (hN : X.N = ON) (S : CompScope osc ON N n fx sc)
    (hcl1 : ∀ p ∈ cl, X.env.cells.lookup p.1 = some p.2) (hcl2 : ∀ y ∈ sc.names, y.2 = .free → ∃ c, (y.1, c) ∈ cl)
    (hi : PI X tg iter wi) (gk : GKeep n g) (hb : ∀ cl C fp s H, PG (cxComp X N sc cl C fp s H) tg g ∧ PTs (cxComp X N sc cl C fp s H) ifs tc ∧ PE (cxComp X N sc cl C fp s H) elt te)
    (I : Inv X pins σ H s) (h : tComp n fx wi g tc te σ H Q)
    (hRR : ∀ D C H' s', Inv X pins σ H' s' → (∃ m, s'.heap.Ns C m) → FpOk X pins H' C → Q (.ref D) H' → RR (.ref D) C (.ok .next) s') :
    wpAny (model X.prog X.w) X.A (eval iter X.env) (fun x s₁ => wpAny (model X.prog X.w) X.A (pyIter x) (fun it s₂ => wpAny (model X.prog X.w) X.A (newList []) (fun acc s₃ =>
      wpAny (model X.prog X.w) X.A (newFunctionEnv sc X.env.globals cl [] X.env.qual none .none (some X.env)) (fun cenv s₄ =>
        codeAny (model X.prog X.w) X.A (.compStart (.ListComp elt [⟨tg, iter, ifs, 0⟩] sc pos) 0 it acc { cenv with scope := relabel sc X.env }) (RR acc cenv.locals) s₄) X.xe s₃) X.xe s₂) X.xe s₁) X.xe s := by
  refine thn (hi pins s σ H _ I h) fun v s1 h1 => thn h1 fun itv s2 h2 => ?_
  obtain ⟨it, fp, tn, J, H2, e2, I2, T, st2, f2, hW⟩ := h2
  subst e2
  obtain ⟨W, ⟨m0, w0⟩, hturn⟩ := hW s2.heap.objs.size I2.fresh
  refine wpAny_newObj_type ?_
  have I3 : Inv X pins σ (upd H2 s2.heap.objs.size (.lst [])) { s2 with heap := s2.heap.push { cls := .type "list", data := .seq ([] : List Value).toArray } } := I2.lnew (t' := s2.toks) (its := []) .nil (Nat.zero_le _)
  have f3 : ∀ b ∈ fp, FpOk X pins (upd H2 s2.heap.objs.size (.lst [])) b ∧ b < s2.heap.objs.size := fun b hb => by
    obtain ⟨o, e, _⟩ := T.obj _ _ st2 b hb
    have l := Heap.lt_size e
    obtain ⟨a1, a2⟩ := f2 b hb
    exact ⟨⟨by rw [upd_ne (Nat.ne_of_lt l)]; exact a1, a2⟩, l⟩
  have sz : ({ s2 with heap := s2.heap.push { cls := .type "list", data := .seq ([] : List Value).toArray } } : Shared).heap.objs.size = s2.heap.objs.size + 1 := Heap.size_push ..
  generalize hs3 : ({ s2 with heap := s2.heap.push { cls := .type "list", data := .seq ([] : List Value).toArray } } : Shared) = s3 at I3 sz ⊢
  generalize hH3 : upd H2 s2.heap.objs.size (.lst []) = H3 at I3 f3 w0
  have old3 : ∀ b o, s2.heap.get? b = some o → s3.heap.get? b = some o := fun b o e => by rw [← hs3]; exact Heap.get?_push_of_some _ e
  refine wpAny_newFunctionEnv (fun y hy => S.noc y hy) (fun y hy => nomatch hy) (fun h4 hns hsb => ?_) S.kind
  have old4 : ∀ b o, s3.heap.get? b = some o → h4.get? b = some o := fun b o e => hsb.extBut b o (Nat.ne_of_lt (Heap.lt_size e)) (Heap.get?_push_of_some _ e)
  have I4 := comp_inv (tk := s3.toks + ([] : List (Str × Value)).length) ho hN S hcl1 hcl2 I3 (fun b hb => (f3 b hb).1) (fun b hb => by rw [sz]; exact Nat.lt_succ_of_lt (f3 b hb).2) ⟨_, hns⟩ old4
  have hb' := hb cl s3.heap.objs.size fp s3 H3
  generalize hY : cxComp X N sc cl s3.heap.objs.size fp s3 H3 = Y at I4 hb'
  have stat : ∀ {H' : Hp}, (∀ b ∈ fp, H' b = none) → ∀ b ∈ fp, FpOk Y [] H' b := fun {H'} hn b hb => by
    subst hY
    obtain ⟨⟨a1, a2, a3, a4, a5, a6⟩, l⟩ := f3 b hb
    refine ⟨hn b hb, Nat.ne_of_lt (show b < s3.heap.objs.size by rw [sz]; exact Nat.lt_succ_of_lt l), fun z => ?_, .inl hb, fun x c e => a5 x c (hcl1 (x, c) (PySem.mem_of_lookup e)), fun p hp => absurd (show p ∈ ([] : List (Addr × Obj)) from hp) (by simp)⟩
    rcases List.mem_cons.mp (I3.stkSub b z) with q | q
    · exact a2 q
    · exact a3 q
  have fin : ∀ {σ6 : St} {H6 : Hp} {s6 : Shared}, Inv Y [] σ6 H6 s6 → Q (.ref s2.heap.objs.size) H6 → RR (.ref s2.heap.objs.size) s3.heap.objs.size (.ok .next) s6 := fun {σ6 H6 s6} I6 q => by
    subst hY
    refine hRR _ _ H6 s6 ?_ (let ⟨m, hm, _⟩ := I6.loc; ⟨m, hm⟩) (I3.fpOk (Nat.le_refl _) I6.free) q
    obtain ⟨hh, gg, dd, tt, os'⟩ := s6
    obtain rfl : os' = s3.os := I6.os
    exact I3.call (h' := hh) (g' := gg) (d' := dd) (t' := tt) (ch := fp) I6.base I6.hok I6.bare fun b hb => by
      obtain ⟨⟨a1, a2, a3, a4, a5, a6⟩, l⟩ := f3 b hb
      exact ⟨a4, a2, a5, a6⟩
  have pY : Y.prog = X.prog := by subst hY; rfl
  have wY : Y.w = X.w := by subst hY; rfl
  have kY : Y.K = X.K := by subst hY; rfl
  have aY : Y.A = X.A := by subst hY; rfl
  have cY : Y.calm = true := by subst hY; exact hcalm
  have eY : Y.env = compEnvC sc cl s3.heap.objs.size X.env := by subst hY; rfl
  have xY : Y.xe = fun _ _ => False := by subst hY; rfl
  have T' : Turn Y.prog Y.w Y.K tg J fp it tn := by rw [pY, wY, kY]; exact T
  have tn4 : tn 0 h4 := T.keep _ _ _ st2 fun b hb o e => old4 b o (old3 b o e)
  have loop : codeAny (model X.prog X.w) X.A (.compLoop (.ListComp elt [⟨tg, iter, ifs, 0⟩] sc pos) 0 (.ref it) (.ref s2.heap.objs.size) (compEnvC sc cl s3.heap.objs.size X.env)) (RR (.ref s2.heap.objs.size) s3.heap.objs.size)
      { s3 with heap := h4, toks := s3.toks + ([] : List (Str × Value)).length } := by
    rw [← pY, ← wY, ← aY, ← eY]
    refine comp_turns (fun k s' => ∃ i ys σ' H', Inv Y [] σ' H' s' ∧ σ'.drop n = (compSt n fx σ).drop n ∧ σ'.length = (compSt n fx σ).length ∧ tn i s'.heap ∧ (∀ b ∈ fp, H' b = none) ∧ W i k ys H') ?_ m0 ⟨0, [], _, H3, I4, rfl, rfl, tn4, fun b hb => (f3 b hb).1.1, w0⟩
    rintro k s5 ⟨i, ys, σ5, H5, I5, ed, el, st5, fr5, w5⟩
    have I5 : Inv Y [] (compSt n fx σ) H5 s5 := I5.weak el.symm fun j v e => by
      obtain ⟨k', j', rfl, _, _⟩ := compSt_get e
      have q := congrArg (fun l => l[k']?) ed
      simp only [List.getElem?_drop] at q
      rw [q]; exact e
    rcases hturn i k ys H5 w5 with ⟨stop, q⟩ | ⟨go, N', hN', step⟩
    · refine wpAny_mono (T'.done Y rfl rfl rfl cY i [] s5 _ H5 (fun _ _ => False) I5 (stat fr5) st5 stop) (fun r s6 ⟨hr, I6⟩ => ?_) fun _ _ z => z
      subst hr
      exact fin I6 q
    · rw [← xY]
      refine thn (T'.item Y rfl rfl rfl cY i [] s5 _ H5 Y.xe I5 (stat fr5) st5 go) fun r s6 ⟨u, hr, h6⟩ => ?_
      subst hr
      show wpAny _ _ _ _ _ _
      refine thn h6 fun _ s7 ⟨x, H7, I7, r7, y7, st7, fr7⟩ => ?_
      have I7' := I7.pinned (stat fr7) (T.obj _ _ st7)
      refine thn (hb'.1 _ s7 _ H7 x u _ I7' r7 (gk _ _ _ _ _ (fun σ' H' q e l => (⟨q, e, l⟩ : _ ∧ _ ∧ _)) (step x H7 y7))) fun _ s8 ⟨σ8, H8, I8, q8, ed8, el8⟩ => ?_
      refine thn (hb'.2.1 _ s8 σ8 H8 _ I8 q8) fun ok s9 ⟨H9, I9, q9⟩ => ?_
      have again : ∀ {H10 : Hp} {s10 : Shared} {zs : List V}, Inv Y ([] ++ pinsAt fp s7.heap) σ8 H10 s10 → N' zs H10 →
          ∃ m, m < k ∧ ∃ i ys σ' H', Inv Y [] σ' H' s10 ∧ σ'.drop n = (compSt n fx σ).drop n ∧ σ'.length = (compSt n fx σ).length ∧ tn i s10.heap ∧ (∀ b ∈ fp, H' b = none) ∧ W i m ys H' := fun {H10 s10 zs} I10 n10 => by
        obtain ⟨m', hm, w10⟩ := hN' _ _ n10
        refine ⟨m', hm, i + 1, zs, σ8, H10, I10.unpinned, ed8, el8, T.keep _ _ _ st7 fun b hb o e => (I10.pin (b, o) (List.mem_append_right _ (List.mem_append_right _ (mem_pinsAt hb e)))).1, fun b hb => ?_, w10⟩
        obtain ⟨o, e, d⟩ := T.obj _ _ st7 b hb
        exact (I10.pin (b, o) (List.mem_append_right _ (List.mem_append_right _ (mem_pinsAt hb e)))).2.1
      cases ok with
      | false => exact again I9 q9
      | true =>
        rw [if_pos rfl]
        refine thn (hb'.2.2 _ s9 σ8 H9 _ I9 q9) fun y s10 ⟨v', H10, I10, r10, hD10, hl10, n10⟩ => ?_
        refine thn (mt_append (X := Y) _ s10 σ8 H10 (.ref s2.heap.objs.size) [v'] (.ref s2.heap.objs.size) [y] (fun _ H' => H' = upd H10 s2.heap.objs.size (.lst (ys ++ [v']))) I10 rfl (.cons r10 .nil) ⟨_, ys, v', rfl, rfl, hD10, hl10, rfl⟩) fun _ s11 ⟨_, H11, I11, _, e11⟩ => ?_
        subst e11
        exact again I11 n10
  exact codeAny_compStart_list loop (T.self X.A 0 _ _ _ tn4 loop)
theorem pe_comp {osc : Scope} {ON N : List Str} {n : Nat} {fx : List Nat} {sc : Scope} {elt tg iter : Expr} {ifs : List Expr} {pos : Pos} {wi : TI} {g : TG} {tc : TT} {te : TE}
    (hcalm : X.calm = true) (ho : X.env.scope = osc) (hN : X.N = ON) (S : compOk osc ON N n fx sc = true) (hi : PI X tg iter wi) (gk : GKeep n g)
    (hb : ∀ cl C fp s H, PG (cxComp X N sc cl C fp s H) tg g ∧ PTs (cxComp X N sc cl C fp s H) ifs tc ∧ PE (cxComp X N sc cl C fp s H) elt te)
    (hs : ∀ x, foldedSetIterable iter X.env x = pure x := by intro _; rfl) : PE X (.ListComp elt [⟨tg, iter, ifs, 0⟩] sc pos) (tComp n fx wi g tc te) := by
  intro pins s σ H Q I h
  have S := CompScope.of S
  obtain ⟨cl, hcl, hcl1, hcl2⟩ := closure_is sc X.env fun y hy hf => I.ok.has y.1 (by show X.env.scope.names.lookup y.1 = some .cell ∨ X.env.scope.names.lookup y.1 = some .free; rw [ho]; exact S.fre y hy hf)
  rw [eval_ListComp]
  refine wpAny_comprehension_free (use := none) rfl hs hcl S.kind S.own (comp_core (RR := fun acc C => compPost (model X.prog X.w) X.A X.xe none (EP X pins σ Q) acc C) hcalm ho hN S hcl1 hcl2 hi gk hb I h ?_)
  intro D C H' s' I' hm hf q
  obtain ⟨m, hm⟩ := hm
  obtain ⟨f0, f1, f2, f3, f4, f5⟩ := hf
  exact ⟨m, hm, fun h' hsb => ⟨.ref D, H', I'.turned (t' := s'.toks) (fun b o hb e => (hsb.2 b hb).trans e) f0 f1 f3 f4 f5, rfl, q⟩⟩
theorem ps_comp {i : Nat} {x : Str} {px : Pos} {spos : Pos} {osc : Scope} {ON N : List Str} {n : Nat} {fx : List Nat} {sc : Scope} {elt tg iter : Expr} {ifs : List Expr} {pos : Pos} {wi : TI} {g : TG} {tc : TT} {te : TE}
    (hnd : X.N.Nodup) (hx : X.N[i]? = some x) (hl : X.env.scope.names.lookup x = some .local) (hsw : swapsWith (.ListComp elt [⟨tg, iter, ifs, 0⟩] sc pos) (some (.Name x px)) spos.line X.env = pure true)
    (hcalm : X.calm = true) (ho : X.env.scope = osc) (hN : X.N = ON) (S : compOk osc ON N n fx sc = true) (hi : PI X tg iter wi) (gk : GKeep n g)
    (hb : ∀ cl C fp s H, PG (cxComp X N sc cl C fp s H) tg g ∧ PTs (cxComp X N sc cl C fp s H) ifs tc ∧ PE (cxComp X N sc cl C fp s H) elt te)
    (hs : ∀ x, foldedSetIterable iter X.env x = pure x := by intro _; rfl) : PS X (.Assign [.Name x px] (.ListComp elt [⟨tg, iter, ifs, 0⟩] sc pos) spos) (tAsg (tComp n fx wi g tc te) (gName i)) := by
  intro pins s σ H D I h
  have S := CompScope.of S
  obtain ⟨cl, hcl, hcl1, hcl2⟩ := closure_is sc X.env fun y hy hf => I.ok.has y.1 (by show X.env.scope.names.lookup y.1 = some .cell ∨ X.env.scope.names.lookup y.1 = some .free; rw [ho]; exact S.fre y hy hf)
  rw [exec_Assign_Name_used _ _ _ _ hsw]
  refine wpAny_bind (wpAny_standAt (wpAny_bind ?_))
  show wpAny _ X.A (do let _ ← comprehension (.ListComp elt [⟨tg, iter, ifs, 0⟩] sc pos) sc X.env _ (newList []) false (eval iter X.env) (some (assign (.Name x px) X.env))) _ _ s
  refine wpAny_bind (thn (wpAny_comprehension_free (use := some (assign (.Name x px) X.env)) (Q := fun _ s' => SP X pins D .next s') rfl hs hcl S.kind S.own
    (comp_core (RR := fun acc C => compPost (model X.prog X.w) X.A X.xe (some (assign (.Name x px) X.env)) (fun _ s' => SP X pins D .next s') acc C) hcalm ho hN S hcl1 hcl2 hi gk hb I h ?_)) fun _ s' q => wpAny_pure (wpAny_pure q))
  intro D' C H' s' I' hm hf q
  obtain ⟨m, hm⟩ := hm
  obtain ⟨f0, f1, f2, f3, f4, f5⟩ := hf
  show wpAny _ X.A (assign (.Name x px) X.env (.ref D')) _ _ _
  refine wpAny_assign_Name (store_ok2 I' hnd hx (.inl hl) (v := .ref D') rfl (fun s2 I2 hch => ?_) (.inr hl))
  obtain ⟨a, hsb, ha⟩ := hch
  have hCa : C ≠ a := by
    rcases ha with z | z
    · rw [z]; exact f1
    · exact fun e => f4 _ _ z e.symm
  exact ⟨m, hm.sameBut hsb hCa, fun h' hsb' => ⟨_, H', I2.turned (t' := s2.toks) (fun b o hb e => (hsb'.2 b hb).trans e) f0 f1 f3 f4 f5, q⟩⟩
end
section
variable {K : PySem.W.Frag} {n : Nat} {fx : List Nat} {g : TG} {tc : TT} {te : TE} {σ : St} {H1 : Hp} {D : Addr} {Q : Hp → Prop}
theorem comp_range {lo : Int} {k : Nat} (Pv : Nat → List V → Hp → Prop) (h0 : Pv 0 [] (upd H1 D (.lst [])))
    (hs : ∀ i ys H, i < k → Pv i ys H → g (.int (lo + i)) (compSt n fx σ) H fun σ4 H4 => tc σ4 H4 fun b H5 => if b = true then te σ4 H5 fun v H6 => H6 D = some (.lst ys) ∧ ys.length < sizeLine ∧ Pv (i + 1) (ys ++ [v]) (upd H6 D (.lst (ys ++ [v]))) else Pv (i + 1) ys H5)
    (hd : ∀ ys H, Pv k ys H → Q H) :
    ∃ W : Nat → Nat → List V → Hp → Prop, (∃ m, W 0 m [] (upd H1 D (.lst []))) ∧ ∀ i m ys H2, W i m ys H2 → ((Itr lo k).stop i H2 ∧ Q H2) ∨
      ((Itr lo k).go i H2 ∧ ∃ N : List V → Hp → Prop, (∀ ys' H', N ys' H' → ∃ m', m' < m ∧ W (i + 1) m' ys' H') ∧ ∀ x H3, (Itr lo k).yld i H2 x H3 → g x (compSt n fx σ) H3 fun σ4 H4 => tc σ4 H4 fun b H5 =>
        if b = true then te σ4 H5 fun v H6 => H6 D = some (.lst ys) ∧ ys.length < sizeLine ∧ N (ys ++ [v]) (upd H6 D (.lst (ys ++ [v]))) else N ys H5) := by
  refine ⟨fun i m ys H => m = k - i ∧ i ≤ k ∧ Pv i ys H, ⟨k, by simp, Nat.zero_le _, h0⟩, ?_⟩
  rintro i m ys H ⟨rfl, hi, p⟩
  by_cases hlt : i < k
  · refine .inr ⟨hlt, Pv (i + 1), fun ys' H' p' => ⟨k - (i + 1), by omega, rfl, hlt, p'⟩, fun x H' y => ?_⟩
    obtain ⟨e, y⟩ := y
    subst e; subst y
    exact hs i ys _ hlt p
  · have e : i = k := by omega
    subst e
    exact .inl ⟨Nat.le_refl _, hd ys H p⟩
theorem comp_list {a : Addr} {xs : List V} (Pv : Nat → List V → Hp → Prop) (h0 : Pv 0 [] (upd H1 D (.lst []))) (hl : ∀ i ys H, i ≤ xs.length → Pv i ys H → SqL K H a xs)
    (hs : ∀ i x ys H, xs[i]? = some x → Pv i ys H → g x (compSt n fx σ) H fun σ4 H4 => tc σ4 H4 fun b H5 => if b = true then te σ4 H5 fun v H6 => H6 D = some (.lst ys) ∧ ys.length < sizeLine ∧ Pv (i + 1) (ys ++ [v]) (upd H6 D (.lst (ys ++ [v]))) else Pv (i + 1) ys H5)
    (hd : ∀ ys H, Pv xs.length ys H → Q H) :
    ∃ W : Nat → Nat → List V → Hp → Prop, (∃ m, W 0 m [] (upd H1 D (.lst []))) ∧ ∀ i m ys H2, W i m ys H2 → ((Itl K a).stop i H2 ∧ Q H2) ∨
      ((Itl K a).go i H2 ∧ ∃ N : List V → Hp → Prop, (∀ ys' H', N ys' H' → ∃ m', m' < m ∧ W (i + 1) m' ys' H') ∧ ∀ x H3, (Itl K a).yld i H2 x H3 → g x (compSt n fx σ) H3 fun σ4 H4 => tc σ4 H4 fun b H5 =>
        if b = true then te σ4 H5 fun v H6 => H6 D = some (.lst ys) ∧ ys.length < sizeLine ∧ N (ys ++ [v]) (upd H6 D (.lst (ys ++ [v]))) else N ys H5) := by
  refine ⟨fun i m ys H => m = xs.length - i ∧ i ≤ xs.length ∧ Pv i ys H, ⟨xs.length, by simp, Nat.zero_le _, h0⟩, ?_⟩
  rintro i m ys H ⟨rfl, hi, p⟩
  have q := hl i ys H hi p
  by_cases hlt : i < xs.length
  · refine .inr ⟨⟨xs, xs[i], q, by simp [hlt]⟩, Pv (i + 1), fun ys' H' p' => ⟨xs.length - (i + 1), by omega, rfl, hlt, p'⟩, fun x H' y => ?_⟩
    obtain ⟨e, y⟩ := y
    subst e
    exact hs i x ys _ (y xs q) p
  · have e : i = xs.length := by omega
    subst e
    exact .inl ⟨⟨xs, q, Nat.le_refl _⟩, hd ys H p⟩
end
end L2
set_option Elab.async false
set_option linter.all false
set_option maxRecDepth 100000
set_option maxHeartbeats 4000000
namespace L2
open PySem PySem.Spec PyProof.Rows
noncomputable def kindV (K : PySem.W.Frag) (H : Hp) (x : V) (k : String) : Prop := match x with
  | .non => k = "NoneType"
  | .bl _ => k = "bool"
  | .int _ => k = "int"
  | .str _ => k = "str"
  | .ref p => (k = "list" ∧ ∃ xs, SqL K H p xs) ∨ (k = "tuple" ∧ ∃ xs, SqT K H p xs) ∨ (k = "dict" ∧ ∃ kvs, Rd H p (.dK kvs))
  | _ => False
noncomputable def subB (k T : String) : Bool := k == T || (k == "bool" && T == "int")
noncomputable def rIsi (K : PySem.W.Frag) : List V → Hp → VK → Prop := fun xs H Q => ∃ x k T, xs = [x, .ty T] ∧ kindV K H x k ∧ T ∈ ["int", "bool", "str", "list", "tuple", "dict"] ∧ Q (.bl (subB k T)) H
section
variable {X : Cx}
theorem call_isi : CallR X (.builtin "isinstance") (rIsi X.K) := by
  intro pins s σ H xs us Q I r h
  obtain ⟨x, k, T, rfl, hk, hT, q⟩ := h
  obtain ⟨u, v, rfl, rx, rt⟩ := vals2 r
  cases rt
  have f0 : ∀ b, b = subB k T → EP X pins σ Q (.bool b) s := fun b e => ⟨.bl b, H, I, rfl, by rw [e]; exact q⟩
  have f1 : ∀ b, b = subB k T → EP X pins σ Q (.bool b) { s with toks := s.toks + 1 } := fun b e => ⟨.bl b, H, I.tok _, rfl, by rw [e]; exact q⟩
  simp only [List.mem_cons, List.not_mem_nil, or_false] at hT
  cases x with
  | non =>
    cases rx; cases hk
    rcases hT with rfl | rfl | rfl | rfl | rfl | rfl
    · exact IsiPair.NoneType_int (f1 _ (by decide))
    · exact IsiPair.NoneType_bool (f1 _ (by decide))
    · exact IsiPair.NoneType_str (f1 _ (by decide))
    · exact IsiPair.NoneType_list (f1 _ (by decide))
    · exact IsiPair.NoneType_tuple (f1 _ (by decide))
    · exact IsiPair.NoneType_dict (f1 _ (by decide))
  | bl b =>
    cases rx; cases hk
    rcases hT with rfl | rfl | rfl | rfl | rfl | rfl
    · exact IsiPair.bool_int (f0 _ (by decide))
    · exact IsiPair.bool_bool (f0 _ (by decide))
    · exact IsiPair.bool_str (f1 _ (by decide))
    · exact IsiPair.bool_list (f1 _ (by decide))
    · exact IsiPair.bool_tuple (f1 _ (by decide))
    · exact IsiPair.bool_dict (f1 _ (by decide))
  | int i =>
    obtain ⟨t, rfl⟩ := rx; cases hk
    rcases hT with rfl | rfl | rfl | rfl | rfl | rfl
    · exact IsiPair.int_int (f0 _ (by decide))
    · exact IsiPair.int_bool (f1 _ (by decide))
    · exact IsiPair.int_str (f1 _ (by decide))
    · exact IsiPair.int_list (f1 _ (by decide))
    · exact IsiPair.int_tuple (f1 _ (by decide))
    · exact IsiPair.int_dict (f1 _ (by decide))
  | str z =>
    obtain ⟨t, rfl⟩ := rx; cases hk
    rcases hT with rfl | rfl | rfl | rfl | rfl | rfl
    · exact IsiPair.str_int (f1 _ (by decide))
    · exact IsiPair.str_bool (f1 _ (by decide))
    · exact IsiPair.str_str (f0 _ (by decide))
    · exact IsiPair.str_list (f1 _ (by decide))
    · exact IsiPair.str_tuple (f1 _ (by decide))
    · exact IsiPair.str_dict (f1 _ (by decide))
  | ref p =>
    cases rx
    rcases hk with ⟨rfl, xs, hq⟩ | ⟨rfl, xs, hq⟩ | ⟨rfl, kvs, hq⟩
    · obtain ⟨its, _, pl, _⟩ := I.list hq
      obtain ⟨o, ho, hc, _⟩ := pl.isList
      rcases hT with rfl | rfl | rfl | rfl | rfl | rfl
      · exact IsiPair.list_int ho hc (f1 _ (by decide))
      · exact IsiPair.list_bool ho hc (f1 _ (by decide))
      · exact IsiPair.list_str ho hc (f1 _ (by decide))
      · exact IsiPair.list_list ho hc (f0 _ (by decide))
      · exact IsiPair.list_tuple ho hc (f1 _ (by decide))
      · exact IsiPair.list_dict ho hc (f1 _ (by decide))
    · obtain ⟨its, _, pl, _⟩ := I.tuple hq
      obtain ⟨o, ho, hc, _⟩ := pl
      rcases hT with rfl | rfl | rfl | rfl | rfl | rfl
      · exact IsiPair.tuple_int ho hc (f1 _ (by decide))
      · exact IsiPair.tuple_bool ho hc (f1 _ (by decide))
      · exact IsiPair.tuple_str ho hc (f1 _ (by decide))
      · exact IsiPair.tuple_list ho hc (f1 _ (by decide))
      · exact IsiPair.tuple_tuple ho hc (f0 _ (by decide))
      · exact IsiPair.tuple_dict ho hc (f1 _ (by decide))
    · obtain ⟨_, _, _, _, o, _, _, ho, ex, _⟩ := hq.ok I.hok
      have hc : o.cls = .type "dict" := ex.1
      rcases hT with rfl | rfl | rfl | rfl | rfl | rfl
      · exact IsiPair.dict_int ho hc (f1 _ (by decide))
      · exact IsiPair.dict_bool ho hc (f1 _ (by decide))
      · exact IsiPair.dict_str ho hc (f1 _ (by decide))
      · exact IsiPair.dict_list ho hc (f1 _ (by decide))
      · exact IsiPair.dict_tuple ho hc (f1 _ (by decide))
      · exact IsiPair.dict_dict ho hc (f0 _ (by decide))
  | _ => exact False.elim hk
noncomputable def rBits : V → List V → Hp → VK → Prop := fun x xs H Q => ∃ i, x = .int i ∧ xs = [] ∧ Q (.int (Builtin.Int.intBits i : Nat)) H
theorem mt_bits : MtR X "int.bit_length" rBits := by
  intro pins s σ H x xs v us Q I rx rs h
  obtain ⟨i, rfl, rfl, q⟩ := h
  obtain ⟨t, rfl⟩ := rx
  cases rs
  exact call_int_bit_length ⟨.int _, H, I.tok _, ⟨_, rfl⟩, q⟩
end
theorem bitAnd_nat (a b : Nat) : Builtin.bitAnd (a : Int) (b : Int) = ((a &&& b : Nat) : Int) := by
  unfold Builtin.bitAnd
  rw [decide_eq_true (Int.natCast_nonneg a), decide_eq_true (Int.natCast_nonneg b)]
  simp
end L2
set_option Elab.async false
set_option linter.all false
set_option maxRecDepth 100000
set_option maxHeartbeats 4000000
namespace L2
open PySem PySem.Spec PyProof.Rows
end L2
set_option Elab.async false
set_option linter.all false
set_option maxRecDepth 100000
set_option maxHeartbeats 4000000
namespace L2
open PySem PySem.Spec PyProof.Rows
section
variable {X : Cx} {K : PySem.W.Frag}
theorem ix_listK (h : X.K = K) : IxR X (rIxL K) := by subst h; exact ix_list
theorem ix_tupK (h : X.K = K) : IxR X (rIxT K) := by subst h; exact ix_tup
theorem sl_listK (h : X.K = K) : SlR X (rSlL K) := by subst h; exact sl_list
theorem call_isiK (h : X.K = K) : CallR X (.builtin "isinstance") (rIsi K) := by subst h; exact call_isi
noncomputable def rLen (K : PySem.W.Frag) : List V → Hp → VK → Prop := fun xs H Q => ∃ x n, xs = [x] ∧ LenV K x H n ∧ Q (.int n) H
theorem call_lenK (h : X.K = K) : CallR X (.builtin "len") (rLen K) := by subst h; exact call_len
noncomputable def rTupOf (K : PySem.W.Frag) : List V → Hp → VK → Prop := fun xs H Q => ∃ p ys, xs = [.ref p] ∧ ((SqL K H p ys ∧ ∀ l, H l = none → Q (.ref l) (upd H l (.tup ys))) ∨ (SqT K H p ys ∧ Q (.ref p) H))
theorem call_tupleK (h : X.K = K) : CallR X (.type "tuple") (rTupOf K) := by subst h; exact call_tuple_of
theorem pi_listK {tg l : Expr} {tl : TE} (h : X.K = K) (hl : PE X l tl) : PI X tg l (iList K tl) := by subst h; exact pi_list hl
theorem pi_tupK {tg l : Expr} {tl : TE} (h : X.K = K) (hl : PE X l tl) : PI X tg l (iTup K tl) := by subst h; exact pi_tup hl
theorem pe_bm0K {o : Expr} {to : TE} {name : Str} {apos cpos : Pos} {T id : String} {r : V → List V → Hp → VK → Prop} (h : X.K = K) (pa : PlainAttrs T) (slot : Slot T name id) (hty : typeOf (.builtin id) = pure (.type "method_descriptor")) (hm : MtR X id r) (ho : PE X o to)
    (hbase : attributeBase o name X.env (eval o X.env) = eval o X.env := by rfl) (hline : (apos.endLine == cpos.line) = true := by rfl) : PE X (.Call (.Attribute o name apos) [] [] cpos) (tBM0 K T r to) := by subst h; exact pe_bm0 pa slot hty hm ho hbase hline
theorem pe_bmK {o e : Expr} {es : List Expr} {to : TE} {t : TA} {name : Str} {apos cpos : Pos} {T id : String} {r : V → List V → Hp → VK → Prop} (h : X.K = K) (pa : PlainAttrs T) (slot : Slot T name id) (hty : typeOf (.builtin id) = pure (.type "method_descriptor")) (hm : MtR X id r) (ho : PE X o to) (ha : PA X (e :: es) t)
    (hbase : attributeBase o name X.env (eval o X.env) = eval o X.env := by rfl)
    (hfew : ((backTo cpos (starEach (e :: es) X.env)).all (fun x => !x.1) && (backToKw cpos (keywordEach [] X.env)).all (fun x => x.1.isSome)
      && decide ((e :: es).length + ([] : List Keyword).length + (if ([] : List Keyword).isEmpty then 0 else 1) < 30)) = true := by rfl)
    (hline : (apos.endLine == cpos.line) = true := by rfl) (hs : starEach (e :: es) X.env = (false, eval e X.env) :: starEach es X.env := by rfl) (hplain : (backTo cpos (starEach es X.env)).any (·.1) = false := by rfl) :
    PE X (.Call (.Attribute o name apos) (e :: es) [] cpos) (tBM K T r to t) := by subst h; exact pe_bm pa slot hty hm ho ha hbase hfew hline hs hplain
end
end L2
set_option Elab.async false
set_option linter.all false
set_option maxRecDepth 100000
set_option maxHeartbeats 4000000
namespace L2
open PySem PySem.Spec PyProof.Rows
noncomputable def rAllB (K : PySem.W.Frag) : List V → Hp → VK → Prop := fun xs H Q => ∃ (a : Addr) (bs : List Bool), xs = [.ref a] ∧ SqL K H a (bs.map V.bl) ∧ Q (.bl (bs.all id)) H
section
variable {X : Cx} {K : PySem.W.Frag}
theorem bool_at {bs : List Bool} {its : List Value} (rv : Vals (bs.map V.bl) its) {i : Nat} {v : Value} (h : its.toArray[i]? = some v) : v = .bool (bs.getD i false) := by
  have h' : its[i]? = some v := by simpa using h
  have hi : i < its.length := (List.getElem?_eq_some_iff.mp h').1
  have hl := rv.length
  rw [List.length_map] at hl
  obtain ⟨u, e, r⟩ := rv.get (i := i) (x := .bl (bs.getD i false)) (by rw [List.getElem?_map, List.getElem?_eq_getElem (by omega), List.getD_eq_getElem?_getD, List.getElem?_eq_getElem (by omega)]; rfl)
  rw [h'] at e
  cases e
  exact r
theorem all_at (bs : List Bool) : (List.range bs.length).all (fun i => bs.getD i false) = bs.all id := by
  rw [Bool.eq_iff_iff, List.all_eq_true, List.all_eq_true]
  constructor
  · intro h x hx
    obtain ⟨i, hi, e⟩ := List.mem_iff_getElem.mp hx
    have := h i (List.mem_range.mpr hi)
    rw [List.getD_eq_getElem?_getD, List.getElem?_eq_getElem hi, e] at this
    exact this
  · intro h i hi
    have hi := List.mem_range.mp hi
    rw [List.getD_eq_getElem?_getD, List.getElem?_eq_getElem hi]
    exact h _ (List.getElem_mem hi)
theorem call_allK (h : X.K = K) (hc : X.calm = true) : CallR X (.builtin "all") (rAllB K) := by
  subst h
  intro pins s σ H xs us Q I r h
  obtain ⟨a, bs, rfl, hq, q⟩ := h
  obtain ⟨u, rfl, ru⟩ := vals1 r
  cases ru
  obtain ⟨its, rv, pl, hz⟩ := I.list hq
  have lt : a < s.heap.objs.size := let ⟨o, e, _⟩ := pl.isList; Heap.lt_size e
  have hl : its.toArray.size = bs.length := by have := rv.length; rw [List.length_map] at this; simp [this]
  refine call_all_walk (wpAny_pyIter_list pl.isList ⟨s.heap.objs.size, _, _, its.toArray.size, _, _, fun i => bs.getD i false, rfl, Walks.list (A := X.A.in1) (I.ok.hd hc) s.heap.objs.size a (Nat.ne_of_lt lt) its.toArray, ⟨⟨_, Heap.get?_push_size _ rfl, rfl, rfl⟩, let ⟨o, e, c⟩ := pl.isList; ⟨o, Heap.get?_push_of_some _ e, c⟩⟩, fun i v s Q E hv hQ => by rw [bool_at rv hv]; exact wpAny_truthy_bool hQ, fun h' tk kk => ?_⟩)
  rw [hl, all_at]
  exact ⟨.bl _, H, I.kept (fun b o e => kk b o (fun hm => by have := Heap.lt_size e; rw [List.mem_singleton.mp hm] at this; exact absurd this (Nat.lt_irrefl _)) (Heap.get?_push_of_some _ e)), rfl, q⟩
end
inductive Dt where
  | non | bl (b : Bool) | int (i : Int) | str (x : Str) | lst (xs : List Dt) | tup (xs : List Dt)
inductive Rep (K : PySem.W.Frag) (H : Hp) : V → Dt → Prop where
  | non : Rep K H .non .non
  | bl (b : Bool) : Rep K H (.bl b) (.bl b)
  | int (i : Int) : Rep K H (.int i) (.int i)
  | str (x : Str) : Rep K H (.str x) (.str x)
  | lst {p : Addr} {xs : List V} {ds : List Dt} (h : SqL K H p xs) (l : xs.length = ds.length) (r : ∀ (i : Nat) x d, xs[i]? = some x → ds[i]? = some d → Rep K H x d) : Rep K H (.ref p) (.lst ds)
  | tup {p : Addr} {xs : List V} {ds : List Dt} (h : SqT K H p xs) (l : xs.length = ds.length) (r : ∀ (i : Nat) x d, xs[i]? = some x → ds[i]? = some d → Rep K H x d) : Rep K H (.ref p) (.tup ds)
theorem Same.tup {K : PySem.W.Frag} {H H' : Hp} {a : Addr} {xs : List V} (e : Same H H') (h : SqT K H a xs) : SqT K H' a xs := by
  rcases h with (h | ⟨o, h⟩) | h
  · exact .inl (.inl (e _ _ h))
  · exact .inl (.inr ⟨o, e _ _ h⟩)
  · exact .inr h
mutual
noncomputable def eqD : Dt → Dt → Bool
  | .non, .non => true
  | .bl a, .bl b => a == b
  | .bl a, .int b => (if a then 1 else 0) == b
  | .int a, .bl b => a == (if b then 1 else 0)
  | .int a, .int b => a == b
  | .str a, .str b => a == b
  | .lst xs, .lst ys => eqDs xs ys
  | .tup xs, .tup ys => eqDs xs ys
  | _, _ => false
noncomputable def eqDs : List Dt → List Dt → Bool
  | [], [] => true
  | x :: xs, y :: ys => eqD x y && eqDs xs ys
  | _, _ => false
end
mutual
noncomputable def depD : Dt → Nat
  | .lst xs => depDs xs + 1
  | .tup xs => depDs xs + 1
  | _ => 0
noncomputable def depDs : List Dt → Nat
  | [] => 0
  | x :: xs => max (depD x) (depDs xs)
end
end L2
set_option Elab.async false
set_option linter.all false
set_option maxRecDepth 100000
set_option maxHeartbeats 4000000
namespace L2
open PySem PySem.Spec PyProof.Rows
inductive SetTo : St → Nat → Option V → St → Prop where
  | z {a v : Option V} {l : St} : SetTo (a :: l) 0 v (v :: l)
  | s {a v : Option V} {l l' : St} {i : Nat} : SetTo l i v l' → SetTo (a :: l) (i + 1) v (a :: l')
theorem SetTo.eq {l l' : St} {i : Nat} {v : Option V} (h : SetTo l i v l') : l.set i v = l' := by
  induction h with
  | z => rfl
  | s _ ih => rw [List.set_cons_succ, ih]
inductive GetTo : St → Nat → V → Prop where
  | z {v : V} {l : St} : GetTo (some v :: l) 0 v
  | s {a : Option V} {v : V} {l : St} {i : Nat} : GetTo l i v → GetTo (a :: l) (i + 1) v
theorem GetTo.eq {l : St} {i : Nat} {v : V} (h : GetTo l i v) : l[i]? = some (some v) := by
  induction h with
  | z => rfl
  | s _ ih => rw [List.getElem?_cons_succ]; exact ih
section
variable {σ σ' : St} {H : Hp} {Q : VK} {D : Ends} {ta tb tc te : TE} {t u : TS} {tt tt' : TT} {r r' : R2} {x y v : V}
theorem s_start {N : List Str} {vs : List V} {t : TS} (e : start N vs = σ') (h : t D σ' H) : t D (start N vs) H := by rw [e]; exact h
theorem s_var {i : Nat} (e : GetTo σ i v) (h : Q v H) : tVar i σ H Q := ⟨v, e.eq, h⟩
theorem s_c (h : Q v H) : tC v σ H Q := h
theorem s_op (h : ta σ H fun x H1 => tb σ H1 fun y H2 => r x y H2 Q) : tOp r ta tb σ H Q := h
theorem s_un {r : V → Hp → VK → Prop} (h : ta σ H fun x H1 => r x H1 Q) : tUn r ta σ H Q := h
theorem s_rI {C : Int → Int → Prop} {g : Int → Int → V} {i j : Int} (c : C i j) (h : Q (g i j) H) : rI C g (.int i) (.int j) H Q := ⟨i, j, rfl, rfl, c, h⟩
theorem s_rI0 {g : Int → Int → V} {i j : Int} (h : Q (g i j) H) : rI0 g (.int i) (.int j) H Q := ⟨i, j, rfl, rfl, h⟩
theorem s_rU {g : Int → V} {i : Int} (h : Q (g i) H) : rU g (.int i) H Q := ⟨i, rfl, h⟩
theorem s_rEq (e : scal x y = true) (h : Q (.bl (decide (x = y))) H) : rEq x y H Q := ⟨e, h⟩
theorem s_rNe (e : scal x y = true) (h : Q (.bl (!decide (x = y))) H) : rNe x y H Q := ⟨e, h⟩
theorem s_test {Q : Bool → Hp → Prop} (h : te σ H fun x H' => ∃ k, x = .bl k ∧ Q k H') : tTest te σ H Q := h
theorem s_tB {Q : Bool → Hp → Prop} (h : te σ H fun x H' => ∃ k, x = .bl k ∧ Q k H') : tB te σ H Q := h
theorem s_chain (h : ta σ H fun x H1 => tb σ H1 fun y H2 => r x y H2 fun z H3 => ∃ k, z = .bl k ∧ (if k = true then tc σ H3 fun w' H4 => r' y w' H4 Q else Q (.bl false) H3)) : tChain r r' ta tb tc σ H Q := h
theorem s_and {Q : Bool → Hp → Prop} (h : tt σ H fun c H1 => if c = true then tt' σ H1 Q else Q false H1) : tAnd tt tt' σ H Q := h
theorem s_or {Q : Bool → Hp → Prop} (h : tt σ H fun c H1 => if c = true then Q true H1 else tt' σ H1 Q) : tOr tt tt' σ H Q := h
theorem s_not {Q : Bool → Hp → Prop} (h : tt σ H fun c H1 => Q (!c) H1) : tNot tt σ H Q := h
theorem s_andV (h : ta σ H fun x H1 => ∃ c, x = .bl c ∧ if c = true then tb σ H1 Q else Q (.bl false) H1) : tAndV ta tb σ H Q := h
theorem s_orV (h : ta σ H fun x H1 => ∃ c, x = .bl c ∧ if c = true then Q (.bl true) H1 else tb σ H1 Q) : tOrV ta tb σ H Q := h
theorem s_notV (h : ta σ H fun x H1 => ∃ c, x = .bl c ∧ Q (.bl (!c)) H1) : tNotV ta σ H Q := h
theorem s_next (h : D.nx σ H) : tNext D σ H := h
theorem s_seq (h : t { D with nx := u D } σ H) : tSeq t u D σ H := h
theorem s_drop (h : te σ H fun _ H1 => D.nx σ H1) : tDrop te D σ H := h
theorem s_ret (h : te σ H D.rt) : tRet te D σ H := h
theorem s_if (h : tt σ H fun b H1 => if b = true then t D σ H1 else u D σ H1) : tIfS tt t u D σ H := h
theorem s_asg {g : TG} (h : te σ H fun x H1 => g x σ H1 D.nx) : tAsg te g D σ H := h
theorem s_gname {i : Nat} {Q : St → Hp → Prop} (e : SetTo σ i (some v) σ') (h : Q σ' H) : gName i v σ H Q := by show Q (σ.set i (some v)) H; rw [e.eq]; exact h
theorem s_gnil {Q : St → Hp → Prop} (h : Q σ H) : gNil [] σ H Q := ⟨rfl, h⟩
theorem s_gcons {g : TG} {gs : TGs} {vs : List V} {Q : St → Hp → Prop} (h : g v σ H fun σ' H' => gs vs σ' H' Q) : gCons g gs (v :: vs) σ H Q := ⟨v, vs, rfl, h⟩
theorem s_gtup {K : PySem.W.Frag} {n : Nat} {gs : TGs} {p : Addr} {xs : List V} {Q : St → Hp → Prop} (e : SqT K H p xs) (l : xs.length = n) (h : gs xs σ H Q) : gTup K n gs (.ref p) σ H Q := ⟨p, xs, rfl, e, l, h⟩
theorem s_nil {Q : List V → Hp → Prop} (h : Q [] H) : tNil σ H Q := h
theorem s_cons {tr : TA} {Q : List V → Hp → Prop} (h : ta σ H fun x H1 => tr σ H1 fun xs H2 => Q (x :: xs) H2) : tCons ta tr σ H Q := h
noncomputable def NewT (Q : VK) (xs : List V) (H : Hp) : Prop := xs.length ≤ sizeLine ∧ ∀ p, H p = none → Q (.ref p) (upd H p (.tup xs))
noncomputable def NewL (Q : VK) (xs : List V) (H : Hp) : Prop := xs.length ≤ sizeLine ∧ ∀ p, H p = none → Q (.ref p) (upd H p (.lst xs))
theorem s_tup {tr : TA} (h : tr σ H (NewT Q)) : tTup tr σ H Q := h
theorem s_lst {tr : TA} (h : tr σ H (NewL Q)) : tLst tr σ H Q := h
theorem same_new {H : Hp} {D : Addr} {o : HO} (h : H D = none) : Same H (upd H D o) := fun b u e => by rw [upd_ne (ne_of_none e h)]; exact e
theorem s_alloc {o : HO} (h : ∀ p H2, H p = none → Same H H2 → H2 p = some o → Q (.ref p) H2) : ∀ p, H p = none → Q (.ref p) (upd H p o) := fun p hp => h p _ hp (same_new hp) upd_same
theorem Same.get {H H' : Hp} (e : Same H H') {b : Addr} {o : HO} (h : H b = some o) : H' b = some o := e b o h
theorem s_newT {xs : List V} (l : xs.length ≤ sizeLine) (h : ∀ p H2, H p = none → Same H H2 → H2 p = some (.tup xs) → Q (.ref p) H2) : NewT Q xs H := ⟨l, s_alloc h⟩
theorem s_newL {xs : List V} (l : xs.length ≤ sizeLine) (h : ∀ p H2, H p = none → Same H H2 → H2 p = some (.lst xs) → Q (.ref p) H2) : NewL Q xs H := ⟨l, s_alloc h⟩
theorem s_call0 {sp : Sp} {E : XK} {tr : TA} (h : tr σ H fun vs H1 => sp vs H1 Q E) : tCall sp [] E tr σ H Q := by unfold tCall; simp only [List.append_nil]; exact h
theorem s_cb {r : List V → Hp → VK → Prop} {tr : TA} (h : tr σ H fun vs H1 => r vs H1 Q) : tCB r tr σ H Q := h
theorem s_noPart {Q : Option Int → Hp → Prop} (h : Q none H) : tNoPart σ H Q := h
theorem s_part {Q : Option Int → Hp → Prop} (h : te σ H fun x H1 => ∃ i, x = .int i ∧ Q (some i) H1) : tPart te σ H Q := h
theorem s_sl {r : V → Option Int → Option Int → Hp → VK → Prop} {tl th : TO} (h : te σ H fun x H1 => tl σ H1 fun l H2 => th σ H2 fun u H3 => r x l u H3 Q) : tSl r te tl th σ H Q := h
theorem s_slL {K : PySem.W.Frag} {p : Addr} {xs : List V} {lo hi : Option Int} (e : SqL K H p xs) (h : ∀ q H2, H q = none → Same H H2 → H2 q = some (.lst (cutV xs lo hi)) → Q (.ref q) H2) : rSlL K (.ref p) lo hi H Q := ⟨p, xs, rfl, e, s_alloc h⟩
theorem s_ixL {K : PySem.W.Frag} {p : Addr} {xs : List V} {i : Int} (e : SqL K H p xs) (a : atI xs i = some v) (h : Q v H) : rIxL K (.ref p) (.int i) H Q := ⟨p, xs, i, v, rfl, rfl, e, a, h⟩
theorem s_ixT {K : PySem.W.Frag} {p : Addr} {xs : List V} {i : Int} (e : SqT K H p xs) (a : atI xs i = some v) (h : Q v H) : rIxT K (.ref p) (.int i) H Q := ⟨p, xs, i, v, rfl, rfl, e, a, h⟩
theorem s_bm0 {K : PySem.W.Frag} {T : String} {r : V → List V → Hp → VK → Prop} (h : te σ H fun x H1 => tyV K T x H1 ∧ r x [] H1 Q) : tBM0 K T r te σ H Q := h
theorem s_bm {K : PySem.W.Frag} {T : String} {r : V → List V → Hp → VK → Prop} {tr : TA} (h : te σ H fun x H1 => tyV K T x H1 ∧ tr σ H1 fun xs H2 => r x xs H2 Q) : tBM K T r te tr σ H Q := h
theorem le_line {n : Nat} (h : n ≤ 1000) : n ≤ sizeLine := Nat.le_of_lt (small1000 h)
theorem s_ty {K : PySem.W.Frag} {T : String} {A : Prop} (e : tyV K T x H) (h : A) : tyV K T x H ∧ A := ⟨e, h⟩
theorem s_bits {i : Int} (h : Q (.int (Builtin.Int.intBits i : Nat)) H) : rBits (.int i) [] H Q := ⟨i, rfl, rfl, h⟩
theorem s_lenL {K : PySem.W.Frag} {p : Addr} {xs : List V} (e : SqL K H p xs) (h : Q (.int xs.length) H) : rLen K [.ref p] H Q := ⟨_, _, rfl, .inl ⟨xs, e, rfl⟩, h⟩
theorem s_lenT {K : PySem.W.Frag} {p : Addr} {xs : List V} (e : SqT K H p xs) (h : Q (.int xs.length) H) : rLen K [.ref p] H Q := ⟨_, _, rfl, .inr ⟨xs, e, rfl⟩, h⟩
theorem s_isi {K : PySem.W.Frag} {T k : String} (e : kindV K H x k) (m : T ∈ ["int", "bool", "str", "list", "tuple", "dict"]) (h : Q (.bl (subB k T)) H) : rIsi K [x, .ty T] H Q := ⟨x, k, T, rfl, e, m, h⟩
theorem s_dnew (h : ∀ p H2, H p = none → Same H H2 → H2 p = some (.dK []) → Q (.ref p) H2) : tDNewK σ H Q := s_alloc h
theorem s_for {wi : TI} {g : TG} {tb : TS} (h : wi σ H fun J H1 => ∃ W : Nat → Nat → St → Hp → Prop, (∃ m, W 0 m σ H1) ∧ ∀ i m σ H, W i m σ H → (J.stop i H ∧ D.nx σ H) ∨ (J.go i H ∧ ∃ N : St → Hp → Prop, (∀ σ' H', N σ' H' → ∃ m', m' < m ∧ W (i + 1) m' σ' H') ∧ ∀ x H', J.yld i H x H' → g x σ H' fun σ2 H2 => tb { D with nx := N, ct := N, bk := D.nx } σ2 H2)) : tFor wi g tb D σ H := h
theorem s_iList {K : PySem.W.Frag} {R : It → Hp → Prop} (h : te σ H fun x H1 => ∃ a, x = .ref a ∧ (∃ xs, SqL K H1 a xs) ∧ R (Itl K a) H1) : iList K te σ H R := h
theorem s_iTup {K : PySem.W.Frag} {R : It → Hp → Prop} (h : te σ H fun x H1 => ∃ a, x = .ref a ∧ (∃ xs, SqT K H1 a xs) ∧ R (Itt K a) H1) : iTup K te σ H R := h
theorem s_rng1 {tr : TA} {R : It → Hp → Prop} (h : tr σ H fun vs H1 => ∃ j : Int, vs = [.int j] ∧ -(2 ^ 62) ≤ j ∧ j < 2 ^ 62 ∧ R (Itr 0 j.toNat) H1) : iRng1 tr σ H R := h
theorem s_yes {Q : Bool → Hp → Prop} (h : Q true H) : tYes σ H Q := h
theorem s_true {A B : Prop} (h : A) : if true = true then A else B := by rw [if_pos rfl]; exact h
theorem s_false {A B : Prop} (h : B) : if false = true then A else B := by rw [if_neg Bool.false_ne_true]; exact h
theorem s_ifT {c : Bool} {A B : Prop} (e : c = true) (h : A) : if c = true then A else B := by rw [if_pos e]; exact h
theorem s_ifF {c : Bool} {A B : Prop} (e : c = false) (h : B) : if c = true then A else B := by rw [e, if_neg Bool.false_ne_true]; exact h
theorem s_comp {n : Nat} {fx : List Nat} {wi : TI} {g : TG} (h : wi σ H fun J H1 => ∀ D, H1 D = none →
  ∃ W : Nat → Nat → List V → Hp → Prop, (∃ m, W 0 m [] (upd H1 D (.lst []))) ∧ ∀ i m ys H2, W i m ys H2 → (J.stop i H2 ∧ Q (.ref D) H2) ∨
    (J.go i H2 ∧ ∃ N : List V → Hp → Prop, (∀ ys' H', N ys' H' → ∃ m', m' < m ∧ W (i + 1) m' ys' H') ∧ ∀ x H3, J.yld i H2 x H3 → g x (compSt n fx σ) H3 fun σ4 H4 => tt σ4 H4 fun b H5 =>
      if b = true then te σ4 H5 fun v H6 => H6 D = some (.lst ys) ∧ ys.length < sizeLine ∧ N (ys ++ [v]) (upd H6 D (.lst (ys ++ [v]))) else N ys H5)) : tComp n fx wi g tt te σ H Q := h
theorem s_allB {K : PySem.W.Frag} {p : Addr} {bs : List Bool} (e : SqL K H p (bs.map V.bl)) (h : Q (.bl (bs.all id)) H) : rAllB K [.ref p] H Q := ⟨p, bs, rfl, e, h⟩
theorem s_bounds {j : Int} {A : Prop} (h1 : -(2 ^ 62) ≤ j) (h2 : j < 2 ^ 62) (h : A) : -(2 ^ 62) ≤ j ∧ j < 2 ^ 62 ∧ A := ⟨h1, h2, h⟩
end
noncomputable def tCut (t u : TS) : TS := fun D σ H => ∃ P : St → Hp → Prop, t { D with nx := P } σ H ∧ ∀ σ' H', P σ' H' → u D σ' H'
theorem pss_cut {X : Cx} {st : Stmt} {rest : List Stmt} {t u : TS} (h1 : PS X st t) (h2 : PSs X rest u) : PSs X (st :: rest) (tCut t u) := by
  intro pins s σ H D I ⟨P, a, b⟩
  refine wpAny_execs_cons (thn (h1 pins s σ H { D with nx := P } I a) fun f s1 q => ?_)
  cases f with
  | next => obtain ⟨σ1, H1, I1, q1⟩ := q; exact h2 pins s1 σ1 H1 D I1 (b σ1 H1 q1)
  | brk => exact q
  | cont => exact q
  | ret v => exact q
theorem s_cut {t u : TS} {D : Ends} {σ : St} {H : Hp} (P : St → Hp → Prop) (h : t { D with nx := P } σ H) (k : ∀ σ' H', P σ' H' → u D σ' H') : tCut t u D σ H := ⟨P, h, k⟩
section
variable {K : PySem.W.Frag} {n : Nat} {fx : List Nat} {g : TG} {tc : TT} {te : TE} {σ : St} {H1 : Hp} {D : Addr} {Q : Hp → Prop}
structure Cs (Pv : Nat → List V → Prop) (H1 : Hp) (D : Addr) (i : Nat) (ys : List V) (H : Hp) : Prop where
  pv : Pv i ys
  same : Same H1 H
  at' : H D = some (.lst ys)
  len : ys.length ≤ i
theorem Cs.put {Pv : Nat → List V → Prop} {i : Nat} {ys : List V} {v : V} {H6 : Hp} (f : H1 D = none) (s : Same H1 H6) (e : H6 D = some (.lst ys)) (l : ys.length ≤ i) (hi : i < 16777216) (p : Pv (i + 1) (ys ++ [v])) :
    H6 D = some (.lst ys) ∧ ys.length < sizeLine ∧ Cs Pv H1 D (i + 1) (ys ++ [v]) (upd H6 D (.lst (ys ++ [v]))) :=
  ⟨e, by rw [sizeLine_eq]; omega, p, fun b o h => by rw [upd_ne (ne_of_none h f)]; exact s b o h, upd_same, by rw [List.length_append]; simpa using l⟩
theorem Cs.skip {Pv : Nat → List V → Prop} {i : Nat} {ys : List V} {H6 : Hp} (s : Same H1 H6) (e : H6 D = some (.lst ys)) (l : ys.length ≤ i) (p : Pv (i + 1) ys) : Cs Pv H1 D (i + 1) ys H6 := ⟨p, s, e, by omega⟩
theorem Cs.zero {Pv : Nat → List V → Prop} (f : H1 D = none) (p : Pv 0 []) : Cs Pv H1 D 0 [] (upd H1 D (.lst [])) := ⟨p, same_new f, upd_same, Nat.le_refl _⟩
end
end L2
set_option Elab.async false
set_option linter.all false
set_option maxRecDepth 100000
set_option maxHeartbeats 4000000
namespace L2
open PySem PySem.Spec PyProof.Rows
structure ClsDef (K : PySem.W.Frag) (C : Addr) (m : Str) (f : Addr) : Prop where
  ga : PySem.W.specialIn K (.ref C) "__getattribute__" = some (some (.builtin "type.__getattribute__"))
  rd : PySem.W.readsIn K C (.type "type") = true
  fd : PySem.W.findCls K (.ref C) (.type "type") m = some (.val (.ref f))
  hd : PySem.W.handedIn (.ref f) = true
  kp : PySem.W.keepIn K (.ref f) = true
structure IsiOk (K : PySem.W.Frag) (D : Addr) : Prop where
  cls : Cls K D
  ha : PySem.W.findIn K (.ref D) "__class__" = some (some (.builtin "object.__class__"))
  hn : PySem.W.specialIn K (.builtin "object.__class__") "__get__" = some (some (.builtin "getset_descriptor.__get__"))
  tk : PySem.W.takesIn K (.builtin "object.__class__") = some true
  hm : PySem.W.mroIn K D (.type "object") = some true
section
variable {X : Cx} {K : PySem.W.Frag}
theorem pe_fldK {e : Expr} {ta : TE} {f : Str} {pos : Pos} (h : X.K = K) (he : PE X e ta) (hb : attributeBase e f X.env (eval e X.env) = eval e X.env) : PE X (.Attribute e f pos) (tFld K ta f) := by subst h; exact pe_fld he hb
theorem ps_fldK {o value : Expr} {ta tv : TE} {f : Str} {pos pos' : Pos} (h : X.K = K) (ha : PE X o ta) (hv : PE X value tv) (hs : swapsWith value (some (.Attribute o f pos')) pos.line X.env = pure false) : PS X (.Assign [.Attribute o f pos'] value pos) (sFld K ta tv f) := by subst h; exact ps_fld ha hv hs
end
section
variable {σ : St} {H : Hp} {Q : VK} {D : Ends} {te tv ta : TE} {x y v : V}
noncomputable def FldAt (K : PySem.W.Frag) (f : Str) (Q : VK) (x : V) (H : Hp) : Prop := ∃ a C dx fs v, x = .ref a ∧ H a = some (.ins C dx fs) ∧ Cls K C ∧ NoAttr K C f ∧ fs.lookup f = some v ∧ Q v H
theorem s_fld {K : PySem.W.Frag} {f : Str} (h : te σ H (FldAt K f Q)) : tFld K te f σ H Q := h
theorem s_fldAt {K : PySem.W.Frag} {f : Str} {p C dx : Addr} {fs : List (Str × V)} (e : H p = some (.ins C dx fs)) (c : Cls K C) (n : NoAttr K C f) (l : fs.lookup f = some v) (h : Q v H) : FldAt K f Q (.ref p) H := ⟨p, C, dx, fs, v, rfl, e, c, n, l, h⟩
structure Upd (H H' : Hp) (p : Addr) (o : HO) : Prop where
  at' : H' p = some o
  oth : ∀ b u, b ≠ p → H b = some u → H' b = some u
  non : ∀ b, b ≠ p → H b = none → H' b = none
theorem Upd.of {H : Hp} {p : Addr} {o : HO} : Upd H (upd H p o) p o := ⟨upd_same, fun b u n h => by rw [upd_ne n]; exact h, fun b n h => by rw [upd_ne n]; exact h⟩
noncomputable def SetAt (K : PySem.W.Frag) (f : Str) (y : V) (D : Ends) (σ : St) (x : V) (H : Hp) : Prop := ∃ a C dx fs, x = .ref a ∧ H a = some (.ins C dx fs) ∧ Cls K C ∧ NoAttr K C f ∧ fs.length < 1000 ∧ D.nx σ (upd H a (.ins C dx (putF f y fs)))
theorem s_setfld {K : PySem.W.Frag} {f : Str} (h : tv σ H fun y H1 => te σ H1 (SetAt K f y D σ)) : sFld K te tv f D σ H := h
theorem s_setAt {K : PySem.W.Frag} {f : Str} {p C dx : Addr} {fs fs' : List (Str × V)} (e : H p = some (.ins C dx fs)) (c : Cls K C) (n : NoAttr K C f) (l : fs.length < 1000) (ef : putF f y fs = fs') (h : ∀ H2, Upd H H2 p (.ins C dx fs') → D.nx σ H2) :
    SetAt K f y D σ (.ref p) H := ⟨p, C, dx, fs, rfl, e, c, n, l, by rw [ef]; exact h _ Upd.of⟩
noncomputable def MakeAt (C : Addr) (sp : Sp) (E : XK) (Q : VK) (vs : List V) (H : Hp) : Prop := ∀ x dx, H x = none → H dx = none → dx ≠ x → sp (.ref x :: (vs ++ [])) (upd (upd H dx (.own x)) x (.ins C dx [])) (fun v H2 => v = .non ∧ Q (.ref x) H2) E
theorem s_make {C : Addr} {sp : Sp} {E : XK} {tr : TA} (h : tr σ H (MakeAt C sp E Q)) : tMake C sp [] E tr σ H Q := h
theorem s_makeAt {C : Addr} {sp : Sp} {E : XK} {vs : List V} (h : ∀ x dx H2, H x = none → Same H H2 → H2 x = some (.ins C dx []) → sp (.ref x :: vs) H2 (fun v H2 => v = .non ∧ Q (.ref x) H2) E) : MakeAt C sp E Q vs H := by
  intro x dx f1 f2 n
  rw [List.append_nil]
  exact h x dx _ f1 (fun b o e => by rw [upd_ne (ne_of_none e f1), upd_ne (ne_of_none e f2)]; exact e) upd_same
end
end L2
set_option Elab.async false
set_option linter.all false
set_option maxRecDepth 100000
set_option maxHeartbeats 4000000
namespace L2
open PySem PySem.Spec PyProof.Rows
theorem Inv.laidCh {X : Cx} {pins : List (Addr × Obj)} {σ : St} {H : Hp} {s : Shared} {h' : Heap} {a : Addr} {o : HO} {t' : Nat} {ch : List Addr} (I : Inv X pins σ H s) (k : ∀ b u, b ∉ ch → s.heap.get? b = some u → h'.get? b = some u) (hp : s.heap.objs.size ≤ a)
    (new : ObjOk X.prog X.w (upd H a o) h' a o) (fp : ∀ b ∈ ch, FpOk X pins H b) : Inv X pins σ (upd H a o) { s with heap := h', toks := t' } := by
  have fr : H a = none := I.hok.fresh hp
  have nit : ∀ b u, H b = some u → b ∉ ch := fun b u e z => by rw [(fp b z).1] at e; cases e
  refine I.step (g' := s.gens) (d' := s.drawn) (ch := ch) (fun b hb => ?_) (fun b ob _ _ hc e _ => k b ob hc e) (fun b ob _ _ hc e _ => ⟨ob.slots, k b ob hc e⟩) (fun b ob _ e n => ?_) (fun b ob hc e => ⟨ob, k b ob hc e⟩)
    (fun b xs e => by rw [upd_ne (ne_of_none e fr)]; exact e) (fun b ob u e => by rw [upd_ne (ne_of_none e fr)]; exact e) (fun b ps e => ⟨#[], by rw [upd_ne (ne_of_none e fr), e]; simp⟩) (fun m hm => ?_) (fun b u e => ?_) I.bare
  · obtain ⟨f0, f1, f2, f3, f4, f5⟩ := fp b hb
    exact ⟨f3, f1, f4, f5⟩
  · rw [upd_ne (Nat.ne_of_lt (Nat.lt_of_lt_of_le (Heap.lt_size e) hp))]; exact n
  · obtain ⟨ob, es, ep, ho, r⟩ := hm
    exact ⟨ob, es, ep, k _ ob (fun z => (fp _ z).2.1 rfl) ho, r⟩
  · by_cases hb : b = a
    · subst hb; rw [upd_same] at e; cases e; exact new
    · rw [upd_ne hb] at e
      refine (I.hok b u e).stay (fun c v hc q => k c v ?_ q) (fun c q => by rw [upd_ne (ne_of_none q fr)]; exact q) fun c xs q => by rw [upd_ne (ne_of_none q fr)]; exact q
      rcases hc with z | z
      · rw [z]; exact nit b u e
      · exact nit c _ z
theorem Inv.turnedCh {X : Cx} {pins : List (Addr × Obj)} {σ : St} {H : Hp} {s : Shared} {h' : Heap} {t' : Nat} {ch : List Addr} (I : Inv X pins σ H s) (k : ∀ b u, b ∉ ch → s.heap.get? b = some u → h'.get? b = some u)
    (fp : ∀ b ∈ ch, FpOk X pins H b) : Inv X pins σ H { s with heap := h', toks := t' } := by
  have nit : ∀ b u, H b = some u → b ∉ ch := fun b u e z => by rw [(fp b z).1] at e; cases e
  refine I.step (g' := s.gens) (d' := s.drawn) (ch := ch) (fun b hb => ?_) (fun b ob _ _ hc e _ => k b ob hc e) (fun b ob _ _ hc e _ => ⟨ob.slots, k b ob hc e⟩) (fun b ob _ e n => n) (fun b ob hc e => ⟨ob, k b ob hc e⟩)
    (fun b xs e => e) (fun b ob u e => e) (fun b ps e => ⟨#[], by rw [e]; simp⟩) (fun m hm => ?_) (fun b u e => ?_) I.bare
  · obtain ⟨f0, f1, f2, f3, f4, f5⟩ := fp b hb
    exact ⟨f3, f1, f4, f5⟩
  · obtain ⟨ob, es, ep, ho, r⟩ := hm
    exact ⟨ob, es, ep, k _ ob (fun z => (fp _ z).2.1 rfl) ho, r⟩
  · refine (I.hok b u e).stay (fun c v hc q => k c v ?_ q) (fun c q => q) fun c xs q => q
    rcases hc with z | z
    · rw [z]; exact nit b u e
    · exact nit c _ z
noncomputable def Ite (K : PySem.W.Frag) (a : Addr) : It :=
  ⟨fun i H => ∃ xs x, SqL K H a xs ∧ xs[i]? = some x, fun i H x H' => ∃ p v, H p = none ∧ x = .ref p ∧ H' = upd H p (.tup [.int i, v]) ∧ ∀ xs, SqL K H a xs → xs[i]? = some v, fun i H => ∃ xs, SqL K H a xs ∧ xs.length = i⟩
noncomputable def Itz (x : Str) : It := ⟨fun i _ => i < x.cps.size, fun i H v H' => ∃ p c, H p = none ∧ v = .ref p ∧ H' = upd H p (.tup [.int i, .str ⟨#[c]⟩]) ∧ x.cps[i]? = some c, fun i _ => i = x.cps.size⟩
theorem two_le : (2 : Nat) ≤ sizeLine := by rw [sizeLine_eq]; decide
theorem turn_enumL {P : Program} {w : World} {K : PySem.W.Frag} {elts : List Expr} {k : Nat} {pos : Pos} (a e it : Addr) (hei : e ≠ it) :
    Turn P w K (.Tuple elts k pos) (Ite K a) [e, it] e (fun i h => (∃ old, IsEnum h e it i old) ∧ h.IsListIter it a i) where
  mem := by simp
  obj := fun i h st b hb => by
    obtain ⟨⟨old, he⟩, ⟨o, ho, hc, hd⟩⟩ := st
    rcases List.mem_cons.mp hb with z | z
    · subst z; exact ⟨_, he, fun v z => by cases z⟩
    · rw [List.mem_singleton.mp z]; exact ⟨o, ho, fun v z => by rw [hd] at z; cases z⟩
  keep := fun i h h' st k => ⟨let ⟨old, he⟩ := st.1; ⟨old, k e (by simp) _ he⟩, st.2.at fun o z => k it (by simp) o z⟩
  item := by
    intro X hP hw hK hc i pins s σ H E I hf st hg
    subst hP hw hK
    obtain ⟨xs, x, hq, hx⟩ := hg
    obtain ⟨its, rv, p, hz⟩ := I.list hq
    obtain ⟨⟨old, he⟩, hl⟩ := st
    have hai : a ≠ it := fun z => by
      obtain ⟨o, ho, hcl, _⟩ := hl
      obtain ⟨o', n, ho', hcl', _⟩ := p
      rw [z, ho] at ho'; cases ho'; rw [hcl] at hcl'; exact absurd hcl' (by decide)
    have hae : a ≠ e := fun z => by
      obtain ⟨o', n, ho', hcl', _⟩ := p
      rw [z, he] at ho'; cases ho'; exact absurd (show Value.type "enumerate" = .type "list" from hcl') (by decide)
    have W := WalksT.enumerateD (prog := X.prog) (w := X.w) (A := X.A) (Draws.list (A := X.A.in1) (I.ok.hd hc) it a hai its.toArray) e hei (by simp [hei, Ne.symm hae]) (by simp)
    have hi : i < its.toArray.size := by have := rv.length; have := (List.getElem?_eq_some_iff.mp hx).1; simp; omega
    refine W.item i s _ _ hi ⟨⟨old, he⟩, hl, p.isList⟩ fun T vals h' tk hPt hT htup hmid hk => ⟨_, rfl, W.go elts k pos i T _ _ _ hmid fun h'' hst hk2 => ?_⟩
    obtain ⟨t, x', hx', rfl⟩ := hPt
    have hap := W.apart i T h' hmid
    have ru : RelV x x' := by
      obtain ⟨u, hu, r⟩ := rv.get hx
      have hx'' : its[i]? = some x' := by simpa using hx'
      rw [hu] at hx''; cases hx''; exact r
    have kk : ∀ b u, b ∉ [e, it] → s.heap.get? b = some u → h''.get? b = some u := fun b u hb q => hk2 b u hb (hk b u hb q)
    have fr : H T = none := I.hok.fresh hT
    refine ⟨.ref T, upd H T (.tup [.int i, x]), I.laidCh (t' := tk) kk hT ⟨two_le, [.int i t, x'], .cons ⟨t, rfl⟩ (.cons ru .nil), ?_⟩ hf, rfl, ⟨T, x, fr, rfl, rfl, fun ys hy => by rw [I.list_inj hy hq]; exact hx⟩, ⟨hst.1, hst.2.1⟩, fun b hb => ?_⟩
    · obtain ⟨o, ho, r⟩ := htup
      exact ⟨o, hk2 T o hap ho, r⟩
    · have fb := (hf b hb)
      rw [upd_ne (fun z => ?_)]
      · exact fb.1
      · have lt : b < s.heap.objs.size := by
          rcases List.mem_cons.mp hb with z | z
          · subst z; exact Heap.lt_size he
          · rw [List.mem_singleton.mp z]; obtain ⟨o, ho, _⟩ := hl; exact Heap.lt_size ho
        rw [z] at lt
        exact absurd (Nat.lt_of_lt_of_le lt hT) (Nat.lt_irrefl _)
  done := by
    intro X hP hw hK hc i pins s σ H E I hf st hg
    subst hP hw hK
    obtain ⟨xs, hq, hx⟩ := hg
    obtain ⟨its, rv, p, hz⟩ := I.list hq
    obtain ⟨⟨old, he⟩, hl⟩ := st
    have hai : a ≠ it := fun z => by
      obtain ⟨o, ho, hcl, _⟩ := hl
      obtain ⟨o', n, ho', hcl', _⟩ := p
      rw [z, ho] at ho'; cases ho'; rw [hcl] at hcl'; exact absurd hcl' (by decide)
    have hae : a ≠ e := fun z => by
      obtain ⟨o', n, ho', hcl', _⟩ := p
      rw [z, he] at ho'; cases ho'; exact absurd (show Value.type "enumerate" = .type "list" from hcl') (by decide)
    have W := WalksT.enumerateD (prog := X.prog) (w := X.w) (A := X.A) (Draws.list (A := X.A.in1) (I.ok.hd hc) it a hai its.toArray) e hei (by simp [hei, Ne.symm hae]) (by simp)
    have hn : its.toArray.size = i := by have := rv.length; simp; omega
    subst hn
    exact W.done s _ _ ⟨⟨old, he⟩, hl, p.isList⟩ fun h' tk hk => ⟨rfl, I.turnedCh hk hf⟩
  self := fun _ _ _ _ _ st h => let ⟨_, he⟩ := st.1; wpAny_pyIter_enum he h
theorem turn_enumS {P : Program} {w : World} {K : PySem.W.Frag} {elts : List Expr} {k : Nat} {pos : Pos} {x : Str} {t : Tok} {n : String} (e it : Addr) (hei : e ≠ it)
    (D : ∀ A : Around, A.handled = none → Draws P w A it [it] x.cps.size (fun i v => ∃ c u, x.cps[i]? = some c ∧ v = .str ⟨#[c]⟩ u) (fun i h => h.IsStrIter it n x t i)) :
    Turn P w K (.Tuple elts k pos) (Itz x) [e, it] e (fun i h => (∃ old, IsEnum h e it i old) ∧ h.IsStrIter it n x t i) where
  mem := by simp
  obj := fun i h st b hb => by
    obtain ⟨⟨old, he⟩, ⟨o, ho, hc, hd⟩⟩ := st
    rcases List.mem_cons.mp hb with z | z
    · subst z; exact ⟨_, he, fun v z => by cases z⟩
    · rw [List.mem_singleton.mp z]; exact ⟨o, ho, fun v z => by rw [hd] at z; cases z⟩
  keep := fun i h h' st k => ⟨let ⟨old, he⟩ := st.1; ⟨old, k e (by simp) _ he⟩, let ⟨o, ho, r⟩ := st.2; ⟨o, k it (by simp) o ho, r⟩⟩
  item := by
    intro X hP hw hK hc i pins s σ H E I hf st hg
    subst hP hw hK
    obtain ⟨⟨old, he⟩, hl⟩ := st
    have W := WalksT.enumerateD (prog := X.prog) (w := X.w) (A := X.A) (D X.A.in1 (I.ok.hd hc)) e hei (by simp [hei]) (by simp)
    refine W.item i s _ _ hg ⟨⟨old, he⟩, hl⟩ fun T vals h' tk hPt hT htup hmid hk => ⟨_, rfl, W.go elts k pos i T _ _ _ hmid fun h'' hst hk2 => ?_⟩
    obtain ⟨t1, x', ⟨c, u, hx', rfl⟩, rfl⟩ := hPt
    have hap := W.apart i T h' hmid
    have kk : ∀ b u, b ∉ [e, it] → s.heap.get? b = some u → h''.get? b = some u := fun b u hb q => hk2 b u hb (hk b u hb q)
    have fr : H T = none := I.hok.fresh hT
    refine ⟨.ref T, upd H T (.tup [.int i, .str ⟨#[c]⟩]), I.laidCh (t' := tk) kk hT ⟨two_le, [.int i t1, .str ⟨#[c]⟩ u], .cons ⟨t1, rfl⟩ (.cons ⟨u, rfl⟩ .nil), ?_⟩ hf, rfl, ⟨T, c, fr, rfl, rfl, hx'⟩, ⟨hst.1, hst.2⟩, fun b hb => ?_⟩
    · obtain ⟨o, ho, r⟩ := htup
      exact ⟨o, hk2 T o hap ho, r⟩
    · have fb := (hf b hb)
      rw [upd_ne (fun z => ?_)]
      · exact fb.1
      · have lt : b < s.heap.objs.size := by
          rcases List.mem_cons.mp hb with z | z
          · subst z; exact Heap.lt_size he
          · rw [List.mem_singleton.mp z]; obtain ⟨o, ho, _⟩ := hl; exact Heap.lt_size ho
        rw [z] at lt
        exact absurd (Nat.lt_of_lt_of_le lt hT) (Nat.lt_irrefl _)
  done := by
    intro X hP hw hK hc i pins s σ H E I hf st hg
    subst hP hw hK
    obtain ⟨⟨old, he⟩, hl⟩ := st
    have W := WalksT.enumerateD (prog := X.prog) (w := X.w) (A := X.A) (D X.A.in1 (I.ok.hd hc)) e hei (by simp [hei]) (by simp)
    have hg : i = x.cps.size := hg
    subst hg
    exact W.done s _ _ ⟨⟨old, he⟩, hl⟩ fun h' tk hk => ⟨rfl, I.turnedCh hk hf⟩
  self := fun _ _ _ _ _ st h => let ⟨_, he⟩ := st.1; wpAny_pyIter_enum he h
noncomputable def iEnum (K : PySem.W.Frag) (tl : TE) : TI := fun σ H R => tl σ H fun x H1 => (∃ a, x = .ref a ∧ (∃ xs, SqL K H1 a xs) ∧ R (Ite K a) H1) ∨ ∃ z, x = .str z ∧ R (Itz z) H1
section
variable {X : Cx} {K : PySem.W.Frag}
theorem pi_enum {l : Expr} {tl : TE} {elts : List Expr} {k : Nat} {tpos p pos : Pos} (h : X.K = K) (hg : Gl X "enumerate") (hm : X.mg "enumerate" = none) (hl : PE X l tl) (hs : starEach [l] X.env = [(false, eval l X.env)] := by rfl) :
    PI X (.Tuple elts k tpos) (.Call (.Name "enumerate" p) [l] [] pos) (iEnum K tl) := by
  subst h
  intro pins s σ H R I h
  refine Call_ (ld_blt I hg hm boot_enumerate (PyProof.Rows.callWith_type1 (thn (pa_cons hl pa_nil hs pos pins s σ H (fun vs H1 => match vs with | [x] => (∃ a, x = .ref a ∧ (∃ xs, SqL X.K H1 a xs) ∧ R (Ite X.K a) H1) ∨ ∃ z, x = .str z ∧ R (Itz z) H1 | _ => False) I h) fun us s1 ⟨vs, H1, I1, r1, q1⟩ => ?_) hs rfl))
  match vs, r1, q1 with
  | [x], r1, q1 =>
  obtain ⟨u, rfl, ru⟩ := r1.one
  rcases q1 with ⟨a, rfl, ⟨xs, hq⟩, q⟩ | ⟨z, rfl, q⟩
  · cases ru
    obtain ⟨its, rv, pl, hz⟩ := I1.list hq
    refine call_enumerate_list pl.isList fun h' he hit hsz hk => wpAny_pyIter_enum he ?_
    refine ⟨s1.heap.objs.size + 1, [s1.heap.objs.size + 1, s1.heap.objs.size], _, _, H1, rfl, I1.kept (t' := s1.toks) hk, turn_enumL a _ _ (Nat.ne_of_gt (Nat.lt_succ_self _)), ⟨⟨_, he⟩, hit⟩, fun b hb => ?_, q⟩
    have hb' : s1.heap.objs.size ≤ b := (List.mem_cons.mp hb).elim (fun z => by rw [z]; exact Nat.le_succ _) (fun z => by rw [List.mem_singleton.mp z]; exact Nat.le_refl _)
    exact I1.fpOk hb' (I1.hok.fresh hb')
  · obtain ⟨t, rfl⟩ := ru
    refine call_enumerate_str fun h' he hit hsz hk => wpAny_pyIter_enum he ?_
    have fin : ∀ n, (h'.IsStrIter s1.heap.objs.size n z t 0) → (∀ A : Around, A.handled = none → Draws X.prog X.w A s1.heap.objs.size [s1.heap.objs.size] z.cps.size (fun i v => ∃ c u, z.cps[i]? = some c ∧ v = .str ⟨#[c]⟩ u) (fun i h => h.IsStrIter s1.heap.objs.size n z t i)) →
        PIE X pins σ (.Tuple elts k tpos) R (.ref (s1.heap.objs.size + 1)) { s1 with heap := h' } := fun n hn D => by
      refine ⟨s1.heap.objs.size + 1, [s1.heap.objs.size + 1, s1.heap.objs.size], _, _, H1, rfl, I1.kept (t' := s1.toks) hk, turn_enumS _ _ (Nat.ne_of_gt (Nat.lt_succ_self _)) D, ⟨⟨_, he⟩, hn⟩, fun b hb => ?_, q⟩
      have hb' : s1.heap.objs.size ≤ b := (List.mem_cons.mp hb).elim (fun z => by rw [z]; exact Nat.le_succ _) (fun z => by rw [List.mem_singleton.mp z]; exact Nat.le_refl _)
      exact I1.fpOk hb' (I1.hok.fresh hb')
    unfold strIterType at hit
    split at hit
    · exact fin _ hit fun A hA => Draws.strAscii hA _ z t
    · exact fin _ hit fun A hA => Draws.strWide hA _ z t
end
theorem for_enum {K : PySem.W.Frag} {a : Addr} {xs : List V} {g : TG} {tb : TS} {D : Ends} {σ : St} {H : Hp} (Pv : Nat → St → Hp → Prop) (h0 : Pv 0 σ H) (hl : ∀ i σ H, i ≤ xs.length → Pv i σ H → SqL K H a xs)
    (hs : ∀ i x σ H p H', xs[i]? = some x → Pv i σ H → H p = none → Same H H' → H' p = some (.tup [.int i, x]) → g (.ref p) σ H' fun σ2 H2 => tb { D with nx := Pv (i + 1), ct := Pv (i + 1), bk := D.nx } σ2 H2) (hd : ∀ σ H, Pv xs.length σ H → D.nx σ H) :
    ∃ W : Nat → Nat → St → Hp → Prop, (∃ m, W 0 m σ H) ∧ ∀ i m σ H, W i m σ H →
      ((Ite K a).stop i H ∧ D.nx σ H) ∨ ((Ite K a).go i H ∧ ∃ N : St → Hp → Prop, (∀ σ' H', N σ' H' → ∃ m', m' < m ∧ W (i + 1) m' σ' H') ∧ ∀ x H', (Ite K a).yld i H x H' → g x σ H' fun σ2 H2 => tb { D with nx := N, ct := N, bk := D.nx } σ2 H2) := by
  refine ⟨fun i m σ H => m = xs.length - i ∧ i ≤ xs.length ∧ Pv i σ H, ⟨xs.length, by simp, Nat.zero_le _, h0⟩, ?_⟩
  rintro i m σ H ⟨rfl, hi, p⟩
  have q := hl i σ H hi p
  by_cases hlt : i < xs.length
  · refine .inr ⟨⟨xs, xs[i], q, by simp [hlt]⟩, Pv (i + 1), fun σ' H' p' => ⟨xs.length - (i + 1), by omega, rfl, hlt, p'⟩, fun x H' y => ?_⟩
    obtain ⟨r, v, f, e1, e2, y⟩ := y
    subst e1 e2
    exact hs i v σ H r _ (y xs q) p f (same_new f) upd_same
  · have e : i = xs.length := by omega
    subst e
    exact .inl ⟨⟨xs, q, rfl⟩, hd σ H p⟩
section
variable {σ : St} {H : Hp} {te : TE} {R : It → Hp → Prop}
theorem s_iEnum {K : PySem.W.Frag} (h : te σ H fun x H1 => (∃ a, x = .ref a ∧ (∃ xs, SqL K H1 a xs) ∧ R (Ite K a) H1) ∨ ∃ z, x = .str z ∧ R (Itz z) H1) : iEnum K te σ H R := h
end
end L2
set_option Elab.async false
set_option linter.all false
set_option maxRecDepth 100000
set_option maxHeartbeats 4000000
namespace L2
open PySem PySem.Spec PyProof.Rows
section
variable {σ : St} {H : Hp} {Q : VK} {D : Ends} {te ty tv td : TE} {x y v : V}
theorem s_append {l : Addr} {xs : List V} (e : H l = some (.lst xs)) (hz : xs.length < sizeLine) (h : ∀ H2, Upd H H2 l (.lst (xs ++ [y])) → Q .non H2) : rAppend (.ref l) [y] H Q := ⟨l, xs, y, rfl, rfl, e, hz, h _ Upd.of⟩
noncomputable def DPutAt (v : V) (x : V) (D : Ends) (σ : St) (y : V) (H : Hp) : Prop := ∃ a H4, x = .ref a ∧ DPut H a y v H4 ∧ D.nx σ H4
theorem s_dput (h : tv σ H fun v H1 => td σ H1 fun x H2 => ty σ H2 (DPutAt v x D σ)) : sDPut td ty tv D σ H := h
theorem s_dputI {p : Addr} {kvs : List (Key × V)} {z : Int} (e : H p = some (.dK kvs)) (hl : kvs.length < sizeLine) (h : ∀ H2, Upd H H2 p (.dK (putK kvs (Sum.inl z) v)) → D.nx σ H2) : DPutAt v (.ref p) D σ (.int z) H := ⟨p, _, rfl, DPut.k (k := Sum.inl z) e hl, h _ Upd.of⟩
noncomputable def DGetAt (x : V) (Q : VK) (y : V) (H : Hp) : Prop := ∃ a v, x = .ref a ∧ DGet H a y (some v) ∧ Q v H
theorem s_dget (h : td σ H fun x H1 => ty σ H1 (DGetAt x Q)) : tDGet td ty σ H Q := h
theorem s_dgetI {p : Addr} {kvs : List (Key × V)} {z : Int} (e : H p = some (.dK kvs)) (l : valV kvs (Sum.inl z) = some v) (h : Q v H) : DGetAt (.ref p) Q (.int z) H := ⟨p, v, rfl, by rw [← l]; exact DGet.k (k := Sum.inl z) e, h⟩
noncomputable def MethAt (C : Addr) (m : Str) (sp : Sp) (E : XK) (tr : TA) (σ : St) (Q : VK) (x : V) (H : Hp) : Prop := ∃ a dx fs, x = .ref a ∧ H a = some (.ins C dx fs) ∧ fs.lookup m = none ∧ tr σ H fun vs H2 => sp (x :: (vs ++ [])) H2 Q E
theorem s_meth {C : Addr} {m : Str} {sp : Sp} {E : XK} {tr : TA} (h : te σ H (MethAt C m sp E tr σ Q)) : tMeth C m sp [] E te tr σ H Q := h
theorem s_methAt {C dx p : Addr} {m : Str} {fs : List (Str × V)} {sp : Sp} {E : XK} {tr : TA} (e : H p = some (.ins C dx fs)) (l : fs.lookup m = none) (h : tr σ H fun vs H2 => sp (.ref p :: vs) H2 Q E) : MethAt C m sp E tr σ Q (.ref p) H := ⟨p, dx, fs, rfl, e, l, by simp only [List.append_nil]; exact h⟩
theorem s_tupL {K : PySem.W.Frag} {p : Addr} {xs : List V} (e : SqL K H p xs) (h : ∀ q H2, H q = none → Same H H2 → H2 q = some (.tup xs) → Q (.ref q) H2) : rTupOf K [.ref p] H Q := ⟨p, xs, rfl, .inl ⟨e, s_alloc h⟩⟩
end
end L2
set_option Elab.async false
set_option linter.all false
set_option maxRecDepth 100000
set_option maxHeartbeats 4000000
namespace L2
open PySem PySem.Spec PyProof.Rows
noncomputable def Mv (ch fr : List Addr) (h h' : Heap) : Prop := (∀ b o, b ∉ ch → b ∉ fr → h.get? b = some o → h'.get? b = some o) ∧ ∀ b o, b ∉ ch → b ∈ fr → h.get? b = some o → ∃ sl, h'.get? b = some { o with slots := sl }
noncomputable def ExcAt (h : Heap) (e : Addr) (C : Value) (dx : Option Addr) (T : Option (Addr × Value)) : Prop :=
  ∃ oe vs, h.get? e = some oe ∧ oe.cls = C ∧ oe.dict = dx ∧ oe.data = .fields vs ∧ 1 < vs.size ∧
    match T with
    | none => vs[1]? = some .none
    | some (t, fl) => vs[1]? = some (.ref t) ∧ t ≠ e ∧ ∃ oT ts, h.get? t = some oT ∧ oT.data = .fields ts ∧ ts[3]? = some fl
section
variable {M : Model} {A : Around} {E : Value → Shared → Prop} {s : Shared}
theorem field_upd {h : Heap} {a : Addr} {o : Obj} {vs : Array Value} {i : Nat} {v : Value} (ho : h.get? a = some o) (hd : o.data = .fields vs) :
    ∃ o', (h.update a (Obj.mapFields (·.setIfInBounds i v))).get? a = some o' ∧ o'.cls = o.cls ∧ o'.dict = o.dict ∧ o'.data = .fields (vs.setIfInBounds i v) := by
  have hd' := Obj.data_mapFields hd (·.setIfInBounds i v)
  refine ⟨_, Heap.get?_update_self (Obj.mapFields (·.setIfInBounds i v)) ho (Obj.isFreed_of_fields hd'), Obj.cls_mapFields _ _, ?_, hd'⟩
  obtain ⟨c, d, dt, sl⟩ := o
  have hd : dt = .fields vs := hd
  subst hd
  rfl
theorem entry_ok {base : Heap} {env : Env} {outer : List Env} {L e : Addr} {oe : Obj} {vs : Array Value} {head : Value} {b : Bool} {Q : Unit → Shared → Prop}
    (hfr : A.frames = some (env :: outer)) (hl : s.heap.FunFrames base (env :: outer)) (hf : env.frame = some L) (he : s.heap.get? e = some oe) (hd : oe.data = .fields vs) (hsz : 1 < vs.size)
    (h : ∀ h', Mv [e] (frs (env :: outer)) s.heap h' → ExcAt h' e oe.cls oe.dict (some (s.heap.objs.size, rawInt L)) → Q () { s with heap := h' }) :
    wpAny M A (do let a ← frameOf env; let pl ← entryPlaceOf L b; let t ← EntryCells.newEntry head a .none (rawInt L) .none pl; setField (.ref e) 1 t) Q E s := by
  have ne : e ∉ frs (env :: outer) := fun hm => by
    obtain ⟨_, o, ho, hnf⟩ := hl.mem hm
    rw [he] at ho; cases ho; exact hnf vs hd
  refine wpAny_bind (wpAny_frameOf_fun hfr hl hf fun g1 z1 => ?_)
  refine wpAny_bind (wpAny_entryPlaceOf fun pl isp => ?_)
  unfold EntryCells.newEntry newFields
  refine wpAny_bind (wpAny_newObj_type ?_ (isp.sizeOk5 _ _ _ _ _))
  have e1 : g1.get? e = some oe := (z1.2.1 e ne).trans he
  have sz : g1.objs.size = s.heap.objs.size := z1.1
  generalize hob : ({ cls := .type "traceback", dict := none, data := .fields ([head, .ref L, .none, rawInt L, .none] ++ (if pl.isEmpty then List.replicate 6 Value.none else pl)).toArray } : Obj) = ob
  have e2 : (g1.push ob).get? e = some oe := Heap.get?_push_of_some ob e1
  refine wpAny_setField e2 hd hsz ?_
  have lt : e < g1.objs.size := Heap.lt_size e1
  obtain ⟨o', q1, q2, q3, q4⟩ := field_upd (i := 1) (v := .ref g1.objs.size) e2 hd
  have oth : ∀ c, c ≠ e → ((g1.push ob).update e (Obj.mapFields (·.setIfInBounds 1 (Value.ref g1.objs.size)))).get? c = (g1.push ob).get? c := fun c hc => Heap.get?_update_other _ _ (Ne.symm hc)
  have old : ∀ c o, c ≠ e → g1.get? c = some o → ((g1.push ob).update e (Obj.mapFields (·.setIfInBounds 1 (Value.ref g1.objs.size)))).get? c = some o := fun c o hc q => (oth c hc).trans (Heap.get?_push_of_some ob q)
  refine h _ ⟨fun c o n m q => old c o (fun z => n (by rw [z]; exact List.mem_singleton.mpr rfl)) ((z1.2.1 c m).trans q), fun c o n m q => ?_⟩ ⟨o', _, q1, q2, q3, q4, by simpa using hsz, ?_⟩
  · obtain ⟨sl, q'⟩ := z1.2.2 c o q
    exact ⟨sl, old c _ (fun z => n (by rw [z]; exact List.mem_singleton.mpr rfl)) q'⟩
  · have nt : g1.objs.size ≠ e := Nat.ne_of_gt lt
    refine ⟨by rw [← sz]; simp [hsz], by rw [← sz]; exact nt, ob, _, ?_, by rw [← hob], ?_⟩
    · rw [← sz, oth _ nt]
      exact Heap.get?_push_size g1 (by rw [← hob]; rfl)
    · first | (simp; done) | (rcases isp with rfl | ⟨_, _, _, _, _, _, _, rfl⟩ <;> simp)
theorem flight_ok {e t : Addr} {C : Value} {dx : Option Addr} {fl : Value} {fr : Option Addr} {Q : Unit → Shared → Prop} (x : ExcAt s.heap e C dx (some (t, fl)))
    (h : ∀ h', (∀ b o, b ≠ t → s.heap.get? b = some o → h'.get? b = some o) → ExcAt h' e C dx (some (t, fr.elim .none fun f => rawInt f)) → Q () { s with heap := h' }) : wpAny M A (setFlight (.ref e) fr) Q E s := by
  obtain ⟨oe, vs, he, hc, hdx, hd, hsz, h1, hte, oT, ts, hT, hdT, h3⟩ := x
  unfold setFlight
  refine wpAny_bind (wpAny_field he hd h1 ?_)
  rw [if_pos (show (Value.ref t != Value.none) = true from by simp)]
  refine wpAny_setField hT hdT (Array.getElem?_eq_some_iff.mp h3).1 ?_
  obtain ⟨o', q1, q2, q3, q4⟩ := field_upd (i := 3) (v := fr.elim .none fun f => rawInt f) hT hdT
  have oth : ∀ c, c ≠ t → (s.heap.update t (Obj.mapFields (·.setIfInBounds 3 (fr.elim Value.none fun f => rawInt f)))).get? c = s.heap.get? c := fun c hc => Heap.get?_update_other _ _ (Ne.symm hc)
  refine h _ (fun b o hb q => (oth b hb).trans q) ⟨oe, vs, (oth e (Ne.symm hte)).trans he, hc, hdx, hd, hsz, h1, hte, o', _, q1, q4, ?_⟩
  have := (Array.getElem?_eq_some_iff.mp h3).1
  simp [this]
end
section
variable {X : Cx} {pins : List (Addr × Obj)} {σ : St} {H : Hp} {s : Shared}
theorem Inv.mv {h' : Heap} {ch : List Addr} (I : Inv X pins σ H s) (m : Mv ch (frs X.stack) s.heap h') (fp : ∀ b ∈ ch, FpOk X pins H b) : Inv X pins σ H { s with heap := h' } := by
  have nit : ∀ b u, H b = some u → b ∉ ch := fun b u e z => by rw [(fp b z).1] at e; cases e
  have nfr : ∀ b u, H b = some u → b ∉ frs X.stack := fun b u e z => by rw [I.stkFree b z] at e; cases e
  have any : ∀ b o, b ∉ ch → s.heap.get? b = some o → ∃ sl, h'.get? b = some { o with slots := sl } := fun b o n e => by
    by_cases z : b ∈ frs X.stack
    · exact m.2 b o n z e
    · exact ⟨o.slots, m.1 b o n z e⟩
  refine I.step (g' := s.gens) (d' := s.drawn) (t' := s.toks) (ch := ch) (fun b hb => ?_) (fun b ob hL hb hc e _ => m.1 b ob hc (fun z => (List.mem_cons.mp (I.stkSub b z)).elim hL hb) e) (fun b ob _ _ hc e _ => any b ob hc e) (fun b ob _ e n => n) (fun b ob hc e => let ⟨sl, q⟩ := any b ob hc e; ⟨_, q⟩)
    (fun b xs e => e) (fun b ob u e => e) (fun b ps e => ⟨#[], by rw [e]; simp⟩) (fun m' hm => ?_) (fun b u e => ?_) I.bare
  · obtain ⟨f0, f1, f2, f3, f4, f5⟩ := fp b hb
    exact ⟨f3, f1, f4, f5⟩
  · obtain ⟨ob, es, ep, ho, r⟩ := hm
    obtain ⟨sl, q⟩ := any _ ob (fun z => (fp _ z).2.1 rfl) ho
    exact ⟨_, es, ep, q, r⟩
  · refine (I.hok b u e).stay (fun c v hc q => m.1 c v ?_ ?_ q) (fun c q => q) fun c xs q => q
    · rcases hc with z | z
      · rw [z]; exact nit b u e
      · exact nit c _ z
    · rcases hc with z | z
      · rw [z]; exact nfr b u e
      · exact nfr c _ z
theorem ObjOk.there {P : Program} {w : World} {h : Heap} {a : Addr} {o : HO} (x : ObjOk P w H h a o) : ∃ o', h.get? a = some o' := by
  cases o with
  | lst xs => obtain ⟨_, _, _, _, e⟩ := x; exact ⟨_, e⟩
  | tup xs => obtain ⟨_, _, _, _, e, _⟩ := x; exact ⟨_, e⟩
  | dK kvs => obtain ⟨_, _, _, _, o, _, _, e, _⟩ := x; exact ⟨_, e⟩
  | dT kvs => obtain ⟨_, _, _, _, o, _, _, e, _⟩ := x; exact ⟨_, e⟩
  | set S n => obtain ⟨o, _, _, _, e, _⟩ := x; exact ⟨_, e⟩
  | ins C dx fs => obtain ⟨_, _, _, e, _⟩ := x; exact ⟨_, e⟩
  | own y => obtain ⟨_, e⟩ := x; exact ⟨_, e⟩
  | xd fs => obtain ⟨_, ⟨_, _, _, e, _⟩, _⟩ := x; exact ⟨_, e⟩
  | rng lo hi => obtain ⟨_, _, _, e⟩ := x; exact ⟨_, e⟩
  | frz ob u => obtain ⟨e, _⟩ := x; exact ⟨_, e⟩
  | tbl ps => exact ⟨_, (show h.get? a = some _ from x)⟩
  | met f y => exact ⟨_, (show h.get? a = some _ from x)⟩
  | ext φ => obtain ⟨_, ⟨_, e⟩, _⟩ := x; exact ⟨_, e⟩
theorem HOk.none_ {P : Program} {w : World} {h : Heap} {a : Addr} (x : HOk P w H h) (e : h.get? a = none) : H a = none := by
  cases q : H a with
  | none => rfl
  | some u => obtain ⟨o, z⟩ := (x a u q).there; rw [e] at z; cases z
noncomputable def FpN (X : Cx) (pins : List (Addr × Obj)) (H : Hp) (b : Addr) : Prop :=
  H b = none ∧ b ≠ X.env.locals ∧ b ∉ X.fs ∧ (b ∈ X.ex ∨ X.s₀.heap.get? b = none) ∧ (∀ x c, X.env.cells.lookup x = some c → c ≠ b) ∧ ∀ p ∈ X.pn ++ pins, p.1 ≠ b
theorem FpOk.n {b : Addr} (f : FpOk X pins H b) : FpN X pins H b := ⟨f.1, f.2.1, f.2.2.1, f.2.2.2.1.imp id Heap.get?_none_of_le, f.2.2.2.2⟩
theorem Inv.fpN {H' : Hp} {b : Addr} (I : Inv X pins σ H s) (hb : s.heap.get? b = none) (hn : H' b = none) : FpN X pins H' b := by
  refine ⟨hn, fun z => ?_, fun z => ?_, ?_, fun x c e z => ?_, fun p hp z => ?_⟩
  · obtain ⟨m, ⟨o, es, ep, ho, r⟩, _⟩ := I.loc
    rw [← z, hb] at ho; cases ho
  · obtain ⟨_, o, ho, _⟩ := I.ok.funs.mem z
    obtain ⟨o', e'⟩ := I.base.there b o ho fun y => I.ok.exfs b y z
    rw [hb] at e'; cases e'
  · by_cases z : b ∈ X.ex
    · exact .inl z
    · cases q : X.s₀.heap.get? b with
      | none => exact .inr rfl
      | some o => obtain ⟨o', e'⟩ := I.base.there b o q z; rw [hb] at e'; cases e'
  · obtain ⟨v, o, q, _⟩ := I.cell x c e
    rw [z, hb] at q; cases q
  · have := (I.pin p hp).1
    rw [z, hb] at this; cases this
theorem Inv.mvN {h' : Heap} {ch : List Addr} (I : Inv X pins σ H s) (m : Mv ch (frs X.stack) s.heap h') (fp : ∀ b ∈ ch, FpN X pins H b) : Inv X pins σ H { s with heap := h' } := by
  have out : ∀ b o, X.s₀.heap.get? b = some o → b ∉ X.ex → b ∉ ch ++ X.ex := fun b o e n z => by
    rcases List.mem_append.mp z with z | z
    · rcases (fp b z).2.2.2.1 with y | y
      · exact n y
      · rw [e] at y; cases y
    · exact n z
  have sub : ∀ b, b ∉ ch ++ X.ex → b ∉ X.ex := fun b n z => n (List.mem_append_right _ z)
  have ok : Cx.Ok { X with ex := ch ++ X.ex } := ⟨I.ok.mod, I.ok.kind, I.ok.glob, I.ok.blt, I.ok.above, I.ok.inj, I.ok.has, I.ok.cab, I.ok.hd, I.ok.frames, I.ok.stk,
    fun b hb => (List.mem_append.mp hb).elim (fun z => ⟨(fp b z).2.1, (fp b z).2.2.2.2.1⟩) (I.ok.exf b), I.ok.bs, I.ok.bsz, fun b o e => out b o (I.ok.bs b o e).1 (I.ok.noex b o e),
    fun b hb => (List.mem_append.mp hb).elim (fun z => (fp b z).2.2.1) (I.ok.exfs b), I.ok.funs, I.ok.frf⟩
  have U := I.base
  have J : Inv { X with ex := ch ++ X.ex } pins σ H s := ⟨ok, I.os, I.bare, ⟨fun b o e n f z => U.keep b o e n f (sub b z), fun b o e n f z => U.slot b o e n f (sub b z), fun b o e n z => U.free b o e n (sub b z), fun b o e z => U.there b o e (sub b z), U.tups, U.frzs, U.tbls⟩,
    I.loc, I.cell, I.free, I.freeC, I.pin, I.hok, I.len⟩
  have J' := J.mv (h' := h') (ch := ch) m fun b hb => ⟨(fp b hb).1, (fp b hb).2.1, (fp b hb).2.2.1, .inl (List.mem_append_left _ hb), (fp b hb).2.2.2.2⟩
  have V := J'.base
  exact ⟨I.ok, J'.os, J'.bare, ⟨fun b o e n f z => V.keep b o e n f (out b o e z), fun b o e n f z => V.slot b o e n f (out b o e z), fun b o e n z => V.free b o e n (out b o e z), fun b o e z => V.there b o e (out b o e z), V.tups, V.frzs, V.tbls⟩,
    J'.loc, J'.cell, J'.free, J'.freeC, J'.pin, J'.hok, J'.len⟩
structure Fly (X : Cx) (pins : List (Addr × Obj)) (H : Hp) (e : Addr) (C : Value) (dx : Option Addr) (T : Option (Addr × Value)) (h : Heap) : Prop where
  at_ : ExcAt h e C dx T
  fe : FpN X pins H e
  ft : ∀ t fl, T = some (t, fl) → FpN X pins H t
noncomputable def Own (X : Cx) : Prop := X.stack = X.env :: X.outer ∧ X.env.frame = some X.env.locals
theorem note_ok {M : Model} {E : Value → Shared → Prop} {e : Addr} {C : Value} {dx : Option Addr} {T : Option (Addr × Value)} {Q : Unit → Shared → Prop} (I : Inv X pins σ H s) (ow : Own X) (f : Fly X pins H e C dx T s.heap)
    (h : ∀ h' t, Inv X pins σ H { s with heap := h' } → Fly X pins H e C dx (some (t, rawInt X.env.locals)) h' → Q () { s with heap := h' }) : wpAny M X.A (noteFrame (.ref e) X.env) Q E s := by
  obtain ⟨ho, hf⟩ := ow
  have hfr : X.A.frames = some (X.env :: X.outer) := by rw [I.ok.frames, ho]
  have hst : s.heap.FunFrames X.base (X.env :: X.outer) := by rw [← ho]; exact I.stack
  obtain ⟨⟨oe, vs, he, hc, hdx, hd, hsz, hT⟩, fe, ft⟩ := f
  have fin : ∀ (s1 : Shared) (oe1 : Obj) (vs1 : Array Value) (hd1 : Value) (b1 : Bool), Inv X pins σ H s1 → s1.heap.objs.size = s.heap.objs.size → s1 = { s with heap := s1.heap } → s1.heap.get? e = some oe1 → oe1.cls = C → oe1.dict = dx → oe1.data = .fields vs1 → 1 < vs1.size →
      wpAny M X.A (do let a ← frameOf X.env; let pl ← entryPlaceOf X.env.locals b1; let t ← EntryCells.newEntry hd1 a .none (rawInt X.env.locals) .none pl; setField (.ref e) 1 t) Q E s1 := by
    intro s1 oe1 vs1 hd1 b1 I1 hz hs1 q1 q2 q3 q4 q5
    have hst1 : s1.heap.FunFrames X.base (X.env :: X.outer) := by rw [← ho]; exact I1.stack
    refine entry_ok hfr hst1 hf q1 q4 q5 fun h' m x => ?_
    have I2 : Inv X pins σ H { s1 with heap := h' } := I1.mvN (ch := [e]) (by rw [ho]; exact m) fun b hb => by rw [List.mem_singleton.mp hb]; exact fe
    have e2 : ({ s1 with heap := h' } : Shared) = { s with heap := h' } := by rw [hs1]
    rw [e2] at I2 ⊢
    rw [q2, q3] at x
    exact h h' _ I2 ⟨x, fe, fun t fl z => by cases z; exact (I1.fpOk (Nat.le_refl _) (I1.hok.fresh (Nat.le_refl _))).n⟩
  unfold noteFrame
  simp only [hf]
  cases T with
  | none =>
    have h1 : vs[1]? = some .none := hT
    refine wpAny_bind (wpAny_field he hd h1 ?_)
    rw [if_neg (by decide)]
    exact fin s oe vs _ _ I rfl rfl he hc hdx hd hsz
  | some p =>
    obtain ⟨t, fl⟩ := p
    obtain ⟨h1, hte, oT, ts, hTt, hdT, h3⟩ := hT
    refine wpAny_bind (wpAny_field he hd h1 ?_)
    rw [if_pos (show (Value.ref t != Value.none) = true from by simp)]
    refine wpAny_bind (wpAny_field hTt hdT h3 ?_)
    by_cases hz : (fl == rawInt X.env.locals) = true
    · rw [if_pos hz]
      have hz' := eq_of_beq hz
      subst hz'
      exact wpAny_pure (h s.heap t I ⟨⟨oe, vs, he, hc, hdx, hd, hsz, h1, hte, oT, ts, hTt, hdT, h3⟩, fe, ft⟩)
    · rw [if_neg hz]
      refine wpAny_bind (wpAny_setField hTt hdT (Array.getElem?_eq_some_iff.mp h3).1 ?_)
      have oth : ∀ c, c ≠ t → (s.heap.update t (Obj.mapFields (·.setIfInBounds 3 Value.none))).get? c = s.heap.get? c := fun c hc => Heap.get?_update_other _ _ (Ne.symm hc)
      have m1 : Mv [t] (frs X.stack) s.heap (s.heap.update t (Obj.mapFields (·.setIfInBounds 3 Value.none))) :=
        ⟨fun b o n _ q => (oth b (fun z => n (by rw [z]; exact List.mem_singleton.mpr rfl))).trans q, fun b o n _ q => ⟨o.slots, (oth b (fun z => n (by rw [z]; exact List.mem_singleton.mpr rfl))).trans q⟩⟩
      have I1 := I.mvN m1 fun b hb => by rw [List.mem_singleton.mp hb]; exact ft t fl rfl
      exact fin _ oe vs _ _ I1 (Heap.size_after_update ..) rfl ((oth e (Ne.symm hte)).trans he) hc hdx hd hsz
theorem fly_ok {M : Model} {A : Around} {E : Value → Shared → Prop} {e t : Addr} {C : Value} {dx : Option Addr} {fl : Value} {fr : Option Addr} {Q : Unit → Shared → Prop} (I : Inv X pins σ H s) (f : Fly X pins H e C dx (some (t, fl)) s.heap)
    (h : ∀ h', Inv X pins σ H { s with heap := h' } → Fly X pins H e C dx (some (t, fr.elim .none fun f => rawInt f)) h' → Q () { s with heap := h' }) : wpAny M A (setFlight (.ref e) fr) Q E s := by
  refine flight_ok f.at_ fun h' k x => h h' (I.mvN (ch := [t]) ⟨fun b o n _ q => k b o (fun z => n (by rw [z]; exact List.mem_singleton.mpr rfl)) q, fun b o n _ q => ⟨o.slots, k b o (fun z => n (by rw [z]; exact List.mem_singleton.mpr rfl)) q⟩⟩ fun b hb => by rw [List.mem_singleton.mp hb]; exact f.ft t fl rfl) ⟨x, f.fe, fun t' fl' z => by cases z; exact f.ft t fl rfl⟩
end
end L2
set_option Elab.async false
set_option linter.all false
set_option maxRecDepth 100000
set_option maxHeartbeats 4000000
namespace L2
open PySem PySem.Spec PyProof.Rows
noncomputable abbrev XW := St → XK
noncomputable def XE (X : Cx) (W : XW) (e : Value) (s : Shared) : Prop := ∃ pins x C dx T σ H, e = .ref x ∧ Inv X pins σ H s ∧ Fly X pins H x C dx T s.heap ∧ W σ C dx H
noncomputable def Thr (X : Cx) (W : XW) : Prop := ∀ e s, XE X W e s → X.xe e s
noncomputable abbrev Cx.thr (X : Cx) (W : XW) : Cx := X.wish (XE X W)
noncomputable abbrev W0 : XW := fun _ _ _ _ => False
section
variable {X : Cx} {W : XW} {pins : List (Addr × Obj)} {σ : St} {H : Hp} {s : Shared}
theorem Fly.wish {E : Value → Shared → Prop} {e : Addr} {C : Value} {dx : Option Addr} {T : Option (Addr × Value)} {h : Heap} (f : Fly (X.wish E) pins H e C dx T h) : Fly X pins H e C dx T h := ⟨f.at_, f.fe, f.ft⟩
theorem thr_self : Thr (X.thr W) W := fun e s ⟨pins, x, C, dx, T, σ, H, he, I, f, w⟩ => ⟨pins, x, C, dx, T, σ, H, he, I.unwish, f.wish, w⟩
theorem thr0 : Thr X W0 := fun e s ⟨pins, x, C, dx, T, σ, H, he, I, f, w⟩ => w.elim
theorem passes_thr (ow : Own X) : PassesOwn (model X.prog X.w) X.A X.env (XE X W) := by
  intro e s' ⟨pins, x, C, dx, T, σ, H, he, I, f, w⟩
  subst he
  unfold notedBy
  refine note_ok I ow f fun h' t I' f' => ?_
  unfold cameBackBy
  obtain ⟨⟨oe, vs, q1, q2, q3, q4, q5, q6, q7⟩, fe, ft⟩ := id f'
  refine wpAny_bind (wpAny_field q1 q4 q6 ?_)
  rw [if_neg (by simp)]
  refine fly_ok I' f' fun h2 I2 f2 => ?_
  rw [ow.2] at f2
  exact ⟨pins, x, C, dx, _, σ, H, rfl, I2, f2, w⟩
theorem passes_thrW (ow : Own X) : PassesOwn (model X.prog X.w) X.A X.env (X.thr W).xe := passes_thr ow
theorem PSs.thr {st : List Stmt} {t : TS} (h : PSs (X.thr W) st t) (k : Thr X W) : PSs X st t := fun pins s σ H D I hw =>
  wpAny_mono (h pins s σ H D (I.wish _) hw) (fun _ _ q => q.unwish) k
end
noncomputable def CX1 (P : Program) (w : World) : CXT := fun outer H s E e s' => ∃ x C dx t H', e = .ref x ∧ s'.os = s.os ∧ AllBare s'.gens ∧ Un (frs outer) [] H H' s.heap s'.heap ∧ HOk P w H' s'.heap ∧
  ExcAt s'.heap x C dx (some (t, .none)) ∧ s.heap.get? x = none ∧ s.heap.get? t = none ∧ H' x = none ∧ H' t = none ∧ E C dx H'
section
variable {P : Program} {w : World} {K : PySem.W.Frag} {mg : Str → Option Value} {base : Heap}
theorem leave_ok {N : List Str} {qual : Str} {scope : Scope} {f : Addr} {cd : Value} {A : Around} {outer : List Env} {s : Shared} {H : Hp} {E : XK} :
    Thr (cxOf (CX1 P w) P w K mg base N qual scope f cd A outer s H E) fun _ => E := by
  intro e s' ⟨pins, x, C, dx, T, σ, H', he, I, f', wq⟩
  subst he
  have own : Own (cxOf (CX1 P w) P w K mg base N qual scope f cd A outer s H E) := ⟨rfl, rfl⟩
  show wpAny _ _ (leaving _ _) _ _ _
  unfold leaving
  refine wpAny_bind (note_ok I own f' fun h1 t I1 f1 => ?_)
  refine fly_ok (fr := none) I1 f1 fun h2 I2 f2 => ?_
  have fx := f2.fe
  have ft := f2.ft t _ rfl
  have no : ∀ b : Addr, (b ∈ ([] : List Addr) ∨ s.heap.get? b = none) → s.heap.get? b = none := fun b z => z.elim (fun q => absurd q (by simp)) id
  exact ⟨x, C, dx, t, H', rfl, I2.os, I2.bare, I2.base, I2.hok, f2.at_, no x fx.2.2.2.1, no t ft.2.2.2.1, fx.1, ft.1, wq⟩
theorem Fun.okX {x qual : Str} {st : Stmt} {f : Addr} {fd : FuncData} {N ps : List Str} {k : Nat} {sp : Sp} (F : Fun K x qual st f fd) (S : FnScope N ps (defScope st)) (len : ∀ vs H Q E, sp vs H Q E → vs.length = ps.length)
    (hbody : ∀ (cdv : Value) (A : Around) (outer : List Env) (s : Shared) (H : Hp) (vs : List V) (Q : VK) (E : XK), Room k (A.deeper (envOfC qual (defScope st) s.heap.objs.size f cdv)) → sp vs H Q E →
      ∃ t, PSs ((cxOf (CX1 P w) P w K mg base N qual (defScope st) f cdv A outer s H E).thr fun _ => E) (defBody st) t ∧ t { nx := fun _ H' => Q .non H', rt := Q } (start N vs) H) : FnOk P w K mg base (CX1 P w) (k + 1) f fd ps sp := by
  obtain ⟨oc, od, kV, doc, pm, an, cdv, ct, osl, rfl, lk, hcd⟩ := F.ex
  refine fn_of lk hcd S len fun A outer s H vs Q E hr hsp => ?_
  obtain ⟨t, h, q⟩ := hbody cdv A outer s H vs Q E hr hsp
  exact ⟨t, h.thr leave_ok, q⟩
end
section
variable {X : Cx} {W : XW} {pins : List (Addr × Obj)} {σ : St} {H : Hp} {s s' : Shared}
theorem Inv.afterX {e : Value} (I : Inv X pins σ H s) (hx : Thr X W) (h : CX1 X.prog X.w X.stack H s (W σ) e s') : X.xe e s' := by
  obtain ⟨x, C, dx, t, H', rfl, os, bare, un, hok, ea, zx, zt, nx, nt, w⟩ := h
  refine hx _ _ ⟨pins, x, C, dx, _, σ, H', rfl, I.call' (ch := []) os un hok bare (fun b z => absurd z (by simp)), ⟨ea, I.fpN zx nx, fun t' fl z => ?_⟩, w⟩
  cases z
  exact I.fpN zt nt
variable {k : Nat} {f C : Addr} {fd : FuncData} {ps : List Str} {sp : Sp} {dvs : List V} {ds : List Value} {x m : Str} {p pos apos : Pos} {e o : Expr} {es : List Expr} {ta : TE} {t : TA}
theorem run_fnX {Q : VK} {us : List Value} {vs : List V} (F : FnOk X.prog X.w X.K X.mg X.base (CX1 X.prog X.w) k f fd ps sp) (hr : Room k X.A) (hb : Binds X.K fd ps ds) (hd : Vals dvs ds) (hx : Thr X W)
    (I : Inv X pins σ H s) (r : Vals vs us) (h : sp (vs ++ dvs) H Q (W σ)) : wpAny (model X.prog X.w) X.A (call (.ref f) us) (EP X pins σ Q) X.xe s := by
  have r2 : Vals (vs ++ dvs) (us ++ ds) := r.append hd
  have hl : (us ++ ds).length = ps.length := by rw [← r2.length]; exact F.len _ _ _ _ h
  refine wpAny_call (codeAny_mono (F.run X.A X.stack s H ⟨us, []⟩ (us ++ ds) (vs ++ dvs) Q (W σ) hr I.env0 (hb s us I.kIn hl) r2 h) fun r s' hq => ?_)
  cases r with
  | error e => exact I.afterX hx hq
  | ok fl =>
    cases fl with
    | ret u => exact I.after hq
    | next => exact False.elim hq
    | brk => exact False.elim hq
    | cont => exact False.elim hq
noncomputable def tCallX (sp : Sp) (dvs : List V) (W : XW) (t : TA) : TE := fun σ H Q => t σ H fun vs H1 => sp (vs ++ dvs) H1 Q (W σ)
theorem s_callX {σ : St} {H : Hp} {Q : VK} {sp : Sp} {W : XW} {t : TA} (h : t σ H fun vs H1 => sp vs H1 Q (W σ)) : tCallX sp [] W t σ H Q := by
  unfold tCallX
  simpa using h
theorem pe_callX (F : FnOk X.prog X.w X.K X.mg X.base (CX1 X.prog X.w) k f fd ps sp) (hr : Room k X.A) (hg : Gl X x) (hm : X.mg x = some (.ref f)) (hk : PySem.W.keepIn X.K (.ref f) = true) (hb : Binds X.K fd ps ds) (hd : Vals dvs ds) (hx : Thr X W)
    (ha : PA X (e :: es) t) (hdb : (x == ("__debug__" : Str)) = false := by decide) (he : starEach (e :: es) X.env = (false, eval e X.env) :: starEach es X.env := by rfl) (hpl : (backTo pos (starEach es X.env)).any (·.1) = false := by rfl) :
    PE X (.Call (.Name x p) (e :: es) [] pos) (tCallX sp dvs W t) := by
  intro pins s σ H Q I h
  refine wpAny_Call_Name_kw (ld_glob I hg hm ?_ hdb)
  refine PySem.W.callWith_K (h₀ := X.base) I.ok.mod.kin hk (thn (ha pos pins s σ H _ I h) fun us s1 ⟨vs, H1, I1, r, q⟩ => ⟨I1.kIn, ?_⟩) he hpl
  exact run_fnX F hr hb hd hx I1 r q
noncomputable def tMethX (C : Addr) (m : Str) (sp : Sp) (dvs : List V) (W : XW) (ta : TE) (t : TA) : TE := fun σ H Q => ta σ H fun x H1 => ∃ a dx fs, x = .ref a ∧ H1 a = some (.ins C dx fs) ∧ fs.lookup m = none ∧
  t σ H1 fun vs H2 => sp (x :: (vs ++ dvs)) H2 Q (W σ)
theorem pe_methX {pl : Sem Bool} (he : PE X o ta) (c : Cls X.K C) (hm : Meth X.K C m f) (F : FnOk X.prog X.w X.K X.mg X.base (CX1 X.prog X.w) k f fd ps sp) (hr : Room k X.A) (hb : Binds X.K fd ps ds) (hd : Vals dvs ds) (hx : Thr X W) (ha : PA X (e :: es) t)
    (hst : starEach (e :: es) X.env = (false, eval e X.env) :: starEach es X.env := by rfl) (hpl : (backTo pos (starEach es X.env)).any (·.1) = false := by rfl)
    (ht : eval (.Call (.Attribute o m apos) (e :: es) [] pos) X.env = (do
      let ov ← eval o X.env
      standAt apos.atName
      let (f, first) ← holding [ov] (getMethod ov m pl)
      callWith pos f first (backTo pos (starEach (e :: es) X.env)) (backToKw pos (keywordEach [] X.env))) := by rfl) :
    PE X (.Call (.Attribute o m apos) (e :: es) [] pos) (tMethX C m sp dvs W ta t) := by
  intro pins s σ H Q I h
  refine PySem.W.methodCall_KW (pl := pl) (thn (he pins s σ H _ I h) fun u s1 ⟨x, H1, I1, rx, a, dx, fs, ex, ea, l, q⟩ => ?_) ht
  subst ex
  obtain rfl : u = Value.ref a := rx
  refine getmeth_ok I1 ea c hm l ?_
  refine PySem.W.callWith_K (first := [.ref a]) (h₀ := X.base) I.ok.mod.kin hm.kp (thn (ha pos pins s1 σ H1 _ I1 q) fun us s2 ⟨vs, H2, I2, r, q2⟩ => ⟨I2.kIn, ?_⟩) hst hpl
  exact run_fnX (us := .ref a :: us) (vs := .ref a :: vs) F hr hb hd hx I2 (.cons rfl r) q2
end
end L2
set_option Elab.async false
set_option linter.all false
set_option maxRecDepth 100000
set_option maxHeartbeats 4000000
namespace L2
open PySem PySem.Spec PyProof.Rows
structure XCls (h : Heap) (C : Addr) (bmB : List Value) (newId : String) : Prop where
  obj : ∃ bm N nm q bs hdct sn sub ab col dd k0 k1 k2 k3 k5 mN, h.get? C = some (excClassObj nm q C N bs bm hdct sn sub ab col dd k0 k1 k2 k3 k5 newId) ∧ h.Ns N mN ∧ mN "__init__" = none ∧ OwnTail h bmB bm
theorem xcls_of {K : PySem.W.Frag} {h : Heap} {C : Addr} {bmB : List Value} {newId : String} (X : K.In h) (q : PySem.W.excIn K C bmB newId = true) : XCls h C bmB newId := by
  refine ⟨?_⟩
  unfold PySem.W.excIn at q
  split at q
  next dd cd sl ho =>
    split at q
    next C' bm k0 k1 k2 k3 n k5 hm hs =>
      simp only [Bool.and_eq_true, beq_iff_eq, Bool.not_eq_true'] at q
      obtain ⟨⟨⟨⟨⟨e1, e2⟩, hdel⟩, ht⟩, hok⟩, hni⟩ := q
      subst e1 e2
      cases cd with
      | mk nm bs mro ns qn hd sn sub ab col del =>
      have hm : mro = _ := hm
      have hdel : del = false := hdel
      subst hm hdel
      have hsl : sl = #[k0, k1, k2, k3, some (.builtin n), k5] := by rw [← hs]
      subst hsl
      exact ⟨bm, ns, nm, qn, bs, hd, sn, sub, ab, col, dd, k0, k1, k2, k3, k5, _, X _ _ ho, .of_isNs (PySem.W.isNs_of_in X hok), PySem.W.nsMap_none_of_in X hok hni, PySem.W.tail_of_in X ht⟩
    next => cases q
  next => cases q
section
variable {X : Cx} {W : XW} {C : Addr} {x : Str} {np cpos pos : Pos} {e : Expr} {es : List Expr} {t : TA} {B newId initId : String} {bmB : List Value}
noncomputable def tRaise (C : Addr) (W : XW) (t : TA) : TS := fun _ σ H => t σ H fun vs H1 => vs.length ≤ sizeLine ∧ W σ (.ref C) none H1
theorem made_ok {pins : List (Addr × Obj)} {σ : St} {H : Hp} {s : Shared} {h' : Heap} {a : Addr} {vs : List Value} (I : Inv X pins σ H s) (m : Heap.MadeExcOf s.heap h' a (.ref C) vs) :
    Inv X pins σ H { s with heap := h' } ∧ Fly X pins H a (.ref C) none none h' := by
  obtain ⟨tt, q1, q2, q3⟩ := m.there
  exact ⟨I.mvN (ch := []) ⟨fun b o _ _ e => m.keeps b o e, fun b o _ _ e => ⟨o.slots, m.keeps b o e⟩⟩ fun b z => absurd z (by simp), ⟨⟨_, _, q1, rfl, rfl, rfl, by simp, by simp⟩, I.fpN m.new (I.hok.none_ m.new), fun t fl z => by cases z⟩⟩
theorem ps_raise (FB : ExcBaseFacts B newId initId bmB) (q : PySem.W.excIn X.K C bmB newId = true) (hx : Thr X W) (hc : X.calm = true) (hg : Gl X x) (hm : X.mg x = some (.ref C)) (ha : PA X (e :: es) t)
    (hdb : (x == ("__debug__" : Str)) = false := by decide) (he : starEach (e :: es) X.env = (false, eval e X.env) :: starEach es X.env := by rfl) (hpl : (backTo cpos (starEach es X.env)).any (·.1) = false := by rfl) :
    PS X (.Raise (some (.Call (.Name x np) (e :: es) [] cpos)) none pos) (tRaise C W t) := by
  intro pins s σ H D I h
  obtain ⟨tl, N, nm, qn, bs, hdct, sn, sub, ab, col, dd, k0, k1, k2, k3, k5, mN, hC, hN, hni, T⟩ := (xcls_of I.ok.mod.kin q).obj
  refine wpAny_Raise_call_subT (C := C) (nm := nm) (q := qn) (N := N) (bs := bs) (bm := tl) (hdct := hdct) (sn := sn) (sub := sub) (ab := ab) (col := col) (dd := dd) (k0 := k0) (k1 := k1) (k2 := k2) (k3 := k3) (k5 := k5)
    FB (mN := mN) (T.hasType FB.hasBase) (I.ok.hd hc) (by rw [he]; show (false || (backTo cpos (starEach es X.env)).any (·.1)) = false; rw [hpl]; rfl) hni (ld_glob I hg hm ⟨rfl, ?_⟩ hdb)
  have ha' := ha cpos pins s σ H _ I h
  rw [he] at ha' ⊢
  refine Calls.evalArgs_plain (wpAny_mono ha' (fun us s2 ⟨vs, H1, I1, r, z, w⟩ => ⟨rfl, ?_, I1.bk _ _ hC, hN.keeps I1.bk, T.keeps I1.bk, fun h' a m => ?_⟩) fun _ _ y => y)
  · show us.length ≤ _
    rw [← r.length]; exact z
  · obtain ⟨I2, f2⟩ := made_ok I1 m
    exact hx _ _ ⟨pins, a, .ref C, none, none, σ, H1, rfl, I2, f2, w⟩
end
end L2
set_option Elab.async false
set_option linter.all false
set_option maxRecDepth 100000
set_option maxHeartbeats 4000000
namespace L2
open PySem PySem.Spec PyProof.Rows
structure CatchOk (K : PySem.W.Frag) (G : Addr) : Prop where
  ty : PySem.W.typeIn K (.ref G) = some (.type "type")
  cls : PySem.W.isClsIn K G = true
  base : PySem.W.mroIn K G (.type "BaseException") = some true
theorem looks_isType {K : PySem.W.Frag} {M : Model} {h : Heap} {G : Addr} (X : K.In h) (c : PySem.W.isClsIn K G = true) : PySem.W.Looks M h (isType (.ref G)) true := by
  unfold PySem.W.isClsIn PySem.W.clsIn at c
  split at c
  next c' d' cd' sl' ho =>
    intro A' Q' E' s' k q
    unfold isType loadHead
    exact wpAny_bind (wpAny_loadPart (k _ _ (X _ _ ho)) (wpAny_pure q))
  next => cases c
theorem matches_ok {K : PySem.W.Frag} {M : Model} {A : Around} {E : Value → Shared → Prop} {s : Shared} {a G C : Addr} {oe : Obj} {b : Bool} {Q : Bool → Shared → Prop} (X : K.In s.heap) (c : CatchOk K G) (he : s.heap.get? a = some oe) (hc : oe.cls = .ref C)
    (hm : PySem.W.mroIn K C (.ref G) = some b) (q : Q b s) : wpAny M A (excMatches (.ref a) (.ref G)) Q E s := by
  unfold excMatches isInstance
  refine wpAny_bind (wpAny_bind ((PySem.W.looks_typeIn X c.ty).here ?_))
  rw [tc_notTuple]
  refine wpAny_pure ?_
  simp only [Bool.false_eq_true, if_false]
  refine wpAny_bind (wpAny_pure ?_)
  simp only [List.forIn_cons, List.forIn_nil]
  unfold isExcClass
  refine wpAny_bind (wpAny_bind (wpAny_bind (wpAny_bind ((looks_isType X c.cls).here ?_))))
  simp only [if_true]
  refine (PySem.W.looks_mroIn X c.base).here ?_
  simp only [Bool.not_true, Bool.false_eq_true, if_false]
  refine wpAny_pure (wpAny_pure ?_)
  have L : PySem.W.Looks M s.heap (typeOf (.ref a)) (.ref C) := hc ▸ (PySem.W.Looks.ld he).andThen .now
  refine wpAny_bind (L.here ?_)
  refine wpAny_bind (wpAny_bind (wpAny_bind ((PySem.W.looks_mroIn X hm).here ?_)))
  cases b <;> simp only [Bool.false_eq_true, if_false, if_true]
  · exact wpAny_pure (wpAny_pure (wpAny_pure q))
  · exact wpAny_pure (wpAny_pure (wpAny_pure q))
section
variable {X : Cx} {pins : List (Addr × Obj)} {σ : St} {H : Hp} {s : Shared}
theorem Inv.track {x : Addr} {o : HO} (I : Inv X pins σ H s) (f : FpN X pins H x) (new : ObjOk X.prog X.w (upd H x o) s.heap x o) : Inv X pins σ (upd H x o) s := by
  obtain ⟨f0, f1, f2, f3, f4, f5⟩ := f
  have ne : ∀ b u, H b = some u → b ≠ x := fun b u e z => by rw [z, f0] at e; cases e
  have old : ∀ b u, H b = some u → upd H x o b = some u := fun b u e => by rw [upd_ne (ne b u e)]; exact e
  have U := I.base
  refine ⟨I.ok, I.os, I.bare, ⟨U.keep, U.slot, fun b ob e n hx => ?_, U.there, fun b xs e => old b _ (U.tups b xs e), fun b ob u e => old b _ (U.frzs b ob u e), fun b ps e => ?_⟩, I.loc, I.cell, ?_, fun y c e => ?_, fun p hp => ?_, fun b ob e => ?_, I.len⟩
  · rw [upd_ne (fun z => ?_)]
    · exact U.free b ob e n hx
    · subst z
      rcases f3 with y | y
      · exact hx y
      · rw [e] at y; cases y
  · obtain ⟨m, q⟩ := U.tbls b ps e
    exact ⟨m, old b _ q⟩
  · rw [upd_ne (Ne.symm f1)]; exact I.free
  · rw [upd_ne (f4 y c e)]; exact I.freeC y c e
  · obtain ⟨e, n, r⟩ := I.pin p hp
    exact ⟨e, by rw [upd_ne (f5 p hp)]; exact n, r⟩
  · by_cases z : b = x
    · subst z
      rw [upd_same] at e
      cases e
      exact new
    · rw [upd_ne z] at e
      exact (I.hok b ob e).stay (fun _ _ _ q => q) (fun c q => old c _ q) fun c xs q => old c _ q
end
noncomputable abbrev Cx.pin (X : Cx) (pins : List (Addr × Obj)) : Cx := { X with pn := X.pn ++ pins }
noncomputable abbrev Cx.mark (X : Cx) (pins : List (Addr × Obj)) (e : Value) : Cx := { X with A := X.A.mark (some e), calm := false, pn := X.pn ++ pins, xe := fun _ _ => False }
section
variable {X : Cx} {pins pins' : List (Addr × Obj)} {σ : St} {H : Hp} {s : Shared} {e : Value}
theorem Inv.toPin (I : Inv X pins σ H s) : Inv (X.pin pins) [] σ H s :=
  ⟨⟨I.ok.mod, I.ok.kind, I.ok.glob, I.ok.blt, I.ok.above, I.ok.inj, I.ok.has, I.ok.cab, I.ok.hd, I.ok.frames, I.ok.stk, I.ok.exf, I.ok.bs, I.ok.bsz, I.ok.noex, I.ok.exfs, I.ok.funs, I.ok.frf⟩, I.os, I.bare, I.base, I.loc, I.cell, I.free, I.freeC,
    fun p hp => I.pin p (by simpa using hp), I.hok, I.len⟩
theorem Inv.ofPin (ok : X.Ok) (I : Inv (X.pin pins) pins' σ H s) : Inv X pins σ H s :=
  ⟨ok, I.os, I.bare, I.base, I.loc, I.cell, I.free, I.freeC, fun p hp => I.pin p (List.mem_append_left _ hp), I.hok, I.len⟩
theorem Inv.toMark (I : Inv X pins σ H s) : Inv (X.mark pins e) [] σ H s :=
  ⟨⟨I.ok.mod, I.ok.kind, I.ok.glob, I.ok.blt, I.ok.above, I.ok.inj, I.ok.has, I.ok.cab, (fun z => absurd (show false = true from z) (by decide)), I.ok.frames, I.ok.stk, I.ok.exf, I.ok.bs, I.ok.bsz, I.ok.noex, I.ok.exfs, I.ok.funs, I.ok.frf⟩, I.os, I.bare, I.base, I.loc, I.cell, I.free, I.freeC,
    fun p hp => I.pin p (by simpa using hp), I.hok, I.len⟩
theorem Inv.ofMark (ok : X.Ok) (I : Inv (X.mark pins e) pins' σ H s) : Inv X pins σ H s :=
  ⟨ok, I.os, I.bare, I.base, I.loc, I.cell, I.free, I.freeC, fun p hp => I.pin p (List.mem_append_left _ hp), I.hok, I.len⟩
theorem FpN.ofPin {b : Addr} (f : FpN (X.pin pins) pins' H b) : FpN X pins H b := ⟨f.1, f.2.1, f.2.2.1, f.2.2.2.1, f.2.2.2.2.1, fun p hp => f.2.2.2.2.2 p (List.mem_append_left _ hp)⟩
theorem Fly.ofPin {x : Addr} {C : Value} {dx : Option Addr} {T : Option (Addr × Value)} {h : Heap} (f : Fly (X.pin pins) pins' H x C dx T h) : Fly X pins H x C dx T h := ⟨f.at_, f.fe.ofPin, fun t fl z => (f.ft t fl z).ofPin⟩
end
end L2
set_option Elab.async false
set_option linter.all false
set_option maxRecDepth 100000
set_option maxHeartbeats 400000
namespace L2
open PySem PySem.Spec PyProof.Rows
structure XIsi (K : PySem.W.Frag) (D : Addr) : Prop where
  cls : PySem.W.isClsIn K D = true
  ga : PySem.W.findIn K (.ref D) "__getattribute__" = some (some (.builtin "BaseException.__getattribute__"))
  gr : PySem.W.findIn K (.ref D) "__getattr__" = some none
  ha : PySem.W.findIn K (.ref D) "__class__" = some (some (.builtin "object.__class__"))
  hn : PySem.W.specialIn K (.builtin "object.__class__") "__get__" = some (some (.builtin "getset_descriptor.__get__"))
  tk : PySem.W.takesIn K (.builtin "object.__class__") = some true
  hm : PySem.W.mroIn K D (.type "object") = some true
  base : PySem.W.mroIn K D (.type "BaseException") = some true
noncomputable def dV : V → Value
  | .ref a => .ref a
  | .ty n => .type n
  | _ => .none
section
variable {σ : St} {H : Hp} {Q : VK} {D : Ends} {W : XW} {t : TA}
theorem s_raise {C : Addr} (h : t σ H fun vs H1 => vs.length ≤ sizeLine ∧ W σ (.ref C) none H1) : tRaise C W t D σ H := h
end
end L2
namespace L2
open PySem PySem.Spec PyProof.Rows
theorem pg_tupK {X : Cx} {K : PySem.W.Frag} {es : List Expr} {k : Nat} {t : TGs} {n : Nat} {pos : Pos} (h : X.K = K) (hc : X.calm = true) (ht : PGs X es t)
    (hn : (assignEach es X.env).length = n := by rfl) (hst : (assignEach es X.env).findIdx? (·.1) = none := by rfl) : PG X (.Tuple es k pos) (gTup K n t) := by subst h; exact pg_tup hc ht hn hst
end L2
set_option Elab.async false
set_option linter.all false
set_option maxRecDepth 100000
set_option maxHeartbeats 4000000
namespace L2
open PySem PySem.Spec PyProof.Rows
theorem rel_key {k : Key} {v : Value} (h : keyIs k v = true) : RelV (kV k) v := by
  rcases keyIs_shape h with ⟨i, t, rfl, rfl⟩ | ⟨x, t, rfl, rfl⟩
  · exact ⟨t, rfl⟩
  · exact ⟨t, rfl⟩
theorem paired_of {α β : Type} {F : α → β → Prop} : ∀ {l : List α} {m : List β}, l.length = m.length → (∀ (i : Nat) (a : α) (b : β), l[i]? = some a → m[i]? = some b → F a b) → Paired F l m
  | [], [], _, _ => .nil
  | a :: l, b :: m, hl, h => .cons (h 0 a b rfl rfl) (paired_of (by simpa using hl) fun i x y hx hy => h (i + 1) x y (by simpa using hx) (by simpa using hy))
  | [], _ :: _, hl, _ => by simp at hl
  | _ :: _, [], hl, _ => by simp at hl
section
variable {σ : St} {H : Hp} {Q : VK} {D : Ends} {te ty tv td : TE} {x y v : V}
noncomputable def DInAt (y : V) (Q : VK) (x : V) (H : Hp) : Prop := ∃ a o, x = .ref a ∧ DGet H a y o ∧ Q (.bl o.isSome) H
theorem s_din (h : ty σ H fun y H1 => td σ H1 (DInAt y Q)) : tDIn ty td σ H Q := h
theorem s_dinI {p : Addr} {kvs : List (Key × V)} {z : Int} (e : H p = some (.dK kvs)) (h : Q (.bl (valV kvs (Sum.inl z)).isSome) H) : DInAt (.int z) Q (.ref p) H := ⟨p, _, rfl, DGet.k (k := Sum.inl z) e, h⟩
theorem s_cat {l b : Addr} {xs zs : List V} (e : H l = some (.lst xs)) (e' : H b = some (.lst zs)) (hz : xs.length + zs.length ≤ sizeLine) (h : ∀ p H2, H p = none → Same H H2 → H2 p = some (.lst (xs ++ zs)) → Q (.ref p) H2) : rCat (.ref l) (.ref b) H Q := ⟨l, b, xs, zs, rfl, rfl, e, e', hz, s_alloc h⟩
end
end L2
set_option Elab.async false
set_option linter.all false
set_option maxRecDepth 100000
set_option maxHeartbeats 4000000
namespace L2
open PySem PySem.Spec PyProof.Rows
theorem ints_are : ∀ {ns : List Int} {us : List Value}, Vals (ns.map V.int) us → IntsAre us ns
  | [], us, r => by cases r; exact .nil
  | n :: ns, us, r => by
    rw [List.map_cons] at r
    cases r with
    | cons h t => obtain ⟨t', rfl⟩ := h; exact .cons _ _ (ints_are t)
theorem ints_vals : ∀ {ns : List Int} {us : List Value}, IntsAre us ns → Vals (ns.map V.int) us := vals_ints
section
variable {prog : Program} {w : World} {A : Around} {E : Value → Shared → Prop} {s : Shared} {d : Addr} {vs : List (Key × Value)} {ep : Nat}
theorem plain_iadd : plainId "list.__iadd__" = true := by decide +kernel
theorem collect_dict {Q : List Value → Shared → Prop} (hh : A.handled = none) (lo : (d == sysModules) = false) (hat : s.heap.DictAt (mixKind prog w) d vs ep) (hn : vs.length ≤ sizeLine)
    (h : ∀ h' tk (acc : Array Value), (∀ b o, s.heap.get? b = some o → h'.get? b = some o) → s.heap.objs.size < h'.objs.size → ItemsOf (fun i v => ∃ k x, vs[i]? = some (k, x) ∧ (mixKind prog w).is k v = true) acc vs.length → Q acc.toList { s with heap := h', toks := tk }) :
    wpAny (model prog w) A (collect (.ref d)) Q E s := by
  unfold collect
  refine wpAny_bind (wpAny_runValue (codeAny_builtin entry_proto_collect' ?_))
  show wpAny _ _ (do again (.builtin "list.__iadd__" ⟨[← newList [], .ref d], []⟩)) _ _ s
  refine wpAny_bind (wpAny_newList (wpAny_pure ⟨Code.quiet_builtin _ (by decide +kernel), codeAny_builtin entry_list_iadd' ?_⟩))
  rw [Around.under_plainId plain_iadd _]
  show wpAny _ _ (Builtin.List.listExtendWith (.ref s.heap.objs.size) (.ref d) (.ref s.heap.objs.size)) _ _ { s with heap := s.heap.push (seqObj "list" #[] 0) }
  have hlt := hat.lt_size
  refine PySem.W.kdl_extend (R := fun r s' => match r with
      | Except.ok (Flow.ret v) => wpAny (model prog w) A (match v with
        | Value.ref a => do
          let o ← load a
          match o.data with
          | .seq xs _ => pure xs.toList
          | _ => unsupported "internal:collect"
        | _ => unsupported "internal:collect") Q E s'
      | Except.ok _ => False
      | Except.error e => E e s') (s := { s with heap := s.heap.push (seqObj "list" #[] 0) }) (PySem.W.kdl_dict (knd := mixKind prog w) (kvs := vs) (ep := ep) lo) hh (hat.push _) s.heap.objs.size (Nat.ne_of_gt hlt) (Nat.ne_of_gt hlt) _ 0 (Heap.get?_push_size _ rfl) (fun h' tk acc' c' hk hS hacc => ?_) hn
  show wpAny (model prog w) A (do
      let o ← load s.heap.objs.size
      match o.data with
      | .seq xs _ => pure xs.toList
      | _ => unsupported "internal:collect") Q E { s with heap := h', toks := tk }
  refine wpAny_bind (wpAny_load hS ?_)
  exact wpAny_pure (h h' tk acc' (fun b o e => hk b o (Nat.ne_of_lt (Heap.lt_size e)) (Heap.get?_push_of_some _ e)) (Heap.lt_size hS) hacc)
theorem sorted_dict {Q : Value → Shared → Prop} {ks : List Int} (hh : A.handled = none) (lo : (d == sysModules) = false) (hat : s.heap.DictAt (mixKind prog w) d vs ep) (hn : vs.length ≤ sizeLine) (hk : vs.map (·.1) = ks.map Sum.inl) (h64 : vs.length < 64)
    (h : ∀ h' tk a (out : Array Value) (e : Nat) (ns' : List Int), (∀ b o, s.heap.get? b = some o → h'.get? b = some o) → s.heap.objs.size ≤ a → h'.get? a = some (seqObj "list" out e) → IntsAre out.toList ns' → ns'.Perm ks → ns'.Pairwise (· ≤ ·) → Q (.ref a) { s with heap := h', toks := tk }) :
    wpAny (model prog w) A (call (.builtin "sorted") [.ref d]) Q E s := by
  refine Calls.call_function_entry kind_sorted plain_sorted entry_sorted (args_sorted1 _) ?_
  unfold Builtin.«sorted»
  refine wpAny_bind (m := checkCount "sorted" 1 1 _) (wpAny_pure ?_)
  refine wpAny_bind (collect_dict (by exact hh) lo hat hn fun h' tk acc hk' hsz hacc => ?_)
  have hlen : (ks.map V.int).length = acc.toList.length := by
    have e1 := congrArg List.length hk
    rw [List.length_map, List.length_map] at e1
    have e2 : acc.toList.length = vs.length := by rw [Array.length_toList]; exact hacc.1
    rw [List.length_map]; omega
  have hI : IntsAre acc.toList ks := by
    refine ints_are (paired_of hlen fun i a b ha hb => ?_)
    rw [List.getElem?_map] at ha
    obtain ⟨k, hki, rfl⟩ := Option.map_eq_some_iff.mp ha
    rw [Array.getElem?_toList] at hb
    obtain ⟨k', x, hx, hki'⟩ := hacc.2 i b hb
    have e1 : (vs.map (·.1))[i]? = some k' := by rw [List.getElem?_map, hx]; rfl
    rw [hk, List.getElem?_map, hki] at e1
    have e1 := Option.some.inj e1
    subst e1
    exact rel_key (show keyIs (Sum.inl k) b = true from hki')
  have hal : acc.toList.length < 64 := by rw [Array.length_toList, hacc.1]; exact h64
  refine wpAny_bind (wpAny_newList ?_)
  have hoL : (h'.push (seqObj "list" acc.toList.toArray 0)).get? h'.objs.size = some (seqObj "list" acc.toList.toArray 0) := Heap.get?_push_size _ rfl
  show wpAny _ _ _ _ _ { s with heap := h'.push (seqObj "list" acc.toList.toArray 0), toks := tk }
  refine wpAny_bind (wpAny_holding (wpAny_call_entry slot_list_sort ⟨_, hoL, rfl⟩ entry_list_sort (list_sort_tree hoL hI hal fun out ns' a1 a2 a3 => ⟨_, rfl, ?_⟩) (args_list_sort _)))
  obtain ⟨e, he⟩ := sortedHeap_at (out := out) hoL
  refine wpAny_pure ⟨_, rfl, h _ tk h'.objs.size out e ns' (fun b o hb => ?_) ?_ he a1 a2 a3⟩
  · have hlt := Heap.lt_size (hk' b o hb)
    rw [sortedHeap_old (Nat.ne_of_lt hlt) (by rw [size_push']; exact Nat.lt_succ_of_lt hlt)]
    exact Heap.get?_push_of_some _ (hk' b o hb)
  · exact Nat.le_of_lt hsz
end
noncomputable def rSortD : List V → Hp → VK → Prop := fun xs H Q => ∃ (p : Addr) (ks : List Int) (kvs : List (Key × V)), xs = [.ref p] ∧ H p = some (.dK kvs) ∧ kvs.map (·.1) = ks.map Sum.inl ∧ kvs.length < 64 ∧
  ∀ (l : Addr) (ns : List Int), H l = none → ns.Perm ks → ns.Pairwise (· ≤ ·) → Q (.ref l) (upd H l (.lst (ns.map V.int)))
theorem call_sortD {X : Cx} (hc : X.calm = true) : CallR X (.builtin "sorted") rSortD := by
  intro pins s σ H xs us Q I r h
  obtain ⟨p, ks, kvs, rfl, hp, hk, h64, q⟩ := h
  obtain ⟨u, rfl, rx⟩ := vals1 r
  cases rx
  obtain ⟨hz, lo, vs, rel, dd⟩ := dk_of I.hok hp
  obtain ⟨ep, hat⟩ := dd.dictAt
  refine sorted_dict (ks := ks) (I.ok.hd hc) lo hat (by rw [← rel.length]; exact hz) (by rw [← rel.keys]; exact hk) (by rw [← rel.length]; exact h64) fun h' tk a out e ns' kp ha he hi hpm hpw => ?_
  have rv := ints_vals hi
  have hl : (ns'.map V.int).length ≤ sizeLine := by
    have e1 := congrArg List.length hk
    rw [List.length_map, List.length_map] at e1
    rw [List.length_map, hpm.length_eq, ← e1]
    exact hz
  refine ⟨.ref a, _, I.laid (t' := tk) kp ha (show ObjOk X.prog X.w _ h' _ (.lst (ns'.map V.int)) from ⟨hl, out.toList, e, rv, by simpa using he⟩), rfl, q _ ns' (I.hok.fresh ha) hpm hpw⟩
end L2
namespace L2
open PySem PySem.Spec PyProof.Rows
section
variable {H : Hp} {Q : VK}
theorem s_sortD {p : Addr} {kvs : List (Key × V)} {ks : List Int} (e : H p = some (.dK kvs)) (hk : kvs.map (·.1) = ks.map Sum.inl) (h64 : kvs.length < 64) (h : ∀ (l : Addr) (ns : List Int) (H2 : Hp), H l = none → Same H H2 → H2 l = some (.lst (ns.map V.int)) → ns.Perm ks → ns.Pairwise (· ≤ ·) → Q (.ref l) H2) : rSortD [.ref p] H Q :=
  ⟨p, ks, kvs, rfl, e, hk, h64, fun l ns hl hp hw => h l ns _ hl (same_new hl) upd_same hp hw⟩
end
end L2
set_option Elab.async false
set_option linter.all false
set_option maxRecDepth 100000
set_option maxHeartbeats 4000000
namespace L2
open PySem PySem.Spec PyProof.Rows
noncomputable def WTry0 (K : PySem.W.Frag) (G : Addr) (Wo : XW) (ts : TS) (D : Ends) : XW := fun σ C dx H => ∃ c, C = .ref c ∧ ((PySem.W.mroIn K c (.ref G) = some true ∧ ts D σ H) ∨ (PySem.W.mroIn K c (.ref G) = some false ∧ Wo σ C dx H))
noncomputable def tTry0 (K : PySem.W.Frag) (G : Addr) (Wo : XW) (tb : XW → TS) (ts : TS) : TS := fun D σ H => tb (WTry0 K G Wo ts D) D σ H
section
variable {X : Cx} {Wo : XW} {G : Addr} {g : Str} {gp hp pos : Pos} {b₀ : Stmt} {body suite : List Stmt} {tb : XW → TS} {ts : TS}
theorem ps_try0 (ow : Own X) (hx : Thr X Wo) (cg : CatchOk X.K G) (hg : Gl X g) (hm : X.mg g = some (.ref G))
    (hb : ∀ pins W, PSs ((X.pin pins).thr W) body (tb W)) (hs : ∀ pins e, PSs (X.mark pins e) (b₀ :: suite) ts) (hdb : (g == ("__debug__" : Str)) = false := by decide) :
    PS X (.Try body [.ExceptHandler (some (.Name g gp)) none (b₀ :: suite) hp] [] [] pos) (tTry0 X.K G Wo tb ts) := by
  intro pins s σ H D I h
  have ok := I.ok
  refine wpAny_Try_except (wpAny_mono (hb pins _ [] s σ H D (I.toPin.wish _) h) (fun fl s1 q => ?_) fun e s1 q => ?_)
  · have q' := q.unwish
    cases fl with
    | next => obtain ⟨σ', H', I', z⟩ := q'; exact wpAny_pure ⟨σ', H', I'.ofPin ok, z⟩
    | brk => obtain ⟨σ', H', I', z⟩ := q'; exact ⟨σ', H', I'.ofPin ok, z⟩
    | cont => obtain ⟨σ', H', I', z⟩ := q'; exact ⟨σ', H', I'.ofPin ok, z⟩
    | ret u => obtain ⟨v, σ', H', I', r, z⟩ := q'; exact ⟨v, σ', H', I'.ofPin ok, r, z⟩
  · obtain ⟨pins', x, C, dx, T, σ1, H1, rfl, I1, f1, c, rfl, w⟩ := q
    have J1 := I1.ofPin ok
    have g1 := f1.ofPin
    refine note_ok J1 ow g1 fun h2 t J2 g2 => ?_
    refine fly_ok (fr := none) J2 g2 fun h3 J3 g3 => ?_
    obtain ⟨⟨oe, vs, he, hc, hdx, hd, hsz, hT⟩, fe, ft⟩ := id g3
    refine wpAny_handleBy_cons (codeAny_handlers_test (ld_glob (X := X.mark pins (.ref x)) J3.toMark hg hm ?_ hdb)) (by intro q; cases q)
    rcases w with ⟨hmr, w⟩ | ⟨hmr, w⟩
    · refine matches_ok J3.kIn cg he hc hmr (codeAny_handlers_suite ?_)
      refine fly_ok (fr := none) J3 g3 fun h4 J4 g4 => ?_
      refine wpAny_mono (hs pins (.ref x) [] _ _ _ _ J4.toMark w) (fun fl s7 q => ?_) fun _ _ z => False.elim z
      cases fl with
      | next => obtain ⟨σ', H', I', z⟩ := q; exact ⟨σ', H', I'.ofMark ok, z⟩
      | brk => obtain ⟨σ', H', I', z⟩ := q; exact ⟨σ', H', I'.ofMark ok, z⟩
      | cont => obtain ⟨σ', H', I', z⟩ := q; exact ⟨σ', H', I'.ofMark ok, z⟩
      | ret u => obtain ⟨v, σ', H', I', r, z⟩ := q; exact ⟨v, σ', H', I'.ofMark ok, r, z⟩
    · refine matches_ok J3.kIn cg he hc hmr (wpAny_handleBy_nil ?_)
      unfold PySem.passOn
      refine wpAny_bind (wpAny_field he hd hT.1 ?_)
      rw [if_neg (by simp)]
      refine wpAny_bind (fly_ok J3 g3 fun h4 J4 g4 => ?_)
      exact wpAny_throw (hx _ _ ⟨pins, x, .ref c, dx, _, σ1, H1, rfl, J4, g4, w⟩)
end
section
variable {K : PySem.W.Frag} {G : Addr} {Wo : XW} {tb : XW → TS} {ts : TS} {D : Ends} {σ : St} {H : Hp}
theorem s_try0 (h : tb (WTry0 K G Wo ts D) D σ H) : tTry0 K G Wo tb ts D σ H := h
theorem s_caught0 {c : Addr} {dx : Option Addr} (m : PySem.W.mroIn K c (.ref G) = some true) (h : ts D σ H) : WTry0 K G Wo ts D σ (.ref c) dx H := ⟨c, rfl, .inl ⟨m, h⟩⟩
end
noncomputable def CShl (i j : Int) : Prop := 0 ≤ j ∧ (Builtin.Int.intBits i : Int) + j ≤ 2 ^ 27
theorem op_shlB {X : Cx} : OpR X (binaryOp .LShift) (rI CShl fun i j => .int (i * 2 ^ j.toNat)) := opI fun _ _ _ _ _ _ _ hc q => PyProof.Rows.lshift_int hc.1 hc.2 q
end L2
set_option Elab.async false
set_option linter.all false
set_option maxRecDepth 100000
set_option maxHeartbeats 4000000
namespace L2
open PySem PySem.Spec PyProof.Rows
open AutoSeq1 (wpAny_loadPart')
section
variable {prog : Program} {w : World} {A : Around} {E : Value → Shared → Prop} {s : Shared}
theorem nextOf_tuple_item {it t : Addr} {i : Nat} {items : Array Value} {x : Value} {Q : Value → Shared → Prop} (hit : s.heap.IsTupleIter it t i) (ht : s.heap.IsTuple t items) (hx : items[i]? = some x)
    (hQ : ∀ h', h'.IsTupleIter it t (i + 1) → Heap.SameBut it s.heap h' → Q x { s with heap := h' }) :
    wpAny (model prog w) A (Builtin.SmallTypes.nextOf (.ref it)) Q E s := by
  obtain ⟨o, ho, hc, hd⟩ := id hit
  obtain ⟨ol, hol, _, nl, hdl⟩ := ht
  unfold Builtin.SmallTypes.nextOf
  refine wpAny_bind (wpAny_callSpecial?_slot (name := Str.ofString "__next__") hit.typeIs F.slot_tuple_iterator_next
    (wpAny_call_entry F.slot_tuple_iterator_next hit.typeIs F.entry_tuple_iterator_next ?_ (F.args_tuple_iterator_next_1 _)))
  show wpAny _ _ (field (.ref it) 0 >>= _) _ _ s
  refine wpAny_bind (wpAny_field ho hd (x := .ref t) rfl ?_)
  show wpAny _ _ (if (Value.ref t == Value.none) = true then _ else _) _ _ s
  rw [if_neg (show ¬ ((Value.ref t == Value.none) = true) from Bool.false_ne_true)]
  show wpAny _ _ (field (.ref it) 1 >>= _) _ _ s
  refine wpAny_bind (wpAny_field ho hd (x := .int i 0) rfl ?_)
  show wpAny _ _ (seqItems? (.ref t) >>= _) _ _ s
  refine wpAny_bind (wpAny_seqItems hol hdl ?_)
  simp only [Int.toNat_natCast, hx]
  refine wpAny_bind (wpAny_setField ho hd (by simp) (wpAny_pure ⟨x, rfl, wpAny_pure (hQ _ ?_ (Heap.SameBut.update ..))⟩))
  exact ⟨_, Heap.get?_update_self _ ho (Obj.isFreed_of_fields (Obj.data_mapFields hd _)), (Obj.cls_mapFields ..).trans hc, by
    rw [Obj.data_mapFields hd]; simp [rawInt]⟩
theorem nextOf_tuple_end {it t : Addr} {i : Nat} {items : Array Value} {Q : Value → Shared → Prop} (hh : A.handled = none) (hit : s.heap.IsTupleIter it t i) (ht : s.heap.IsTuple t items) (hx : items[i]? = none)
    (hE : ∀ h' e, Heap.ExtBut it s.heap h' → (∃ o, h'.get? e = some o ∧ o.cls = .type "StopIteration") → E (.ref e) { s with heap := h' }) :
    wpAny (model prog w) A (Builtin.SmallTypes.nextOf (.ref it)) Q E s := by
  obtain ⟨o, ho, hc, hd⟩ := id hit
  obtain ⟨ol, hol, _, nl, hdl⟩ := ht
  unfold Builtin.SmallTypes.nextOf
  refine wpAny_bind (wpAny_callSpecial?_slot (name := Str.ofString "__next__") hit.typeIs F.slot_tuple_iterator_next
    (wpAny_call_entry F.slot_tuple_iterator_next hit.typeIs F.entry_tuple_iterator_next ?_ (F.args_tuple_iterator_next_1 _)))
  show wpAny _ _ (field (.ref it) 0 >>= _) _ _ s
  refine wpAny_bind (wpAny_field ho hd (x := .ref t) rfl ?_)
  show wpAny _ _ (if (Value.ref t == Value.none) = true then _ else _) _ _ s
  rw [if_neg (show ¬ ((Value.ref t == Value.none) = true) from Bool.false_ne_true)]
  show wpAny _ _ (field (.ref it) 1 >>= _) _ _ s
  refine wpAny_bind (wpAny_field ho hd (x := .int i 0) rfl ?_)
  show wpAny _ _ (seqItems? (.ref t) >>= _) _ _ s
  refine wpAny_bind (wpAny_seqItems hol hdl ?_)
  simp only [Int.toNat_natCast, hx]
  refine wpAny_bind (wpAny_rule (wpAny_bind (wpAny_setField ho hd (by simp) ?_)))
  show wpAny _ _ (newExc (.type "StopIteration") [] >>= _) _ _ _
  refine wpAny_bind ?_
  simp only [newExc, newTuple]
  refine wpAny_bind (wpAny_newObj_type ?_ (by size_fits))
  refine wpAny_bind (m := firstArgMember _ _) (wpAny_of_eq (a := Value.none) (by first | rfl | (simp only [firstArgMember]; rfl)) ?_)
  refine wpAny_newObj_type ?_ (by size_fits)
  simp only [raiseNew]
  refine wpAny_bind (wpAny_handled ?_)
  first | rw [show A.in1.handled = none from hh] | rw [hh]
  refine wpAny_bind (wpAny_pure (wpAny_throw ?_))
  exact hE _ _ (((Heap.SameBut.update ..).extBut.push _).push _) ⟨_, Heap.get?_push_size _ rfl, rfl⟩
end
theorem Draws.tuple {prog : Program} {w : World} {A : Around} (hh : A.handled = none) (it l : Addr) (hne : l ≠ it) (items : Array Value) :
    Draws prog w A it [it, l] items.size (fun i v => items[i]? = some v) (fun i h => h.IsTupleIter it l i ∧ h.IsTuple l items) where
  live := fun _ _ st => let ⟨o, ho, _⟩ := st.1; ⟨o, ho⟩
  frame := fun _ _ _ st hk => ⟨let ⟨o, ho, r⟩ := st.1; ⟨o, hk it (by simp) o ho, r⟩, let ⟨o, ho, r⟩ := st.2; ⟨o, hk l (by simp) o ho, r⟩⟩
  item := fun i s Q E hi st hQ => by
    refine nextOf_tuple_item st.1 st.2 (x := items[i]) (by simp [hi]) fun h' hit' hs' => ?_
    exact hQ _ h' s.toks (by simp [hi]) ⟨hit', st.2.extBut hs'.extBut hne⟩ hs'
  done := fun s Q E st hE => nextOf_tuple_end hh st.1 st.2 (by simp) hE
theorem meets_enumerate_newT (l : Addr) (items : Array Value) (n : Nat) (dct : Option Addr) (sl : Array (Option Value)) :
    Meets (Builtin.«enumerate.__new__» ⟨[.type "enumerate", .ref l], []⟩) (fun _ R s => s.heap.get? l = some { cls := .type "tuple", dict := dct, data := .seq items n, slots := sl } ∧
      R (.ok (.ret (.ref (s.heap.push { cls := .type "tuple_iterator", data := .fields #[.ref l, .int 0 0] }).objs.size)))
        { s with heap := (s.heap.push { cls := .type "tuple_iterator", data := .fields #[.ref l, .int 0 0] }).push { cls := .type "enumerate", data := .fields #[.none, .bool false, .ref s.heap.objs.size, rawInt 0, .none, .none] } }) :=
  .of_wp fun prog w A R s h => by
    obtain ⟨hp, g, d, tk, os⟩ := s; obtain ⟨hl, h⟩ := h
    have hsub := sub_enumerate
    have hL : Heap.IsTuple (Shared.heap ⟨hp, g, d, tk, os⟩) l items := ⟨_, hl, rfl, n, rfl⟩
    wp_walk using wpAny_loadPart' hl
    refine wpAny_stack_any fun st => wpAny_pure ?_
    split
    · rename_i c _ _ _ _ _
      cases (c == Value.type "enumerate")
      · wp_walk using wpAny_loadPart' hl, wpAny_pyIter_tuple hL
        exact ⟨_, rfl, h⟩
      · wp_walk using wpAny_loadPart' hl, wpAny_pyIter_tuple hL
        exact ⟨_, rfl, h⟩
    · wp_walk using wpAny_loadPart' hl, wpAny_pyIter_tuple hL
      exact ⟨_, rfl, h⟩
theorem call_enumerate_tuple {prog : Program} {w : World} {A : Around} {E : Value → Shared → Prop} {s : Shared} {l : Addr} {items : Array Value} {Q : Value → Shared → Prop} (hL : s.heap.IsTuple l items)
    (h : ∀ h', IsEnum h' (s.heap.objs.size + 1) s.heap.objs.size 0 .none → h'.IsTupleIter s.heap.objs.size l 0 → h'.objs.size = s.heap.objs.size + 2 →
      (∀ b o, s.heap.get? b = some o → h'.get? b = some o) → Q (.ref (s.heap.objs.size + 1)) { s with heap := h' }) :
    wpAny (model prog w) A (call (.type "enumerate") [.ref l]) Q E s := by
  obtain ⟨⟨c, dct, dt, sl⟩, hl, hc, n, hd⟩ := hL
  replace hc : c = .type "tuple" := hc
  replace hd : dt = .seq items n := hd
  subst hc hd
  refine callType_new F.called_enumerate (by decide) (F.typeCall_enumerate_1 _) (F.newCall_enumerate_1 _) (fun obj => F.args_object_init_2 obj _) F.entry_enumerate_new
    (meets_enumerate_newT l items n dct sl) ⟨hl, ?_⟩
  have hz : (s.heap.push { cls := .type "tuple_iterator", data := .fields #[.ref l, .int 0 0] }).objs.size = s.heap.objs.size + 1 := Heap.size_push ..
  show _ ∧ _
  rw [hz]
  have he : IsEnum ((s.heap.push { cls := .type "tuple_iterator", data := .fields #[.ref l, .int 0 0] }).push
      { cls := .type "enumerate", data := .fields #[.none, .bool false, .ref s.heap.objs.size, rawInt 0, .none, .none] }) (s.heap.objs.size + 1) s.heap.objs.size 0 .none := by
    have := Heap.get?_push_size (s.heap.push { cls := .type "tuple_iterator", data := .fields #[.ref l, .int 0 0] })
      (o := { cls := .type "enumerate", data := .fields #[.none, .bool false, .ref s.heap.objs.size, rawInt 0, .none, .none] }) rfl
    rw [hz] at this; exact this
  refine ⟨⟨_, he, rfl⟩, h _ he ⟨_, Heap.get?_push_of_some _ (Heap.get?_push_size _ rfl), rfl, rfl⟩ (by rw [Heap.size_push, hz]) fun b o x => Heap.get?_push_of_some _ (Heap.get?_push_of_some _ x)⟩
noncomputable def Itet (K : PySem.W.Frag) (a : Addr) : It :=
  ⟨fun i H => ∃ xs x, SqT K H a xs ∧ xs[i]? = some x, fun i H x H' => ∃ p v, H p = none ∧ x = .ref p ∧ H' = upd H p (.tup [.int i, v]) ∧ ∀ xs, SqT K H a xs → xs[i]? = some v, fun i H => ∃ xs, SqT K H a xs ∧ xs.length = i⟩
theorem turn_enumT {P : Program} {w : World} {K : PySem.W.Frag} {elts : List Expr} {k : Nat} {pos : Pos} (a e it : Addr) (hei : e ≠ it) :
    Turn P w K (.Tuple elts k pos) (Itet K a) [e, it] e (fun i h => (∃ old, IsEnum h e it i old) ∧ h.IsTupleIter it a i) where
  mem := by simp
  obj := fun i h st b hb => by
    obtain ⟨⟨old, he⟩, ⟨o, ho, hc, hd⟩⟩ := st
    rcases List.mem_cons.mp hb with z | z
    · subst z; exact ⟨_, he, fun v z => by cases z⟩
    · rw [List.mem_singleton.mp z]; exact ⟨o, ho, fun v z => by rw [hd] at z; cases z⟩
  keep := fun i h h' st k => ⟨let ⟨old, he⟩ := st.1; ⟨old, k e (by simp) _ he⟩, (let ⟨o, ho, r⟩ := st.2; ⟨o, k it (by simp) o ho, r⟩)⟩
  item := by
    intro X hP hw hK hc i pins s σ H E I hf st hg
    subst hP hw hK
    obtain ⟨xs, x, hq, hx⟩ := hg
    obtain ⟨its, rv, p, hz⟩ := I.tuple hq
    have pT : s.heap.IsTuple a its.toArray := p
    obtain ⟨⟨old, he⟩, hl⟩ := st
    have hai : a ≠ it := fun z => by
      obtain ⟨o, ho, hcl, _⟩ := hl
      obtain ⟨o', ho', hcl', _⟩ := pT
      rw [z, ho] at ho'; cases ho'; rw [hcl] at hcl'; exact absurd hcl' (by decide)
    have hae : a ≠ e := fun z => by
      obtain ⟨o', ho', hcl', _⟩ := pT
      rw [z, he] at ho'; cases ho'; exact absurd (show Value.type "enumerate" = .type "tuple" from hcl') (by decide)
    have W := WalksT.enumerateD (prog := X.prog) (w := X.w) (A := X.A) (Draws.tuple (A := X.A.in1) (I.ok.hd hc) it a hai its.toArray) e hei (by simp [hei, Ne.symm hae]) (by simp)
    have hi : i < its.toArray.size := by have := rv.length; have := (List.getElem?_eq_some_iff.mp hx).1; simp; omega
    refine W.item i s _ _ hi ⟨⟨old, he⟩, hl, pT⟩ fun T vals h' tk hPt hT htup hmid hk => ⟨_, rfl, W.go elts k pos i T _ _ _ hmid fun h'' hst hk2 => ?_⟩
    obtain ⟨t, x', hx', rfl⟩ := hPt
    have hap := W.apart i T h' hmid
    have ru : RelV x x' := by
      obtain ⟨u, hu, r⟩ := rv.get hx
      have hx'' : its[i]? = some x' := by simpa using hx'
      rw [hu] at hx''; cases hx''; exact r
    have kk : ∀ b u, b ∉ [e, it] → s.heap.get? b = some u → h''.get? b = some u := fun b u hb q => hk2 b u hb (hk b u hb q)
    have fr : H T = none := I.hok.fresh hT
    refine ⟨.ref T, upd H T (.tup [.int i, x]), I.laidCh (t' := tk) kk hT ⟨two_le, [.int i t, x'], .cons ⟨t, rfl⟩ (.cons ru .nil), ?_⟩ hf, rfl, ⟨T, x, fr, rfl, rfl, fun ys hy => by rw [I.tuple_inj hy hq]; exact hx⟩, ⟨hst.1, hst.2.1⟩, fun b hb => ?_⟩
    · obtain ⟨o, ho, r⟩ := htup
      exact ⟨o, hk2 T o hap ho, r⟩
    · have fb := (hf b hb)
      rw [upd_ne (fun z => ?_)]
      · exact fb.1
      · have lt : b < s.heap.objs.size := by
          rcases List.mem_cons.mp hb with z | z
          · subst z; exact Heap.lt_size he
          · rw [List.mem_singleton.mp z]; obtain ⟨o, ho, _⟩ := hl; exact Heap.lt_size ho
        rw [z] at lt
        exact absurd (Nat.lt_of_lt_of_le lt hT) (Nat.lt_irrefl _)
  done := by
    intro X hP hw hK hc i pins s σ H E I hf st hg
    subst hP hw hK
    obtain ⟨xs, hq, hx⟩ := hg
    obtain ⟨its, rv, p, hz⟩ := I.tuple hq
    have pT : s.heap.IsTuple a its.toArray := p
    obtain ⟨⟨old, he⟩, hl⟩ := st
    have hai : a ≠ it := fun z => by
      obtain ⟨o, ho, hcl, _⟩ := hl
      obtain ⟨o', ho', hcl', _⟩ := pT
      rw [z, ho] at ho'; cases ho'; rw [hcl] at hcl'; exact absurd hcl' (by decide)
    have hae : a ≠ e := fun z => by
      obtain ⟨o', ho', hcl', _⟩ := pT
      rw [z, he] at ho'; cases ho'; exact absurd (show Value.type "enumerate" = .type "tuple" from hcl') (by decide)
    have W := WalksT.enumerateD (prog := X.prog) (w := X.w) (A := X.A) (Draws.tuple (A := X.A.in1) (I.ok.hd hc) it a hai its.toArray) e hei (by simp [hei, Ne.symm hae]) (by simp)
    have hn : its.toArray.size = i := by have := rv.length; simp; omega
    subst hn
    exact W.done s _ _ ⟨⟨old, he⟩, hl, pT⟩ fun h' tk hk => ⟨rfl, I.turnedCh hk hf⟩
  self := fun _ _ _ _ _ st h => let ⟨_, he⟩ := st.1; wpAny_pyIter_enum he h
noncomputable def iEnumT (K : PySem.W.Frag) (tl : TE) : TI := fun σ H R => tl σ H fun x H1 => ∃ a, x = .ref a ∧ (((∃ xs, SqL K H1 a xs) ∧ R (Ite K a) H1) ∨ ((∃ xs, SqT K H1 a xs) ∧ R (Itet K a) H1))
section
variable {X : Cx} {K : PySem.W.Frag}
theorem pi_enumT {l : Expr} {tl : TE} {elts : List Expr} {k : Nat} {tpos p pos : Pos} (h : X.K = K) (hg : Gl X "enumerate") (hm : X.mg "enumerate" = none) (hl : PE X l tl) (hs : starEach [l] X.env = [(false, eval l X.env)] := by rfl) :
    PI X (.Tuple elts k tpos) (.Call (.Name "enumerate" p) [l] [] pos) (iEnumT K tl) := by
  subst h
  intro pins s σ H R I h
  refine Call_ (ld_blt I hg hm boot_enumerate (PyProof.Rows.callWith_type1 (thn (pa_cons hl pa_nil hs pos pins s σ H (fun vs H1 => match vs with | [x] => ∃ a, x = .ref a ∧ (((∃ xs, SqL X.K H1 a xs) ∧ R (Ite X.K a) H1) ∨ ((∃ xs, SqT X.K H1 a xs) ∧ R (Itet X.K a) H1)) | _ => False) I h) fun us s1 ⟨vs, H1, I1, r1, q1⟩ => ?_) hs rfl))
  match vs, r1, q1 with
  | [x], r1, q1 =>
  obtain ⟨u, rfl, ru⟩ := r1.one
  obtain ⟨a, rfl, q1⟩ := q1
  cases ru
  have fin : ∀ b ∈ [s1.heap.objs.size + 1, s1.heap.objs.size], FpOk X pins H1 b := fun b hb => by
    have hb' : s1.heap.objs.size ≤ b := (List.mem_cons.mp hb).elim (fun z => by rw [z]; exact Nat.le_succ _) (fun z => by rw [List.mem_singleton.mp z]; exact Nat.le_refl _)
    exact I1.fpOk hb' (I1.hok.fresh hb')
  rcases q1 with ⟨⟨xs, hq⟩, q⟩ | ⟨⟨xs, hq⟩, q⟩
  · obtain ⟨its, rv, pl, hz⟩ := I1.list hq
    refine call_enumerate_list pl.isList fun h' he hit hsz hk => wpAny_pyIter_enum he ?_
    exact ⟨s1.heap.objs.size + 1, [s1.heap.objs.size + 1, s1.heap.objs.size], _, _, H1, rfl, I1.kept (t' := s1.toks) hk, turn_enumL a _ _ (Nat.ne_of_gt (Nat.lt_succ_self _)), ⟨⟨_, he⟩, hit⟩, fin, q⟩
  · obtain ⟨its, rv, pl, hz⟩ := I1.tuple hq
    refine call_enumerate_tuple (show s1.heap.IsTuple a its.toArray from pl) fun h' he hit hsz hk => wpAny_pyIter_enum he ?_
    exact ⟨s1.heap.objs.size + 1, [s1.heap.objs.size + 1, s1.heap.objs.size], _, _, H1, rfl, I1.kept (t' := s1.toks) hk, turn_enumT a _ _ (Nat.ne_of_gt (Nat.lt_succ_self _)), ⟨⟨_, he⟩, hit⟩, fin, q⟩
end
theorem for_enumT {K : PySem.W.Frag} {a : Addr} {xs : List V} {g : TG} {tb : TS} {D : Ends} {σ : St} {H : Hp} (Pv : Nat → St → Hp → Prop) (h0 : Pv 0 σ H) (hl : ∀ i σ H, i ≤ xs.length → Pv i σ H → SqT K H a xs)
    (hs : ∀ i x σ H p H', xs[i]? = some x → Pv i σ H → H p = none → Same H H' → H' p = some (.tup [.int i, x]) → g (.ref p) σ H' fun σ2 H2 => tb { D with nx := Pv (i + 1), ct := Pv (i + 1), bk := D.nx } σ2 H2) (hd : ∀ σ H, Pv xs.length σ H → D.nx σ H) :
    ∃ W : Nat → Nat → St → Hp → Prop, (∃ m, W 0 m σ H) ∧ ∀ i m σ H, W i m σ H →
      ((Itet K a).stop i H ∧ D.nx σ H) ∨ ((Itet K a).go i H ∧ ∃ N : St → Hp → Prop, (∀ σ' H', N σ' H' → ∃ m', m' < m ∧ W (i + 1) m' σ' H') ∧ ∀ x H', (Itet K a).yld i H x H' → g x σ H' fun σ2 H2 => tb { D with nx := N, ct := N, bk := D.nx } σ2 H2) := by
  refine ⟨fun i m σ H => m = xs.length - i ∧ i ≤ xs.length ∧ Pv i σ H, ⟨xs.length, by simp, Nat.zero_le _, h0⟩, ?_⟩
  rintro i m σ H ⟨rfl, hi, p⟩
  have q := hl i σ H hi p
  by_cases hlt : i < xs.length
  · refine .inr ⟨⟨xs, xs[i], q, by simp [hlt]⟩, Pv (i + 1), fun σ' H' p' => ⟨xs.length - (i + 1), by omega, rfl, hlt, p'⟩, fun x H' y => ?_⟩
    obtain ⟨r, v, f, e1, e2, y⟩ := y
    subst e1 e2
    exact hs i v σ H r _ (y xs q) p f (same_new f) upd_same
  · have e : i = xs.length := by omega
    subst e
    exact .inl ⟨⟨xs, q, rfl⟩, hd σ H p⟩
theorem comp_enumL {K : PySem.W.Frag} {n : Nat} {fx : List Nat} {g : TG} {tc : TT} {te : TE} {σ : St} {H1 : Hp} {D : Addr} {Q : Hp → Prop} {a : Addr} {xs : List V} (Pv : Nat → List V → Hp → Prop) (h0 : Pv 0 [] (upd H1 D (.lst []))) (hl : ∀ i ys H, i ≤ xs.length → Pv i ys H → SqL K H a xs)
    (hs : ∀ i x ys H p H', xs[i]? = some x → Pv i ys H → H p = none → Same H H' → H' p = some (.tup [.int i, x]) → g (.ref p) (compSt n fx σ) H' fun σ4 H4 => tc σ4 H4 fun b H5 => if b = true then te σ4 H5 fun v H6 => H6 D = some (.lst ys) ∧ ys.length < sizeLine ∧ Pv (i + 1) (ys ++ [v]) (upd H6 D (.lst (ys ++ [v]))) else Pv (i + 1) ys H5)
    (hd : ∀ ys H, Pv xs.length ys H → Q H) :
    ∃ W : Nat → Nat → List V → Hp → Prop, (∃ m, W 0 m [] (upd H1 D (.lst []))) ∧ ∀ i m ys H2, W i m ys H2 → ((Ite K a).stop i H2 ∧ Q H2) ∨
      ((Ite K a).go i H2 ∧ ∃ N : List V → Hp → Prop, (∀ ys' H', N ys' H' → ∃ m', m' < m ∧ W (i + 1) m' ys' H') ∧ ∀ x H3, (Ite K a).yld i H2 x H3 → g x (compSt n fx σ) H3 fun σ4 H4 => tc σ4 H4 fun b H5 =>
        if b = true then te σ4 H5 fun v H6 => H6 D = some (.lst ys) ∧ ys.length < sizeLine ∧ N (ys ++ [v]) (upd H6 D (.lst (ys ++ [v]))) else N ys H5) := by
  refine ⟨fun i m ys H => m = xs.length - i ∧ i ≤ xs.length ∧ Pv i ys H, ⟨xs.length, by simp, Nat.zero_le _, h0⟩, ?_⟩
  rintro i m ys H ⟨rfl, hi, p⟩
  have q := hl i ys H hi p
  by_cases hlt : i < xs.length
  · refine .inr ⟨⟨xs, xs[i], q, by simp [hlt]⟩, Pv (i + 1), fun ys' H' p' => ⟨xs.length - (i + 1), by omega, rfl, hlt, p'⟩, fun x H' y => ?_⟩
    obtain ⟨r, v, f, e1, e2, y⟩ := y
    subst e1 e2
    exact hs i v ys H r _ (y xs q) p f (same_new f) upd_same
  · have e : i = xs.length := by omega
    subst e
    exact .inl ⟨⟨xs, q, rfl⟩, hd ys H p⟩
theorem comp_enumT {K : PySem.W.Frag} {n : Nat} {fx : List Nat} {g : TG} {tc : TT} {te : TE} {σ : St} {H1 : Hp} {D : Addr} {Q : Hp → Prop} {a : Addr} {xs : List V} (Pv : Nat → List V → Hp → Prop) (h0 : Pv 0 [] (upd H1 D (.lst []))) (hl : ∀ i ys H, i ≤ xs.length → Pv i ys H → SqT K H a xs)
    (hs : ∀ i x ys H p H', xs[i]? = some x → Pv i ys H → H p = none → Same H H' → H' p = some (.tup [.int i, x]) → g (.ref p) (compSt n fx σ) H' fun σ4 H4 => tc σ4 H4 fun b H5 => if b = true then te σ4 H5 fun v H6 => H6 D = some (.lst ys) ∧ ys.length < sizeLine ∧ Pv (i + 1) (ys ++ [v]) (upd H6 D (.lst (ys ++ [v]))) else Pv (i + 1) ys H5)
    (hd : ∀ ys H, Pv xs.length ys H → Q H) :
    ∃ W : Nat → Nat → List V → Hp → Prop, (∃ m, W 0 m [] (upd H1 D (.lst []))) ∧ ∀ i m ys H2, W i m ys H2 → ((Itet K a).stop i H2 ∧ Q H2) ∨
      ((Itet K a).go i H2 ∧ ∃ N : List V → Hp → Prop, (∀ ys' H', N ys' H' → ∃ m', m' < m ∧ W (i + 1) m' ys' H') ∧ ∀ x H3, (Itet K a).yld i H2 x H3 → g x (compSt n fx σ) H3 fun σ4 H4 => tc σ4 H4 fun b H5 =>
        if b = true then te σ4 H5 fun v H6 => H6 D = some (.lst ys) ∧ ys.length < sizeLine ∧ N (ys ++ [v]) (upd H6 D (.lst (ys ++ [v]))) else N ys H5) := by
  refine ⟨fun i m ys H => m = xs.length - i ∧ i ≤ xs.length ∧ Pv i ys H, ⟨xs.length, by simp, Nat.zero_le _, h0⟩, ?_⟩
  rintro i m ys H ⟨rfl, hi, p⟩
  have q := hl i ys H hi p
  by_cases hlt : i < xs.length
  · refine .inr ⟨⟨xs, xs[i], q, by simp [hlt]⟩, Pv (i + 1), fun ys' H' p' => ⟨xs.length - (i + 1), by omega, rfl, hlt, p'⟩, fun x H' y => ?_⟩
    obtain ⟨r, v, f, e1, e2, y⟩ := y
    subst e1 e2
    exact hs i v ys H r _ (y xs q) p f (same_new f) upd_same
  · have e : i = xs.length := by omega
    subst e
    exact .inl ⟨⟨xs, q, rfl⟩, hd ys H p⟩
section
variable {σ : St} {H : Hp} {te : TE} {R : It → Hp → Prop}
theorem s_iEnumT {K : PySem.W.Frag} (h : te σ H fun x H1 => ∃ a, x = .ref a ∧ (((∃ xs, SqL K H1 a xs) ∧ R (Ite K a) H1) ∨ ((∃ xs, SqT K H1 a xs) ∧ R (Itet K a) H1))) : iEnumT K te σ H R := h
end
end L2
set_option Elab.async false
set_option linter.all false
set_option maxRecDepth 100000
set_option maxHeartbeats 4000000
namespace L2
open PySem PySem.Spec PyProof.Rows
namespace ZP
noncomputable abbrev Busy (h : Heap) (z TI TO T : Addr) (fl : Bool) : Prop := h.get? z = some { cls := .type "zip", data := .fields #[rawInt T, .bool fl, .bool false, .ref TI, .ref TO] }
section
variable {prog : Program} {w : World} {A : Around} {E : Value → Shared → Prop} {s : Shared}
theorem notFree {z TI TO T : Addr} {fl : Bool} {oT : Obj} {Q : Bool → Shared → Prop} (hz : Busy s.heap z TI TO T fl) (hT : s.heap.get? T = some oT) (h : ∀ h', Busy h' z TI TO T true → Heap.SameBut z s.heap h' → Q false { s with heap := h' }) :
    wpAny (model prog w) A (Builtin.SmallTypes.ownedTupleIsFree (.ref z)) Q E s := by
  unfold Builtin.SmallTypes.ownedTupleIsFree
  refine wpAny_bind (wpAny_field hz rfl (x := rawInt T) rfl ?_)
  show wpAny _ _ (loadIfAlive ((T : Int).toNat) >>= _) _ _ s
  rw [Int.toNat_natCast]
  refine wpAny_bind (PySem.W.kdx_alive hT ?_)
  rw [if_neg (by simp)]
  refine wpAny_bind (wpAny_field hz rfl (x := .bool fl) rfl ?_)
  cases fl with
  | true =>
    rw [if_neg (by decide)]
    exact wpAny_pure (h s.heap hz ⟨rfl, fun _ _ => rfl⟩)
  | false =>
    rw [if_pos (by decide)]
    refine wpAny_bind (wpAny_setField_rec hz (by show 1 < 5; decide) fun h' e hs => wpAny_pure (h h' e hs))
theorem next_item {z TI TO T i1 i2 l1 l2 : Addr} {fl : Bool} {oT : Obj} {i : Nat} {xs ys : Array Value} {x y : Value} {Q : Option Value → Shared → Prop} (ap : ZipApart z TI TO i1 i2 l1 l2) (hz : Busy s.heap z TI TO T fl) (hT : s.heap.get? T = some oT)
    (hI : IsPair s.heap TI (.ref i1) (.ref i2)) (h1 : s.heap.IsListIter i1 l1 i) (h2 : s.heap.IsListIter i2 l2 i) (hl1 : s.heap.IsList l1 xs) (hl2 : s.heap.IsList l2 ys) (hx : xs[i]? = some x) (hy : ys[i]? = some y)
    (h : ∀ h', Busy h' z TI TO T true → h'.IsListIter i1 l1 (i + 1) → h'.IsListIter i2 l2 (i + 1) → (∀ b o, b ≠ z → b ≠ i1 → b ≠ i2 → s.heap.get? b = some o → h'.get? b = some o) → h'.get? s.heap.objs.size = some { cls := .type "tuple", data := .seq #[x, y] } → Q (some (.ref s.heap.objs.size)) { s with heap := h' }) :
    wpAny (model prog w) A (pyNext (.ref z)) Q E s := by
  have ty : s.TypeIs (.ref z) "zip" := ⟨_, hz, rfl⟩
  unfold pyNext
  refine wpAny_bind (wpAny_attempt (wpAny_callSpecial?_slot (name := Str.ofString "__next__") ty F.slot_zip_next (wpAny_call_entry F.slot_zip_next ty F.entry_zip_next ?_ (F.args_zip_next_1 _))))
  unfold Builtin.«zip.__next__»
  refine wpAny_bind (wpAny_of_eq (a := (Value.ref z, [])) rfl ?_)
  dsimp only
  refine wpAny_bind (wpAny_field hz rfl (x := .bool false) rfl ?_)
  refine wpAny_bind (wpAny_field hz rfl (x := .ref TI) rfl ?_)
  refine wpAny_bind (wpAny_seqItems hI rfl ?_)
  dsimp only
  rw [if_neg (show ¬ (#[Value.ref i1, Value.ref i2].isEmpty = true) from Bool.false_ne_true)]
  refine wpAny_bind (notFree hz hT fun h' hz' hs => ?_)
  rw [if_neg (by decide)]
  rw [← Array.forIn_toList]
  simp only [List.forIn_cons, List.forIn_nil]
  have keep : ∀ {b : Addr} {o : Obj}, b ≠ z → s.heap.get? b = some o → h'.get? b = some o := fun nb e => (hs.2 _ nb).trans e
  have h1' : h'.IsListIter i1 l1 i := h1.at fun o e => keep ap.i1z e
  have h2' : h'.IsListIter i2 l2 i := h2.at fun o e => keep ap.i2z e
  have hl1' : h'.IsList l1 xs := let ⟨o, e, c⟩ := hl1; ⟨o, keep ap.l1z e, c⟩
  have hl2' : h'.IsList l2 ys := let ⟨o, e, c⟩ := hl2; ⟨o, keep ap.l2z e, c⟩
  refine wpAny_bind (wpAny_bind (wpAny_bind (wpAny_holding ?_)))
  show wpAny _ _ (Builtin.SmallTypes.nextOf (.ref i1) >>= fun x => pure (some x)) _ _ _
  refine wpAny_bind (wpAny_nextOf_list_item h1' hl1' hx fun h3 it3 sm3 => wpAny_pure ?_)
  dsimp only
  refine wpAny_pure ?_
  dsimp only
  have keep3 : ∀ {b : Addr} {o : Obj}, b ≠ i1 → h'.get? b = some o → h3.get? b = some o := fun nb e => (sm3.2 _ nb).trans e
  refine wpAny_bind (wpAny_bind (wpAny_holding ?_))
  show wpAny _ _ (Builtin.SmallTypes.nextOf (.ref i2) >>= fun x => pure (some x)) _ _ _
  refine wpAny_bind (wpAny_nextOf_list_item (h2'.at fun o e => keep3 (Ne.symm ap.i12) e) (let ⟨o, e, c⟩ := hl2'; ⟨o, keep3 ap.l2i1 e, c⟩) hy fun h4 it4 sm4 => wpAny_pure ?_)
  have keep4 : ∀ {b : Addr} {o : Obj}, b ≠ i2 → h3.get? b = some o → h4.get? b = some o := fun nb e => (sm4.2 _ nb).trans e
  dsimp only
  refine wpAny_pure ?_
  dsimp only
  refine wpAny_pure ?_
  dsimp only
  have es : h4.objs.size = s.heap.objs.size := sm4.1.trans (sm3.1.trans hs.1)
  refine wpAny_bind (wpAny_newTuple (wpAny_pure ⟨_, rfl, wpAny_pure ?_⟩) (by show 2 ≤ sizeLine; rw [sizeLine_eq]; decide))
  show Q (some (.ref h4.objs.size)) { s with heap := h4.push _ }
  rw [es]
  refine h _ ?_ ?_ ?_ (fun b o nz n1 n2 e => Heap.get?_push_of_some _ (keep4 n2 (keep3 n1 (keep nz e)))) ?_
  · exact Heap.get?_push_of_some _ (keep4 (Ne.symm ap.i2z) (keep3 (Ne.symm ap.i1z) hz'))
  · exact it3.at fun o e => Heap.get?_push_of_some _ (keep4 ap.i12 e)
  · exact it4.at fun o e => Heap.get?_push_of_some _ e
  · rw [← es]; exact Heap.get?_push_size _ rfl
theorem next_end {z TI TO T i1 i2 l1 l2 : Addr} {fl : Bool} {oT : Obj} {i : Nat} {xs : Array Value} {Q : Option Value → Shared → Prop} (hh : A.handled = none) (ap : ZipApart z TI TO i1 i2 l1 l2) (hz : Busy s.heap z TI TO T fl) (hT : s.heap.get? T = some oT)
    (hI : IsPair s.heap TI (.ref i1) (.ref i2)) (h1 : s.heap.IsListIter i1 l1 i) (hl1 : s.heap.IsList l1 xs) (hx : xs[i]? = none)
    (h : ∀ h', (∀ b o, b ≠ z → b ≠ i1 → s.heap.get? b = some o → h'.get? b = some o) → Q none { s with heap := h' }) :
    wpAny (model prog w) A (pyNext (.ref z)) Q E s := by
  have ty : s.TypeIs (.ref z) "zip" := ⟨_, hz, rfl⟩
  unfold pyNext
  refine wpAny_bind (wpAny_attempt (wpAny_callSpecial?_slot (name := Str.ofString "__next__") ty F.slot_zip_next (wpAny_call_entry F.slot_zip_next ty F.entry_zip_next ?_ (F.args_zip_next_1 _))))
  unfold Builtin.«zip.__next__»
  refine wpAny_bind (wpAny_of_eq (a := (Value.ref z, [])) rfl ?_)
  dsimp only
  refine wpAny_bind (wpAny_field hz rfl (x := .bool false) rfl ?_)
  refine wpAny_bind (wpAny_field hz rfl (x := .ref TI) rfl ?_)
  refine wpAny_bind (wpAny_seqItems hI rfl ?_)
  dsimp only
  rw [if_neg (show ¬ (#[Value.ref i1, Value.ref i2].isEmpty = true) from Bool.false_ne_true)]
  refine wpAny_bind (notFree hz hT fun h' hz' hs => ?_)
  rw [if_neg (by decide)]
  rw [← Array.forIn_toList]
  simp only [List.forIn_cons, List.forIn_nil]
  have keep : ∀ {b : Addr} {o : Obj}, b ≠ z → s.heap.get? b = some o → h'.get? b = some o := fun nb e => (hs.2 _ nb).trans e
  have h1' : h'.IsListIter i1 l1 i := h1.at fun o e => keep ap.i1z e
  have hl1' : h'.IsList l1 xs := let ⟨o, e, c⟩ := hl1; ⟨o, keep ap.l1z e, c⟩
  refine wpAny_bind (wpAny_bind (wpAny_bind (wpAny_holding ?_)))
  show wpAny _ _ (Builtin.SmallTypes.nextOf (.ref i1) >>= fun x => pure (some x)) _ _ _
  refine wpAny_bind (wpAny_nextOf_list_end (by first | exact hh | (rw [show A.in1.handled = none from hh])) h1' hl1' hx fun h3 e ex he => ?_)
  refine wpAny_bind (wpAny_isInstance (T := "StopIteration") (b := true) (s := { s with heap := h3 }) (let ⟨o, a, b⟩ := he; ⟨o, a, b⟩) isSubtype_stop ?_)
  exact wpAny_pure (h h3 fun b o nz n1 eb => ex b o n1 (keep nz eb))
structure ZGot (h : Heap) (lo : Nat) (xs ys : Array Value) (as : List Addr) : Prop where
  rise : as.Pairwise (· < ·)
  above : ∀ a ∈ as, lo ≤ a ∧ a < h.objs.size
  pairs : ∀ (j : Nat) (a : Addr), as[j]? = some a → ∃ x y, xs[j]? = some x ∧ ys[j]? = some y ∧ h.IsTuple a #[x, y]
structure ZSt (h : Heap) (z TI TO i1 i2 l1 l2 : Addr) (lo : Nat) (xs ys : Array Value) (i : Nat) (as : List Addr) : Prop where
  zp : (i = 0 ∧ IsZip h z TI TO .none) ∨ ∃ T fl, Busy h z TI TO T fl ∧ as[0]? = some T
  hI : IsPair h TI (.ref i1) (.ref i2)
  hO : ∃ a b, IsPair h TO a b
  h1 : h.IsListIter i1 l1 i
  h2 : h.IsListIter i2 l2 i
  hl1 : h.IsList l1 xs
  hl2 : h.IsList l2 ys
  len : as.length = i
  got : ZGot h lo xs ys as
structure Und (z TI TO i1 i2 l1 l2 S : Addr) (lo : Nat) : Prop where
  ap : ZipApart z TI TO i1 i2 l1 l2
  Sz : S ≠ z
  STI : S ≠ TI
  STO : S ≠ TO
  Si1 : S ≠ i1
  Si2 : S ≠ i2
  Sl1 : S ≠ l1
  Sl2 : S ≠ l2
  z : z < lo
  TO : TO < lo
  i1 : i1 < lo
  i2 : i2 < lo
  S : S < lo
theorem get_lt {h : Heap} {a : Addr} {o : Obj} (e : h.get? a = some o) : a < h.objs.size := Heap.lt_size e
theorem ZGot.keep {h h' : Heap} {lo : Nat} {xs ys : Array Value} {as : List Addr} (g : ZGot h lo xs ys as) (k : ∀ b o, lo ≤ b → h.get? b = some o → h'.get? b = some o) : ZGot h' lo xs ys as := by
  have k2 : ∀ a ∈ as, h'.IsTuple a #[.none, .none] → True := fun _ _ _ => trivial
  refine ⟨g.rise, fun a ha => ?_, fun j a hj => ?_⟩
  · obtain ⟨j, hj⟩ := List.mem_iff_getElem?.mp ha
    obtain ⟨x, y, _, _, o, e, _⟩ := g.pairs j a hj
    exact ⟨(g.above a ha).1, get_lt (k a o (g.above a ha).1 e)⟩
  · obtain ⟨x, y, hx, hy, o, e, c⟩ := g.pairs j a hj
    exact ⟨x, y, hx, hy, o, k a o (g.above a (List.mem_of_getElem? hj)).1 e, c⟩
theorem ZGot.more {h : Heap} {lo : Nat} {xs ys : Array Value} {as : List Addr} {a : Addr} {x y : Value} (g : ZGot h lo xs ys as) (ha : ∀ b ∈ as, b < a) (hlo : lo ≤ a) (hx : xs[as.length]? = some x) (hy : ys[as.length]? = some y) (ht : h.IsTuple a #[x, y]) : ZGot h lo xs ys (as ++ [a]) := by
  refine ⟨List.pairwise_append.mpr ⟨g.rise, List.pairwise_singleton _ _, fun b hb c hc => by rw [List.mem_singleton.mp hc]; exact ha b hb⟩, fun b hb => ?_, fun j b hj => ?_⟩
  · rcases List.mem_append.mp hb with z | z
    · exact g.above b z
    · rw [List.mem_singleton.mp z]; obtain ⟨o, e, _⟩ := ht; exact ⟨hlo, get_lt e⟩
  · by_cases hl : j < as.length
    · rw [List.getElem?_append_left hl] at hj; exact g.pairs j b hj
    · rw [List.getElem?_append_right (by omega)] at hj
      have e0 : j = as.length := by
        have := (List.getElem?_eq_some_iff.mp hj).1
        simp at this; omega
      subst e0
      rw [Nat.sub_self] at hj
      have : a = b := by simpa using hj
      subst this
      exact ⟨x, y, hx, hy, ht⟩
theorem loop {R : Result → Shared → Prop} {z TI TO i1 i2 l1 l2 S : Addr} {lo : Nat} {xs ys : Array Value} (hh : A.handled = none) (U : Und z TI TO i1 i2 l1 l2 S lo) (hn : xs.size ≤ sizeLine) (hxy : ys.size = xs.size) (res : Value) {h₁ : Heap}
    (hR : ∀ h' tk acc c as, (∀ b o, b ≠ S → b ≠ z → b ≠ TO → b ≠ i1 → b ≠ i2 → h₁.get? b = some o → h'.get? b = some o) → h'.get? S = some { cls := .type "list", data := .seq acc c } → acc.toList = as.map .ref → as.length = xs.size → ZGot h' lo xs ys as → R (.ok (.ret res)) { s with heap := h', toks := tk }) :
    ∀ (k i : Nat) (h : Heap) (tk c : Nat) (acc : Array Value) (as : List Addr), xs.size - i = k → i ≤ xs.size → lo ≤ h.objs.size → ZSt h z TI TO i1 i2 l1 l2 lo xs ys i as →
      (∀ b o, b ≠ S → b ≠ z → b ≠ TO → b ≠ i1 → b ≠ i2 → h₁.get? b = some o → h.get? b = some o) → h.get? S = some { cls := .type "list", data := .seq acc c } → acc.toList = as.map .ref →
      codeAny (model prog w) A (Code.builtin "list.extend.loop" { pos := [.ref S, .ref z, res] }) R { s with heap := h, toks := tk } := by
  have ap := U.ap
  intro k
  induction k with
  | zero =>
    intro i h tk c acc as hk hi hlo st kh hS hacc
    have hin : i = xs.size := by omega
    subst hin
    refine codeAny_builtin F.entry_extend_loop ?_
    rw [Around.under_plainId F.plain_extend_loop]
    show wpAny _ A.in1 (pyNext (.ref z) >>= _) _ _ _
    refine wpAny_bind ?_
    have fin : ∀ h' tk', (∀ b o, b ≠ z → b ≠ TO → b ≠ i1 → b ≠ i2 → h.get? b = some o → h'.get? b = some o) → R (.ok (.ret res)) { s with heap := h', toks := tk' } := fun h' tk' kk =>
      hR h' tk' acc c as (fun b o n1 n2 n3 n4 n5 e => kk b o n2 n3 n4 n5 (kh b o n1 n2 n3 n4 n5 e)) (kk S _ U.Sz U.STO U.Si1 U.Si2 hS) hacc st.len (st.got.keep fun b o hb e => kk b o (Nat.ne_of_gt (Nat.lt_of_lt_of_le U.z hb)) (Nat.ne_of_gt (Nat.lt_of_lt_of_le U.TO hb)) (Nat.ne_of_gt (Nat.lt_of_lt_of_le U.i1 hb)) (Nat.ne_of_gt (Nat.lt_of_lt_of_le U.i2 hb)) e)
    rcases st.zp with ⟨h0, hz⟩ | ⟨T, fl, hz, hT⟩
    · have W := WalksT.zip2 (prog := prog) (w := w) (A := A.in1) hh z TI TO i1 i2 l1 l2 ap xs ys
      have em : min xs.size ys.size = xs.size := by omega
      rw [em] at W
      refine W.done { s with heap := h, toks := tk } _ _ ⟨hz, st.hI, st.hO, st.h1, st.h2, st.hl1, st.hl2⟩ fun h' tk' kk => ?_
      exact wpAny_pure (fin h' tk' fun b o n2 n3 n4 n5 e => kk b o (by simp [n2, n3, n4, n5]) e)
    · obtain ⟨x, y, _, _, oT, eT, _⟩ := st.got.pairs 0 T hT
      refine next_end (s := { s with heap := h, toks := tk }) hh ap hz eT st.hI st.h1 st.hl1 (by simp) fun h' kk => ?_
      exact wpAny_pure (fin h' tk fun b o n2 n3 n4 n5 e => kk b o n2 n4 e)
  | succ k ih =>
    intro i h tk c acc as hk hi hlo st kh hS hacc
    have hlt : i < xs.size := by omega
    have hx : xs[i]? = some xs[i] := Array.getElem?_eq_getElem hlt
    have hy : ys[i]? = some (ys[i]'(by omega)) := Array.getElem?_eq_getElem (by omega)
    generalize xs[i] = x at hx
    generalize ys[i]'_ = y at hy
    refine codeAny_builtin F.entry_extend_loop ?_
    rw [Around.under_plainId F.plain_extend_loop]
    show wpAny _ A.in1 (pyNext (.ref z) >>= _) _ _ _
    refine wpAny_bind ?_
    have go : ∀ (a : Addr) (h' : Heap) (tk' : Nat), h.objs.size ≤ a → h'.IsTuple a #[x, y] → (∀ b o, b ≠ z → b ≠ TO → b ≠ i1 → b ≠ i2 → h.get? b = some o → h'.get? b = some o) → lo ≤ h'.objs.size →
        (∃ T fl, Busy h' z TI TO T fl ∧ (as ++ [a])[0]? = some T) → IsPair h' TI (.ref i1) (.ref i2) → (∃ a b, IsPair h' TO a b) → h'.IsListIter i1 l1 (i + 1) → h'.IsListIter i2 l2 (i + 1) → h'.IsList l1 xs → h'.IsList l2 ys →
        wpAny (model prog w) A.in1 (Builtin.List.listUpdate (.ref S) (fun q => q.push (.ref a)) >>= fun _ => again (Code.builtin "list.extend.loop" { pos := [.ref S, .ref z, res] }))
          (fun fin s' => match fin with | .done f => R (.ok f) s' | .again c' => c'.quiet = true ∧ codeAny (model prog w) A c' R s') (fun e s' => R (.error e) s') { s with heap := h', toks := tk' } := by
      intro a h' tk' ha ht kk hlo' hzp hI hO h1 h2 hl1 hl2
      have hS' := kk S _ U.Sz U.STO U.Si1 U.Si2 hS
      have aS : a ≠ S := Nat.ne_of_gt (Nat.lt_of_lt_of_le (get_lt hS) ha)
      have hsz : acc.size = i := by have := congrArg List.length hacc; rw [List.length_map, st.len] at this; simpa using this
      have oth : ∀ b o, b ≠ S → h'.get? b = some o → (h'.update S (Obj.mapSeq fun q => q.push (.ref a))).get? b = some o := fun b o hb e => (Heap.get?_update_other _ _ (Ne.symm hb)).trans e
      have hS2 := Heap.get?_update_self (Obj.mapSeq (fun q => q.push (Value.ref a))) hS' rfl
      refine wpAny_bind (wpAny_updateSeq (s := { s with heap := h', toks := tk' }) hS' rfl (wpAny_pure ⟨plainId_quiet F.plain_extend_loop _, ?_⟩) (by rw [hsz]; omega) (by rw [Array.size_push, hsz]; omega))
      refine ih (i + 1) (h'.update S _) tk' _ (acc.push (.ref a)) (as ++ [a]) (by omega) hlt ?_ ⟨.inr ?_, ?_, ?_, ?_, ?_, ?_, ?_, ?_, ?_⟩ ?_ hS2 ?_
      · have es : (h'.update S (Obj.mapSeq fun q => q.push (.ref a))).objs.size = h'.objs.size := (Heap.SameBut.update ..).1
        rw [es]; exact hlo'
      · obtain ⟨T, fl, e, q⟩ := hzp; exact ⟨T, fl, oth _ _ (Ne.symm U.Sz) e, q⟩
      · exact oth _ _ (Ne.symm U.STI) hI
      · obtain ⟨p, q, e⟩ := hO; exact ⟨p, q, oth _ _ (Ne.symm U.STO) e⟩
      · exact h1.at fun o e => oth _ o (Ne.symm U.Si1) e
      · exact h2.at fun o e => oth _ o (Ne.symm U.Si2) e
      · exact let ⟨o, e, c⟩ := hl1; ⟨o, oth _ o (Ne.symm U.Sl1) e, c⟩
      · exact let ⟨o, e, c⟩ := hl2; ⟨o, oth _ o (Ne.symm U.Sl2) e, c⟩
      · rw [List.length_append, st.len]; rfl
      · have g := st.got.keep (h' := h'.update S (Obj.mapSeq fun q => q.push (.ref a))) fun b o hb e => oth b o (Nat.ne_of_gt (Nat.lt_of_lt_of_le U.S hb)) (kk b o (Nat.ne_of_gt (Nat.lt_of_lt_of_le U.z hb)) (Nat.ne_of_gt (Nat.lt_of_lt_of_le U.TO hb)) (Nat.ne_of_gt (Nat.lt_of_lt_of_le U.i1 hb)) (Nat.ne_of_gt (Nat.lt_of_lt_of_le U.i2 hb)) e)
        refine g.more (fun b hb => Nat.lt_of_lt_of_le (st.got.above b hb).2 ha) (Nat.le_trans hlo ha) (by rw [st.len]; exact hx) (by rw [st.len]; exact hy) (let ⟨o, e, c⟩ := ht; ⟨o, oth _ o aS e, c⟩)
      · exact fun b o n1 n2 n3 n4 n5 e => oth b o n1 (kk b o n2 n3 n4 n5 (kh b o n1 n2 n3 n4 n5 e))
      · rw [Array.toList_push, hacc, List.map_append]; rfl
    rcases st.zp with ⟨h0, hz⟩ | ⟨T, fl, hz, hT⟩
    · have W := WalksT.zip2 (prog := prog) (w := w) (A := A.in1) hh z TI TO i1 i2 l1 l2 ap xs ys
      have em : min xs.size ys.size = xs.size := by omega
      rw [em] at W
      refine W.item i { s with heap := h, toks := tk } _ _ hlt ⟨hz, st.hI, st.hO, st.h1, st.h2, st.hl1, st.hl2⟩ fun T vals h' tk' hp hT ht mid kk => ?_
      obtain ⟨x', y', ex, ey, rfl⟩ := hp
      rw [hx] at ex; cases ex
      rw [hy] at ey; cases ey
      obtain ⟨m1, m2, m3, m4, m5, m6, m7, _⟩ := mid
      have as0 : as = [] := List.eq_nil_of_length_eq_zero (st.len.trans h0)
      refine go T h' tk' hT ht (fun b o n2 n3 n4 n5 e => kk b o (by simp [n2, n3, n4, n5]) e) ?_ ⟨T, false, m1, by rw [as0]; rfl⟩ m2 m3 m4 m5 m6 m7
      obtain ⟨o, e, _⟩ := ht
      exact Nat.le_of_lt (Nat.lt_of_le_of_lt (Nat.le_trans hlo hT) (get_lt e))
    · obtain ⟨_, _, _, _, oT, eT, _⟩ := st.got.pairs 0 T hT
      refine next_item (s := { s with heap := h, toks := tk }) ap hz eT st.hI st.h1 st.h2 st.hl1 st.hl2 hx hy fun h' hz' b1 b2 kk ht => ?_
      refine go h.objs.size h' tk (Nat.le_refl _) ⟨_, ht, rfl, _, rfl⟩ (fun b o n2 n3 n4 n5 e => kk b o n2 n4 n5 e) ?_ ⟨T, true, hz', ?_⟩ (kk TI _ ap.TIz ap.TIi1 ap.TIi2 st.hI) (let ⟨p, q, e⟩ := st.hO; ⟨p, q, kk TO _ ap.TOz ap.TOi1 ap.TOi2 e⟩) b1 b2 (let ⟨o, e, c⟩ := st.hl1; ⟨o, kk l1 o ap.l1z ap.l1i1 ap.l1i2 e, c⟩) (let ⟨o, e, c⟩ := st.hl2; ⟨o, kk l2 o ap.l2z ap.l2i1 ap.l2i2 e, c⟩)
      · have ht' : h'.get? h.objs.size = _ := ht
        exact Nat.le_of_lt (Nat.lt_of_le_of_lt hlo (get_lt ht'))
      · have : 0 < as.length := (List.getElem?_eq_some_iff.mp hT).1
        rw [List.getElem?_append_left this]; exact hT
theorem nolen : typeLookup (.type "zip") "__len__" = pure none := by rw [typeLookup_type, builtinLookup_eq_fast]; kernel_rfl
theorem nohint : typeLookup (.type "zip") "__length_hint__" = pure none := by rw [typeLookup_type, builtinLookup_eq_fast]; kernel_rfl
structure New (h : Heap) (z TI TO i1 i2 l1 l2 : Addr) (xs ys : Array Value) : Prop where
  ap : ZipApart z TI TO i1 i2 l1 l2
  hz : IsZip h z TI TO .none
  hI : IsPair h TI (.ref i1) (.ref i2)
  hO : ∃ a b, IsPair h TO a b
  h1 : h.IsListIter i1 l1 0
  h2 : h.IsListIter i2 l2 0
  hl1 : h.IsList l1 xs
  hl2 : h.IsList l2 ys
theorem New.keep {h h' : Heap} {z TI TO i1 i2 l1 l2 : Addr} {xs ys : Array Value} (n : New h z TI TO i1 i2 l1 l2 xs ys) (k : ∀ b o, h.get? b = some o → (b = z ∨ b = TI ∨ b = TO ∨ b = i1 ∨ b = i2 ∨ b = l1 ∨ b = l2) → h'.get? b = some o) : New h' z TI TO i1 i2 l1 l2 xs ys where
  ap := n.ap
  hz := k _ _ n.hz (by simp)
  hI := k _ _ n.hI (by simp)
  hO := let ⟨a, b, e⟩ := n.hO; ⟨a, b, k _ _ e (by simp)⟩
  h1 := n.h1.at fun o e => k _ o e (by simp)
  h2 := n.h2.at fun o e => k _ o e (by simp)
  hl1 := let ⟨o, e, c⟩ := n.hl1; ⟨o, k _ o e (by simp), c⟩
  hl2 := let ⟨o, e, c⟩ := n.hl2; ⟨o, k _ o e (by simp), c⟩
theorem extend {R : Result → Shared → Prop} {z TI TO i1 i2 l1 l2 S : Addr} {lo : Nat} {xs ys : Array Value} (hh : A.handled = none) (U : Und z TI TO i1 i2 l1 l2 S lo) (N : New s.heap z TI TO i1 i2 l1 l2 xs ys) (hn : xs.size ≤ sizeLine) (hxy : ys.size = xs.size) (hlo : lo ≤ s.heap.objs.size) (res : Value) {c₀ : Nat} (hS : s.heap.get? S = some { cls := .type "list", data := .seq #[] c₀ })
    (hR : ∀ h' tk acc c as, (∀ b o, b ≠ S → b ≠ z → b ≠ TO → b ≠ i1 → b ≠ i2 → s.heap.get? b = some o → h'.get? b = some o) → h'.get? S = some { cls := .type "list", data := .seq acc c } → acc.toList = as.map .ref → as.length = xs.size → ZGot h' lo xs ys as → R (.ok (.ret res)) { s with heap := h', toks := tk }) :
    wpAny (model prog w) A.in1 (Builtin.List.listExtendWith (.ref S) (.ref z) res)
      (fun fin s' => match fin with | .done f => R (.ok f) s' | .again c' => c'.quiet = true ∧ codeAny (model prog w) A c' R s') (fun e s' => R (.error e) s') s := by
  have ty : s.TypeIs (.ref z) "zip" := ⟨_, N.hz, rfl⟩
  have h1 : Builtin.List.listSameRef (.ref S) (.ref z) = false := by simp [Builtin.List.listSameRef, U.Sz]
  unfold Builtin.List.listExtendWith
  refine wpAny_bind (wpAny_typeOf ty ?_)
  rw [if_neg (by rw [h1]; decide)]
  refine wpAny_bind (wpAny_pyIter_zip N.hz ?_)
  refine wpAny_bind (wpAny_holding ?_)
  unfold Builtin.List.listLengthHint
  refine wpAny_bind (wpAny_specialOf ty nolen ?_)
  show wpAny _ A.in1 (specialOf (Value.ref z) (Str.ofString "__length_hint__") >>= _) _ _ _
  refine wpAny_bind (wpAny_specialOf ty nohint ?_)
  refine wpAny_pure ?_
  dsimp only
  rw [if_pos (by decide)]
  refine wpAny_bind (wpAny_rule (wpAny_bind ?_))
  show wpAny _ _ (updateSeq S (fun x => x.push .none) >>= fun _ => updateSeq S fun x => x.pop) _ _ s
  have e1 := Heap.get?_update_self (Obj.mapSeq (fun x => x.push Value.none)) hS rfl
  have oth1 : ∀ b o, b ≠ S → s.heap.get? b = some o → (s.heap.update S (Obj.mapSeq (fun x => x.push Value.none))).get? b = some o := fun b o hb e => (Heap.get?_update_other _ _ (Ne.symm hb)).trans e
  have z1 : (s.heap.update S (Obj.mapSeq (fun x => x.push Value.none))).objs.size = s.heap.objs.size := (Heap.SameBut.update ..).1
  refine wpAny_bind (wpAny_updateSeq hS rfl ?_ (by show 0 ≤ sizeLine; exact Nat.zero_le _) (by show 1 ≤ sizeLine + 1; omega))
  generalize hg1 : s.heap.update S (Obj.mapSeq (fun x => x.push Value.none)) = g1 at e1 oth1 z1
  refine wpAny_updateSeq (s := { s with heap := g1 }) e1 rfl ?_ (by show 1 ≤ sizeLine; rw [sizeLine_eq]; decide) (by show 0 ≤ sizeLine + 1; omega)
  have e2 := Heap.get?_update_self (Obj.mapSeq (fun x => x.pop)) e1 rfl
  have oth2 : ∀ b o, b ≠ S → g1.get? b = some o → (g1.update S (Obj.mapSeq (fun x => x.pop))).get? b = some o := fun b o hb e => (Heap.get?_update_other _ _ (Ne.symm hb)).trans e
  have z2 : (g1.update S (Obj.mapSeq (fun x => x.pop))).objs.size = g1.objs.size := (Heap.SameBut.update ..).1
  generalize hg2 : g1.update S (Obj.mapSeq (fun x => x.pop)) = g2 at e2 oth2 z2
  refine wpAny_pure ⟨plainId_quiet F.plain_extend_loop _, ?_⟩
  have N2 : New g2 z TI TO i1 i2 l1 l2 xs ys := N.keep fun b o e hb => by
    have nb : b ≠ S := by
      rcases hb with rfl | rfl | rfl | rfl | rfl | rfl | rfl
      · exact Ne.symm U.Sz
      · exact Ne.symm U.STI
      · exact Ne.symm U.STO
      · exact Ne.symm U.Si1
      · exact Ne.symm U.Si2
      · exact Ne.symm U.Sl1
      · exact Ne.symm U.Sl2
    exact oth2 b o nb (oth1 b o nb e)
  exact loop (s := s) (h₁ := s.heap) hh U hn hxy res hR xs.size 0 g2 s.toks _ #[] [] (Nat.sub_zero _) (Nat.zero_le _) (by rw [z2, z1]; exact hlo) ⟨.inl ⟨rfl, N2.hz⟩, N2.hI, N2.hO, N2.h1, N2.h2, N2.hl1, N2.hl2, rfl, ⟨List.Pairwise.nil, fun _ h => absurd h (by simp), fun j a hj => by simp at hj⟩⟩ (fun b o n1 _ _ _ _ e => oth2 b o n1 (oth1 b o n1 e)) e2 rfl
theorem init {R : Result → Shared → Prop} {z TI TO i1 i2 l1 l2 S : Addr} {lo : Nat} {xs ys : Array Value} (hh : A.handled = none) (U : Und z TI TO i1 i2 l1 l2 S lo) (N : New s.heap z TI TO i1 i2 l1 l2 xs ys) (hn : xs.size ≤ sizeLine) (hxy : ys.size = xs.size) (hlo : lo ≤ s.heap.objs.size) (hS : s.heap.get? S = some { cls := .type "list", data := .seq #[] })
    (hR : ∀ h' tk acc c as, (∀ b o, b ≠ S → b ≠ z → b ≠ TO → b ≠ i1 → b ≠ i2 → s.heap.get? b = some o → h'.get? b = some o) → h'.get? S = some { cls := .type "list", data := .seq acc c } → acc.toList = as.map .ref → as.length = xs.size → ZGot h' lo xs ys as → R (.ok (.ret .none)) { s with heap := h', toks := tk }) :
    wpAny (model prog w) A.in1 (Builtin.«list.__init__» ⟨[.ref S, .ref z], []⟩)
      (fun fin s' => match fin with | .done f => R (.ok f) s' | .again c' => c'.quiet = true ∧ codeAny (model prog w) A c' R s') (fun e s' => R (.error e) s') s := by
  show wpAny _ _ (do let old ← Builtin.List.listItems (.ref S); Builtin.List.listUpdate (.ref S) (fun _ => #[]); letGo old.toList.reverse; Builtin.List.listExtendWith (.ref S) (.ref z) .none) _ _ s
  refine wpAny_bind ?_
  unfold Builtin.List.listItems
  refine wpAny_bind (wpAny_seqItems hS rfl (wpAny_pure ?_))
  show wpAny _ _ (updateSeq S (fun _ => #[]) >>= fun _ => letGo (#[] : Array Value).toList.reverse >>= fun _ => Builtin.List.listExtendWith (.ref S) (.ref z) .none) _ _ s
  refine wpAny_bind (wpAny_updateSeq hS rfl ?_)
  have hS2 := Heap.get?_update_self (Obj.mapSeq (fun _ => (#[] : Array Value))) hS rfl
  have oth : ∀ b o, b ≠ S → s.heap.get? b = some o → (s.heap.update S (Obj.mapSeq (fun _ => (#[] : Array Value)))).get? b = some o := fun b o hb e => (Heap.get?_update_other _ _ (Ne.symm hb)).trans e
  have es : (s.heap.update S (Obj.mapSeq (fun _ => (#[] : Array Value)))).objs.size = s.heap.objs.size := (Heap.SameBut.update ..).1
  refine wpAny_bind (wpAny_letGo ?_)
  refine extend (s := { s with heap := _ }) hh U (N.keep fun b o e hb => oth b o ?_ e) hn hxy (by show lo ≤ (s.heap.update S _).objs.size; rw [es]; exact hlo) .none hS2 fun h' tk acc c as k a1 a2 a3 a4 => hR h' tk acc c as (fun b o n1 n2 n3 n4 n5 e => k b o n1 n2 n3 n4 n5 (oth b o n1 e)) a1 a2 a3 a4
  rcases hb with rfl | rfl | rfl | rfl | rfl | rfl | rfl
  · exact Ne.symm U.Sz
  · exact Ne.symm U.STI
  · exact Ne.symm U.STO
  · exact Ne.symm U.Si1
  · exact Ne.symm U.Si2
  · exact Ne.symm U.Sl1
  · exact Ne.symm U.Sl2
theorem call_list {Q : Value → Shared → Prop} {z TI TO i1 i2 l1 l2 : Addr} {xs ys : Array Value} (hh : A.handled = none) (N : New s.heap z TI TO i1 i2 l1 l2 xs ys) (hn : xs.size ≤ sizeLine) (hxy : ys.size = xs.size)
    (hQ : ∀ h' tk acc c as, (∀ b o, b ≠ z → b ≠ TO → b ≠ i1 → b ≠ i2 → s.heap.get? b = some o → h'.get? b = some o) → h'.get? s.heap.objs.size = some { cls := .type "list", data := .seq acc c } → acc.toList = as.map .ref → as.length = xs.size → ZGot h' (s.heap.objs.size + 1) xs ys as → Q (.ref s.heap.objs.size) { s with heap := h', toks := tk }) :
    wpAny (model prog w) A (call (.type "list") [.ref z]) Q E s := by
  have lz := get_lt N.hz
  have lTI := get_lt N.hI
  obtain ⟨pa, pb, eO⟩ := N.hO
  have lTO := get_lt eO
  have li1 : i1 < s.heap.objs.size := let ⟨o, e, _⟩ := N.h1; get_lt e
  have li2 : i2 < s.heap.objs.size := let ⟨o, e, _⟩ := N.h2; get_lt e
  have ll1 : l1 < s.heap.objs.size := let ⟨o, e, _⟩ := N.hl1; get_lt e
  have ll2 : l2 < s.heap.objs.size := let ⟨o, e, _⟩ := N.hl2; get_lt e
  refine callType_codes (Q₁ := fun obj s₁ => obj = .ref s.heap.objs.size ∧ s₁ = { s with heap := s.heap.push { cls := .type "list", data := .seq #[] } }) F.called_list (F.typeCall_list_1 _) F.entry_list_init (code_list_new _ ⟨rfl, rfl⟩) fun obj s₁ h₁ => ?_
  obtain ⟨rfl, rfl⟩ := h₁
  have hS : (s.heap.push { cls := .type "list", data := .seq #[] }).get? s.heap.objs.size = some { cls := .type "list", data := .seq #[] } := Heap.get?_push_size _ rfl
  have up : ∀ {b : Addr}, b < s.heap.objs.size → b < s.heap.objs.size + 1 := fun h => Nat.lt_succ_of_lt h
  have ne : ∀ {b : Addr}, b < s.heap.objs.size → s.heap.objs.size ≠ b := fun h => Nat.ne_of_gt h
  have U : Und z TI TO i1 i2 l1 l2 s.heap.objs.size (s.heap.objs.size + 1) := ⟨N.ap, ne lz, ne lTI, ne lTO, ne li1, ne li2, ne ll1, ne ll2, up lz, up lTO, up li1, up li2, Nat.lt_succ_self _⟩
  have sz : (s.heap.push { cls := .type "list", data := .seq #[] }).objs.size = s.heap.objs.size + 1 := by simp [Heap.push]
  refine ⟨⟨_, hS, rfl⟩, F.args_list_init_2 _ _, init (A := A.in1) (s := { s with heap := _ }) hh U (N.keep fun b o e _ => Heap.get?_push_of_some _ e) hn hxy (Nat.le_of_eq sz.symm) hS fun h' tk acc c as k a1 a2 a3 a4 => ?_⟩
  exact ⟨rfl, hQ h' tk acc c as (fun b o n2 n3 n4 n5 e => k b o (Nat.ne_of_lt (get_lt e)) n2 n3 n4 n5 (Heap.get?_push_of_some _ e)) a1 a2 a3 a4⟩
end
end ZP
end L2
set_option Elab.async false
set_option linter.all false
set_option maxRecDepth 100000
set_option maxHeartbeats 1000000
namespace L2
open PySem PySem.Spec PyProof.Rows
theorem vals_refs : ∀ as : List Addr, Vals (as.map V.ref) (as.map Value.ref)
  | [] => .nil
  | _ :: as => .cons rfl (vals_refs as)
theorem tracks {X : Cx} {pins : List (Addr × Obj)} {σ : St} {s0 s : Shared} {H0 : Hp} (I0 : Inv X pins σ H0 s0) : ∀ (as : List Addr) (xs ys : List V) (H : Hp), Inv X pins σ H s → as.Pairwise (· < ·) → (∀ a ∈ as, s0.heap.objs.size ≤ a ∧ H a = none) → as.length = xs.length → as.length = ys.length →
    (∀ (j : Nat) (a : Addr) (x y : V), as[j]? = some a → xs[j]? = some x → ys[j]? = some y → ∃ u v, RelV x u ∧ RelV y v ∧ s.heap.IsTuple a #[u, v]) →
    ∃ H2, Inv X pins σ H2 s ∧ Same H H2 ∧ (∀ b, b ∉ as → H2 b = H b) ∧ ∀ (j : Nat) (a : Addr) (x y : V), as[j]? = some a → xs[j]? = some x → ys[j]? = some y → H2 a = some (.tup [x, y])
  | [], _, _, H, I, _, _, _, _, _ => ⟨H, I, Same.refl _, fun _ _ => rfl, fun j a x y h => by simp at h⟩
  | a :: as, [], _, H, I, _, _, h, _, _ => by simp at h
  | a :: as, _, [], H, I, _, _, _, h, _ => by simp at h
  | a :: as, x :: xs, y :: ys, H, I, pw, fr, l1, l2, ht => by
    obtain ⟨u, v, ru, rv, o, e, c⟩ := ht 0 a x y rfl rfl rfl
    have fa := fr a (List.mem_cons_self ..)
    have pw' := List.pairwise_cons.mp pw
    have na : a ∉ as := fun h => Nat.lt_irrefl _ (pw'.1 a h)
    have I1 : Inv X pins σ (upd H a (.tup [x, y])) s := I.track (I0.fpN (Heap.get?_none_of_le fa.1) fa.2) ⟨two_le, [u, v], .cons ru (.cons rv .nil), o, e, c⟩
    obtain ⟨H2, I2, s2, o2, g2⟩ := tracks I0 as xs ys (upd H a (.tup [x, y])) I1 pw'.2 (fun b hb => ⟨(fr b (List.mem_cons_of_mem _ hb)).1, by rw [upd_ne (fun z : b = a => na (by rw [← z]; exact hb))]; exact (fr b (List.mem_cons_of_mem _ hb)).2⟩) (by simpa using l1) (by simpa using l2) fun j b x' y' h1 h2 h3 => ht (j + 1) b x' y' (by simpa using h1) (by simpa using h2) (by simpa using h3)
    refine ⟨H2, I2, fun b ob h => s2 b ob (by rw [upd_ne (ne_of_none h fa.2)]; exact h), fun b hb => ?_, fun j b x' y' h1 h2 h3 => ?_⟩
    · rw [o2 b fun z => hb (List.mem_cons_of_mem _ z), upd_ne (fun z : b = a => hb (by rw [z]; exact List.mem_cons_self ..))]
    · cases j with
      | zero =>
        have e1 : a = b := by simpa using h1
        have e2 : x = x' := by simpa using h2
        have e3 : y = y' := by simpa using h3
        subst e1 e2 e3
        exact s2 a _ upd_same
      | succ j => exact g2 j b x' y' (by simpa using h1) (by simpa using h2) (by simpa using h3)
noncomputable def ZipAt (K : PySem.W.Frag) (Q : VK) (x y : V) (H : Hp) : Prop := ∃ a b xs ys, x = .ref a ∧ y = .ref b ∧ SqL K H a xs ∧ SqL K H b ys ∧ xs.length = ys.length ∧
  ∀ (D : Addr) (ps : List Addr) (H3 : Hp), H D = none → Same H H3 → H3 D = some (.lst (ps.map V.ref)) → ps.length = xs.length → (∀ (j : Nat) (p : Addr) (x y : V), ps[j]? = some p → xs[j]? = some x → ys[j]? = some y → H3 p = some (.tup [x, y])) → Q (.ref D) H3
noncomputable def tZip (K : PySem.W.Frag) (t1 t2 : TE) : TE := fun σ H Q => t1 σ H fun x H1 => t2 σ H1 fun y H2 => ZipAt K Q x y H2
theorem s_zip {K : PySem.W.Frag} {t1 t2 : TE} {σ : St} {H : Hp} {Q : VK} (h : t1 σ H fun x H1 => t2 σ H1 fun y H2 => ZipAt K Q x y H2) : tZip K t1 t2 σ H Q := h
section
variable {X : Cx}
theorem ev_zip {K : PySem.W.Frag} {e1 e2 : Expr} {t1 t2 : TE} {p1 p2 : Pos} {pins : List (Addr × Obj)} {s : Shared} {σ : St} {H : Hp} {Q : VK} (hK : X.K = K) (g2 : Gl X "zip") (n2 : X.mg "zip" = none) (he1 : PE X e1 t1) (he2 : PE X e2 t2) (h2 : starEach [e1, e2] X.env = (false, eval e1 X.env) :: starEach [e2] X.env) (h3 : starEach [e2] X.env = [(false, eval e2 X.env)])
    (I : Inv X pins σ H s) (h : tZip K t1 t2 σ H Q) (Q' : Value → Shared → Prop)
    (hQ : ∀ (s1 : Shared) (h' : Heap) (H1 : Hp) (a b : Addr) (xs ys : List V) (its jts : List Value), Inv X pins σ H1 s1 → Vals xs its → Vals ys jts → its.length ≤ sizeLine → xs.length = ys.length → h'.objs.size = s1.heap.objs.size + 5 → (∀ c o, s1.heap.get? c = some o → h'.get? c = some o) →
      ZP.New h' (s1.heap.objs.size + 4) (s1.heap.objs.size + 2) (s1.heap.objs.size + 3) s1.heap.objs.size (s1.heap.objs.size + 1) a b its.toArray jts.toArray →
      (∀ (D : Addr) (ps : List Addr) (H3 : Hp), H1 D = none → Same H1 H3 → H3 D = some (.lst (ps.map V.ref)) → ps.length = xs.length → (∀ (j : Nat) (p : Addr) (x y : V), ps[j]? = some p → xs[j]? = some x → ys[j]? = some y → H3 p = some (.tup [x, y])) → Q (.ref D) H3) →
      Q' (.ref (s1.heap.objs.size + 4)) { s1 with heap := h' }) :
    wpAny (model X.prog X.w) X.A (eval (.Call (.Name "zip" p1) [e1, e2] [] p2) X.env) Q' X.xe s := by
  subst hK
  refine Call_ (ld_blt I g2 n2 PyProof.Rows.boot_zip (PyProof.Rows.callWith_type1 (thn (pa_cons he1 (pa_cons he2 pa_nil h3) h2 p2 pins s σ H (fun vs H1 => match vs with | [x, y] => ZipAt X.K Q x y H1 | _ => False) I h) fun us s1 ⟨vs, H1, I1, r1, q1⟩ => ?_) h2 (by rw [h3]; rfl)))
  match vs, r1, q1 with
  | [x, y], r1, q1 =>
  obtain ⟨a, b, xs, ys, ex, ey, sa, sb, hl, q⟩ := q1
  subst ex ey
  cases r1 with
  | cons rx r2 =>
  cases r2 with
  | cons ry r3 =>
  cases r3
  cases rx
  cases ry
  obtain ⟨its, ra, pa, hza⟩ := I1.list sa
  obtain ⟨jts, rb, pb, hzb⟩ := I1.list sb
  have la : a < s1.heap.objs.size := let ⟨o, e, _⟩ := pa.isList; Heap.lt_size e
  have lb : b < s1.heap.objs.size := let ⟨o, e, _⟩ := pb.isList; Heap.lt_size e
  refine call_zip_2 pa.isList pb.isList fun h' z1 z2 z3 z4 z5 hsz k => ?_
  exact hQ s1 h' H1 a b xs ys its jts I1 ra rb (by rw [← ra.length]; exact hza) hl hsz k ⟨zipApart_new la lb, z1, z2, ⟨_, _, z3⟩, z4, z5, let ⟨o, e, c⟩ := pa.isList; ⟨o, k _ o e, c⟩, let ⟨o, e, c⟩ := pb.isList; ⟨o, k _ o e, c⟩⟩ q
theorem pe_listzip {K : PySem.W.Frag} {e1 e2 : Expr} {t1 t2 : TE} {p1 p2 q1 q2 : Pos} (hK : X.K = K) (hc : X.calm = true) (g1 : Gl X "list") (g2 : Gl X "zip") (n1 : X.mg "list" = none) (n2 : X.mg "zip" = none) (he1 : PE X e1 t1) (he2 : PE X e2 t2)
    (h1 : starEach [Expr.Call (.Name "zip" p1) [e1, e2] [] p2] X.env = [(false, eval (.Call (.Name "zip" p1) [e1, e2] [] p2) X.env)] := by rfl) (h2 : starEach [e1, e2] X.env = (false, eval e1 X.env) :: starEach [e2] X.env := by rfl) (h3 : starEach [e2] X.env = [(false, eval e2 X.env)] := by rfl) :
    PE X (.Call (.Name "list" q1) [.Call (.Name "zip" p1) [e1, e2] [] p2] [] q2) (tZip K t1 t2) := by
  intro pins s σ H Q I h
  refine Call_ (ld_blt I g1 n1 PyProof.Rows.boot_list (PyProof.Rows.callWith_type1 (Q := EP X pins σ Q) ?_ h1 rfl))
  rw [h1]
  show wpAny _ _ (spliced ((false, eval (.Call (.Name "zip" p1) [e1, e2] [] p2) X.env) :: backTo q2 [])) _ _ s
  refine Calls.spliced_cons (ev_zip hK g2 n2 he1 he2 h2 h3 I h _ fun s1 h' H1 a b xs ys its jts I1 ra rb hza hl hsz k N q => Calls.spliced_nil ?_)
  have hlj : jts.toArray.size = its.toArray.size := by have := ra.length; have := rb.length; simp; omega
  refine ZP.call_list (s := { s1 with heap := h' }) (I1.ok.hd hc) N (by simpa using hza) hlj fun h2 tk acc c as kk hD hacc hlen G => ?_
  have kk2 : ∀ b o, s1.heap.get? b = some o → h2.get? b = some o := fun b o e => by
    have lt := Heap.lt_size e
    exact kk b o (Nat.ne_of_lt (Nat.lt_of_lt_of_le lt (Nat.le_add_right _ _))) (Nat.ne_of_lt (Nat.lt_of_lt_of_le lt (Nat.le_add_right _ _))) (Nat.ne_of_lt lt) (Nat.ne_of_lt (Nat.lt_of_lt_of_le lt (Nat.le_add_right _ _))) (k b o e)
  have I2 : Inv X pins σ H1 { s1 with heap := h2, toks := tk } := I1.kept (t' := tk) kk2
  have lx : as.length = xs.length := by rw [hlen, ra.length]; simp
  have fra : ∀ p ∈ as, s1.heap.objs.size ≤ p ∧ H1 p = none := fun p hp => by
    have h0 : s1.heap.objs.size ≤ p := Nat.le_trans (by show s1.heap.objs.size ≤ h'.objs.size + 1; rw [hsz]; exact Nat.le_trans (Nat.le_add_right _ _) (Nat.le_succ _)) (G.above p hp).1
    exact ⟨h0, I1.hok.fresh h0⟩
  obtain ⟨H3, I3, s3, o3, g3⟩ := tracks I1 as xs ys H1 I2 G.rise fra lx (lx.trans hl) fun j p x y hp hx hy => by
    obtain ⟨u, v, hu, hv, ht⟩ := G.pairs j p hp
    rw [List.getElem?_toArray] at hu hv
    obtain ⟨u', eu, ru⟩ := ra.get hx
    obtain ⟨v', ev, rv⟩ := rb.get hy
    rw [eu] at hu; cases hu
    rw [ev] at hv; cases hv
    exact ⟨u, v, ru, rv, ht⟩
  have le5 : s1.heap.objs.size ≤ h'.objs.size := by rw [hsz]; exact Nat.le_add_right _ _
  have fD : H1 h'.objs.size = none := I1.hok.fresh le5
  have nD : h'.objs.size ∉ as := fun z => Nat.not_succ_le_self _ (G.above _ z).1
  have fD3 : H3 h'.objs.size = none := by rw [o3 _ nD]; exact fD
  have hDn : s1.heap.get? h'.objs.size = none := Heap.get?_none_of_le le5
  have I4 : Inv X pins σ (upd H3 h'.objs.size (.lst (as.map V.ref))) { s1 with heap := h2, toks := tk } := I3.track (I1.fpN hDn fD3) ⟨by rw [List.length_map, lx, ra.length]; exact hza, as.map .ref, c, vals_refs as, by rw [← hacc]; exact hD⟩
  refine ⟨.ref h'.objs.size, _, I4, rfl, q h'.objs.size as _ fD (fun b ob e => ?_) upd_same lx fun j p x y hp hx hy => ?_⟩
  · rw [upd_ne (ne_of_none (s3 b ob e) fD3)]; exact s3 b ob e
  · have := g3 j p x y hp hx hy
    rw [upd_ne (ne_of_none this fD3)]; exact this
end
end L2
set_option Elab.async false
set_option linter.all false
set_option maxRecDepth 100000
set_option maxHeartbeats 1000000
namespace L2
open PySem PySem.Spec PyProof.Rows
structure FunD (K : PySem.W.Frag) (x qual : Str) (st : Stmt) (f : Addr) (fd : FuncData) (dv : Value) : Prop where
  ex : ∃ (oc : Value) (od : Option Addr) (T : Addr) (kV doc pm : Value) (an : Option Addr) (cdv ct : Value) (osl : Array (Option Value)) (tc : Value) (td : Option Addr) (n : Nat) (tsl : Array (Option Value)),
    fd = PySem.W.fnOf x qual (defArgs st) (defBody st) (defScope st) (.ref T) kV doc pm an cdv ct ∧ K.lookup f = some ⟨oc, od, .func fd, osl⟩ ∧ PySem.W.codeIn K cdv qual = true ∧ K.lookup T = some ⟨tc, td, .seq #[dv] n, tsl⟩
  kp : PySem.W.keepIn K (.ref f) = true
section
variable {σ : St} {H : Hp} {Q : VK} {te : TE}
noncomputable def MethXAt (C : Addr) (m : Str) (sp : Sp) (dvs : List V) (W : XW) (tr : TA) (σ : St) (Q : VK) (x : V) (H : Hp) : Prop := ∃ a dx fs, x = .ref a ∧ H a = some (.ins C dx fs) ∧ fs.lookup m = none ∧ tr σ H fun vs H2 => sp (x :: (vs ++ dvs)) H2 Q (W σ)
theorem s_methX {C : Addr} {m : Str} {sp : Sp} {dvs : List V} {W : XW} {tr : TA} (h : te σ H (MethXAt C m sp dvs W tr σ Q)) : tMethX C m sp dvs W te tr σ H Q := h
theorem s_methXAt {C dx p : Addr} {m : Str} {fs : List (Str × V)} {sp : Sp} {dvs : List V} {W : XW} {tr : TA} (e : H p = some (.ins C dx fs)) (l : fs.lookup m = none) (h : tr σ H fun vs H2 => sp (.ref p :: (vs ++ dvs)) H2 Q (W σ)) : MethXAt C m sp dvs W tr σ Q (.ref p) H := ⟨p, dx, fs, rfl, e, l, h⟩
end
end L2
set_option Elab.async false
set_option linter.all false
set_option maxRecDepth 100000
set_option maxHeartbeats 4000000
namespace L2
open PySem PySem.Spec PyProof.Rows
end L2
set_option Elab.async false
set_option linter.all false
set_option maxRecDepth 100000
set_option maxHeartbeats 4000000
namespace L2
open PySem PySem.Spec PyProof.Rows
end L2
set_option autoImplicit false
namespace M
theorem half_or (a b : Nat) : (a ||| b) / 2 = a / 2 ||| b / 2 := by
  apply Nat.eq_of_testBit_eq; intro i
  simp [Nat.testBit_div_two, Nat.testBit_or]
theorem half_and (a b : Nat) : (a &&& b) / 2 = a / 2 &&& b / 2 := by
  apply Nat.eq_of_testBit_eq; intro i
  simp [Nat.testBit_div_two, Nat.testBit_and]
theorem half_xor (a b : Nat) : (a ^^^ b) / 2 = a / 2 ^^^ b / 2 := by
  apply Nat.eq_of_testBit_eq; intro i
  simp [Nat.testBit_div_two, Nat.testBit_xor]
theorem or_sum (a : Nat) : ∀ b : Nat, a ||| b = (a ^^^ b) + (a &&& b) := by
  induction a using Nat.strongRecOn with
  | ind a ih =>
    intro b
    by_cases ha : a = 0
    · subst ha; simp
    · have h := ih (a / 2) (by omega) (b / 2)
      have e1 := Nat.div_add_mod (a ||| b) 2
      have e2 := Nat.div_add_mod (a ^^^ b) 2
      have e3 := Nat.div_add_mod (a &&& b) 2
      rw [half_or] at e1
      rw [half_xor] at e2
      rw [half_and] at e3
      have m1 : (a ||| b) % 2 = (a % 2 ||| b % 2) := by have := @Nat.or_mod_two_pow a b 1; simpa using this
      have m2 : (a ^^^ b) % 2 = (a % 2 ^^^ b % 2) := by have := @Nat.xor_mod_two_pow a b 1; simpa using this
      have m3 : (a &&& b) % 2 = (a % 2 &&& b % 2) := by have := @Nat.and_mod_two_pow a b 1; simpa using this
      have c : (a % 2 ||| b % 2) = (a % 2 ^^^ b % 2) + (a % 2 &&& b % 2) := by
        rcases Nat.mod_two_eq_zero_or_one a with h1 | h1 <;> rcases Nat.mod_two_eq_zero_or_one b with h2 | h2 <;> rw [h1, h2] <;> decide
      omega
noncomputable def pb : Nat → Nat → Bool
  | 0, _ => false
  | w + 1, m => (m.testBit w) ^^ (pb w m)
theorem pb_xor (w a b : Nat) : pb w (a ^^^ b) = (pb w a ^^ pb w b) := by
  induction w with
  | zero => rfl
  | succ w ih =>
    simp only [pb, Nat.testBit_xor, ih]
    cases a.testBit w <;> cases b.testBit w <;> cases pb w a <;> cases pb w b <;> rfl
theorem pb_split (h j m : Nat) : pb (h + j) m = (pb h m ^^ pb j (m >>> h)) := by
  induction j with
  | zero => simp [pb]
  | succ j ih =>
    rw [Nat.add_succ]
    simp only [pb, ih, Nat.testBit_shiftRight]
    cases m.testBit (h + j) <;> cases pb h m <;> cases pb j (m >>> h) <;> rfl
theorem pb_low (h m : Nat) : pb h (m % 2 ^ h) = pb h m := by
  suffices ∀ j, j ≤ h → pb j (m % 2 ^ h) = pb j m from this h (Nat.le_refl h)
  intro j
  induction j with
  | zero => intro _; rfl
  | succ j ih =>
    intro hj
    simp only [pb]
    rw [ih (by omega), Nat.testBit_mod_two_pow]
    simp [show j < h by omega]
theorem pb_high (w j m : Nat) (hm : m < 2 ^ w) : pb (w + j) m = pb w m := by
  rw [pb_split, Nat.shiftRight_eq_div_pow, Nat.div_eq_of_lt hm]
  have : ∀ j, pb j 0 = false := by intro j; induction j with
    | zero => rfl
    | succ j ih => simp [pb, ih]
  rw [this]; simp
theorem pb_up {w w' m : Nat} (hm : m < 2 ^ w) (h : w ≤ w') : pb w' m = pb w m := by
  obtain ⟨j, rfl⟩ := Nat.exists_eq_add_of_le h
  exact pb_high w j m hm
theorem pb_fold (w h m : Nat) (hw : h ≤ w) (hm : m < 2 ^ w) (h2 : w ≤ 2 * h) : pb h ((m >>> h) ^^^ (m &&& (2 ^ h - 1))) = pb w m := by
  rw [Nat.and_two_pow_sub_one_eq_mod, pb_xor, pb_low]
  obtain ⟨j, rfl⟩ := Nat.exists_eq_add_of_le hw
  rw [pb_split]
  have hlt : m >>> h < 2 ^ j := by
    rw [Nat.shiftRight_eq_div_pow]
    exact Nat.div_lt_of_lt_mul (by rw [← Nat.pow_add]; exact hm)
  rw [pb_up hlt (show j ≤ h by omega)]
  cases pb j (m >>> h) <;> cases pb h m <;> rfl
theorem fold_lt (w h m : Nat) (hm : m < 2 ^ w) (h2 : w ≤ 2 * h) : (m >>> h) ^^^ (m &&& (2 ^ h - 1)) < 2 ^ h := by
  apply Nat.xor_lt_two_pow
  · rw [Nat.shiftRight_eq_div_pow]
    refine Nat.div_lt_of_lt_mul ?_
    rw [← Nat.pow_add]
    exact Nat.lt_of_lt_of_le hm (Nat.pow_le_pow_right (by decide) (by omega))
  · rw [Nat.and_two_pow_sub_one_eq_mod]
    exact Nat.mod_lt _ (Nat.two_pow_pos h)
noncomputable def pl (w m : Nat) : List Nat := (List.range w).filter m.testBit
theorem pl_up {w w' m : Nat} (hm : m < 2 ^ w) (h : w ≤ w') : pl w' m = pl w m := by
  obtain ⟨j, rfl⟩ := Nat.exists_eq_add_of_le h
  unfold pl
  rw [List.range_add, List.filter_append]
  have : List.filter m.testBit (List.map (fun x => w + x) (List.range j)) = [] := by
    rw [List.filter_eq_nil_iff]
    intro a ha
    obtain ⟨k, _, rfl⟩ := List.mem_map.mp ha
    rw [Nat.testBit_lt_two_pow (Nat.lt_of_lt_of_le hm (Nat.pow_le_pow_right (by decide) (Nat.le_add_right w k)))]
    simp
  rw [this, List.append_nil]
noncomputable def xm (ps : List Nat) : Nat := ps.foldl (fun a p => a ^^^ 2 ^ p) 0
theorem xm_from (ps : List Nat) : ∀ (a k : Nat), (ps.foldl (fun a p => a ^^^ 2 ^ p) a).testBit k = (a.testBit k ^^ (ps.count k % 2 == 1)) := by
  induction ps with
  | nil => intro a k; simp
  | cons p ps ih =>
    intro a k
    rw [List.foldl_cons, ih, Nat.testBit_xor, Nat.testBit_two_pow, List.count_cons]
    by_cases h : p = k
    · subst h
      simp only [decide_true, beq_self_eq_true, if_true]
      rcases Nat.mod_two_eq_zero_or_one (List.count p ps) with z | z
      · have e : (List.count p ps + 1) % 2 = 1 := by omega
        rw [z, e]; cases a.testBit p <;> rfl
      · have e : (List.count p ps + 1) % 2 = 0 := by omega
        rw [z, e]; cases a.testBit p <;> rfl
    · have hb : (p == k) = false := beq_eq_false_iff_ne.mpr h
      simp [hb, h]
theorem xm_bit (ps : List Nat) (k : Nat) : (xm ps).testBit k = (ps.count k % 2 == 1) := by
  unfold xm; rw [xm_from]; simp
theorem count_filter_range (w k : Nat) (p : Nat → Bool) : ((List.range w).filter p).count k = if k < w ∧ p k = true then 1 else 0 := by
  have nd : ((List.range w).filter p).Nodup := List.Pairwise.filter p List.nodup_range
  by_cases h : k < w ∧ p k = true
  · rw [if_pos h]
    have hm : k ∈ (List.range w).filter p := List.mem_filter.mpr ⟨List.mem_range.mpr h.1, h.2⟩
    exact List.Nodup.count nd |>.trans (by rw [if_pos hm])
  · rw [if_neg h]
    refine List.count_eq_zero.mpr fun hm => h ?_
    obtain ⟨a, b⟩ := List.mem_filter.mp hm
    exact ⟨List.mem_range.mp a, b⟩
theorem pl_count (w m k : Nat) : (pl w m).count k = if k < w ∧ m.testBit k = true then 1 else 0 := count_filter_range w k m.testBit
theorem xm_ext {w m : Nat} {ps : List Nat} (hm : m < 2 ^ w) (h : ∀ k, ps.count k % 2 = (pl w m).count k % 2) : xm ps = m := by
  apply Nat.eq_of_testBit_eq; intro k
  rw [xm_bit, h, pl_count]
  by_cases hk : k < w
  · cases e : m.testBit k <;> simp [hk, e]
  · rw [Nat.testBit_lt_two_pow (Nat.lt_of_lt_of_le hm (Nat.pow_le_pow_right (by decide) (Nat.not_lt.mp hk)))]
    simp [hk]
end M
set_option autoImplicit false
namespace M
noncomputable def Span : List Nat → Nat → Prop
  | [], x => x = 0
  | r :: rs, x => Span rs x ∨ Span rs (x ^^^ r)
theorem xor_cancel (x r : Nat) : x ^^^ r ^^^ r = x := by rw [Nat.xor_assoc, Nat.xor_self, Nat.xor_zero]
theorem xor_right_comm' (a b c : Nat) : a ^^^ b ^^^ c = a ^^^ c ^^^ b := by rw [Nat.xor_assoc, Nat.xor_comm b c, ← Nat.xor_assoc]
theorem span_snoc : ∀ (rs : List Nat) (r x : Nat), Span (rs ++ [r]) x ↔ Span rs x ∨ Span rs (x ^^^ r)
  | [], r, x => Iff.rfl
  | q :: rs, r, x => by
    show Span (rs ++ [r]) x ∨ Span (rs ++ [r]) (x ^^^ q) ↔ (Span rs x ∨ Span rs (x ^^^ q)) ∨ (Span rs (x ^^^ r) ∨ Span rs (x ^^^ r ^^^ q))
    rw [span_snoc rs r x, span_snoc rs r (x ^^^ q), xor_right_comm' x q r]
    constructor
    · rintro ((h | h) | (h | h))
      · exact .inl (.inl h)
      · exact .inr (.inl h)
      · exact .inl (.inr h)
      · exact .inr (.inr h)
    · rintro ((h | h) | (h | h))
      · exact .inl (.inl h)
      · exact .inr (.inl h)
      · exact .inl (.inr h)
      · exact .inr (.inr h)
theorem span_xor : ∀ {rs : List Nat} {x y : Nat}, Span rs x → Span rs y → Span rs (x ^^^ y)
  | [], x, y, h, k => by
    have h : x = 0 := h
    have k : y = 0 := k
    subst h; subst k; exact rfl
  | r :: rs, x, y, h, k => by
    rcases h with h | h <;> rcases k with k | k
    · exact .inl (span_xor h k)
    · refine .inr ?_
      have := span_xor h k
      rwa [← Nat.xor_assoc] at this
    · refine .inr ?_
      have := span_xor h k
      rwa [xor_right_comm'] at this
    · refine .inl ?_
      have := span_xor h k
      rwa [← Nat.xor_assoc, xor_right_comm' x r y, xor_cancel] at this
noncomputable def sm : List Nat → Nat → Nat
  | [], _ => 0
  | r :: rs, p => (if p.testBit 0 then r else 0) ^^^ sm rs (p / 2)
theorem sm_zero : ∀ rs : List Nat, sm rs 0 = 0
  | [] => rfl
  | r :: rs => by show (if (0 : Nat).testBit 0 then r else 0) ^^^ sm rs (0 / 2) = 0; rw [show (0 : Nat) / 2 = 0 from rfl, sm_zero rs]; simp
theorem xor4 (a b c d : Nat) : a ^^^ b ^^^ (c ^^^ d) = a ^^^ c ^^^ (b ^^^ d) := by
  rw [Nat.xor_assoc, ← Nat.xor_assoc b c d, Nat.xor_comm b c, Nat.xor_assoc c b d, ← Nat.xor_assoc a c]
theorem sm_xor : ∀ (rs : List Nat) (p q : Nat), sm rs (p ^^^ q) = sm rs p ^^^ sm rs q
  | [], p, q => by show (0 : Nat) = 0 ^^^ 0; simp
  | r :: rs, p, q => by
    show (if (p ^^^ q).testBit 0 then r else 0) ^^^ sm rs ((p ^^^ q) / 2) = ((if p.testBit 0 then r else 0) ^^^ sm rs (p / 2)) ^^^ ((if q.testBit 0 then r else 0) ^^^ sm rs (q / 2))
    rw [half_xor, sm_xor rs, Nat.testBit_xor, xor4]
    congr 1
    cases p.testBit 0 <;> cases q.testBit 0 <;> simp
theorem sm_snoc : ∀ (rs : List Nat) (r p : Nat), sm (rs ++ [r]) p = sm rs p ^^^ (if p.testBit rs.length then r else 0)
  | [], r, p => by show (if p.testBit 0 then r else 0) ^^^ 0 = 0 ^^^ _; rw [Nat.xor_zero, Nat.zero_xor]; rfl
  | q :: rs, r, p => by
    show (if p.testBit 0 then q else 0) ^^^ sm (rs ++ [r]) (p / 2) = ((if p.testBit 0 then q else 0) ^^^ sm rs (p / 2)) ^^^ _
    rw [sm_snoc rs r (p / 2), Nat.testBit_div_two, Nat.xor_assoc]
    rfl
theorem sm_snoc_lt {rs : List Nat} {r p : Nat} (h : p < 2 ^ rs.length) : sm (rs ++ [r]) p = sm rs p := by
  rw [sm_snoc, Nat.testBit_lt_two_pow h]; simp
theorem sm_top (rs : List Nat) (r : Nat) : sm (rs ++ [r]) (2 ^ rs.length) = r := by
  rw [sm_snoc]
  have e : sm rs (2 ^ rs.length) = 0 := by
    have : ∀ (rs : List Nat) (k : Nat), rs.length ≤ k → sm rs (2 ^ k) = 0 := by
      intro rs
      induction rs with
      | nil => intro k _; rfl
      | cons q rs ih =>
        intro k hk
        have hk : rs.length + 1 ≤ k := hk
        obtain ⟨j, rfl⟩ : ∃ j, k = j + 1 := ⟨k - 1, by omega⟩
        show (if (2 ^ (j + 1)).testBit 0 then q else 0) ^^^ sm rs (2 ^ (j + 1) / 2) = 0
        have e1 : (2 ^ (j + 1)) / 2 = 2 ^ j := by rw [Nat.pow_succ]; omega
        have e2 : (2 ^ (j + 1)).testBit 0 = false := by rw [Nat.testBit_two_pow]; simp
        rw [e1, e2, ih j (by omega)]
        simp
    exact this rs _ (Nat.le_refl _)
  rw [e, Nat.testBit_two_pow_self]; simp
theorem sm_span : ∀ (rs : List Nat) (p : Nat), Span rs (sm rs p)
  | [], p => rfl
  | r :: rs, p => by
    show Span rs _ ∨ Span rs _
    have ih := sm_span rs (p / 2)
    cases h : p.testBit 0 with
    | true => refine .inr ?_; rw [show sm (r :: rs) p = r ^^^ sm rs (p / 2) from by show (if p.testBit 0 then r else 0) ^^^ _ = _; rw [h]; rfl, Nat.xor_comm r, xor_cancel]; exact ih
    | false => refine .inl ?_; rw [show sm (r :: rs) p = sm rs (p / 2) from by show (if p.testBit 0 then r else 0) ^^^ _ = _; rw [h]; simp]; exact ih
theorem log2_of {x t : Nat} (h1 : 2 ^ t ≤ x) (h2 : x < 2 ^ (t + 1)) : x.log2 = t := by
  have hx : x ≠ 0 := by have := Nat.two_pow_pos t; omega
  have a := (Nat.log2_lt hx).mpr h2
  have b : t ≤ x.log2 := (Nat.le_log2 hx).mpr h1
  omega
theorem bit_log2 {x : Nat} (h : x ≠ 0) : x.testBit x.log2 = true := by
  have := Nat.testBit_log2 h
  exact this
theorem xor_lt_pow {x y t : Nat} (h1 : x < 2 ^ t) (h2 : y < 2 ^ t) : x ^^^ y < 2 ^ t := Nat.xor_lt_two_pow h1 h2
theorem xor_drop {x y : Nat} (hx : x ≠ 0) (hy : y ≠ 0) (h : x.log2 = y.log2) : x ^^^ y < 2 ^ x.log2 := by
  have h1 : x ^^^ y < 2 ^ (x.log2 + 1) := xor_lt_pow Nat.lt_log2_self (by rw [h]; exact Nat.lt_log2_self)
  have hb : (x ^^^ y).testBit x.log2 = false := by
    rw [Nat.testBit_xor, bit_log2 hx, show y.testBit x.log2 = true by rw [h]; exact bit_log2 hy]; rfl
  apply Nat.lt_pow_two_of_testBit
  intro i hi
  rcases Nat.lt_or_eq_of_le hi with hi | hi
  · exact Nat.testBit_lt_two_pow (Nat.lt_of_lt_of_le h1 (Nat.pow_le_pow_right (by decide) hi))
  · rw [← hi]; exact hb
theorem xor_less {x y : Nat} (hx : x ≠ 0) (hy : y ≠ 0) (h : x.log2 = y.log2) : x ^^^ y < x :=
  Nat.lt_of_lt_of_le (xor_drop hx hy h) (Nat.log2_self_le hx)
theorem log2_xor_lt {x y : Nat} (hy : y ≠ 0) (h : x < 2 ^ y.log2) : (x ^^^ y).log2 = y.log2 := by
  have h1 : x ^^^ y < 2 ^ (y.log2 + 1) := xor_lt_pow (Nat.lt_of_lt_of_le h (Nat.pow_le_pow_right (by decide) (by omega))) Nat.lt_log2_self
  have hb : (x ^^^ y).testBit y.log2 = true := by rw [Nat.testBit_xor, Nat.testBit_lt_two_pow h, bit_log2 hy]; rfl
  exact log2_of (Nat.ge_two_pow_of_testBit hb) h1
theorem log2_xor_ne {x y : Nat} (hx : x ≠ 0) (hy : y ≠ 0) (h : x.log2 ≠ y.log2) : (x ^^^ y).log2 = x.log2 ∨ (x ^^^ y).log2 = y.log2 := by
  rcases Nat.lt_or_gt_of_ne h with h | h
  · exact .inr (log2_xor_lt hy (Nat.lt_of_lt_of_le Nat.lt_log2_self (Nat.pow_le_pow_right (by decide) h)))
  · refine .inl ?_
    rw [Nat.xor_comm]
    exact log2_xor_lt hx (Nat.lt_of_lt_of_le Nat.lt_log2_self (Nat.pow_le_pow_right (by decide) h))
noncomputable def Fre (rows : List Nat) (i : Nat) : Prop := i < rows.length ∧ ¬ Span (rows.take i) (rows.getD i 0)
theorem Fre.snoc {rows : List Nat} {i : Nat} (r : Nat) (h : Fre rows i) : Fre (rows ++ [r]) i := by
  obtain ⟨hi, hn⟩ := h
  refine ⟨by rw [List.length_append]; omega, ?_⟩
  rw [List.take_append_of_le_length (Nat.le_of_lt hi), List.getD_eq_getElem?_getD, List.getElem?_append_left hi, ← List.getD_eq_getElem?_getD]
  exact hn
theorem Fre.last {rows : List Nat} {r : Nat} (h : ¬ Span rows r) : Fre (rows ++ [r]) rows.length := by
  refine ⟨by rw [List.length_append]; simp, ?_⟩
  rw [List.take_left, List.getD_eq_getElem?_getD, List.getElem?_append_right (Nat.le_refl _), Nat.sub_self]
  exact h
noncomputable def Frs (rows : List Nat) (q : Nat) : Prop := ∀ i, q.testBit i = true → Fre rows i
theorem Frs.zero (rows : List Nat) : Frs rows 0 := fun i h => by rw [Nat.zero_testBit] at h; cases h
theorem Frs.xor {rows : List Nat} {p q : Nat} (hp : Frs rows p) (hq : Frs rows q) : Frs rows (p ^^^ q) := fun i h => by
  rw [Nat.testBit_xor] at h
  cases h1 : p.testBit i with
  | true => exact hp i h1
  | false => rw [h1] at h; exact hq i (by simpa using h)
theorem Frs.snoc {rows : List Nat} {q : Nat} (r : Nat) (h : Frs rows q) : Frs (rows ++ [r]) q := fun i hi => (h i hi).snoc r
theorem Frs.more {rows : List Nat} {q r : Nat} (h : Frs rows q) (hr : ¬ Span rows r) : Frs (rows ++ [r]) (q ^^^ 2 ^ rows.length) := (h.snoc r).xor fun i hi => by
  rw [Nat.testBit_two_pow] at hi
  have e : rows.length = i := by simpa using hi
  rw [← e]; exact Fre.last hr
structure Ech (es : List (Nat × Nat)) (rows : List Nat) : Prop where
  nz : ∀ e ∈ es, e.1 ≠ 0
  lt : ∀ e ∈ es, e.2 < 2 ^ rows.length
  sm : ∀ e ∈ es, sm rows e.2 = e.1
  nd : (es.map fun e => e.1.log2).Nodup
  all : ∀ y, Span rows y → y ≠ 0 → ∃ e ∈ es, e.1.log2 = y.log2
  sub : ∀ e ∈ es, Frs rows e.2
theorem Ech.nil : Ech [] [] := ⟨fun _ h => absurd h (by simp), fun _ h => absurd h (by simp), fun _ h => absurd h (by simp), .nil, fun y h n => absurd h n, fun _ h => absurd h (by simp)⟩
theorem Ech.span {es : List (Nat × Nat)} {rows : List Nat} (I : Ech es rows) {e : Nat × Nat} (h : e ∈ es) : Span rows e.1 := by
  rw [← I.sm e h]; exact sm_span _ _
theorem sm_more {rows : List Nat} {r p : Nat} (h : p < 2 ^ rows.length) : sm (rows ++ [r]) (p ^^^ 2 ^ rows.length) = sm rows p ^^^ r := by
  rw [sm_xor, sm_snoc_lt h, sm_top]
theorem lt_more {n p : Nat} (h : p < 2 ^ n) : p ^^^ 2 ^ n < 2 ^ (n + 1) :=
  xor_lt_pow (Nat.lt_of_lt_of_le h (Nat.pow_le_pow_right (by decide) (by omega))) (Nat.pow_lt_pow_right (by decide) (by omega))
theorem Ech.null {es : List (Nat × Nat)} {rows : List Nat} (I : Ech es rows) {r q : Nat} (hq : q < 2 ^ rows.length) (e : r ^^^ M.sm rows q = 0) : Span rows r ∧ Ech es (rows ++ [r]) := by
  have hr : r = M.sm rows q := by
    have := congrArg (· ^^^ M.sm rows q) e
    simpa [xor_cancel] using this
  have hs : Span rows r := by rw [hr]; exact sm_span _ _
  refine ⟨hs, I.nz, fun e h => ?_, fun e h => ?_, I.nd, fun y hy n => ?_, fun e h => (I.sub e h).snoc r⟩
  · rw [List.length_append]; exact Nat.lt_of_lt_of_le (I.lt e h) (Nat.pow_le_pow_right (by decide) (by simp))
  · rw [sm_snoc_lt (I.lt e h)]; exact I.sm e h
  · rcases (span_snoc rows r y).mp hy with hy | hy
    · exact I.all y hy n
    · have := span_xor hy hs
      rw [xor_cancel] at this
      exact I.all y this n
theorem Ech.more {es : List (Nat × Nat)} {rows : List Nat} (I : Ech es rows) {r q : Nat} (hq : q < 2 ^ rows.length) (e : r ^^^ M.sm rows q ≠ 0) (hn : ∀ e ∈ es, e.1.log2 ≠ (r ^^^ M.sm rows q).log2) (hf : Frs rows q) :
    ¬ Span rows r ∧ Ech (es ++ [(r ^^^ M.sm rows q, q ^^^ 2 ^ rows.length)]) (rows ++ [r]) := by
  have hns : ¬ Span rows r := fun hs => by
    obtain ⟨x, hx, ex⟩ := I.all _ (span_xor hs (sm_span rows q)) e
    exact hn x hx ex
  refine ⟨hns, fun x h => ?_, fun x h => ?_, fun x h => ?_, ?_, fun y hy n => ?_, fun x h => (List.mem_append.mp h).elim (fun h => (I.sub x h).snoc r) fun h => by rw [List.mem_singleton] at h; subst h; exact hf.more hns⟩
  · rcases List.mem_append.mp h with h | h
    · exact I.nz x h
    · rw [List.mem_singleton] at h; subst h; exact e
  · rw [List.length_append]
    rcases List.mem_append.mp h with h | h
    · exact Nat.lt_of_lt_of_le (I.lt x h) (Nat.pow_le_pow_right (by decide) (by simp))
    · rw [List.mem_singleton] at h; subst h; exact lt_more hq
  · rcases List.mem_append.mp h with h | h
    · rw [sm_snoc_lt (I.lt x h)]; exact I.sm x h
    · rw [List.mem_singleton] at h; subst h
      show M.sm _ (q ^^^ _) = r ^^^ M.sm rows q
      rw [sm_more hq, Nat.xor_comm]
  · rw [List.map_append, List.nodup_append]
    refine ⟨I.nd, by simp, fun a ha b hb => ?_⟩
    obtain ⟨x, hx, rfl⟩ := List.mem_map.mp ha
    rw [List.map_singleton, List.mem_singleton] at hb
    subst hb
    exact hn x hx
  · rcases (span_snoc rows r y).mp hy with hy | hy
    · obtain ⟨x, hx, ex⟩ := I.all y hy n
      exact ⟨x, List.mem_append_left _ hx, ex⟩
    ·
      have hz := span_xor hy (sm_span rows q)
      have ey : y = (y ^^^ r ^^^ M.sm rows q) ^^^ (r ^^^ M.sm rows q) := by
        rw [xor4, Nat.xor_self, Nat.xor_zero, xor_cancel]
      generalize hz' : y ^^^ r ^^^ M.sm rows q = z at hz ey
      by_cases z0 : z = 0
      · refine ⟨_, List.mem_append_right _ (List.mem_singleton.mpr rfl), ?_⟩
        show (r ^^^ M.sm rows q).log2 = y.log2
        rw [ey, z0, Nat.zero_xor]
      · obtain ⟨x, hx, ex⟩ := I.all z hz z0
        have ne : z.log2 ≠ (r ^^^ M.sm rows q).log2 := by rw [← ex]; exact hn x hx
        rcases log2_xor_ne z0 e ne with h | h
        · exact ⟨x, List.mem_append_left _ hx, by rw [ex, ey, h]⟩
        · refine ⟨_, List.mem_append_right _ (List.mem_singleton.mpr rfl), ?_⟩
          show (r ^^^ M.sm rows q).log2 = y.log2
          rw [ey, h]
noncomputable def tt (p : Prop) : Bool := @decide p (Classical.propDecidable p)
theorem tt_pos {p : Prop} (h : p) : tt p = true := @decide_eq_true _ (Classical.propDecidable _) h
theorem tt_neg {p : Prop} (h : ¬ p) : tt p = false := @decide_eq_false _ (Classical.propDecidable _) h
noncomputable def fr (rows : List Nat) : List Nat := (List.range rows.length).filter fun i => !tt (Span (rows.take i) (rows.getD i 0))
theorem fr_snoc (rows : List Nat) (r : Nat) : fr (rows ++ [r]) = fr rows ++ (if tt (Span rows r) = true then [] else [rows.length]) := by
  unfold fr
  rw [List.length_append, List.length_singleton, List.range_succ, List.filter_append]
  have e1 : (List.range rows.length).filter (fun i => !tt (Span ((rows ++ [r]).take i) ((rows ++ [r]).getD i 0))) = (List.range rows.length).filter (fun i => !tt (Span (rows.take i) (rows.getD i 0))) := by
    apply List.filter_congr
    intro i hi
    have hi := List.mem_range.mp hi
    have a : (rows ++ [r]).take i = rows.take i := List.take_append_of_le_length (Nat.le_of_lt hi)
    have b : (rows ++ [r]).getD i 0 = rows.getD i 0 := by
      rw [List.getD_eq_getElem?_getD, List.getD_eq_getElem?_getD, List.getElem?_append_left hi]
    rw [a, b]
  rw [e1]
  congr 1
  have a : (rows ++ [r]).take rows.length = rows := List.take_left
  have b : (rows ++ [r]).getD rows.length 0 = r := by
    rw [List.getD_eq_getElem?_getD, List.getElem?_append_right (Nat.le_refl _), Nat.sub_self]; rfl
  rw [List.filter_cons, a, b]
  cases tt (Span rows r) <;> rfl
theorem fr_len (rows : List Nat) : (fr rows).length ≤ rows.length := by
  have := List.length_filter_le (fun i => !tt (Span (rows.take i) (rows.getD i 0))) (List.range rows.length)
  rw [List.length_range] at this
  exact this
theorem fr_in {rows : List Nat} {r : Nat} (h : Span rows r) : fr (rows ++ [r]) = fr rows := by rw [fr_snoc, tt_pos h]; simp
theorem fr_out {rows : List Nat} {r : Nat} (h : ¬ Span rows r) : fr (rows ++ [r]) = fr rows ++ [rows.length] := by rw [fr_snoc, tt_neg h]; rfl
structure Nul (nms rows : List Nat) : Prop where
  lt : ∀ x ∈ nms, x < 2 ^ rows.length
  nz : ∀ x ∈ nms, x ≠ 0
  sm : ∀ x ∈ nms, sm rows x = 0
  pw : nms.Pairwise fun a b => a.log2 < b.log2
  len : nms.length + (fr rows).length = rows.length
theorem Nul.nil : Nul [] [] := ⟨fun _ h => absurd h (by simp), fun _ h => absurd h (by simp), fun _ h => absurd h (by simp), .nil, rfl⟩
theorem Nul.keep {nms rows : List Nat} (I : Nul nms rows) {r : Nat} (h : ¬ Span rows r) : Nul nms (rows ++ [r]) where
  lt := fun x hx => by rw [List.length_append]; exact Nat.lt_of_lt_of_le (I.lt x hx) (Nat.pow_le_pow_right (by decide) (by simp))
  nz := I.nz
  sm := fun x hx => by rw [sm_snoc_lt (I.lt x hx)]; exact I.sm x hx
  pw := I.pw
  len := by rw [fr_out h, List.length_append, List.length_append, ← I.len]; simp; omega
theorem log2_more {n q : Nat} (h : q < 2 ^ n) : q ^^^ 2 ^ n ≠ 0 ∧ (q ^^^ 2 ^ n).log2 = n := by
  have e : (2 ^ n : Nat).log2 = n := log2_of (Nat.le_refl _) (Nat.pow_lt_pow_right (by decide) (by omega))
  have h0 : (2 ^ n : Nat) ≠ 0 := by have := Nat.two_pow_pos n; omega
  have hl := log2_xor_lt (x := q) h0 (by rw [e]; exact h)
  refine ⟨fun z => ?_, by rw [hl, e]⟩
  have hb : (q ^^^ 2 ^ n).testBit n = true := by rw [Nat.testBit_xor, Nat.testBit_lt_two_pow h, Nat.testBit_two_pow_self]; rfl
  rw [z] at hb
  simp at hb
theorem log2_under {n q : Nat} (h0 : q ≠ 0) (h : q < 2 ^ n) : q.log2 < n := (Nat.log2_lt h0).mpr h
theorem Nul.snoc {nms rows : List Nat} (I : Nul nms rows) {r q : Nat} (hq : q < 2 ^ rows.length) (e : r ^^^ M.sm rows q = 0) (hs : Span rows r) : Nul (nms ++ [q ^^^ 2 ^ rows.length]) (rows ++ [r]) where
  lt := fun x hx => by
    rw [List.length_append]
    rcases List.mem_append.mp hx with hx | hx
    · exact Nat.lt_of_lt_of_le (I.lt x hx) (Nat.pow_le_pow_right (by decide) (by simp))
    · rw [List.mem_singleton] at hx; subst hx; exact lt_more hq
  nz := fun x hx => by
    rcases List.mem_append.mp hx with hx | hx
    · exact I.nz x hx
    · rw [List.mem_singleton] at hx; subst hx; exact (log2_more hq).1
  sm := fun x hx => by
    rcases List.mem_append.mp hx with hx | hx
    · rw [sm_snoc_lt (I.lt x hx)]; exact I.sm x hx
    · rw [List.mem_singleton] at hx; subst hx; rw [sm_more hq, Nat.xor_comm]; exact e
  pw := by
    rw [List.pairwise_append]
    refine ⟨I.pw, List.pairwise_singleton _ _, fun a ha b hb => ?_⟩
    rw [List.mem_singleton] at hb
    subst hb
    rw [(log2_more hq).2]
    exact log2_under (I.nz a ha) (I.lt a ha)
  len := by rw [fr_in hs, List.length_append, List.length_append, ← I.len]; simp; omega
noncomputable def Inj (ws : List Nat) : Prop := ∀ p, p < 2 ^ ws.length → sm ws p = 0 → p = 0
theorem nodup_le : ∀ (n : Nat) (l : List Nat), l.Nodup → (∀ x ∈ l, x < n) → l.length ≤ n
  | 0, l, _, h => by
    cases l with
    | nil => exact Nat.le_refl _
    | cons x r => exact absurd (h x (List.mem_cons_self ..)) (Nat.not_lt_zero _)
  | n + 1, l, nd, h => by
    have ih := nodup_le n (l.erase n) (nd.erase n) fun x hx => by
      have hm := (nd.mem_erase_iff).mp hx
      have := h x hm.2
      have := hm.1
      omega
    by_cases hm : n ∈ l
    · rw [List.length_erase_of_mem hm] at ih; omega
    · rw [List.erase_of_not_mem hm] at ih; omega
theorem span_lt {t : Nat} : ∀ {rs : List Nat} {x : Nat}, (∀ r ∈ rs, r < 2 ^ t) → Span rs x → x < 2 ^ t
  | [], x, _, h => by have h : x = 0 := h; rw [h]; exact Nat.two_pow_pos t
  | r :: rs, x, b, h => by
    have ih := fun x => span_lt (rs := rs) (x := x) fun y hy => b y (List.mem_cons_of_mem _ hy)
    rcases h with h | h
    · exact ih x h
    · have := xor_lt_pow (ih _ h) (b r (List.mem_cons_self ..))
      rwa [xor_cancel] at this
structure Sums (ks rows : List Nat) : Prop where
  nd : ks.Nodup
  all : ∀ x, x ∈ ks ↔ Span rows x
theorem Sums.zero : Sums [0] [] := ⟨by simp, fun x => by rw [List.mem_singleton]; exact Iff.rfl⟩
theorem xor_inj {a b r : Nat} (h : a ^^^ r = b ^^^ r) : a = b := by
  have := congrArg (· ^^^ r) h
  simpa [xor_cancel] using this
theorem Sums.step {ks rows : List Nat} (S : Sums ks rows) {r : Nat} (h : ¬ Span rows r) : Sums (ks ++ ks.map (· ^^^ r)) (rows ++ [r]) := by
  refine ⟨?_, fun x => ?_⟩
  · rw [List.nodup_append]
    refine ⟨S.nd, ?_, fun a ha b hb e => ?_⟩
    · exact List.Pairwise.map _ (fun a b hab e => hab (xor_inj e)) S.nd
    · obtain ⟨c, hc, rfl⟩ := List.mem_map.mp hb
      subst e
      have := span_xor ((S.all _).mp ha) ((S.all _).mp hc)
      rw [xor_right_comm', Nat.xor_self, Nat.zero_xor] at this
      exact h this
  · rw [List.mem_append, span_snoc, S.all, List.mem_map]
    constructor
    · rintro (h | ⟨y, hy, rfl⟩)
      · exact .inl h
      · refine .inr ?_; rw [xor_cancel]; exact (S.all _).mp hy
    · rintro (h | h)
      · exact .inl h
      · exact .inr ⟨x ^^^ r, (S.all _).mpr h, xor_cancel x r⟩
theorem Sums.keep {ks rows : List Nat} (S : Sums ks rows) {r : Nat} (h : Span rows r) : Sums ks (rows ++ [r]) :=
  ⟨S.nd, fun x => by
    rw [S.all, span_snoc]
    refine ⟨.inl, fun q => q.elim id fun q => ?_⟩
    have := span_xor q h
    rwa [xor_cancel] at this⟩
theorem Sums.few {ks rows : List Nat} (S : Sums ks rows) {t : Nat} (h : ∀ r ∈ rows, r < 2 ^ t) : ks.length ≤ 2 ^ t := nodup_le _ _ S.nd fun x hx => span_lt h ((S.all x).mp hx)
end M
set_option autoImplicit false
namespace M
theorem sm_two_pow : ∀ (l : List Nat) (j : Nat), sm l (2 ^ j) = l.getD j 0
  | [], j => by simp [sm]
  | r :: l, 0 => by
    show (if (2 ^ 0).testBit 0 then r else 0) ^^^ sm l (2 ^ 0 / 2) = r
    rw [show (2 ^ 0 : Nat) / 2 = 0 from rfl, sm_zero]
    simp
  | r :: l, j + 1 => by
    show (if (2 ^ (j + 1)).testBit 0 then r else 0) ^^^ sm l (2 ^ (j + 1) / 2) = l.getD j 0
    have e1 : (2 ^ (j + 1)) / 2 = 2 ^ j := by rw [Nat.pow_succ]; omega
    have e2 : (2 ^ (j + 1)).testBit 0 = false := by rw [Nat.testBit_two_pow]; simp
    rw [e1, e2, sm_two_pow l j]
    simp
theorem snoc_ind {P : List Nat → Prop} (h0 : P []) (hs : ∀ l w, P l → P (l ++ [w])) : ∀ l, P l := by
  intro l
  rw [← List.reverse_reverse l]
  generalize l.reverse = k
  induction k with
  | nil => exact h0
  | cons a k ih => rw [List.reverse_cons]; exact hs _ _ ih
theorem pl_next (i m : Nat) : pl (i + 1) m = pl i m ++ (if m.testBit i then [i] else []) := by
  unfold pl
  rw [List.range_succ, List.filter_append]
  congr 1
  by_cases h : m.testBit i = true
  · rw [if_pos h]; simp [h]
  · rw [if_neg h]; simp [h]
theorem pl_le (i m : Nat) : (pl i m).length ≤ i := by
  have := List.length_filter_le m.testBit (List.range i)
  rw [List.length_range] at this
  exact this
theorem pl_lt {w m n : Nat} (h : m < 2 ^ n) : ∀ x ∈ pl w m, x < n := by
  intro x hx
  have hb := (List.mem_filter.mp hx).2
  refine Nat.lt_of_not_le fun hn => ?_
  rw [Nat.testBit_lt_two_pow (Nat.lt_of_lt_of_le h (Nat.pow_le_pow_right (by decide) hn))] at hb
  cases hb
noncomputable def xs (rows ps : List Nat) : Nat := ps.foldl (fun a k => a ^^^ rows.getD k 0) 0
end M
set_option autoImplicit false
namespace M
noncomputable abbrev od (m : Nat) : Bool := pb 1000 m
theorem od_xor (a b : Nat) : od (a ^^^ b) = (od a ^^ od b) := pb_xor 1000 a b
theorem and_xor (m a b : Nat) : m &&& (a ^^^ b) = (m &&& a) ^^^ (m &&& b) := by
  apply Nat.eq_of_testBit_eq; intro i
  simp only [Nat.testBit_and, Nat.testBit_xor]
  cases m.testBit i <;> simp
theorem xor_and (m a b : Nat) : (a ^^^ b) &&& m = (a &&& m) ^^^ (b &&& m) := by
  apply Nat.eq_of_testBit_eq; intro i
  simp only [Nat.testBit_and, Nat.testBit_xor]
  cases m.testBit i <;> simp
theorem pb_zero : ∀ w : Nat, pb w 0 = false
  | 0 => rfl
  | w + 1 => by show ((0 : Nat).testBit w ^^ pb w 0) = false; rw [pb_zero w]; simp
theorem pb_pow {w t : Nat} (h : t < w) : pb w (2 ^ t) = true := by
  rw [pb_up (w := t + 1) (Nat.pow_lt_pow_right (by decide) (by omega)) h]
  show ((2 ^ t).testBit t ^^ pb t (2 ^ t)) = true
  have e : pb t (2 ^ t) = false := by
    rw [← pb_low, Nat.mod_self, pb_zero]
  rw [e, Nat.testBit_two_pow_self]; rfl
theorem pow_and (t y : Nat) : 2 ^ t &&& y = if y.testBit t then 2 ^ t else 0 := by
  apply Nat.eq_of_testBit_eq; intro i
  rw [Nat.testBit_and, Nat.testBit_two_pow]
  by_cases h : t = i
  · subst h
    cases y.testBit t <;> simp
  · cases y.testBit t <;> simp [h, Nat.testBit_two_pow]
theorem od_pow {t : Nat} (h : t < 1000) (y : Nat) : od (2 ^ t &&& y) = y.testBit t := by
  rw [pow_and]
  cases y.testBit t with
  | true => rw [if_pos rfl]; exact pb_pow h
  | false => rw [if_neg Bool.false_ne_true]; exact pb_zero 1000
theorem od_zero : od 0 = false := pb_zero 1000
theorem no_top {y k : Nat} (h : y < 2 ^ k) : y.testBit k = false := Nat.testBit_lt_two_pow h
theorem top_lt {y t k : Nat} (h : y ≠ 0) (e : y.log2 = t) (l : t < k) : y < 2 ^ k := Nat.lt_of_lt_of_le (by rw [← e]; exact Nat.lt_log2_self) (Nat.pow_le_pow_right (by decide) l)
structure Bar (rows : List Nat) (b m : Nat) : Prop where
  ev : ∀ y, Span rows y → od (m &&& y) = false
  bit : m.testBit b = true
  low : ∀ k, k < b → m.testBit k = false
  oth : ∀ k, k ≠ b → (∀ y, Span rows y → y ≠ 0 → y.log2 ≠ k) → m.testBit k = false
  lt : ∀ W, (∀ r ∈ rows, r < 2 ^ W) → b < W → m < 2 ^ W
structure BarI (es : List (Nat × Nat)) (ts : List Nat) (b m : Nat) : Prop where
  ev : ∀ e ∈ es, e.1.log2 ∈ ts → od (m &&& e.1) = false
  bit : m.testBit b = true
  low : ∀ k, k < b → m.testBit k = false
  oth : ∀ k, k ≠ b → (∀ e ∈ es, e.1.log2 ≠ k) → m.testBit k = false
  lt : ∀ W, (∀ e ∈ es, e.1 < 2 ^ W) → b < W → m < 2 ^ W
theorem BarI.zero (es : List (Nat × Nat)) (b : Nat) : BarI es [] b (2 ^ b) where
  ev := fun _ _ h => absurd h (by simp)
  bit := Nat.testBit_two_pow_self
  low := fun k h => by rw [Nat.testBit_two_pow]; simp; omega
  oth := fun k h _ => by rw [Nat.testBit_two_pow]; simp; omega
  lt := fun W _ h => Nat.pow_lt_pow_right (by decide) h
theorem low_zero {m y b : Nat} (h : ∀ k, k < b → m.testBit k = false) (hy : y < 2 ^ b) : m &&& y = 0 := by
  apply Nat.eq_of_testBit_eq; intro i
  rw [Nat.testBit_and, Nat.zero_testBit]
  by_cases hi : i < b
  · rw [h i hi]; rfl
  · rw [Nat.testBit_lt_two_pow (Nat.lt_of_lt_of_le hy (Nat.pow_le_pow_right (by decide) (by omega)))]; simp
theorem uniq_top {es : List (Nat × Nat)} (nd : (es.map fun e => e.1.log2).Nodup) {e f : Nat × Nat} (he : e ∈ es) (hf : f ∈ es) (h : e.1.log2 = f.1.log2) : e = f := by
  obtain ⟨i, hi, rfl⟩ := List.mem_iff_getElem.mp he
  obtain ⟨j, hj, rfl⟩ := List.mem_iff_getElem.mp hf
  have key : ∀ i j (hi : i < es.length) (hj : j < es.length), i < j → es[i].1.log2 ≠ es[j].1.log2 := fun i j hi hj hij => by
    have := List.pairwise_iff_getElem.mp nd i j (by rw [List.length_map]; exact hi) (by rw [List.length_map]; exact hj) hij
    rw [List.getElem_map, List.getElem_map] at this
    exact this
  rcases Nat.lt_trichotomy i j with h1 | h1 | h1
  · exact absurd h (key i j hi hj h1)
  · subst h1; rfl
  · exact absurd h.symm (key j i hj hi h1)
theorem BarI.keep {es : List (Nat × Nat)} {ts : List Nat} {b m : Nat} (I : BarI es ts b m) {e : Nat × Nat} (nd : (es.map fun e => e.1.log2).Nodup) (he : e ∈ es) (h : od (m &&& e.1) = false) : BarI es (ts ++ [e.1.log2]) b m where
  ev := fun f hf hm => by
    rcases List.mem_append.mp hm with hm | hm
    · exact I.ev f hf hm
    · rw [List.mem_singleton] at hm
      rw [uniq_top nd hf he hm]; exact h
  bit := I.bit
  low := I.low
  oth := I.oth
  lt := I.lt
theorem BarI.flip {es : List (Nat × Nat)} {ts : List Nat} {b m : Nat} (I : BarI es ts b m) {e : Nat × Nat} (nd : (es.map fun e => e.1.log2).Nodup) (nz : ∀ e ∈ es, e.1 ≠ 0) (he : e ∈ es) (h : od (m &&& e.1) = true) (up : ∀ t ∈ ts, t < e.1.log2) (hb : e.1.log2 ≠ b) (h1000 : e.1.log2 < 1000) : BarI es (ts ++ [e.1.log2]) b (m ^^^ 2 ^ e.1.log2) := by
  have hgt : b < e.1.log2 := by
    refine Nat.lt_of_le_of_ne (Nat.le_of_not_lt fun hlt => ?_) (Ne.symm hb)
    rw [low_zero I.low (top_lt (nz e he) rfl hlt), od_zero] at h
    cases h
  have e0 := nz e he
  refine ⟨fun f hf hm => ?_, ?_, fun k hk => ?_, fun k hk hn => ?_, fun W hW hbW => ?_⟩
  · rw [xor_and, od_xor, od_pow h1000]
    rcases List.mem_append.mp hm with hm | hm
    · rw [I.ev f hf hm, no_top (top_lt (nz f hf) rfl (up _ hm))]; rfl
    · rw [List.mem_singleton] at hm
      rw [uniq_top nd hf he hm, h, bit_log2 e0]; rfl
  · rw [Nat.testBit_xor, I.bit, Nat.testBit_two_pow]; simp; omega
  · rw [Nat.testBit_xor, I.low k hk, Nat.testBit_two_pow]; simp; omega
  · rw [Nat.testBit_xor, I.oth k hk hn, Nat.testBit_two_pow]
    have := hn e he
    simp; omega
  · exact xor_lt_pow (I.lt W hW hbW) (Nat.lt_of_le_of_lt (Nat.log2_self_le e0) (hW e he))
theorem Ech.even_all {es : List (Nat × Nat)} {rows : List Nat} (g : Ech es rows) {m : Nat} (h : ∀ e ∈ es, od (m &&& e.1) = false) : ∀ y, Span rows y → od (m &&& y) = false := by
  intro y
  induction y using Nat.strongRecOn with
  | ind y ih =>
    intro hy
    by_cases y0 : y = 0
    · subst y0; rw [Nat.and_zero, od_zero]
    · obtain ⟨e, he, el⟩ := g.all y hy y0
      have e0 := g.nz e he
      have hl := xor_less y0 e0 el.symm
      have h1 := ih _ hl (span_xor hy (g.span he))
      have h2 := h e he
      have h3 : od (m &&& (y ^^^ e.1)) = (od (m &&& y) ^^ od (m &&& e.1)) := by rw [and_xor, od_xor]
      rw [h1, h2] at h3
      simpa using h3.symm
theorem BarI.done {es : List (Nat × Nat)} {rows : List Nat} (g : Ech es rows) {ts : List Nat} {b m : Nat} (I : BarI es ts b m) (all : ∀ e ∈ es, e.1.log2 ∈ ts) : Bar rows b m where
  ev := g.even_all fun e he => I.ev e he (all e he)
  bit := I.bit
  low := I.low
  oth := fun k hk h => I.oth k hk fun e he => h e.1 (g.span he) (g.nz e he)
  lt := fun W hW hb => I.lt W (fun e he => span_lt hW (g.span he)) hb
theorem Bar.odd {rows : List Nat} {b m x q : Nat} (B : Bar rows b m) (h0 : x ^^^ sm rows q ≠ 0) (hb : (x ^^^ sm rows q).log2 = b) (h1000 : b < 1000) : od (m &&& x) = true := by
  have e1 : m &&& x = (m &&& (x ^^^ sm rows q)) ^^^ (m &&& sm rows q) := by rw [← and_xor, xor_cancel]
  rw [e1, od_xor, B.ev _ (sm_span rows q)]
  have e2 : m &&& (x ^^^ sm rows q) = 2 ^ b := by
    apply Nat.eq_of_testBit_eq; intro i
    rw [Nat.testBit_and, Nat.testBit_two_pow]
    rcases Nat.lt_trichotomy i b with h | h | h
    · rw [B.low i h]; simp; omega
    · subst h; rw [B.bit, ← hb, bit_log2 h0]; simp
    · rw [no_top (top_lt h0 hb h)]; simp; omega
  rw [e2]
  show (pb 1000 (2 ^ b) ^^ false) = true
  rw [pb_pow h1000]; rfl
theorem sums_exist : ∀ rows : List Nat, ∃ ks, Sums ks rows ∧ ks.length = 2 ^ (fr rows).length := by
  refine snoc_ind ⟨[0], Sums.zero, rfl⟩ fun rows r ih => ?_
  obtain ⟨ks, S, e⟩ := ih
  by_cases h : Span rows r
  · exact ⟨ks, S.keep h, by rw [fr_in h]; exact e⟩
  · refine ⟨_, S.step h, ?_⟩
    rw [fr_out h, List.length_append, List.length_append, List.length_map, e, List.length_singleton, Nat.pow_succ]
    omega
theorem rank_le {rows : List Nat} {t : Nat} (h : ∀ r ∈ rows, r < 2 ^ t) : (fr rows).length ≤ t := by
  obtain ⟨ks, S, e⟩ := sums_exist rows
  have := S.few h
  rw [e] at this
  exact (Nat.pow_le_pow_iff_right (by decide)).mp this
theorem pb_half (w m : Nat) : pb (w + 1) m = (m.testBit 0 ^^ pb w (m / 2)) := by
  rw [Nat.add_comm, pb_split 1 w m, Nat.shiftRight_eq_div_pow]
  congr 1
  show (m.testBit 0 ^^ false) = _
  simp
theorem drop_bit : ∀ (w m : Nat), 0 < m → m < 2 ^ w → pb w (m &&& (m - 1)) = !pb w m
  | 0, m, h0, h => by have : m < 1 := h; omega
  | w + 1, m, h0, h => by
    rw [pb_half, pb_half, half_and, Nat.testBit_and]
    have hw : m / 2 < 2 ^ w := by rw [Nat.pow_succ] at h; omega
    rcases Nat.mod_two_eq_zero_or_one m with hm | hm
    · have e1 : m.testBit 0 = false := by simp [Nat.testBit_zero, hm]
      have e2 : (m - 1) / 2 = m / 2 - 1 := by omega
      rw [e1, e2, drop_bit w (m / 2) (by omega) hw]; simp
    · have e1 : m.testBit 0 = true := by simp [Nat.testBit_zero, hm]
      have e3 : (m - 1).testBit 0 = false := by simp [Nat.testBit_zero]; omega
      have e2 : (m - 1) / 2 = m / 2 := by omega
      rw [e1, e2, e3, Nat.and_self]; simp
theorem drop_less {m : Nat} (h : 0 < m) : m &&& (m - 1) < m := Nat.lt_of_le_of_lt Nat.and_le_right (by omega)
theorem sum_uniq {rows : List Nat} {p q : Nat} (hp : Frs rows p) (hq : Frs rows q) (e : sm rows p = sm rows q) : p = q := by
  refine Classical.byContradiction fun hne => ?_
  have hf := hp.xor hq
  have hz : sm rows (p ^^^ q) = 0 := by rw [sm_xor, e, Nat.xor_self]
  have h0 : p ^^^ q ≠ 0 := fun z => hne (by have := congrArg (· ^^^ q) z; simpa [xor_cancel] using this)
  generalize p ^^^ q = z at hf hz h0
  obtain ⟨hi, hn⟩ := hf z.log2 (bit_log2 h0)
  apply hn
  have ez : z = (z ^^^ 2 ^ z.log2) ^^^ 2 ^ z.log2 := (xor_cancel _ _).symm
  have hlt : z ^^^ 2 ^ z.log2 < 2 ^ z.log2 := by
    have := xor_drop h0 (show 2 ^ z.log2 ≠ 0 from Nat.ne_of_gt (Nat.two_pow_pos _)) (by rw [Nat.log2_two_pow])
    exact this
  generalize hy : z ^^^ 2 ^ z.log2 = y at ez hlt
  generalize z.log2 = t at ez hlt hi
  have esplit : rows = rows.take t ++ (rows.getD t 0 :: rows.drop (t + 1)) := by
    rw [List.getD_eq_getElem?_getD, List.getElem?_eq_getElem hi]
    show rows = rows.take t ++ (rows[t] :: rows.drop (t + 1))
    rw [← List.drop_eq_getElem_cons hi, List.take_append_drop]
  have hsm : ∀ (as bs : List Nat) (s : Nat), s < 2 ^ as.length → sm (as ++ bs) s = sm as s := by
    intro as bs
    induction as with
    | nil =>
      intro s hs
      have e0 : s = 0 := by have : s < 1 := hs; omega
      rw [e0, sm_zero, sm_zero]
    | cons a as ih =>
      intro s hs
      show (if s.testBit 0 then a else 0) ^^^ sm (as ++ bs) (s / 2) = (if s.testBit 0 then a else 0) ^^^ sm as (s / 2)
      rw [ih (s / 2) (by rw [List.length_cons, Nat.pow_succ] at hs; omega)]
  have lt_t : (rows.take t).length = t := by rw [List.length_take]; omega
  have h1 : sm rows y = sm (rows.take t) y := by
    conv => lhs; rw [esplit]
    exact hsm _ _ y (by rw [lt_t]; exact hlt)
  have h2 : sm rows (2 ^ t) = rows.getD t 0 := by
    have e3 : rows = (rows.take t ++ [rows.getD t 0]) ++ rows.drop (t + 1) := by rw [List.append_assoc]; exact esplit
    conv => lhs; rw [e3]
    rw [hsm _ _ (2 ^ t) (by rw [List.length_append, lt_t, List.length_singleton]; exact Nat.pow_lt_pow_right (by decide) (by omega))]
    have := sm_top (rows.take t) (rows.getD t 0)
    rw [lt_t] at this
    exact this
  rw [ez, sm_xor, h1, h2] at hz
  have : rows.getD t 0 = sm (rows.take t) y := by
    have := congrArg (sm (rows.take t) y ^^^ ·) hz
    simp only [← Nat.xor_assoc, Nat.xor_self, Nat.zero_xor, Nat.xor_zero] at this
    exact this
  rw [this]
  exact sm_span _ _
end M
set_option autoImplicit false
namespace M
end M
set_option autoImplicit false
namespace M
noncomputable def cm (a b : Nat) : Nat := if b = 0 then 0 else (if b % 2 = 1 then a else 0) ^^^ 2 * cm a (b / 2)
termination_by b
decreasing_by omega
theorem cm_zero (a : Nat) : cm a 0 = 0 := by unfold cm; rfl
theorem cm_eq (a b : Nat) : cm a b = (if b % 2 = 1 then a else 0) ^^^ 2 * cm a (b / 2) := by
  by_cases h : b = 0
  · subst h; rw [cm_zero]; simp [cm_zero]
  · rw [cm.eq_def, if_neg h]
theorem dbl_xor (x y : Nat) : 2 * (x ^^^ y) = 2 * x ^^^ 2 * y := by
  have h : ∀ z : Nat, 2 * z = z <<< 1 := fun z => by rw [Nat.shiftLeft_eq, Nat.mul_comm]
  rw [h, h, h, Nat.shiftLeft_xor_distrib]
theorem mod2_xor (b c : Nat) : (b ^^^ c) % 2 = 1 ↔ ¬ (b % 2 = 1 ↔ c % 2 = 1) := by
  have h := @Nat.xor_mod_two_pow b c 1
  simp only [Nat.pow_one] at h
  rw [h]
  rcases Nat.mod_two_eq_zero_or_one b with h1 | h1 <;> rcases Nat.mod_two_eq_zero_or_one c with h2 | h2 <;> rw [h1, h2] <;> decide
theorem cm_xor : ∀ (n a b c : Nat), b + c ≤ n → cm a (b ^^^ c) = cm a b ^^^ cm a c := by
  intro n
  induction n with
  | zero =>
    intro a b c h
    have h1 : b = 0 := by omega
    have h2 : c = 0 := by omega
    subst h1; subst h2; simp [cm_zero]
  | succ n ih =>
    intro a b c h
    by_cases h0 : b + c = 0
    · have h1 : b = 0 := by omega
      have h2 : c = 0 := by omega
      subst h1; subst h2; simp [cm_zero]
    · rw [cm_eq a (b ^^^ c), cm_eq a b, cm_eq a c, half_xor, ih a (b / 2) (c / 2) (by omega), dbl_xor, xor4]
      congr 1
      have hm := mod2_xor b c
      by_cases hb : b % 2 = 1 <;> by_cases hc : c % 2 = 1 <;> simp [hb, hc, hm]
theorem cm_add (a b c : Nat) : cm a (b ^^^ c) = cm a b ^^^ cm a c := cm_xor _ a b c (Nat.le_refl _)
theorem cm_radd (a b : Nat) : ∀ c, cm (a ^^^ b) c = cm a c ^^^ cm b c := by
  intro c
  induction c using Nat.strongRecOn with
  | ind c ih =>
    by_cases h : c = 0
    · subst h; simp [cm_zero]
    · rw [cm_eq (a ^^^ b) c, cm_eq a c, cm_eq b c, ih (c / 2) (by omega), dbl_xor, xor4]
      congr 1
      by_cases hc : c % 2 = 1 <;> simp [hc]
theorem cm_dbl (a b : Nat) : cm a (2 * b) = 2 * cm a b := by
  rw [cm_eq, show 2 * b / 2 = b by omega, if_neg (by omega)]; simp
theorem cm_rdbl (a : Nat) : ∀ b, cm (2 * a) b = 2 * cm a b := by
  intro b
  induction b using Nat.strongRecOn with
  | ind b ih =>
    by_cases h : b = 0
    · subst h; simp [cm_zero]
    · rw [cm_eq (2 * a) b, cm_eq a b, ih (b / 2) (by omega), dbl_xor]
      congr 1
      by_cases hb : b % 2 = 1 <;> simp [hb]
theorem cm_one (a : Nat) : cm a 1 = a := by rw [cm_eq]; simp [cm_zero]
theorem one_cm : ∀ b : Nat, cm 1 b = b := by
  intro b
  induction b using Nat.strongRecOn with
  | ind b ih =>
    by_cases h : b = 0
    · subst h; exact cm_zero 1
    · rw [cm_eq, ih (b / 2) (by omega)]
      apply Nat.eq_of_testBit_eq; intro i
      rw [Nat.testBit_xor]
      cases i with
      | zero => rcases Nat.mod_two_eq_zero_or_one b with h1 | h1 <;> simp [h1, Nat.testBit_zero]
      | succ i =>
        have e1 : (2 * (b / 2)).testBit (i + 1) = b.testBit (i + 1) := by rw [Nat.testBit_succ, Nat.testBit_succ]; congr 1; omega
        rw [e1]
        rcases Nat.mod_two_eq_zero_or_one b with h1 | h1 <;> simp [h1, Nat.testBit_succ]
theorem cm_pow (a : Nat) : ∀ k, cm a (2 ^ k) = a * 2 ^ k
  | 0 => by rw [Nat.pow_zero, cm_one, Nat.mul_one]
  | k + 1 => by rw [Nat.pow_succ, Nat.mul_comm (2 ^ k), cm_dbl, cm_pow a k]; exact Nat.mul_left_comm 2 a (2 ^ k)
theorem pow_cm (b : Nat) : ∀ k, cm (2 ^ k) b = b * 2 ^ k
  | 0 => by rw [Nat.pow_zero, one_cm, Nat.mul_one]
  | k + 1 => by rw [Nat.pow_succ, Nat.mul_comm (2 ^ k), cm_rdbl, pow_cm b k]; exact Nat.mul_left_comm 2 b (2 ^ k)
theorem xor_ind {P : Nat → Prop} (h0 : P 0) (hs : ∀ a k, P a → P (a ^^^ 2 ^ k)) : ∀ a, P a := by
  intro a
  induction a using Nat.strongRecOn with
  | ind a ih =>
    by_cases h : a = 0
    · subst h; exact h0
    · have hp : (2 ^ a.log2 : Nat) ≠ 0 := by have := Nat.two_pow_pos a.log2; omega
      have hl : a.log2 = (2 ^ a.log2 : Nat).log2 := (log2_of (Nat.le_refl _) (Nat.pow_lt_pow_right (by decide) (by omega))).symm
      have := hs _ a.log2 (ih (a ^^^ 2 ^ a.log2) (xor_less h hp hl))
      rwa [xor_cancel] at this
theorem zero_cm (b : Nat) : cm 0 b = 0 := by
  induction b using Nat.strongRecOn with
  | ind b ih =>
    by_cases h : b = 0
    · subst h; exact cm_zero 0
    · rw [cm_eq, ih (b / 2) (by omega)]; simp
theorem cm_comm (a : Nat) : ∀ b, cm a b = cm b a :=
  xor_ind (by rw [cm_zero, zero_cm]) fun b k h => by rw [cm_add, cm_radd, h, cm_pow, pow_cm]
theorem cm_shift (a b : Nat) : ∀ k, cm a (b * 2 ^ k) = cm a b * 2 ^ k
  | 0 => by rw [Nat.pow_zero, Nat.mul_one, Nat.mul_one]
  | k + 1 => by
    have e : b * 2 ^ (k + 1) = 2 * (b * 2 ^ k) := by rw [Nat.pow_succ, Nat.mul_comm (2 ^ k) 2, Nat.mul_left_comm]
    rw [e, cm_dbl, cm_shift a b k, Nat.pow_succ, Nat.mul_comm (2 ^ k) 2, Nat.mul_left_comm]
theorem cm_assoc (a b : Nat) : ∀ c, cm (cm a b) c = cm a (cm b c) :=
  xor_ind (by rw [cm_zero, cm_zero, cm_zero]) fun c k h => by rw [cm_add, cm_add, cm_add, h, cm_pow, cm_pow, cm_shift]
theorem cm_lt {a m : Nat} (ha : a < 2 ^ (m + 1)) : ∀ (n b : Nat), b < 2 ^ n → cm a b < 2 ^ (m + n)
  | 0, b, hb => by have : b = 0 := by have : b < 1 := hb; omega
                   subst this; rw [cm_zero]; exact Nat.two_pow_pos _
  | n + 1, b, hb => by
    rw [cm_eq]
    have ih := cm_lt ha n (b / 2) (by rw [Nat.pow_succ] at hb; omega)
    refine xor_lt_pow ?_ (by rw [← Nat.add_assoc, Nat.pow_succ]; omega)
    split
    · exact Nat.lt_of_lt_of_le ha (Nat.pow_le_pow_right (by decide) (by omega))
    · exact Nat.two_pow_pos _
theorem log2_shift {a : Nat} (h : a ≠ 0) (k : Nat) : a * 2 ^ k ≠ 0 ∧ (a * 2 ^ k).log2 = a.log2 + k := by
  have hp := Nat.two_pow_pos k
  have h1 := Nat.log2_self_le h
  have h2 := @Nat.lt_log2_self a
  refine ⟨Nat.mul_ne_zero h (by omega), log2_of ?_ ?_⟩
  · rw [Nat.pow_add]; exact Nat.mul_le_mul_right _ h1
  · rw [show a.log2 + k + 1 = (a.log2 + 1) + k by omega, Nat.pow_add]; exact Nat.mul_lt_mul_of_pos_right h2 hp
theorem cm_log {a b : Nat} (ha : a ≠ 0) (hb : b ≠ 0) : cm a b ≠ 0 ∧ (cm a b).log2 = a.log2 + b.log2 := by
  have hp : (2 ^ b.log2 : Nat) ≠ 0 := by have := Nat.two_pow_pos b.log2; omega
  have hl : b.log2 = (2 ^ b.log2 : Nat).log2 := (log2_of (Nat.le_refl _) (Nat.pow_lt_pow_right (by decide) (by omega))).symm
  have hd := xor_drop hb hp hl
  have e : cm a b = cm a (b ^^^ 2 ^ b.log2) ^^^ a * 2 ^ b.log2 := by rw [← cm_pow, ← cm_add, xor_cancel]
  obtain ⟨h0, hs⟩ := log2_shift ha b.log2
  have hlt := cm_lt (a := a) (m := a.log2) Nat.lt_log2_self b.log2 _ hd
  rw [← hs] at hlt
  have := log2_xor_lt h0 hlt
  rw [← e, hs] at this
  refine ⟨fun z => ?_, this⟩
  rw [e] at z
  have z2 : cm a (b ^^^ 2 ^ b.log2) = a * 2 ^ b.log2 := by
    have := congrArg (· ^^^ a * 2 ^ b.log2) z
    simpa [xor_cancel] using this
  rw [z2, hs] at hlt
  have := Nat.log2_self_le h0
  rw [hs] at this
  omega
noncomputable def Dv (d x : Nat) : Prop := ∃ q, cm q d = x
theorem Dv.zero (d : Nat) : Dv d 0 := ⟨0, zero_cm d⟩
theorem Dv.self (d : Nat) : Dv d d := ⟨1, one_cm d⟩
theorem Dv.xor {d x y : Nat} (h : Dv d x) (k : Dv d y) : Dv d (x ^^^ y) := let ⟨q, e⟩ := h; let ⟨r, f⟩ := k; ⟨q ^^^ r, by rw [cm_radd, e, f]⟩
theorem Dv.mul {d x : Nat} (h : Dv d x) (y : Nat) : Dv d (cm y x) := let ⟨q, e⟩ := h; ⟨cm y q, by rw [cm_assoc, e]⟩
theorem Dv.small {d x : Nat} (h : Dv d x) (hd : d ≠ 0) (hx : x < 2 ^ d.log2) : x = 0 := by
  obtain ⟨q, rfl⟩ := h
  by_cases hq : q = 0
  · subst hq; exact zero_cm d
  · exfalso
    have := cm_log hq hd
    have h2 := Nat.log2_self_le this.1
    rw [this.2] at h2
    have h3 : 2 ^ d.log2 ≤ 2 ^ (q.log2 + d.log2) := Nat.pow_le_pow_right (by decide) (by omega)
    omega
structure Rm (d x r : Nat) : Prop where
  lt : r < 2 ^ d.log2
  dv : Dv d (x ^^^ r)
theorem Rm.uniq {d x r r' : Nat} (hd : d ≠ 0) (a : Rm d x r) (b : Rm d x r') : r = r' := by
  have h := a.dv.xor b.dv
  have e : x ^^^ r ^^^ (x ^^^ r') = r ^^^ r' := by rw [xor4, Nat.xor_self, Nat.zero_xor]
  rw [e] at h
  have := h.small hd (xor_lt_pow a.lt b.lt)
  have h2 := congrArg (· ^^^ r') this
  simpa [xor_cancel] using h2
theorem Rm.dvd {d x r : Nat} (hd : d ≠ 0) (a : Rm d x r) : r = 0 ↔ Dv d x := by
  constructor
  · intro e; have := a.dv; rw [e, Nat.xor_zero] at this; exact this
  · intro h; exact a.uniq hd ⟨Nat.two_pow_pos _, by rw [Nat.xor_zero]; exact h⟩
theorem div_turn {d x : Nat} (hd : d ≠ 0) (hx : x ≠ 0) (h : d.log2 ≤ x.log2) : x ^^^ d * 2 ^ (x.log2 - d.log2) < x := by
  obtain ⟨h0, hl⟩ := log2_shift hd (x.log2 - d.log2)
  exact xor_less hx h0 (by rw [hl]; omega)
theorem turn_dv (d x k : Nat) : Dv d (x ^^^ (x ^^^ d * 2 ^ k)) := by
  rw [← Nat.xor_assoc, Nat.xor_self, Nat.zero_xor, ← pow_cm]
  exact ⟨2 ^ k, rfl⟩
theorem rm_exists (d : Nat) (hd : d ≠ 0) : ∀ x, ∃ r, Rm d x r := by
  intro x
  induction x using Nat.strongRecOn with
  | ind x ih =>
    by_cases h : x < 2 ^ d.log2
    · exact ⟨x, h, by rw [Nat.xor_self]; exact Dv.zero d⟩
    · have x0 : x ≠ 0 := by have := Nat.two_pow_pos d.log2; omega
      have hl : d.log2 ≤ x.log2 := (Nat.le_log2 x0).mpr (by omega)
      obtain ⟨r, R⟩ := ih _ (div_turn hd x0 hl)
      refine ⟨r, R.lt, ?_⟩
      have := (turn_dv d x (x.log2 - d.log2)).xor R.dv
      rwa [← Nat.xor_assoc, xor_cancel] at this
end M
set_option autoImplicit false
namespace M
theorem Rm.next {d n p : Nat} (hd : d ≠ 0) (h : Rm d (2 ^ n) p) : Rm d (2 ^ (n + 1)) (if (p * 2 ≠ 0 ∧ (p * 2).log2 = d.log2) then p * 2 ^^^ d else p * 2) := by
  have hdv : Dv d (2 ^ (n + 1) ^^^ p * 2) := by
    have := h.dv.mul 2
    rw [cm_add, cm_comm 2 (2 ^ n), cm_comm 2 p] at this
    have e1 : cm (2 ^ n) 2 = 2 ^ (n + 1) := by have := cm_pow (2 ^ n) 1; rw [Nat.pow_one] at this; rw [this, Nat.pow_succ]
    have e2 : cm p 2 = p * 2 := by have := cm_pow p 1; rw [Nat.pow_one] at this; exact this
    rwa [e1, e2] at this
  by_cases hc : p * 2 ≠ 0 ∧ (p * 2).log2 = d.log2
  · rw [if_pos hc]
    refine ⟨by rw [← hc.2]; exact xor_drop hc.1 hd hc.2, ?_⟩
    rw [← Nat.xor_assoc]
    exact hdv.xor (Dv.self d)
  · rw [if_neg hc]
    refine ⟨?_, hdv⟩
    have hp := h.lt
    by_cases p0 : p * 2 = 0
    · rw [p0]; exact Nat.two_pow_pos _
    · have h1 : p * 2 < 2 ^ (d.log2 + 1) := by rw [Nat.pow_succ]; omega
      have h2 := log2_under p0 h1
      have h3 : (p * 2).log2 ≠ d.log2 := fun z => hc ⟨p0, z⟩
      exact Nat.lt_of_lt_of_le Nat.lt_log2_self (Nat.pow_le_pow_right (by decide) (by omega))
theorem cm_mod2 {q d : Nat} (hd : d % 2 = 1) : cm q d % 2 = q % 2 := by
  rw [cm_eq, if_pos hd]
  have h := @Nat.xor_mod_two_pow q (2 * cm q (d / 2)) 1
  simp only [Nat.pow_one] at h
  rw [h, show 2 * cm q (d / 2) % 2 = 0 by omega, Nat.xor_zero]
theorem Dv.halve {d y : Nat} (hd : d % 2 = 1) (h : Dv d (2 * y)) : Dv d y := by
  obtain ⟨q, e⟩ := h
  have hq : q % 2 = 0 := by have := cm_mod2 (q := q) hd; rw [e] at this; omega
  refine ⟨q / 2, ?_⟩
  have : cm (2 * (q / 2)) d = 2 * y := by rw [show 2 * (q / 2) = q by omega]; exact e
  rw [cm_rdbl] at this
  omega
theorem Dv.halves {d y : Nat} (hd : d % 2 = 1) : ∀ i, Dv d (y * 2 ^ i) → Dv d y
  | 0, h => by rw [Nat.pow_zero, Nat.mul_one] at h; exact h
  | i + 1, h => by
    refine Dv.halves hd i (Dv.halve hd ?_)
    rw [Nat.pow_succ, ← Nat.mul_assoc, Nat.mul_comm] at h
    exact h
theorem shift_xor (a b i : Nat) : (a ^^^ b) * 2 ^ i = a * 2 ^ i ^^^ b * 2 ^ i := by
  rw [← pow_cm, ← pow_cm, ← pow_cm, cm_add]
structure Ord (d e : Nat) : Prop where
  pos : 1 ≤ e
  one : Rm d (2 ^ e) 1
  least : ∀ j, 1 ≤ j → j < e → ¬ Rm d (2 ^ j) 1
  le : e ≤ 2 ^ d.log2
theorem some_order {d : Nat} (hd : d % 2 = 1) (h1 : 1 ≤ d.log2) : ∃ e, 1 ≤ e ∧ e ≤ 2 ^ d.log2 ∧ Rm d (2 ^ e) 1 := by
  have hd0 : d ≠ 0 := by omega
  have hf : ∃ f : Nat → Nat, ∀ i, Rm d (2 ^ i) (f i) := ⟨fun i => Classical.choose (rm_exists d hd0 (2 ^ i)), fun i => Classical.choose_spec (rm_exists d hd0 (2 ^ i))⟩
  obtain ⟨f, hf⟩ := hf
  have key : ∀ i j, i < j → f i = f j → Rm d (2 ^ (j - i)) 1 := fun i j hij e => by
    have h := (hf i).dv.xor (hf j).dv
    rw [e, xor4, Nat.xor_self, Nat.xor_zero] at h
    have e2 : 2 ^ i ^^^ 2 ^ j = (1 ^^^ 2 ^ (j - i)) * 2 ^ i := by
      rw [shift_xor, Nat.one_mul, ← Nat.pow_add]; congr 2; omega
    rw [e2] at h
    have h2 := Dv.halves hd i h
    refine ⟨Nat.lt_of_lt_of_le (by decide : 1 < 2 ^ 1) (Nat.pow_le_pow_right (by decide) h1), ?_⟩
    rw [Nat.xor_comm]; exact h2
  refine Classical.byContradiction fun hn => ?_
  have nd : ((List.range (2 ^ d.log2 + 1)).map f).Nodup := by
    refine List.pairwise_map.mpr (List.Pairwise.imp_of_mem (fun {i j} hi hj hij => ?_) List.pairwise_lt_range)
    intro e
    have hj := List.mem_range.mp hj
    exact hn ⟨j - i, by omega, by omega, key i j hij e⟩
  have := nodup_le (2 ^ d.log2) _ nd fun x hx => by
    obtain ⟨i, _, rfl⟩ := List.mem_map.mp hx
    exact (hf i).lt
  rw [List.length_map, List.length_range] at this
  omega
theorem order_exists {d : Nat} (hd : d % 2 = 1) (h1 : 1 ≤ d.log2) : ∃ e, Ord d e := by
  obtain ⟨e, a, b, c⟩ := some_order hd h1
  have key : ∀ n e, e ≤ n → 1 ≤ e → e ≤ 2 ^ d.log2 → Rm d (2 ^ e) 1 → ∃ e, Ord d e := by
    intro n
    induction n with
    | zero => intro e h1 h2; omega
    | succ n ih =>
      intro e hn a b c
      by_cases hx : ∃ j, 1 ≤ j ∧ j < e ∧ Rm d (2 ^ j) 1
      · obtain ⟨j, j1, j2, j3⟩ := hx
        exact ih j (by omega) j1 (by omega) j3
      · exact ⟨e, a, c, fun j h1 h2 h3 => hx ⟨j, h1, h2, h3⟩, b⟩
  exact key e e (Nat.le_refl _) a b c
end M
set_option autoImplicit false
namespace M
noncomputable def bn (b : Bool) : Nat := if b then 1 else 0
noncomputable def pk (s : Nat → Bool) (t : Nat) : Nat → Nat
  | 0 => 0
  | L + 1 => pk s t L ^^^ (if s (t + L) then 2 ^ L else 0)
theorem pk_lt (s : Nat → Bool) (t : Nat) : ∀ L, pk s t L < 2 ^ L
  | 0 => Nat.one_pos
  | L + 1 => by
    have ih := pk_lt s t L
    refine xor_lt_pow (Nat.lt_of_lt_of_le ih (Nat.pow_le_pow_right (by decide) (by omega))) ?_
    split
    · exact Nat.pow_lt_pow_right (by decide) (by omega)
    · exact Nat.two_pow_pos _
theorem pk_bit (s : Nat → Bool) (t : Nat) : ∀ L p, (pk s t L).testBit p = (decide (p < L) && s (t + p))
  | 0, p => by simp [pk]
  | L + 1, p => by
    rw [pk, Nat.testBit_xor, pk_bit s t L p]
    rcases Nat.lt_trichotomy p L with h | h | h
    · have e : (if s (t + L) = true then 2 ^ L else 0 : Nat).testBit p = false := by
        cases s (t + L) <;> simp [Nat.testBit_two_pow]; omega
      rw [e]; simp [h, show p < L + 1 by omega]
    · subst h
      cases hs : s (t + p) <;> simp [Nat.testBit_two_pow_self]
    · have e : (if s (t + L) = true then 2 ^ L else 0 : Nat).testBit p = false := by
        cases s (t + L) <;> simp [Nat.testBit_two_pow]; omega
      rw [e]; simp [show ¬ p < L by omega, show ¬ p < L + 1 by omega]
theorem pk_congr {s u : Nat → Bool} {t v : Nat} : ∀ {L : Nat}, (∀ p, p < L → s (t + p) = u (v + p)) → pk s t L = pk u v L
  | 0, _ => rfl
  | L + 1, h => by rw [pk, pk, pk_congr fun p hp => h p (by omega), h L (by omega)]
noncomputable def lf (G : Nat) : Nat → (Nat → Bool) → Nat → Bool
  | 0, _, _ => false
  | L + 1, s, t => lf G L s t ^^ (G.testBit L && s (t + L))
noncomputable def tr (as : List Nat) (x : Nat) : Nat := pk (fun k => od (as.getD k 0 &&& x)) 0 as.length
theorem tr_bit (as : List Nat) (x k : Nat) : (tr as x).testBit k = (decide (k < as.length) && od (as.getD k 0 &&& x)) := by unfold tr; rw [pk_bit, Nat.zero_add]
theorem tr_lt (as : List Nat) (x : Nat) : tr as x < 2 ^ as.length := pk_lt _ _ _
theorem tr_snoc (as : List Nat) (a x : Nat) : tr (as ++ [a]) x = tr as x ^^^ (if od (a &&& x) then 2 ^ as.length else 0) := by
  unfold tr
  rw [List.length_append, List.length_singleton, pk, Nat.zero_add]
  have e1 : (as ++ [a]).getD as.length 0 = a := by rw [List.getD_eq_getElem?_getD, List.getElem?_append_right (Nat.le_refl _), Nat.sub_self]; rfl
  rw [e1]
  have e2 : pk (fun k => od ((as ++ [a]).getD k 0 &&& x)) 0 as.length = pk (fun k => od (as.getD k 0 &&& x)) 0 as.length := pk_congr fun p hp => by
    rw [Nat.zero_add, List.getD_eq_getElem?_getD, List.getD_eq_getElem?_getD, List.getElem?_append_left hp]
  rw [e2]
noncomputable def stt (as : List Nat) (x : Nat) : Nat → Nat
  | 0 => x
  | t + 1 => tr as (stt as x t)
noncomputable def ans (as : List Nat) (o x t : Nat) : Bool := od (o &&& stt as x t)
noncomputable def lm (L G : Nat) : List Nat := (List.range (L - 1)).map (fun p => 2 ^ (p + 1)) ++ (if 0 < L then [G] else [])
end M
set_option autoImplicit false
namespace M
noncomputable def tr2 (ps : List (Nat × Nat)) (x r : Nat) : Nat := pk (fun k => od ((ps.getD k (0, 0)).1 &&& x) ^^ od ((ps.getD k (0, 0)).2 &&& r)) 0 ps.length
theorem tr2_bit (ps : List (Nat × Nat)) (x r k : Nat) : (tr2 ps x r).testBit k = (decide (k < ps.length) && (od ((ps.getD k (0, 0)).1 &&& x) ^^ od ((ps.getD k (0, 0)).2 &&& r))) := by unfold tr2; rw [pk_bit, Nat.zero_add]
theorem tr2_lt (ps : List (Nat × Nat)) (x r : Nat) : tr2 ps x r < 2 ^ ps.length := pk_lt _ _ _
theorem tr2_snoc (ps : List (Nat × Nat)) (p : Nat × Nat) (x r : Nat) : tr2 (ps ++ [p]) x r = tr2 ps x r ^^^ (if (od (p.1 &&& x) ^^ od (p.2 &&& r)) then 2 ^ ps.length else 0) := by
  unfold tr2
  rw [List.length_append, List.length_singleton, pk, Nat.zero_add]
  have e1 : (ps ++ [p]).getD ps.length (0, 0) = p := by rw [List.getD_eq_getElem?_getD, List.getElem?_append_right (Nat.le_refl _), Nat.sub_self]; rfl
  rw [e1]
  have e2 : pk (fun k => od (((ps ++ [p]).getD k (0, 0)).1 &&& x) ^^ od (((ps ++ [p]).getD k (0, 0)).2 &&& r)) 0 ps.length = pk (fun k => od ((ps.getD k (0, 0)).1 &&& x) ^^ od ((ps.getD k (0, 0)).2 &&& r)) 0 ps.length := pk_congr fun k hk => by
    rw [Nat.zero_add, List.getD_eq_getElem?_getD, List.getD_eq_getElem?_getD, List.getElem?_append_left hk]
  rw [e2]
theorem tr2_add (ps : List (Nat × Nat)) (x y r s : Nat) : tr2 ps (x ^^^ y) (r ^^^ s) = tr2 ps x r ^^^ tr2 ps y s := by
  apply Nat.eq_of_testBit_eq; intro i
  rw [Nat.testBit_xor, tr2_bit, tr2_bit, tr2_bit, and_xor, od_xor, and_xor, od_xor]
  cases decide (i < ps.length) <;> cases od ((ps.getD i (0, 0)).1 &&& x) <;> cases od ((ps.getD i (0, 0)).1 &&& y) <;> cases od ((ps.getD i (0, 0)).2 &&& r) <;> cases od ((ps.getD i (0, 0)).2 &&& s) <;> rfl
theorem tr2_zero (ps : List (Nat × Nat)) : tr2 ps 0 0 = 0 := by
  apply Nat.eq_of_testBit_eq; intro i
  rw [tr2_bit, Nat.and_zero, Nat.and_zero, od_zero]; simp
theorem xm_snoc (qs : List Nat) (k : Nat) : xm (qs ++ [k]) = xm qs ^^^ 2 ^ k := by unfold xm; rw [List.foldl_append]; rfl
end M
namespace M
theorem sm_step {rows : List Nat} {i r : Nat} (s : Nat) (h : rows[i]? = some r) : sm (rows.take (i + 1)) s = sm (rows.take i) s ^^^ (if s.testBit i then r else 0) := by
  have hi := (List.getElem?_eq_some_iff.mp h).1
  have e : rows.take (i + 1) = rows.take i ++ [r] := by rw [List.take_add_one, h]; rfl
  rw [e, sm_snoc, List.length_take, Nat.min_eq_left (by omega)]
end M
set_option autoImplicit false
namespace M
end M
set_option autoImplicit false
namespace M
noncomputable def zs (ps : List (Nat × Nat)) (x : Nat) : Nat → Nat
  | 0 => x
  | n + 1 => tr2 ps (zs ps x n) 0
end M
set_option autoImplicit false
namespace M
structure Fst (ms : List Nat) (p : Nat) : Prop where
  lt : p < ms.length
  out : ∀ k, k < p → ¬ Span (ms.take k) (ms.getD k 0)
  in_ : Span (ms.take p) (ms.getD p 0)
theorem fr_all {ms : List Nat} : ∀ j, j ≤ ms.length → (∀ k, k < j → ¬ Span (ms.take k) (ms.getD k 0)) → (fr (ms.take j)).length = j
  | 0, _, _ => by have := fr_len (ms.take 0); simpa using this
  | j + 1, hj, h => by
    have e : ms.take (j + 1) = ms.take j ++ [ms.getD j 0] := by
      rw [List.take_succ, List.getElem?_eq_getElem (by omega), List.getD_eq_getElem?_getD, List.getElem?_eq_getElem (by omega)]; rfl
    rw [e, fr_out (h j (Nat.lt_succ_self j)), List.length_append, fr_all j (by omega) (fun k hk => h k (by omega))]
    rfl
theorem chain_short {ms : List Nat} {n j : Nat} (hb : ∀ x ∈ ms, x < 2 ^ n) (hj : j ≤ ms.length) (h : ∀ k, k < j → ¬ Span (ms.take k) (ms.getD k 0)) : j ≤ n := by
  rw [← fr_all j hj h]
  exact rank_le fun r hr => hb r (List.mem_of_mem_take hr)
noncomputable def zl (ps : List (Nat × Nat)) (d n : Nat) : List Nat := (List.range (n + 1)).map (zs ps d)
theorem zl_len (ps : List (Nat × Nat)) (d n : Nat) : (zl ps d n).length = n + 1 := by unfold zl; rw [List.length_map, List.length_range]
theorem zl_get {ps : List (Nat × Nat)} {d n k : Nat} (h : k ≤ n) : (zl ps d n)[k]? = some (zs ps d k) := by
  unfold zl
  rw [List.getElem?_map, List.getElem?_range (by omega)]
  rfl
theorem zl_getD {ps : List (Nat × Nat)} {d n k : Nat} (h : k ≤ n) : (zl ps d n).getD k 0 = zs ps d k := by rw [List.getD_eq_getElem?_getD, zl_get h]; rfl
theorem zs_lt {ps : List (Nat × Nat)} {d : Nat} (h : d < 2 ^ ps.length) : ∀ k, zs ps d k < 2 ^ ps.length
  | 0 => h
  | k + 1 => tr2_lt _ _ _
theorem zl_lt {ps : List (Nat × Nat)} {d n : Nat} (h : d < 2 ^ ps.length) : ∀ x ∈ zl ps d n, x < 2 ^ ps.length := fun x hx => by
  obtain ⟨k, _, rfl⟩ := List.mem_map.mp hx
  exact zs_lt h k
theorem zs_in (ps : List (Nat × Nat)) (d : Nat) : ∀ i, zs ps (tr2 ps d 0) i = zs ps d (i + 1)
  | 0 => rfl
  | i + 1 => by show tr2 ps (zs ps (tr2 ps d 0) i) 0 = _; rw [zs_in ps d i]; rfl
theorem zs_zero (ps : List (Nat × Nat)) : ∀ k, zs ps 0 k = 0
  | 0 => rfl
  | k + 1 => by show tr2 ps (zs ps 0 k) 0 = 0; rw [zs_zero ps k, tr2_zero]
end M
set_option autoImplicit false
namespace M
noncomputable def act (ps : List (Nat × Nat)) (x Q : Nat) : Nat := if Q = 0 then 0 else (if Q % 2 = 1 then x else 0) ^^^ act ps (tr2 ps x 0) (Q / 2)
termination_by Q
decreasing_by omega
theorem act_zero (ps : List (Nat × Nat)) (x : Nat) : act ps x 0 = 0 := by unfold act; rfl
theorem act_eq (ps : List (Nat × Nat)) (x Q : Nat) : act ps x Q = (if Q % 2 = 1 then x else 0) ^^^ act ps (tr2 ps x 0) (Q / 2) := by
  by_cases h : Q = 0
  · subst h; rw [act_zero]; simp [act_zero]
  · rw [act.eq_def, if_neg h]
theorem act_xor' (ps : List (Nat × Nat)) : ∀ (n x b c : Nat), b + c ≤ n → act ps x (b ^^^ c) = act ps x b ^^^ act ps x c := by
  intro n
  induction n with
  | zero =>
    intro x b c h
    have h1 : b = 0 := by omega
    have h2 : c = 0 := by omega
    subst h1; subst h2; simp [act_zero]
  | succ n ih =>
    intro x b c h
    by_cases h0 : b + c = 0
    · have h1 : b = 0 := by omega
      have h2 : c = 0 := by omega
      subst h1; subst h2; simp [act_zero]
    · rw [act_eq ps x (b ^^^ c), act_eq ps x b, act_eq ps x c, half_xor, ih _ (b / 2) (c / 2) (by omega), xor4]
      congr 1
      have hm := mod2_xor b c
      by_cases hb : b % 2 = 1 <;> by_cases hc : c % 2 = 1 <;> simp [hb, hc, hm]
theorem act_xor (ps : List (Nat × Nat)) (x b c : Nat) : act ps x (b ^^^ c) = act ps x b ^^^ act ps x c := act_xor' ps _ x b c (Nat.le_refl _)
theorem tr2_x0 (ps : List (Nat × Nat)) (x y : Nat) : tr2 ps (x ^^^ y) 0 = tr2 ps x 0 ^^^ tr2 ps y 0 := by
  have := tr2_add ps x y 0 0
  rwa [Nat.xor_self] at this
theorem act_at0 (ps : List (Nat × Nat)) : ∀ n Q, Q ≤ n → act ps 0 Q = 0 := by
  intro n
  induction n with
  | zero => intro Q h; rw [show Q = 0 by omega, act_zero]
  | succ n ih =>
    intro Q h
    by_cases h0 : Q = 0
    · rw [h0, act_zero]
    · rw [act_eq, tr2_zero, ih _ (by omega)]; simp
theorem act_f (ps : List (Nat × Nat)) : ∀ (n Q x : Nat), Q ≤ n → act ps (tr2 ps x 0) Q = tr2 ps (act ps x Q) 0 := by
  intro n
  induction n with
  | zero => intro Q x h; rw [show Q = 0 by omega, act_zero, act_zero, tr2_zero]
  | succ n ih =>
    intro Q x h
    by_cases h0 : Q = 0
    · rw [h0, act_zero, act_zero, tr2_zero]
    · rw [act_eq ps (tr2 ps x 0), act_eq ps x, tr2_x0, ih (Q / 2) _ (by omega)]
      congr 1
      by_cases hb : Q % 2 = 1
      · rw [if_pos hb, if_pos hb]
      · rw [if_neg hb, if_neg hb, tr2_zero]
theorem act_dbl (ps : List (Nat × Nat)) (x Q : Nat) : act ps x (2 * Q) = act ps (tr2 ps x 0) Q := by
  rw [act_eq, if_neg (by omega), show 2 * Q / 2 = Q by omega, Nat.zero_xor]
theorem act_pow (ps : List (Nat × Nat)) : ∀ (k x : Nat), act ps x (2 ^ k) = zs ps x k
  | 0, x => by rw [Nat.pow_zero, act_eq]; simp [act_zero]; rfl
  | k + 1, x => by rw [Nat.pow_succ, Nat.mul_comm, act_dbl, act_pow ps k, zs_in]
theorem act_cm (ps : List (Nat × Nat)) (a : Nat) : ∀ (n b x : Nat), b ≤ n → act ps x (cm a b) = act ps (act ps x a) b := by
  intro n
  induction n with
  | zero => intro b x h; rw [show b = 0 by omega, cm_zero, act_zero, act_zero]
  | succ n ih =>
    intro b x h
    by_cases h0 : b = 0
    · rw [h0, cm_zero, act_zero, act_zero]
    · rw [cm_eq, act_xor, act_dbl, ih (b / 2) _ (by omega), act_eq ps (act ps x a) b, act_f ps _ a x (Nat.le_refl _)]
      congr 1
      by_cases hb : b % 2 = 1
      · rw [if_pos hb, if_pos hb]
      · rw [if_neg hb, if_neg hb, act_zero]
theorem act_sm (ps : List (Nat × Nat)) : ∀ (n x Q : Nat), Q < 2 ^ n → act ps x Q = sm ((List.range n).map (zs ps x)) Q
  | 0, x, Q, h => by
    have : Q < 1 := h
    rw [show Q = 0 by omega, act_zero, sm_zero]
  | n + 1, x, Q, h => by
    rw [List.range_succ_eq_map, List.map_cons, List.map_map, act_eq, act_sm ps n _ (Q / 2) (by rw [Nat.pow_succ] at h; omega)]
    show _ = (if Q.testBit 0 then zs ps x 0 else 0) ^^^ sm _ (Q / 2)
    have e : (zs ps x ∘ Nat.succ) = zs ps (tr2 ps x 0) := by funext i; rw [zs_in]; rfl
    rw [e, Nat.testBit_zero]
    congr 1
    by_cases hb : Q % 2 = 1 <;> simp [hb] <;> rfl
theorem zl_take {ps : List (Nat × Nat)} {x n p : Nat} (h : p ≤ n + 1) : (zl ps x n).take p = (List.range p).map (zs ps x) := by
  unfold zl
  rw [← List.map_take, List.take_range, Nat.min_eq_left h]
structure Lst (ps : List (Nat × Nat)) (x P : Nat) : Prop where
  nz : P ≠ 0
  dv : ∀ Q, act ps x Q = 0 ↔ Dv P Q
theorem least_of {ps : List (Nat × Nat)} {x n p q : Nat} (F : Fst (zl ps x n) p) (hq : q < 2 ^ p) (e : sm ((zl ps x n).take p) q = (zl ps x n).getD p 0) : Lst ps x (q ^^^ 2 ^ p) ∧ (q ^^^ 2 ^ p).log2 = p := by
  have hp : p ≤ n := by have := F.lt; rw [zl_len] at this; omega
  obtain ⟨h0, hl⟩ := log2_more hq
  have ez := zl_take (ps := ps) (x := x) (n := n) (p := p) (by omega)
  have haP : act ps x (q ^^^ 2 ^ p) = 0 := by
    rw [act_xor, act_pow, act_sm ps p x q hq, ← ez, e, zl_getD hp, Nat.xor_self]
  have hsmall : ∀ Q, Q < 2 ^ p → act ps x Q = 0 → Q = 0 := fun Q hQ h => by
    rw [act_sm ps p x Q hQ, ← ez] at h
    refine sum_uniq (rows := (zl ps x n).take p) (p := Q) (q := 0) (fun i hi => ?_) (Frs.zero _) (by rw [h, sm_zero])
    have hip : i < p := by
      refine Nat.lt_of_not_le fun hn => ?_
      rw [Nat.testBit_lt_two_pow (Nat.lt_of_lt_of_le hQ (Nat.pow_le_pow_right (by decide) hn))] at hi
      cases hi
    have hlen : i < ((zl ps x n).take p).length := by rw [List.length_take, zl_len]; omega
    refine ⟨hlen, ?_⟩
    have h1 : ((zl ps x n).take p).take i = (zl ps x n).take i := by rw [List.take_take, Nat.min_eq_left (by omega)]
    have h2 : ((zl ps x n).take p).getD i 0 = (zl ps x n).getD i 0 := by rw [List.getD_eq_getElem?_getD, List.getElem?_take_of_lt hip, ← List.getD_eq_getElem?_getD]
    rw [h1, h2]
    exact F.out i hip
  refine ⟨⟨h0, fun Q => ⟨fun h => ?_, fun h => ?_⟩⟩, hl⟩
  · obtain ⟨r, R⟩ := rm_exists _ h0 Q
    obtain ⟨w, ew⟩ := R.dv
    have h1 : act ps x (Q ^^^ r) = 0 := by rw [← ew, cm_comm, act_cm ps _ _ w x (Nat.le_refl _), haP, act_at0 ps _ w (Nat.le_refl _)]
    rw [act_xor, h, Nat.zero_xor] at h1
    have hr := R.lt
    rw [hl] at hr
    exact (R.dvd h0).mp (hsmall r hr h1)
  · obtain ⟨w, rfl⟩ := h
    rw [cm_comm, act_cm ps _ _ w x (Nat.le_refl _), haP, act_at0 ps _ w (Nat.le_refl _)]
theorem Lst.back {ps : List (Nat × Nat)} {x P : Nat} (L : Lst ps x P) (t e : Nat) : zs ps x (t + e) = zs ps x t ↔ Dv P ((2 ^ e ^^^ 1) * 2 ^ t) := by
  rw [← L.dv, shift_xor, act_xor, Nat.one_mul, ← Nat.pow_add, Nat.add_comm e t, act_pow, act_pow]
  constructor
  · intro h; rw [h, Nat.xor_self]
  · intro h
    have := congrArg (· ^^^ zs ps x t) h
    simpa [xor_cancel] using this
theorem dv_shift {R Y l : Nat} : Dv (R * 2 ^ l) (Y * 2 ^ l) ↔ Dv R Y := by
  constructor
  · rintro ⟨q, h⟩
    rw [cm_shift] at h
    exact ⟨q, Nat.eq_of_mul_eq_mul_right (Nat.two_pow_pos l) h⟩
  · rintro ⟨q, rfl⟩
    exact ⟨q, cm_shift q R l⟩
theorem pow_odd {e : Nat} (h : 1 ≤ e) : (2 ^ e ^^^ 1) % 2 = 1 := by
  rw [mod2_xor]
  have : 2 ^ e % 2 = 0 := by rw [show e = (e - 1) + 1 by omega, Nat.pow_succ]; omega
  omega
structure Rng (ps : List (Nat × Nat)) (x l n : Nat) : Prop where
  pos : 1 ≤ n
  back : zs ps x (l + n) = zs ps x l
  least : ∀ e, 1 ≤ e → e < n → zs ps x (l + e) ≠ zs ps x l
  early : 1 ≤ l → zs ps x (l - 1 + n) ≠ zs ps x (l - 1)
theorem early_of {ps : List (Nat × Nat)} {x R l n : Nat} (L : Lst ps x (R * 2 ^ l)) (hn : 1 ≤ n) (hl : 1 ≤ l) : zs ps x (l - 1 + n) ≠ zs ps x (l - 1) := fun h => by
  have h := (L.back (l - 1) n).mp h
  have e1 : R * 2 ^ l = 2 * R * 2 ^ (l - 1) := by
    have e2 : 2 ^ l = 2 ^ (l - 1) * 2 := by rw [← Nat.pow_succ]; congr 1; omega
    rw [e2, Nat.mul_comm 2 R, Nat.mul_assoc, Nat.mul_comm 2]
  rw [e1] at h
  obtain ⟨q, h⟩ := dv_shift.mp h
  rw [cm_dbl] at h
  have := pow_odd hn
  omega
theorem ring_one {ps : List (Nat × Nat)} {x l : Nat} (L : Lst ps x (1 * 2 ^ l)) : Rng ps x l 1 :=
  ⟨Nat.le_refl _, (L.back l 1).mpr (dv_shift.mpr ⟨_, cm_one _⟩), fun e h1 h2 => absurd h1 (by omega), early_of L (Nat.le_refl _)⟩
theorem ring_more {ps : List (Nat × Nat)} {x R l n : Nat} (L : Lst ps x (R * 2 ^ l)) (h1 : 1 ≤ R.log2) (O : Ord R n) : Rng ps x l n :=
  ⟨O.pos, (L.back l n).mpr (dv_shift.mpr O.one.dv), fun e a b h => O.least e a b ⟨Nat.lt_of_lt_of_le (by decide : 1 < 2 ^ 1) (Nat.pow_le_pow_right (by decide) h1), dv_shift.mp ((L.back l e).mp h)⟩, early_of L O.pos⟩
theorem order_lt {d e : Nat} (hd : d % 2 = 1) (h1 : 1 ≤ d.log2) (O : Ord d e) : e < 2 ^ d.log2 := by
  have hd0 : d ≠ 0 := by omega
  have hf : ∃ f : Nat → Nat, ∀ i, Rm d (2 ^ i) (f i) := ⟨fun i => Classical.choose (rm_exists d hd0 (2 ^ i)), fun i => Classical.choose_spec (rm_exists d hd0 (2 ^ i))⟩
  obtain ⟨f, hf⟩ := hf
  have one : 1 < 2 ^ d.log2 := Nat.lt_of_lt_of_le (by decide : 1 < 2 ^ 1) (Nat.pow_le_pow_right (by decide) h1)
  have key : ∀ i j, i < j → f i = f j → Rm d (2 ^ (j - i)) 1 := fun i j hij e => by
    have h := (hf i).dv.xor (hf j).dv
    rw [e, xor4, Nat.xor_self, Nat.xor_zero] at h
    have e2 : 2 ^ i ^^^ 2 ^ j = (1 ^^^ 2 ^ (j - i)) * 2 ^ i := by
      rw [shift_xor, Nat.one_mul, ← Nat.pow_add]; congr 2; omega
    rw [e2] at h
    have h2 := Dv.halves hd i h
    refine ⟨one, ?_⟩
    rw [Nat.xor_comm]; exact h2
  have nz : ∀ i, f i ≠ 0 := fun i h => by
    have h2 := ((hf i).dvd hd0).mp h
    rw [← Nat.one_mul (2 ^ i)] at h2
    have := (Dv.halves hd i h2).small hd0 one
    omega
  have nd : ((List.range e).map fun i => f i - 1).Nodup := by
    refine List.pairwise_map.mpr (List.Pairwise.imp_of_mem (fun {i j} hi hj hij => ?_) List.pairwise_lt_range)
    intro ee
    have hj := List.mem_range.mp hj
    have n1 := nz i
    have n2 := nz j
    exact O.least (j - i) (by omega) (by omega) (key i j hij (by omega))
  have := nodup_le (2 ^ d.log2 - 1) _ nd fun x hx => by
    obtain ⟨i, _, rfl⟩ := List.mem_map.mp hx
    have := (hf i).lt
    have := nz i
    omega
  rw [List.length_map, List.length_range] at this
  omega
theorem zs_add (ps : List (Nat × Nat)) (x a : Nat) : ∀ b, zs ps (zs ps x a) b = zs ps x (a + b)
  | 0 => rfl
  | b + 1 => by show tr2 ps (zs ps (zs ps x a) b) 0 = tr2 ps (zs ps x (a + b)) 0; rw [zs_add ps x a b]
theorem zs_x (ps : List (Nat × Nat)) (x y : Nat) : ∀ n, zs ps (x ^^^ y) n = zs ps x n ^^^ zs ps y n
  | 0 => rfl
  | n + 1 => by show tr2 ps (zs ps (x ^^^ y) n) 0 = _; rw [zs_x ps x y n, tr2_x0]; rfl
noncomputable def ends (ps : List (Nat × Nat)) (n : Nat) : List Nat := (List.range ps.length).map fun k => zs ps (2 ^ k) n
theorem ends_len (ps : List (Nat × Nat)) (n : Nat) : (ends ps n).length = ps.length := by unfold ends; rw [List.length_map, List.length_range]
theorem sm_lin {f : Nat → Nat} (h0 : f 0 = 0) (hx : ∀ x y, f (x ^^^ y) = f x ^^^ f y) (w : Nat) : ∀ x, x < 2 ^ w → sm ((List.range w).map fun k => f (2 ^ k)) x = f x := by
  induction w with
  | zero => intro x h; have : x < 1 := h; rw [show x = 0 by omega, h0]; rfl
  | succ w ih =>
    intro x h
    rw [List.range_succ, List.map_append, List.map_singleton]
    have hl : ((List.range w).map fun k => f (2 ^ k)).length = w := by rw [List.length_map, List.length_range]
    rw [sm_snoc, hl]
    by_cases hb : x.testBit w = true
    · rw [if_pos hb]
      have hy : x ^^^ 2 ^ w < 2 ^ w := by
        refine Nat.lt_pow_two_of_testBit _ fun i hi => ?_
        rw [Nat.testBit_xor, Nat.testBit_two_pow]
        by_cases e : w = i
        · subst e; rw [hb]; simp
        · rw [Nat.testBit_lt_two_pow (Nat.lt_of_lt_of_le h (Nat.pow_le_pow_right (by decide) (by omega)))]; simp [e]
      have e1 := ih _ hy
      rw [sm_xor, hx] at e1
      have e2 : sm ((List.range w).map fun k => f (2 ^ k)) (2 ^ w) = 0 := by rw [sm_two_pow, List.getD_eq_getElem?_getD, List.getElem?_eq_none (by rw [hl]; exact Nat.le_refl _)]; rfl
      rw [e2, Nat.xor_zero] at e1
      rw [e1, xor_cancel]
    · rw [if_neg hb, Nat.xor_zero]
      rw [Bool.not_eq_true] at hb
      refine ih x (Nat.lt_pow_two_of_testBit _ fun i hi => ?_)
      by_cases e : w = i
      · subst e; exact hb
      · exact Nat.testBit_lt_two_pow (Nat.lt_of_lt_of_le h (Nat.pow_le_pow_right (by decide) (by omega)))
theorem sm_ends (ps : List (Nat × Nat)) (n x : Nat) (h : x < 2 ^ ps.length) : sm (ends ps n) x = zs ps x n := sm_lin (f := fun x => zs ps x n) (zs_zero ps n) (fun x y => zs_x ps x y n) _ x h
theorem ends_twice (ps : List (Nat × Nat)) (n : Nat) : (ends ps n).map (sm (ends ps n)) = ends ps (n + n) := by
  unfold ends
  rw [List.map_map]
  refine List.map_congr_left fun k hk => ?_
  have hk := List.mem_range.mp hk
  have := sm_ends ps n (zs ps (2 ^ k) n) (zs_lt (Nat.pow_lt_pow_right (by decide) hk) n)
  rw [zs_add] at this
  exact this
end M
set_option Elab.async false
set_option linter.all false
set_option maxRecDepth 100000
set_option maxHeartbeats 4000000
namespace Sx
open PySem L2
noncomputable abbrev nat (k : Nat) : V := .int (k : Int)
theorem iteB {c : Bool} {A B : Prop} (h1 : c = true → A) (h2 : c = false → B) : if c = true then A else B := by
  cases c
  · rw [if_neg Bool.false_ne_true]; exact h2 rfl
  · rw [if_pos rfl]; exact h1 rfl
theorem pow_cast (h : Nat) : (2 : Int) ^ h = ((2 ^ h : Nat) : Int) := by norm_cast
theorem shl1 (k : Nat) : (1 : Int) * 2 ^ ((k : Int).toNat) = ((2 ^ k : Nat) : Int) := by rw [Int.toNat_natCast, Int.one_mul]; norm_cast
theorem bitOr_nat (a b : Nat) : Builtin.bitOr (a : Int) (b : Int) = ((a ||| b : Nat) : Int) := by
  have e1 : Builtin.bitNot (a : Int) = -(a : Int) - 1 := by first | rfl | (unfold Builtin.bitNot; omega)
  have e2 : Builtin.bitNot (b : Int) = -(b : Int) - 1 := by first | rfl | (unfold Builtin.bitNot; omega)
  unfold Builtin.bitOr Builtin.bitAnd
  rw [decide_eq_false (show ¬ (0 : Int) ≤ Builtin.bitNot (a : Int) by rw [e1]; omega), decide_eq_false (show ¬ (0 : Int) ≤ Builtin.bitNot (b : Int) by rw [e2]; omega)]
  have n : ∀ x : Int, Builtin.bitNot (Builtin.bitNot x) = x := fun x => by unfold Builtin.bitNot; omega
  simp only [n, Int.toNat_natCast]
theorem bitXor_nat (a b : Nat) : Builtin.bitXor (a : Int) (b : Int) = ((a ^^^ b : Nat) : Int) := by
  unfold Builtin.bitXor
  rw [bitOr_nat, bitAnd_nat]
  have := M.or_sum a b
  omega
theorem bits_zero : Builtin.Int.intBits ((0 : Nat) : Int) = 0 := by decide
theorem bits_log {m : Nat} (h : m ≠ 0) : Builtin.Int.intBits (m : Int) = m.log2 + 1 := by
  unfold Builtin.Int.intBits
  have e : ((m : Int) == 0) = false := by rw [beq_eq_false_iff_ne]; omega
  rw [e, if_neg Bool.false_ne_true, Int.natAbs_natCast]
theorem bit_test (m i : Nat) : Builtin.bitAnd ((m : Int) / 2 ^ ((0 + (i : Int)).toNat)) 1 = if m.testBit i then 1 else 0 := by
  have e0 : (0 + (i : Int)).toNat = i := by omega
  rw [e0, pow_cast]
  have e1 : (m : Int) / ((2 ^ i : Nat) : Int) = ((m >>> i : Nat) : Int) := by rw [Nat.shiftRight_eq_div_pow]; norm_cast
  rw [e1, show (1 : Int) = ((1 : Nat) : Int) from rfl, bitAnd_nat, Nat.and_one_is_mod]
  have : m.testBit i = (m >>> i % 2 == 1) := by
    rw [Nat.testBit_eq_decide_div_mod_eq, Nat.shiftRight_eq_div_pow]
    rcases Nat.mod_two_eq_zero_or_one (m / 2 ^ i) with h | h <;> rw [h] <;> rfl
  rw [this]
  rcases Nat.mod_two_eq_zero_or_one (m >>> i) with h | h <;> rw [h] <;> rfl
structure En where
  a : Addr
  m : Nat
  p : Nat
noncomputable def kvsOf (es : List En) : List (Key × V) := es.map fun e => (Sum.inl ((e.m.log2 : Nat) : Int), V.ref e.a)
theorem val_kvs : ∀ (es : List En) (z : Int), (∃ e ∈ es, ((e.m.log2 : Nat) : Int) = z ∧ valV (kvsOf es) (Sum.inl z) = some (.ref e.a)) ∨ ((∀ e ∈ es, ((e.m.log2 : Nat) : Int) ≠ z) ∧ valV (kvsOf es) (Sum.inl z) = none)
  | [], z => .inr ⟨fun _ h => absurd h (by simp), rfl⟩
  | e :: es, z => by
    by_cases h : ((e.m.log2 : Nat) : Int) = z
    · exact .inl ⟨e, List.mem_cons_self .., h, valV_pos (by show (Sum.inl _ : Key) = _; rw [h])⟩
    · have hv : valV (kvsOf (e :: es)) (Sum.inl z) = valV (kvsOf es) (Sum.inl z) := valV_neg (by show ¬ (Sum.inl _ : Key) = _; intro q; exact h (Sum.inl.inj q))
      rcases val_kvs es z with ⟨x, hx, e1, e2⟩ | ⟨h1, h2⟩
      · exact .inl ⟨x, List.mem_cons_of_mem _ hx, e1, by rw [hv]; exact e2⟩
      · refine .inr ⟨fun x hx => ?_, by rw [hv]; exact h2⟩
        rcases List.mem_cons.mp hx with rfl | hx
        · exact h
        · exact h1 x hx
theorem putK_new {kvs : List (Key × V)} {k : Key} {v : V} (h : valV kvs k = none) : putK kvs k v = kvs ++ [(k, v)] := by
  unfold putK
  rw [valV_any, h]
  rfl
structure StA (H : Hp) (C p d f n : Addr) (rows : List Nat) : Prop where
  ho : ∃ dx, H p = some (.ins C dx [("by_top", .ref d), ("free_places", .ref f), ("null_masks", .ref n)])
  he : ∃ es : List En, H d = some (.dK (kvsOf es)) ∧ (∀ e ∈ es, H e.a = some (.tup [nat e.m, nat e.p])) ∧ M.Ech (es.map fun e => (e.m, e.p)) rows ∧ es.length = (M.fr rows).length
  hf : H f = some (.lst ((M.fr rows).map nat))
  hn : ∃ nms, H n = some (.lst (nms.map nat)) ∧ M.Nul nms rows
  ne : f ≠ n
theorem StA.same {H H2 : Hp} {C p d f n : Addr} {rows : List Nat} (x : StA H C p d f n rows) (s : Same H H2) : StA H2 C p d f n rows where
  ho := let ⟨dx, h⟩ := x.ho; ⟨dx, s _ _ h⟩
  he := let ⟨es, h, t, g, l⟩ := x.he; ⟨es, s _ _ h, fun e he => s _ _ (t e he), g, l⟩
  hf := s _ _ x.hf
  hn := let ⟨nms, h, g⟩ := x.hn; ⟨nms, s _ _ h, g⟩
  ne := x.ne
theorem StA.null {H H2 : Hp} {C p d f n : Addr} {rows : List Nat} (x : StA H C p d f n rows) {r q : Nat} (hq : q < 2 ^ rows.length) (e : r ^^^ M.sm rows q = 0) {nms : List Nat} (hn : M.Nul nms rows) (hl : H n = some (.lst (nms.map nat)))
    (u : Upd H H2 n (.lst (nms.map nat ++ [nat (q ^^^ 2 ^ rows.length)]))) : StA H2 C p d f n (rows ++ [r]) := by
  obtain ⟨dx, ho⟩ := x.ho
  obtain ⟨es, hd, ht, g, l⟩ := x.he
  obtain ⟨hs, g2⟩ := g.null hq e
  refine ⟨⟨dx, u.oth _ _ (ne_of ho hl (by simp)) ho⟩, ⟨es, u.oth _ _ (ne_of hd hl (by simp)) hd, fun e he => u.oth _ _ (ne_of (ht e he) hl (by simp)) (ht e he), g2, by rw [M.fr_in hs]; exact l⟩, ?_, ⟨nms ++ [q ^^^ 2 ^ rows.length], ?_, hn.snoc hq e hs⟩, x.ne⟩
  · rw [M.fr_in hs]; exact u.oth _ _ x.ne x.hf
  · rw [List.map_append]; exact u.at'
theorem StA.more {H H2 H3 H4 : Hp} {C p d f n t : Addr} {rows : List Nat} (x : StA H C p d f n rows) {r q : Nat} (hq : q < 2 ^ rows.length) (e : r ^^^ M.sm rows q ≠ 0) (hn : ∀ y, M.Span rows y → y ≠ 0 → y.log2 ≠ (r ^^^ M.sm rows q).log2) (hf : M.Frs rows q)
    (u : Upd H H2 f (.lst ((M.fr rows).map nat ++ [nat rows.length]))) (s : Same H2 H3) (ht : H3 t = some (.tup [nat (r ^^^ M.sm rows q), nat (q ^^^ 2 ^ rows.length)])) {es : List En} (hd : H d = some (.dK (kvsOf es))) (ht' : ∀ e ∈ es, H e.a = some (.tup [nat e.m, nat e.p])) (g : M.Ech (es.map fun e => (e.m, e.p)) rows) (l : es.length = (M.fr rows).length)
    (u' : Upd H3 H4 d (.dK (putK (kvsOf es) (Sum.inl (((r ^^^ M.sm rows q).log2 : Nat) : Int)) (.ref t)))) : StA H4 C p d f n (rows ++ [r]) := by
  obtain ⟨dx, ho⟩ := x.ho
  obtain ⟨nms, hnn, gn⟩ := x.hn
  have hn' : ∀ e ∈ es.map (fun e => (e.m, e.p)), e.1.log2 ≠ (r ^^^ M.sm rows q).log2 := fun e he => hn e.1 (g.span he) (g.nz e he)
  obtain ⟨hs, g2⟩ := g.more hq e hn' hf
  have hd2 := s _ _ (u.oth _ _ (ne_of hd x.hf (by simp)) hd)
  have hv : valV (kvsOf es) (Sum.inl (((r ^^^ M.sm rows q).log2 : Nat) : Int)) = none := by
    rcases val_kvs es (((r ^^^ M.sm rows q).log2 : Nat) : Int) with ⟨z, hz, e1, _⟩ | ⟨_, h⟩
    · exact absurd (Int.ofNat_inj.mp e1) (hn' (z.m, z.p) (List.mem_map.mpr ⟨z, hz, rfl⟩))
    · exact h
  have go : ∀ (b : Addr) (ob : HO), H b = some ob → b ≠ f → b ≠ d → H4 b = some ob := fun b ob h h1 h2 => u'.oth _ _ h2 (s _ _ (u.oth _ _ h1 h))
  refine ⟨⟨dx, go _ _ ho (ne_of ho x.hf (by simp)) (ne_of ho hd (by simp))⟩, ⟨es ++ [⟨t, r ^^^ M.sm rows q, q ^^^ 2 ^ rows.length⟩], ?_, fun e he => ?_, ?_, ?_⟩, ?_, ⟨nms, go _ _ hnn (Ne.symm x.ne) (ne_of hnn hd (by simp)), gn.keep hs⟩, x.ne⟩
  · rw [u'.at', putK_new hv]
    unfold kvsOf
    rw [List.map_append]
    rfl
  · rcases List.mem_append.mp he with he | he
    · exact go _ _ (ht' e he) (ne_of (ht' e he) x.hf (by simp)) (ne_of (ht' e he) hd (by simp))
    · rw [List.mem_singleton] at he; subst he
      exact u'.oth _ _ (ne_of ht hd2 (by simp)) ht
  · rw [List.map_append]; exact g2
  · rw [M.fr_out hs, List.length_append, List.length_append, l]; rfl
  · rw [M.fr_out hs, List.map_append]
    exact u'.oth _ _ (fun z => by rw [z] at x; have := x.hf; rw [hd] at this; cases this) (s _ _ u.at')
noncomputable def sp_low (C : Addr) : Sp := fun vs H Q _ => ∃ p d f n rows x, vs = [.ref p, nat x] ∧ StA H C p d f n rows ∧
  ∀ t H2 q, H t = none → Same H H2 → H2 t = some (.tup [nat (x ^^^ M.sm rows q), nat q]) → q < 2 ^ rows.length → (x ^^^ M.sm rows q ≠ 0 → ∀ y, M.Span rows y → y ≠ 0 → y.log2 ≠ (x ^^^ M.sm rows q).log2) → M.Frs rows q → Q (.ref t) H2
noncomputable def sp_lay (C : Addr) : Sp := fun vs H Q _ => ∃ p d f n rows r, vs = [.ref p, nat rows.length, nat r] ∧ StA H C p d f n rows ∧ rows.length ≤ 1000 ∧
  ∀ H2, (∀ b o, b ≠ d → b ≠ f → b ≠ n → H b = some o → H2 b = some o) → StA H2 C p d f n (rows ++ [r]) → Q .non H2
noncomputable def sp_sini (C : Addr) : Sp := fun vs H Q _ => ∃ x dx r rows, vs = [.ref x, .ref r] ∧ H r = some (.lst (rows.map nat)) ∧ rows.length ≤ 1000 ∧ H x = some (.ins C dx []) ∧
  ∀ H2 d f n, (∀ b o, b ≠ x → H b = some o → H2 b = some o) → StA H2 C x d f n rows → Q .non H2
theorem get_map {α : Type} {f : α → V} {ws : List α} {i : Nat} {x : V} (h : (ws.map f)[i]? = some x) : ∃ k, ws[i]? = some k ∧ x = f k := by
  rw [List.getElem?_map] at h
  cases e : ws[i]? with
  | none => rw [e] at h; cases h
  | some k => rw [e] at h; exact ⟨k, rfl, (Option.some.inj h).symm⟩
theorem take_succ {α : Type} {ws : List α} {i : Nat} {w : α} (h : ws[i]? = some w) : ws.take (i + 1) = ws.take i ++ [w] := by rw [List.take_succ, h]; rfl
theorem take_len {α : Type} {ws : List α} {i : Nat} {w : α} (h : ws[i]? = some w) : (ws.take i).length = i := by
  rw [List.length_take]
  have := (List.getElem?_eq_some_iff.mp h).1
  omega
theorem cut_ints (ns : List Int) (lo hi : Option Int) : ∃ cs : List Int, cutV (ns.map V.int) lo hi = cs.map V.int ∧ cs.length ≤ ns.length := by
  refine ⟨(ns.drop (HT.sIx (ns.map V.int).length 0 lo)).take (HT.sIx (ns.map V.int).length (ns.map V.int).length hi - HT.sIx (ns.map V.int).length 0 lo), ?_, ?_⟩
  · unfold cutV
    rw [List.map_take, List.map_drop]
  · rw [List.length_take, List.length_drop]; omega
noncomputable def sp_mix : Sp := fun vs H Q _ => ∃ c k, vs = [.int c, .int k] ∧ 0 ≤ k ∧ k < 100000 ∧ ∀ r : Nat, r < 2147483587 → Q (nat r) H
noncomputable def sp_law (K : PySem.W.Frag) : Sp := fun vs H Q _ => ∃ (a : Addr) (ns : List Int), vs = [.ref a] ∧ SqL K H a (ns.map V.int) ∧ ns.length ≤ 63 ∧ ∀ H', Q (.bl true) H'
theorem c_mix {H : Hp} {Q : VK} {E : XK} {c k : Int} (h0 : 0 ≤ k) (h1 : k < 100000) (q : ∀ r : Nat, r < 2147483587 → Q (nat r) H) : sp_mix [.int c, .int k] H Q E := ⟨c, k, rfl, h0, h1, q⟩
structure Prs (H : Hp) (ws : List Nat) (D : Addr) (ps : List (Addr × Nat)) : Prop where
  l : H D = some (.lst (ps.map fun q => V.ref q.1))
  t : ∀ q ∈ ps, H q.1 = some (.tup [nat q.2, nat (M.sm ws q.2)])
  b : ∀ q ∈ ps, q.2 < 2 ^ ws.length
end Sx
set_option Elab.async false
set_option linter.all false
set_option maxRecDepth 100000
set_option maxHeartbeats 4000000
namespace Sx
open PySem L2
theorem nat_int (l : List Nat) : l.map nat = (l.map fun (k : Nat) => (k : Int)).map V.int := by rw [List.map_map]; rfl
theorem bits_lt (m : Nat) : m < 2 ^ Builtin.Int.intBits (m : Int) := by
  by_cases h : m = 0
  · subst h; decide
  · rw [bits_log h]; exact Nat.lt_log2_self
theorem bits_le {m w : Nat} (hm : m < 2 ^ w) : Builtin.Int.intBits (m : Int) ≤ w := by
  by_cases h : m = 0
  · subst h; rw [bits_zero]; exact Nat.zero_le _
  · rw [bits_log h]; exact (Nat.log2_lt h).mpr hm
noncomputable def sp_bits : Sp := fun vs H Q _ => ∃ m : Nat, vs = [nat m] ∧ m < 2 ^ 1000 ∧ ∀ D H2, H D = none → Same H H2 → H2 D = some (.lst ((M.pl 1000 m).map nat)) → Q (.ref D) H2
theorem at_nats {rows : List Nat} {k : Nat} (h : k < rows.length) : atI (rows.map nat) (k : Int) = some (nat (rows.getD k 0)) := atI_nat (by rw [List.getElem?_map, List.getElem?_eq_getElem h, List.getD_eq_getElem?_getD, List.getElem?_eq_getElem h]; rfl)
end Sx
set_option Elab.async false
set_option linter.all false
set_option maxRecDepth 100000
set_option maxHeartbeats 4000000
namespace Sx
open PySem L2
noncomputable def cell (ns : List Int) (k : Int) : Int := if k < ns.length then ns.getD k.toNat 0 else 41 * k + 3
noncomputable def sp_cell2 (K : PySem.W.Frag) : Sp := fun vs H Q _ => ∃ (p : Addr) (ns : List Int) (k : Int), vs = [.ref p, .int k] ∧ SqL K H p (ns.map V.int) ∧ 0 ≤ k ∧ Q (.int (cell ns k)) H
theorem c_cell2 {K : PySem.W.Frag} {H : Hp} {Q : VK} {E : XK} {p : Addr} {ns : List Int} {k : Int} (e : SqL K H p (ns.map V.int)) (h0 : 0 ≤ k) (q : Q (.int (cell ns k)) H) : sp_cell2 K [.ref p, .int k] H Q E := ⟨p, ns, k, rfl, e, h0, q⟩
noncomputable def sp_even : Sp := fun vs H Q _ => ∃ m : Nat, vs = [nat m] ∧ m < 2 ^ 1000 ∧ Q (.bl (!M.od m)) H
noncomputable def sp_odd : Sp := fun vs H Q _ => ∃ m : Nat, vs = [nat m] ∧ m < 2 ^ 1000 ∧ Q (.bl (M.od m)) H
theorem even_step (n h : Nat) : Builtin.bitXor ((n : Int) / 2 ^ ((h : Int).toNat)) (Builtin.bitAnd (n : Int) (1 * 2 ^ ((h : Int).toNat) - 1)) = (((n >>> h) ^^^ (n &&& (2 ^ h - 1)) : Nat) : Int) := by
  rw [Int.toNat_natCast, Int.one_mul, pow_cast]
  have e1 : (n : Int) / ((2 ^ h : Nat) : Int) = ((n >>> h : Nat) : Int) := by rw [Nat.shiftRight_eq_div_pow]; norm_cast
  have e2 : ((2 ^ h : Nat) : Int) - 1 = ((2 ^ h - 1 : Nat) : Int) := by have := Nat.two_pow_pos h; omega
  rw [e1, e2, bitAnd_nat, bitXor_nat]
theorem half_cast (wd : Nat) : ((wd : Int) + 1) / 2 = (((wd + 1) / 2 : Nat) : Int) := by omega
theorem od_small {n : Nat} (h : n < 2) : decide (nat n = V.int 0) = !M.od n := by
  have : n = 0 ∨ n = 1 := by omega
  rcases this with rfl | rfl
  · rw [M.od_zero]; decide
  · rw [show M.od 1 = true from M.pb_pow (t := 0) (by decide)]; decide
noncomputable def NoTop (rows : List Nat) (b : Nat) : Prop := ∀ y, M.Span rows y → y ≠ 0 → y.log2 ≠ b
noncomputable def sp_bar (C : Addr) : Sp := fun vs H Q _ => ∃ (p d f n : Addr) (rows : List Nat) (b : Nat), vs = [.ref p, nat b] ∧ StA H C p d f n rows ∧ b < 1000 ∧ (∀ r ∈ rows, r < 2 ^ 1000) ∧ (M.fr rows).length < 64 ∧ NoTop rows b ∧
  ∀ m H2, Same H H2 → M.Bar rows b m → Q (nat m) H2
structure Acr (rows : List Nat) (wd : Nat) (ms : List Nat) : Prop where
  len : ms.length + (M.fr rows).length = wd
  inj : M.Inj ms
  lt : ∀ m ∈ ms, m < 2 ^ wd
  ev : ∀ m ∈ ms, ∀ y, M.Span rows y → M.od (m &&& y) = false
  all : ∀ z, z < 2 ^ wd → (∀ y, M.Span rows y → M.od (z &&& y) = false) → M.Span ms z
theorem kvs_keys (es : List En) : (kvsOf es).map (·.1) = (es.map fun e => ((e.m.log2 : Nat) : Int)).map Sum.inl := by unfold kvsOf; rw [List.map_map, List.map_map]; rfl
theorem tops_sorted {es : List En} {ns : List Int} (hp : ns.Perm (es.map fun e => ((e.m.log2 : Nat) : Int))) (hw : ns.Pairwise (· ≤ ·)) (nd : (es.map fun e => e.m.log2).Nodup) :
    ∃ ts : List Nat, ns = ts.map (fun (k : Nat) => (k : Int)) ∧ ts.Pairwise (· < ·) ∧ (∀ t, t ∈ ts ↔ ∃ e ∈ es, e.m.log2 = t) := by
  have hn : ∀ x ∈ ns, ((x.toNat : Nat) : Int) = x := fun x hx => by
    obtain ⟨e, _, rfl⟩ := List.mem_map.mp (hp.mem_iff.mp hx)
    omega
  have e1 : ns = (ns.map Int.toNat).map (fun (k : Nat) => (k : Int)) := by
    rw [List.map_map]
    exact (List.map_id ns).symm.trans (List.map_congr_left fun x hx => (hn x hx).symm)
  have hp2 : (ns.map Int.toNat).Perm (es.map fun e => e.m.log2) := by
    have := hp.map Int.toNat
    rw [List.map_map] at this
    exact this
  refine ⟨ns.map Int.toNat, e1, ?_, fun t => ?_⟩
  · have nd2 : (ns.map Int.toNat).Nodup := hp2.nodup_iff.mpr nd
    have hle : (ns.map Int.toNat).Pairwise (· ≤ ·) := by
      rw [List.pairwise_map]
      exact hw.imp fun h => by omega
    exact List.Pairwise.imp (R := fun a b => a ≤ b ∧ a ≠ b) (fun h => by omega) (List.Pairwise.and hle nd2)
  · rw [hp2.mem_iff, List.mem_map]
end Sx
set_option Elab.async false
set_option linter.all false
set_option maxRecDepth 100000
set_option maxHeartbeats 4000000
namespace Sx
open PySem L2
noncomputable def dg (m : Nat) : Int := (Builtin.Int.intBits (m : Int) : Int) - 1
theorem dg_zero : dg 0 = -1 := by unfold dg; rw [bits_zero]; rfl
theorem dg_log {m : Nat} (h : m ≠ 0) : dg m = (m.log2 : Int) := by unfold dg; rw [bits_log h]; omega
theorem dg_ge {r d : Nat} (hd : d ≠ 0) : dg d ≤ dg r ↔ r ≠ 0 ∧ d.log2 ≤ r.log2 := by
  by_cases h : r = 0
  · subst h; rw [dg_zero, dg_log hd]; constructor
    · intro z; omega
    · rintro ⟨z, _⟩; exact absurd rfl z
  · rw [dg_log h, dg_log hd]; constructor
    · intro z; exact ⟨h, by omega⟩
    · rintro ⟨_, z⟩; omega
theorem lt_of_not {r d : Nat} (hd : d ≠ 0) (h : ¬ (r ≠ 0 ∧ d.log2 ≤ r.log2)) : r < 2 ^ d.log2 := by
  by_cases r0 : r = 0
  · subst r0; exact Nat.two_pow_pos _
  · exact Nat.lt_of_lt_of_le Nat.lt_log2_self (Nat.pow_le_pow_right (by decide) (by have : ¬ d.log2 ≤ r.log2 := fun z => h ⟨r0, z⟩; omega))
theorem cshl {a p : Nat} (ha : a < 2 ^ 3000) (hp : p ≤ 3000) : CShl (a : Int) (p : Int) := ⟨Int.natCast_nonneg _, by have := bits_le ha; omega⟩
theorem shl_nat (a p : Nat) : (a : Int) * 2 ^ ((p : Int).toNat) = ((a * 2 ^ p : Nat) : Int) := by rw [Int.toNat_natCast]; push_cast; rfl
theorem cm_turn {q d r p : Nat} : M.cm (q ^^^ 2 ^ p) d ^^^ (r ^^^ d * 2 ^ p) = M.cm q d ^^^ r := by
  rw [M.cm_radd, M.pow_cm, M.xor4, Nat.xor_comm (d * 2 ^ p), ← Nat.xor_assoc, M.xor_cancel]
theorem wide_up {a b z : Nat} (h : z < 2 ^ a) (hab : a ≤ b) : z < 2 ^ b := Nat.lt_of_lt_of_le h (Nat.pow_le_pow_right (by decide) hab)
noncomputable def sp_deg : Sp := fun vs H Q _ => ∃ m : Nat, vs = [nat m] ∧ Q (.int (dg m)) H
noncomputable def sp_div (C : Addr) : Sp := fun vs H Q E => ∃ x d : Nat, vs = [nat x, nat d] ∧ x < 2 ^ 1000 ∧ d < 2 ^ 1000 ∧ (d = 0 → E (.ref C) none H) ∧
  (d ≠ 0 → ∀ t H2 q r, H t = none → Same H H2 → H2 t = some (.tup [nat q, nat r]) → M.Rm d x r → M.cm q d ^^^ r = x → Q (.ref t) H2)
end Sx
set_option Elab.async false
set_option linter.all false
set_option maxRecDepth 100000
set_option maxHeartbeats 4000000
namespace Sx
open PySem L2
noncomputable def wholeB (k : String) : Bool := subB k "int" && !subB k "bool"
noncomputable def maskB (x : V) (w : Int) : Bool := match x with
  | .int i => decide (0 ≤ i) && decide (((Builtin.Int.intBits i : Nat) : Int) ≤ w)
  | _ => false
noncomputable def sp_whole (K : PySem.W.Frag) : Sp := fun vs H Q _ => ∃ x k, vs = [x] ∧ kindV K H x k ∧ Q (.bl (wholeB k)) H
noncomputable def sp_mask (K : PySem.W.Frag) : Sp := fun vs H Q _ => ∃ x k w, vs = [x, .int w] ∧ kindV K H x k ∧ Q (.bl (maskB x w)) H
theorem c_whole {K : PySem.W.Frag} {H : Hp} {Q : VK} {E : XK} {x : V} {k : String} (hk : kindV K H x k) (q : Q (.bl (wholeB k)) H) : sp_whole K [x] H Q E := ⟨x, k, rfl, hk, q⟩
theorem c_mask {K : PySem.W.Frag} {H : Hp} {Q : VK} {E : XK} {x : V} {k : String} {i : Int} (hk : kindV K H x k) (q : Q (.bl (maskB x i)) H) : sp_mask K [x, .int i] H Q E := ⟨x, k, i, rfl, hk, q⟩
noncomputable def sp_turns : Sp := fun vs H Q _ => ∃ d : Nat, vs = [nat d] ∧ d % 2 = 1 ∧ 1 ≤ d.log2 ∧ d < 2 ^ 17 ∧ ∀ H2 e, Same H H2 → M.Ord d e → Q (nat e) H2
noncomputable def sp_primes : Sp := fun vs H Q _ => ∃ n : Nat, vs = [nat n] ∧ 1 ≤ n ∧ n ≤ 2 ^ 20 ∧ ∀ (D : Addr) (H2 : Hp) (ps : List Nat), H D = none → Same H H2 → H2 D = some (.lst (ps.map nat)) → (∀ p ∈ ps, 2 ≤ p ∧ p ∣ n) → Q (.ref D) H2
theorem emod_nat {c m : Int} (h : 0 < m) : ∃ k : Nat, c % m = (k : Int) ∧ (k : Int) < m := by
  obtain ⟨k, hk⟩ := Int.eq_ofNat_of_zero_le (Int.emod_nonneg c (Int.ne_of_gt h))
  exact ⟨k, hk, by rw [← hk]; exact Int.emod_lt_of_pos c h⟩
theorem s_rep {H : Hp} {Q : VK} {l : Addr} {k : Int} {xs : List V} (e : H l = some (.lst xs)) (h0 : -(2 ^ 63) ≤ k) (h1 : k < 2 ^ 63) (hz : xs.length * k.toNat ≤ sizeLine) (h : ∀ p H2, H p = none → Same H H2 → H2 p = some (.lst (List.replicate k.toNat xs).flatten) → Q (.ref p) H2) : rRep (.ref l) (.int k) H Q :=
  ⟨l, k, xs, rfl, rfl, e, h0, h1, hz, s_alloc h⟩
end Sx
set_option Elab.async false
set_option linter.all false
set_option maxRecDepth 100000
set_option maxHeartbeats 4000000
namespace Sx
open PySem L2
noncomputable abbrev Pr3 := Addr × Nat × Nat
noncomputable def refs (ps : List Pr3) : List V := ps.map fun q => V.ref q.1
noncomputable def Prt (H : Hp) (ps : List Pr3) : Prop := ∀ q ∈ ps, H q.1 = some (.tup [nat q.2.1, nat q.2.2])
theorem Prt.same {H H2 : Hp} {ps : List Pr3} (x : Prt H ps) (s : Same H H2) : Prt H2 ps := fun q h => s _ _ (x q h)
structure MaA (H : Hp) (C p : Addr) (m : Nat) (nx os : List Pr3) : Prop where
  ho : ∃ dx tn to, H p = some (.ins C dx [("inputs", nat m), ("nexts", .ref tn), ("outs", .ref to)]) ∧ H tn = some (.tup (refs nx)) ∧ H to = some (.tup (refs os))
  hn : Prt H nx
  hs : Prt H os
theorem MaA.same {H H2 : Hp} {C p : Addr} {m : Nat} {nx os : List Pr3} (x : MaA H C p m nx os) (s : Same H H2) : MaA H2 C p m nx os :=
  ⟨let ⟨dx, tn, to, a, b, c⟩ := x.ho; ⟨dx, tn, to, s _ _ a, s _ _ b, s _ _ c⟩, x.hn.same s, x.hs.same s⟩
noncomputable def sq (bs : List Bool) : Nat → Bool := fun i => bs.getD i false
noncomputable def sp_maskof : Sp := fun vs H Q _ => ∃ (r : Addr) (ps : List Nat), vs = [.ref r] ∧ H r = some (.lst (ps.map nat)) ∧ (∀ p ∈ ps, p < 1000) ∧ Q (nat (M.xm ps)) H
noncomputable def sp_pairG : Sp := fun vs H Q _ => ∃ (t : Addr) (x y n m : Nat), vs = [.ref t, nat n, nat m] ∧ H t = some (.tup [nat x, nat y]) ∧ x < 2 ^ n ∧ y < 2 ^ m ∧ Q (.bl true) H
structure Tab (H : Hp) (n o : Addr) (m : Nat) (nx os : List Pr3) : Prop where
  m6 : m ≤ 6
  n : H n = some (.lst (refs nx))
  o : H o = some (.lst (refs os))
  pn : Prt H nx
  po : Prt H os
  ln : nx.length ≤ 120
  lo : os.length ≤ 6
  bn : ∀ q ∈ nx ++ os, q.2.1 < 2 ^ nx.length ∧ q.2.2 < 2 ^ m
noncomputable def sp_ctab : Sp := fun vs H Q _ => ∃ (n o : Addr) (m : Nat) (nx os : List Pr3), vs = [nat m, .ref n, .ref o] ∧ Tab H n o m nx os ∧ ∀ H2, Same H H2 → Q .non H2
noncomputable def sp_mini (C : Addr) : Sp := fun vs H Q _ => ∃ (x dx n o : Addr) (m : Nat) (nx os : List Pr3), vs = [.ref x, nat m, .ref n, .ref o] ∧ H x = some (.ins C dx []) ∧ Tab H n o m nx os ∧ ∀ H2, (∀ b ob, b ≠ x → H b = some ob → H2 b = some ob) → MaA H2 C x m nx os → Q .non H2
noncomputable def sp_stores (C : Addr) : Sp := fun vs H Q _ => ∃ (p : Addr) (m : Nat) (nx os : List Pr3), vs = [.ref p] ∧ MaA H C p m nx os ∧ Q (nat nx.length) H
structure Lfsr (nx os : List Pr3) (L G : Nat) : Prop where
  nx : nx.map (fun q => q.2.1) = M.lm L G
  os : ∃ t, os = [(t, (if 0 < L then 1 else 0), 0)]
theorem maskB_nat {a n : Nat} (h : a < 2 ^ n) : maskB (nat a) (n : Int) = true := by
  have := bits_le h
  show (decide ((0 : Int) ≤ (a : Int)) && decide (((Builtin.Int.intBits (a : Int) : Nat) : Int) ≤ (n : Int))) = true
  rw [decide_eq_true (by omega), decide_eq_true (by omega)]; rfl
theorem xm_take {ps : List Nat} {i k : Nat} (h : ps[i]? = some k) : M.xm (ps.take (i + 1)) = M.xm (ps.take i) ^^^ 2 ^ k := by rw [take_succ h]; unfold M.xm; rw [List.foldl_append]; rfl
theorem xm_pl {w m : Nat} (h : m < 2 ^ w) : M.xm (M.pl w m) = m := M.xm_ext h fun k => rfl
end Sx
set_option Elab.async false
set_option linter.all false
set_option maxRecDepth 100000
set_option maxHeartbeats 4000000
namespace Sx
open PySem L2
noncomputable def Sq2 (K : PySem.W.Frag) (H : Hp) (r : Addr) (xs : List V) : Prop := SqL K H r xs ∨ SqT K H r xs
noncomputable abbrev ms (nx : List Pr3) : List Nat := nx.map fun q => q.2.1
noncomputable def sp_turn (K : PySem.W.Frag) : Sp := fun vs H Q _ => ∃ (r : Addr) (nx : List Pr3) (x : Nat), vs = [.ref r, nat x] ∧ Sq2 K H r (refs nx) ∧ Prt H nx ∧ nx.length ≤ 500 ∧ x < 2 ^ 1000 ∧ ∀ H2, Same H H2 → Q (nat (M.tr (ms nx) x)) H2
theorem or_top {f k : Nat} (h : f < 2 ^ k) (b : Bool) : f ||| (if b then 2 ^ k else 0) = f ^^^ (if b then 2 ^ k else 0) := by
  cases b with
  | false => simp
  | true =>
    apply Nat.eq_of_testBit_eq; intro i
    rw [if_pos rfl, Nat.testBit_or, Nat.testBit_xor, Nat.testBit_two_pow]
    by_cases hi : k = i
    · subst hi; rw [Nat.testBit_lt_two_pow h]; simp
    · simp [hi]
theorem turn_step {nx : List Pr3} {i : Nat} {q : Pr3} (x : Nat) (h : nx[i]? = some q) : M.tr (ms (nx.take (i + 1))) x = M.tr (ms (nx.take i)) x ||| (if M.od (q.2.1 &&& x) then 2 ^ i else 0) := by
  have hl : (ms (nx.take i)).length = i := by unfold ms; rw [List.length_map]; exact take_len h
  have ht : M.tr (ms (nx.take i)) x < 2 ^ i := by have := M.tr_lt (ms (nx.take i)) x; rwa [hl] at this
  rw [or_top ht, take_succ h]
  unfold ms
  rw [List.map_append, List.map_singleton, M.tr_snoc]
  unfold ms at hl
  rw [hl]
end Sx
set_option Elab.async false
set_option linter.all false
set_option maxRecDepth 100000
set_option maxHeartbeats 4000000
namespace Sx
open PySem L2
structure MaG (m : Nat) (nx os : List Pr3) : Prop where
  m6 : m ≤ 6
  ln : nx.length ≤ 120
  lo : os.length ≤ 6
  bn : ∀ q ∈ nx ++ os, q.2.1 < 2 ^ nx.length ∧ q.2.2 < 2 ^ m
theorem Tab.g {H : Hp} {n o : Addr} {m : Nat} {nx os : List Pr3} (t : Tab H n o m nx os) : MaG m nx os := ⟨t.m6, t.ln, t.lo, t.bn⟩
theorem Tab.same {H H2 : Hp} {n o : Addr} {m : Nat} {nx os : List Pr3} (t : Tab H n o m nx os) (s : Same H H2) : Tab H2 n o m nx os := ⟨t.m6, s.get t.n, s.get t.o, t.pn.same s, t.po.same s, t.ln, t.lo, t.bn⟩
noncomputable abbrev prs (nx : List Pr3) : List (Nat × Nat) := nx.map (·.2)
theorem prs_len (nx : List Pr3) : (prs nx).length = nx.length := List.length_map ..
theorem refs_len (nx : List Pr3) : (refs nx).length = nx.length := List.length_map ..
theorem pow_le1000 {x n : Nat} (h : x < 2 ^ n) (hn : n ≤ 1000) : x < 2 ^ 1000 := Nat.lt_of_lt_of_le h (Nat.pow_le_pow_right (by decide) hn)
theorem MaG.b1 {m : Nat} {nx os : List Pr3} (g : MaG m nx os) : ∀ q ∈ nx, q.2.1 < 2 ^ 1000 ∧ q.2.2 < 2 ^ 1000 := fun q h => have := g.ln; have := g.m6; have b := g.bn q (List.mem_append_left _ h); ⟨pow_le1000 b.1 (by omega), pow_le1000 b.2 (by omega)⟩
theorem MaG.b2 {m : Nat} {nx os : List Pr3} (g : MaG m nx os) : ∀ q ∈ os, q.2.1 < 2 ^ 1000 ∧ q.2.2 < 2 ^ 1000 := fun q h => have := g.ln; have := g.m6; have b := g.bn q (List.mem_append_right _ h); ⟨pow_le1000 b.1 (by omega), pow_le1000 b.2 (by omega)⟩
noncomputable def Kinds (K : PySem.W.Frag) (H : Hp) (xs : List V) : Prop := ∀ x ∈ xs, ∃ k, kindV K H x k
theorem maskB_of {x : V} {n : Nat} (h : maskB x (n : Int) = true) : ∃ a : Nat, x = nat a ∧ a < 2 ^ n := by
  cases x with
  | int i =>
    have h : (decide ((0 : Int) ≤ i) && decide (((Builtin.Int.intBits i : Nat) : Int) ≤ (n : Int))) = true := h
    simp only [Bool.and_eq_true, decide_eq_true_eq] at h
    obtain ⟨a, rfl⟩ := Int.eq_ofNat_of_zero_le h.1
    exact ⟨a, rfl, Nat.lt_of_lt_of_le (bits_lt a) (Nat.pow_le_pow_right (by decide) (by omega))⟩
  | _ => cases h
theorem maskB_ge {a n : Nat} (h : 2 ^ n ≤ a) : maskB (nat a) (n : Int) = false := by
  cases hm : maskB (nat a) (n : Int) with
  | false => rfl
  | true =>
    obtain ⟨b, e, hb⟩ := maskB_of hm
    have e : (a : Int) = (b : Int) := V.int.inj e
    omega
theorem maskB_neg {i : Int} {n : Nat} (h : i < 0) : maskB (.int i) (n : Int) = false := by
  show (decide ((0 : Int) ≤ i) && decide (((Builtin.Int.intBits i : Nat) : Int) ≤ (n : Int))) = false
  rw [decide_eq_false (by omega)]; rfl
theorem maskB_great {i : Int} {n : Nat} (h : ((2 ^ n : Nat) : Int) ≤ i) : maskB (.int i) (n : Int) = false := by
  obtain ⟨a, rfl⟩ := Int.eq_ofNat_of_zero_le (show 0 ≤ i by have := Nat.two_pow_pos n; omega)
  exact maskB_ge (by omega)
theorem xor_bools (x y : Bool) : (!decide (V.bl (!x) = V.bl (!y))) = (x ^^ y) := by cases x <;> cases y <;> rfl
theorem tr2_take {ps : List Pr3} {i : Nat} {q : Pr3} (x y : Nat) (h : ps[i]? = some q) : M.tr2 (prs (ps.take (i + 1))) x y = M.tr2 (prs (ps.take i)) x y ^^^ (if (M.od (q.2.1 &&& x) ^^ M.od (q.2.2 &&& y)) then 2 ^ i else 0) := by
  have hl : (prs (ps.take i)).length = i := by rw [prs_len]; exact take_len h
  rw [take_succ h]
  unfold prs at hl ⊢
  rw [List.map_append, List.map_singleton, M.tr2_snoc, hl]
theorem cut_take (xs : List V) (y : Nat) (hy : y ≤ xs.length) : cutV xs none (some (y : Int)) = xs.take y := by
  unfold cutV
  rw [HT.sIx_nat, HT.sIx_none, Nat.min_eq_left hy, Nat.sub_zero, List.drop_zero]
theorem nat_inj {a b : Nat} (h : nat a = nat b) : a = b := by
  have h : (a : Int) = (b : Int) := V.int.inj h
  omega
noncomputable def sp_isodd : Sp := fun vs H Q _ => ∃ (t : Addr) (a b x r : Nat), vs = [.ref t, nat x, nat r] ∧ H t = some (.tup [nat a, nat b]) ∧ a < 2 ^ 1000 ∧ b < 2 ^ 1000 ∧ Q (.bl (M.od (a &&& x) ^^ M.od (b &&& r))) H
noncomputable def sp_oddp (K : PySem.W.Frag) : Sp := fun vs H Q _ => ∃ (r : Addr) (ps : List Pr3) (x y : Nat), vs = [.ref r, nat x, nat y] ∧ SqT K H r (refs ps) ∧ Prt H ps ∧ ps.length ≤ 1000 ∧ (∀ q ∈ ps, q.2.1 < 2 ^ 1000 ∧ q.2.2 < 2 ^ 1000) ∧ ∀ H2, Same H H2 → Q (nat (M.tr2 (prs ps) x y)) H2
noncomputable def sp_chk (K : PySem.W.Frag) (C B : Addr) : Sp := fun vs H Q E => ∃ (p : Addr) (m : Nat) (nx os : List Pr3) (x : V) (k : String), vs = [.ref p, x] ∧ MaA H C p m nx os ∧ kindV K H x k ∧ (maskB x nx.length = true → Q .non H) ∧ (maskB x nx.length = false → E (.ref B) none H)
noncomputable def sp_mstep (K : PySem.W.Frag) (C B : Addr) : Sp := fun vs H Q E => ∃ (p : Addr) (m : Nat) (nx os : List Pr3) (x y : V) (kx ky : String), vs = [.ref p, x, y] ∧ MaA H C p m nx os ∧ MaG m nx os ∧ kindV K H x kx ∧ kindV K H y ky ∧
  (∀ a b : Nat, x = nat a → y = nat b → a < 2 ^ nx.length → b < 2 ^ m → ∀ (t : Addr) (H2 : Hp), Same H H2 → H2 t = some (.tup [nat (M.tr2 (prs os) a b), nat (M.tr2 (prs nx) a b)]) → Q (.ref t) H2) ∧
  (maskB x nx.length = false ∨ maskB y m = false → E (.ref B) none H)
structure Asked (K : PySem.W.Frag) (H : Hp) (C p rr : Addr) (m : Nat) (nx os : List Pr3) (x : V) (xs : List V) : Prop where
  ma : MaA H C p m nx os
  g : MaG m nx os
  kx : ∃ k, kindV K H x k
  sq : SqL K H rr xs
  ks : Kinds K H xs
  ln : xs.length ≤ 1000
structure TabT (H : Hp) (t n o : Addr) (m : Nat) (nx os : List Pr3) : Prop where
  t : H t = some (.tup [nat m, .ref n, .ref o])
  tab : Tab H n o m nx os
noncomputable def sp_lmasks : Sp := fun vs H Q _ => ∃ (c : Int) (st n w : Nat) (dg : Bool), vs = [.int c, nat st, nat n, nat w, .bl dg] ∧ st ≤ 900 ∧ n ≤ 64 ∧ w ≤ 16 ∧
  ∀ (D : Addr) (H2 : Hp) (ms : List Nat), H D = none → Same H H2 → H2 D = some (.lst (ms.map nat)) → ms.length = n → (∀ x ∈ ms, x < 2 ^ w) → Q (.ref D) H2
noncomputable def sp_lthin : Sp := fun vs H Q _ => ∃ (r : Addr) (ms : List Nat) (c : Int) (st wy w : Nat), vs = [.ref r, .int c, nat st, nat wy] ∧ H r = some (.lst (ms.map nat)) ∧ st ≤ 900 ∧ w ≤ 16 ∧ ms.length ≤ w ∧ (∀ x ∈ ms, x < 2 ^ w) ∧
  ∀ (D : Addr) (H2 : Hp) (ms2 : List Nat), H D = none → Same H H2 → H2 D = some (.lst (ms2.map nat)) → ms2.length = ms.length → (∀ x ∈ ms2, x < 2 ^ w) → Q (.ref D) H2
noncomputable def sp_lmach (K : PySem.W.Frag) : Sp := fun vs H Q _ => ∃ (p : Addr) (ns : List Int) (st mo : Nat), vs = [.ref p, nat st, nat mo] ∧ SqL K H p (ns.map V.int) ∧ st ≤ 900 ∧ mo ≤ 16 ∧
  ∀ (t n o : Addr) (H2 : Hp) (m : Nat) (nx os : List Pr3), Same H H2 → H n = none → H o = none → TabT H2 t n o m nx os → nx.length ≤ 16 → Q (.ref t) H2
theorem fresh_of {H H2 : Hp} {D : Addr} (s : Same H H2) (f : H2 D = none) : H D = none := by
  cases hx : H D with
  | none => rfl
  | some v => have := s _ _ hx; rw [f] at this; cases this
theorem zip_tab {H : Hp} {ps : List Addr} {m1 m2 : List Nat} (l : m1.length = m2.length) (lp : ps.length = (m1.map nat).length) (h : ∀ (j : Nat) (p : Addr) (x y : V), ps[j]? = some p → (m1.map nat)[j]? = some x → (m2.map nat)[j]? = some y → H p = some (.tup [x, y])) :
    ∃ nx : List Pr3, refs nx = ps.map V.ref ∧ Prt H nx ∧ nx.length = m1.length ∧ ∀ q ∈ nx, q.2.1 ∈ m1 ∧ q.2.2 ∈ m2 := by
  rw [List.length_map] at lp
  refine ⟨ps.zip (m1.zip m2), ?_, fun q hq => ?_, ?_, fun q hq => ?_⟩
  · unfold refs
    have : (ps.zip (m1.zip m2)).map (fun q => V.ref q.1) = ((ps.zip (m1.zip m2)).map Prod.fst).map V.ref := by rw [List.map_map]; rfl
    rw [this, List.map_fst_zip (by rw [List.length_zip]; omega)]
  · obtain ⟨j, hj⟩ := List.mem_iff_getElem?.mp hq
    obtain ⟨h1, h2⟩ := List.getElem?_zip_eq_some.mp hj
    obtain ⟨h3, h4⟩ := List.getElem?_zip_eq_some.mp h2
    exact h j q.1 _ _ h1 (by rw [List.getElem?_map, h3]; rfl) (by rw [List.getElem?_map, h4]; rfl)
  · rw [List.length_zip, List.length_zip]; omega
  · obtain ⟨j, hj⟩ := List.mem_iff_getElem?.mp hq
    obtain ⟨h1, h2⟩ := List.getElem?_zip_eq_some.mp hj
    obtain ⟨h3, h4⟩ := List.getElem?_zip_eq_some.mp h2
    exact ⟨List.mem_of_getElem? h3, List.mem_of_getElem? h4⟩
theorem bit_test' (m i : Nat) : Builtin.bitAnd ((m : Int) / 2 ^ ((i : Int).toNat)) 1 = if m.testBit i then 1 else 0 := by
  have := bit_test m i
  rwa [show (0 : Int) + (i : Int) = (i : Int) from Int.zero_add _] at this
end Sx
set_option Elab.async false
set_option linter.all false
set_option maxRecDepth 100000
set_option maxHeartbeats 4000000
namespace Sx
open PySem L2
end Sx
set_option Elab.async false
set_option linter.all false
set_option maxRecDepth 100000
set_option maxHeartbeats 4000000
namespace Sx
open PySem L2
end Sx
set_option Elab.async false
set_option linter.all false
set_option maxRecDepth 100000
set_option maxHeartbeats 4000000
namespace Sx
open PySem L2
structure Sumd (rows : List Nat) (x q : Nat) : Prop where
  lt : q < 2 ^ rows.length
  sm : M.sm rows q = x
  fr : M.Frs rows q
structure Bard (rows : List Nat) (x m : Nat) : Prop where
  ns : ¬ M.Span rows x
  bar : ∃ y, M.Span rows y ∧ x ^^^ y ≠ 0 ∧ NoTop rows (x ^^^ y).log2 ∧ M.Bar rows (x ^^^ y).log2 m
  ev : ∀ y, M.Span rows y → M.od (m &&& y) = false
  odd : M.od (m &&& x) = true
  lt : ∀ W, (∀ r ∈ rows, r < 2 ^ W) → x < 2 ^ W → m < 2 ^ W
noncomputable def sp_sumfor2 : Sp := fun vs H Q _ => ∃ (r : Addr) (rows : List Nat) (x : Nat), vs = [.ref r, nat x] ∧ H r = some (.lst (rows.map nat)) ∧ rows.length ≤ 1000 ∧ (∀ r ∈ rows, r < 2 ^ 1000) ∧ x < 2 ^ 1000 ∧ (M.Span rows x ∨ (M.fr rows).length < 64) ∧
  (∀ (t D : Addr) (H2 : Hp) (q : Nat), H D = none → Same H H2 → H2 t = some (.tup [.str "sum", .ref D]) → H2 D = some (.lst ((M.pl 1000 q).map nat)) → Sumd rows x q → Q (.ref t) H2) ∧
  (∀ (t : Addr) (H2 : Hp) (m : Nat), Same H H2 → H2 t = some (.tup [.str "no", nat m]) → Bard rows x m → Q (.ref t) H2)
end Sx
namespace L2
open PySem
end L2
namespace Sx
open PySem L2
end Sx
namespace Sx
open PySem L2
end Sx
namespace Sx
open PySem L2
end Sx
set_option Elab.async false
set_option linter.all false
set_option maxRecDepth 100000
set_option maxHeartbeats 4000000
namespace Sx
open PySem L2
noncomputable def TupV (K : PySem.W.Frag) (H : Hp) (y : V) : Option (List V) → Prop
  | some xs => ∃ r, y = .ref r ∧ SqT K H r xs ∧ Kinds K H xs
  | none => ∃ k, kindV K H y k ∧ k ≠ "tuple"
noncomputable def pairB (n m : Nat) : Option (List V) → Bool
  | some [x, y] => maskB x n && maskB y m
  | _ => false
noncomputable abbrev It2 := V × Option (List V)
noncomputable def LstV (K : PySem.W.Frag) (H : Hp) (y : V) : Option (List It2) → Prop
  | some zs => ∃ r, y = .ref r ∧ H r = some (.lst (zs.map (·.1))) ∧ ∀ z ∈ zs, TupV K H z.1 z.2
  | none => ∃ k, kindV K H y k ∧ k ≠ "list"
noncomputable def tabB (x : V) (on oo : Option (List It2)) : Bool := match x, on, oo with
  | .int i, some zs, some ws => decide (0 ≤ i) && decide (i ≤ 6) && decide (zs.length ≤ 120) && decide (ws.length ≤ 6) && (zs ++ ws).all fun z => pairB zs.length i.toNat z.2
  | _, _, _ => false
end Sx
namespace L2
open PySem
end L2
namespace Sx
open PySem L2
structure BadT (K : PySem.W.Frag) (H : Hp) (x y z : V) : Prop where
  ex : ∃ k on oo, kindV K H x k ∧ LstV K H y on ∧ LstV K H z oo ∧ tabB x on oo = false
end Sx
namespace L2
open PySem
end L2
namespace Sx
open PySem L2
end Sx
namespace Sx
open PySem L2
end Sx
namespace Sx
open PySem L2
end Sx
set_option Elab.async false
set_option linter.all false
set_option maxRecDepth 100000
set_option maxHeartbeats 4000000
namespace Sx
open PySem L2
noncomputable def FdS (H0 H : Hp) (t : Addr) (rows : List Nat) (x : Nat) : Prop :=
  (∃ D q, H t = some (.tup [.str "sum", .ref D]) ∧ H D = some (.lst ((M.pl 1000 q).map nat)) ∧ Sumd rows x q ∧ H0 D = none) ∨ ∃ m, H t = some (.tup [.str "no", nat m]) ∧ Bard rows x m
theorem FdS.back {H0 H1 H : Hp} {t : Addr} {rows : List Nat} {x : Nat} (h : FdS H1 H t rows x) (s : Same H0 H1) : FdS H0 H t rows x := h.imp (fun ⟨D, q, a, b, c, f⟩ => ⟨D, q, a, b, c, s.free f⟩) id
theorem c_sumfor2 {H : Hp} {Q : VK} {E : XK} {r : Addr} {rows : List Nat} {x : Nat} (hp : H r = some (.lst (rows.map nat))) (hl : rows.length ≤ 1000) (hb : ∀ r ∈ rows, r < 2 ^ 1000) (hx : x < 2 ^ 1000) (h64 : (M.fr rows).length < 64)
    (h : ∀ t H2, Same H H2 → FdS H H2 t rows x → Q (.ref t) H2) : sp_sumfor2 [.ref r, nat x] H Q E :=
  ⟨r, rows, x, rfl, hp, hl, hb, hx, .inr h64, fun t D H2 q f s e e' sd => h t H2 s (.inl ⟨D, q, e, e', sd, f⟩), fun t H2 m s e bd => h t H2 s (.inr ⟨m, e, bd⟩)⟩
noncomputable def cps (p q k : Nat) : List Nat := if k + 1 < p then [k + 1] else M.pl 1000 q
structure ChS (H : Hp) (S : Addr) (p q : Nat) (rs : List Addr) : Prop where
  at_ : H S = some (.lst (rs.map V.ref))
  len : rs.length = p
  get : ∀ (k : Nat) (r : Addr), rs[k]? = some r → H r = some (.lst ((cps p q k).map nat))
theorem ChS.same {H H2 : Hp} {S : Addr} {p q : Nat} {rs : List Addr} (c : ChS H S p q rs) (s : Same H H2) : ChS H2 S p q rs := ⟨s.get c.at_, c.len, fun k r e => s.get (c.get k r e)⟩
structure ChT (H : Hp) (D S : Addr) (ms : List Nat) (p q : Nat) : Prop where
  fs : M.Fst ms p
  sd : Sumd (ms.take p) (ms.getD p 0) q
  d : H D = some (.lst ((ms.take p).map nat))
  s : ∃ rs, ChS H S p q rs
noncomputable def sp_chain : Sp := fun vs H Q _ => ∃ (r : Addr) (ms : List Nat) (n : Nat), vs = [.ref r] ∧ H r = some (.lst (ms.map nat)) ∧ ms.length = n + 1 ∧ n ≤ 60 ∧ (∀ x ∈ ms, x < 2 ^ n) ∧
  ∀ (t D S : Addr) (H2 : Hp) (p q : Nat), H D = none → H S = none → D ≠ S → Same H H2 → H2 t = some (.tup [.ref D, .ref S]) → ChT H2 D S ms p q → Q (.ref t) H2
theorem lt1000 {n x : Nat} (hn : n ≤ 60) (h : x < 2 ^ n) : x < 2 ^ 1000 := Nat.lt_of_lt_of_le h (Nat.pow_le_pow_right (by decide) (by omega))
noncomputable def sp_statesb (C : Addr) : Sp := fun vs H Q _ => ∃ (p : Addr) (m : Nat) (nx os : List Pr3) (d : Nat), vs = [.ref p, nat d] ∧ MaA H C p m nx os ∧ MaG m nx os ∧ d < 2 ^ nx.length ∧ ∀ (D : Addr) (H2 : Hp), H D = none → Same H H2 → H2 D = some (.lst ((M.zl (prs nx) d nx.length).map nat)) → Q (.ref D) H2
structure LA (K : PySem.W.Frag) (H : Hp) (t n o rr : Addr) (m : Nat) (nx os : List Pr3) (rs : List Nat) (a b : Nat) : Prop where
  tt : TabT H t n o m nx os
  sq : SqL K H rr (rs.map nat)
  lr : rs.length = 20
  br : ∀ r ∈ rs, r < 2 ^ m
  ln : nx.length ≤ 16
  ha : a < 2 ^ nx.length
  hb : b < 2 ^ nx.length
structure ApA (H : Hp) (f : Addr) (nx os : List Pr3) (d k ans : Nat) : Prop where
  f : H f = some (.tup [.str "apart", nat k, nat ans.log2])
  hk : k < nx.length
  an : ans = M.tr2 (prs os) (M.zs (prs nx) d k) 0
  ne : ans ≠ 0
  qu : ∀ j, j < k → M.tr2 (prs os) (M.zs (prs nx) d j) 0 = 0
structure ApL (H : Hp) (f D S : Addr) (nx os : List Pr3) (d p q : Nat) : Prop where
  f : H f = some (.tup [.str "alike", .ref D, .ref S])
  ct : ChT H D S (M.zl (prs nx) d nx.length) p q
  qu : ∀ j, j < p → M.tr2 (prs os) (M.zs (prs nx) d j) 0 = 0
end Sx
set_option Elab.async false
set_option linter.all false
set_option maxRecDepth 100000
set_option maxHeartbeats 4000000
namespace Sx
open PySem L2
noncomputable def sp_spoly (C : Addr) : Sp := fun vs H Q _ => ∃ (p : Addr) (m : Nat) (nx os : List Pr3) (d : Nat), vs = [.ref p, nat d] ∧ MaA H C p m nx os ∧ MaG m nx os ∧ nx.length ≤ 16 ∧ d < 2 ^ nx.length ∧ ∀ (H2 : Hp) (P : Nat), Same H H2 → M.Lst (prs nx) d P → P.log2 ≤ nx.length → Q (nat P) H2
noncomputable def sp_ring (K : PySem.W.Frag) (C B : Addr) : Sp := fun vs H Q E => ∃ (p : Addr) (m : Nat) (nx os : List Pr3) (x : V) (k : String), vs = [.ref p, x] ∧ MaA H C p m nx os ∧ MaG m nx os ∧ nx.length ≤ 16 ∧ kindV K H x k ∧
  (∀ d : Nat, x = nat d → d < 2 ^ nx.length → ∀ (t : Addr) (H2 : Hp) (l n : Nat), Same H H2 → H2 t = some (.tup [nat l, nat n]) → M.Rng (prs nx) d l n → l ≤ nx.length → n ≤ 65535 → Q (.ref t) H2) ∧ (maskB x nx.length = false → E (.ref B) none H)
structure Nx (H : Hp) (r : Addr) (nx : List Pr3) : Prop where
  r : H r = some (.lst (refs nx))
  pt : Prt H nx
  ln : nx.length ≤ 16
theorem Nx.same {H H2 : Hp} {r : Addr} {nx : List Pr3} (x : Nx H r nx) (s : Same H H2) : Nx H2 r nx := ⟨s.get x.r, x.pt.same s, x.ln⟩
noncomputable def sp_lby : Sp := fun vs H Q _ => ∃ (r : Addr) (es : List Nat) (x : Nat), vs = [.ref r, nat x] ∧ H r = some (.lst (es.map nat)) ∧ es.length ≤ 1000 ∧ ∀ H2, Same H H2 → Q (nat (M.sm es x)) H2
noncomputable def sp_lbehind : Sp := fun vs H Q _ => ∃ (r : Addr) (nx : List Pr3) (x T : Nat), vs = [.ref r, nat x, nat T] ∧ Nx H r nx ∧ x < 2 ^ nx.length ∧ T ≤ 65535 ∧ ∀ H2, Same H H2 → Q (nat (M.zs (prs nx) x T)) H2
noncomputable def sp_lwalked81 : Sp := fun vs H Q _ => ∃ (r : Addr) (nx : List Pr3) (x n : Nat), vs = [.ref r, nat x, nat n] ∧ Nx H r nx ∧ x < 2 ^ nx.length ∧ 1 ≤ n ∧ n ≤ 65535 ∧ M.zs (prs nx) x n = x ∧ (∀ e, 1 ≤ e → e < n → M.zs (prs nx) x e ≠ x) ∧ ∀ H2, Same H H2 → Q (.bl true) H2
noncomputable def sp_lright81 (C : Addr) : Sp := fun vs H Q _ => ∃ (p r : Addr) (m : Nat) (nx os : List Pr3) (x : Nat), vs = [.ref p, .ref r, nat x] ∧ MaA H C p m nx os ∧ MaG m nx os ∧ Nx H r nx ∧ x < 2 ^ nx.length ∧ ∀ H2, Same H H2 → Q (.bl true) H2
noncomputable def sp_lrefu81 (K : PySem.W.Frag) (C : Addr) : Sp := fun vs H Q _ => ∃ (p : Addr) (m : Nat) (nx os : List Pr3) (x : V) (k : String), vs = [.ref p, x] ∧ MaA H C p m nx os ∧ MaG m nx os ∧ nx.length ≤ 16 ∧ kindV K H x k ∧ maskB x nx.length = false ∧ ∀ H2, Same H H2 → Q (.bl true) H2
theorem tr_tr2 (nx : List Pr3) (x : Nat) : M.tr (ms nx) x = M.tr2 (prs nx) x 0 := by
  apply Nat.eq_of_testBit_eq; intro i
  rw [M.tr2_bit, M.tr_bit, List.length_map, List.length_map, Nat.and_zero, M.od_zero, Bool.xor_false, List.getD_eq_getElem?_getD, List.getD_eq_getElem?_getD, List.getElem?_map, List.getElem?_map]
  cases nx[i]? <;> rfl
theorem zs_ltP {nx : List Pr3} {x : Nat} (h : x < 2 ^ nx.length) (n : Nat) : M.zs (prs nx) x n < 2 ^ nx.length := by
  have := M.zs_lt (ps := prs nx) (d := x) (by rw [prs_len]; exact h) n
  rwa [prs_len] at this
theorem lt16 {n x : Nat} (hn : n ≤ 16) (h : x < 2 ^ n) : x < 2 ^ 1000 := Nat.lt_of_lt_of_le h (Nat.pow_le_pow_right (by decide) (by omega))
theorem log16 {n : Nat} (hn : n ≤ 16) : 2 ^ n ≤ 65536 := Nat.le_trans (Nat.pow_le_pow_right (by decide) hn) (by decide)
end Sx
set_option Elab.async false
set_option linter.all false
set_option maxRecDepth 100000
set_option maxHeartbeats 4000000
namespace My
open PySem L2 Sx
local macro_rules | `(tactic| walk_at "l2side") => `(tactic| first | assumption | rfl | omega | decide | ((try dsimp only [CDiv, CDivN, CPow, CMul]); first | omega | decide | (refine ⟨?_, ?_⟩ <;> first | omega | decide) | (refine ⟨?_, ?_, ?_⟩ <;> first | omega | decide) | (left; refine ⟨?_, ?_⟩ <;> first | omega | decide) | (right; refine ⟨?_, ?_⟩ <;> first | omega | decide)))
local macro_rules | `(tactic| walk_at "l2len") => `(tactic| ((with_reducible show _ + _ ≤ sizeLine); first | assumption | (rw [sizeLine_eq]; omega) | omega))
local macro_rules | `(tactic| walk_at "l2at") => `(tactic| first | assumption | exact upd_same | (refine' Same.get (by assumption) ?h; (case h => walk_at "l2at")))
local macro_rules | `(tactic| walk_at "l2hp") => `(tactic| first | assumption | (refine' SqL.of ?h; (case h => walk_at "l2at")) | (refine' SqT.of ?h; (case h => walk_at "l2at")) | (refine' Same.seq (by assumption) ?h; (case h => walk_at "l2hp")) | (refine' Same.tup (by assumption) ?h; (case h => walk_at "l2hp")) | (refine' Rep.same (by assumption) ?h; (case h => walk_at "l2hp")) | walk_at "l2at")
local macro_rules | `(tactic| walk_at "l2kind") => `(tactic| first | assumption | exact rfl | (refine' Or.inl ⟨rfl, _, ?e⟩; (case e => walk_at "l2hp")) | (refine' Or.inr (Or.inl ⟨rfl, _, ?e⟩); (case e => walk_at "l2hp")) | (refine' Or.inr (Or.inr ⟨rfl, _, Or.inl ?e⟩); (case e => walk_at "l2hp")))
local macro_rules | `(tactic| walk_at "l2step") => `(tactic| first
  | (with_reducible refine s_seq ?_) | (with_reducible refine s_asg ?_) | (with_reducible refine s_if ?_) | (with_reducible refine s_ret ?_) | (with_reducible refine s_retN ?_) | (with_reducible refine s_drop ?_) | (with_reducible refine s_next ?_)
  | ((with_reducible refine' s_var ?e ?_); (case e => repeat constructor)) | (with_reducible refine s_c ?_) | (with_reducible refine s_op ?_) | (with_reducible refine s_un ?_)
  | (with_reducible refine s_cons ?_) | (with_reducible refine s_nil ?_) | (with_reducible refine s_call0 ?_) | (with_reducible refine s_cb ?_)
  | (with_reducible refine s_rI0 ?_) | ((with_reducible refine' s_rI ?e ?_); (case e => walk_at "l2side")) | (with_reducible refine s_rU ?_)
  | ((with_reducible refine' s_rEq ?e ?_); (case e => rfl)) | ((with_reducible refine' s_rNe ?e ?_); (case e => rfl)) | (with_reducible refine s_leS ?_)
  | (with_reducible refine s_test ?_) | (with_reducible refine s_tB ?_) | (with_reducible refine L2.s_chain ?_) | (with_reducible refine s_and ?_) | (with_reducible refine s_or ?_) | (with_reducible refine s_not ?_)
  | (with_reducible refine s_andV ?_) | (with_reducible refine s_orV ?_) | (with_reducible refine s_notV ?_) | (with_reducible refine s_ifE ?_)
  | ((with_reducible refine' s_gname ?e ?_); (case e => repeat constructor)) | (with_reducible refine s_gcons ?_) | (with_reducible refine s_gnil ?_) | ((with_reducible refine' s_gtup ?e ?l ?_); (case e => walk_at "l2hp"); (case l => rfl))
  | (with_reducible refine s_tup ?_) | (with_reducible refine s_lst ?_) | ((with_reducible refine' s_newL ?l ?_); (case l => exact le_line (Nat.le_of_ble_eq_true rfl))) | ((with_reducible refine' s_newT ?l ?_); (case l => exact le_line (Nat.le_of_ble_eq_true rfl)))
  | (with_reducible refine s_sl ?_) | (with_reducible refine s_noPart ?_) | (with_reducible refine s_part ?_)
  | ((with_reducible refine' s_slL ?e ?_); (case e => walk_at "l2hp")) | ((with_reducible refine' s_slS ?e ?_); (case e => walk_at "l2side"))
  | ((with_reducible refine' s_ixL ?e ?a ?_); (case e => walk_at "l2hp"); (case a => first | assumption | rfl)) | ((with_reducible refine' s_ixT ?e ?a ?_); (case e => walk_at "l2hp"); (case a => first | assumption | rfl))
  | ((with_reducible refine' s_ty ?e ?_); (case e => first | exact rfl | (refine' Or.inl ⟨rfl, _, ?f⟩; (case f => walk_at "l2hp")) | (refine' Or.inr (Or.inr (Or.inl ⟨rfl, Or.inl ⟨_, ?f⟩⟩)); (case f => walk_at "l2hp"))))
  | (with_reducible refine s_bm0 ?_) | (with_reducible refine s_bm ?_) | (with_reducible refine s_bits ?_)
  | ((with_reducible refine' s_lenL ?e ?_); (case e => walk_at "l2hp")) | ((with_reducible refine' s_lenT ?e ?_); (case e => walk_at "l2hp")) | ((with_reducible refine' s_lenS ?e ?_); (case e => walk_at "l2side"))
  | ((with_reducible refine' s_isi ?e ?m ?_); (case e => walk_at "l2kind"); (case m => decide))
  | (with_reducible refine s_dnew ?_) | (with_reducible refine s_for ?_) | (with_reducible refine s_iList ?_) | (with_reducible refine s_iTup ?_) | (with_reducible refine s_iStr ?_) | (with_reducible refine s_rng1 ?_) | (with_reducible refine s_rng2 ?_)
  | (with_reducible refine s_yes ?_) | (with_reducible refine s_true ?_) | (with_reducible refine s_false ?_) | (with_reducible refine s_intB ?_) | (with_reducible refine s_inS ?_) | ((with_reducible refine' s_addS ?e ?_); (case e => walk_at "l2side"))
  | (with_reducible refine s_comp ?_) | ((with_reducible refine' s_ifT ?e ?_); (case e => first | rfl | decide | assumption)) | ((with_reducible refine' s_ifF ?e ?_); (case e => first | rfl | decide | assumption)) | ((with_reducible refine' s_bounds ?a ?b ?_); (case a => omega); (case b => omega))
  | (with_reducible refine ⟨_, _, rfl, rfl, ?_⟩; (with_reducible refine ⟨?l, ?_⟩); (case l => walk_at "l2len")) | (with_reducible refine ⟨_, _, rfl, rfl, ?_⟩) | (with_reducible refine Or.inl ⟨_, rfl, ?_⟩) | (with_reducible refine Or.inr ⟨_, rfl, ?_⟩)
  | (with_reducible refine ⟨_, rfl, ?_⟩) | (with_reducible refine ⟨rfl, ?_⟩) | ((with_reducible refine' ⟨⟨_, ?e⟩, ?_⟩); (case e => walk_at "l2hp")))
local macro_rules | `(tactic| walk_at "l2") => `(tactic| repeat walk_at "l2step")
local macro_rules | `(tactic| walk_at "l2step") => `(tactic| first
  | (with_reducible refine s_setfld ?_) | (with_reducible refine s_fld ?_) | (with_reducible refine s_make ?_) | (with_reducible refine s_makeAt ?_) | (with_reducible refine s_meth ?_) | (with_reducible refine s_dput ?_) | (with_reducible refine s_dget ?_) | (with_reducible refine s_iEnum ?_)
  | ((with_reducible refine' s_listL ?e ?_); (case e => walk_at "l2hp")) | ((with_reducible refine' s_listT ?e ?_); (case e => walk_at "l2hp")) | ((with_reducible refine' s_tupL ?e ?_); (case e => walk_at "l2hp")) | ((with_reducible refine' s_tupT ?e ?_); (case e => walk_at "l2hp")))
local macro_rules | `(tactic| walk_at "l2step") => `(tactic| first
  | (with_reducible refine s_din ?_) | (with_reducible refine s_dnot ?_) | (with_reducible refine s_disp1I ?_) | ((with_reducible refine' s_listD ?e ?_); (case e => walk_at "l2at")))
local macro_rules | `(tactic| walk_at "l2step") => `(tactic| first | (with_reducible refine s_raise ?_) | (with_reducible refine s_try0 ?_) | (with_reducible refine s_callX ?_))
noncomputable def top (i : Nat) : Stmt := PySem.Challenge.pw_sumwires_k81_whole_states_go_round.main.body.getD i (.Pass ⟨0, 0, 0, 0⟩)
noncomputable abbrev s_is_whole : Stmt := top 6
theorem sc_is_whole : FnScope ["thing"] ["thing"] (defScope s_is_whole) := ⟨rfl, rfl, rfl, by decide +kernel, rfl, by decide +kernel, by decide +kernel⟩
noncomputable abbrev s_is_mask : Stmt := top 7
theorem sc_is_mask : FnScope ["thing", "width"] ["thing", "width"] (defScope s_is_mask) := ⟨rfl, rfl, rfl, by decide +kernel, rfl, by decide +kernel, by decide +kernel⟩
noncomputable abbrev s_even : Stmt := top 8
theorem sc_even : FnScope ["number", "width", "half"] ["number"] (defScope s_even) := ⟨rfl, rfl, rfl, by decide +kernel, rfl, by decide +kernel, by decide +kernel⟩
noncomputable abbrev s_bits_of : Stmt := top 9
theorem sc_bits_of : FnScope ["mask"] ["mask"] (defScope s_bits_of) := ⟨rfl, rfl, rfl, by decide +kernel, rfl, by decide +kernel, by decide +kernel⟩
noncomputable abbrev s_mask_of : Stmt := top 10
theorem sc_mask_of : FnScope ["places", "mask", "place"] ["places"] (defScope s_mask_of) := ⟨rfl, rfl, rfl, by decide +kernel, rfl, by decide +kernel, by decide +kernel⟩
noncomputable abbrev s_degree : Stmt := top 12
theorem sc_degree : FnScope ["poly"] ["poly"] (defScope s_degree) := ⟨rfl, rfl, rfl, by decide +kernel, rfl, by decide +kernel, by decide +kernel⟩
noncomputable abbrev s_divided : Stmt := top 13
theorem sc_divided : FnScope ["one", "other", "quotient", "rest", "place"] ["one", "other"] (defScope s_divided) := ⟨rfl, rfl, rfl, by decide +kernel, rfl, by decide +kernel, by decide +kernel⟩
noncomputable abbrev s_turns_to_one : Stmt := top 14
theorem sc_turns_to_one : FnScope ["poly", "top", "power", "turns"] ["poly"] (defScope s_turns_to_one) := ⟨rfl, rfl, rfl, by decide +kernel, rfl, by decide +kernel, by decide +kernel⟩
noncomputable abbrev s_Steps___init__ : Stmt := inClass (top 16) 0
theorem sc_Steps___init__ : FnScope ["self", "rows", "place", "row"] ["self", "rows"] (defScope s_Steps___init__) := ⟨rfl, rfl, rfl, by decide +kernel, rfl, by decide +kernel, by decide +kernel⟩
noncomputable abbrev s_Steps_lowered : Stmt := inClass (top 16) 1
theorem sc_Steps_lowered : FnScope ["self", "mask", "places", "found"] ["self", "mask"] (defScope s_Steps_lowered) := ⟨rfl, rfl, rfl, by decide +kernel, rfl, by decide +kernel, by decide +kernel⟩
noncomputable abbrev s_Steps_lay : Stmt := inClass (top 16) 2
theorem sc_Steps_lay : FnScope ["self", "place", "row", "found", "places"] ["self", "place", "row"] (defScope s_Steps_lay) := ⟨rfl, rfl, rfl, by decide +kernel, rfl, by decide +kernel, by decide +kernel⟩
noncomputable abbrev s_Steps_barring : Stmt := inClass (top 16) 3
theorem sc_Steps_barring : FnScope ["self", "bit", "mask", "top"] ["self", "bit"] (defScope s_Steps_barring) := ⟨rfl, rfl, rfl, by decide +kernel, rfl, by decide +kernel, by decide +kernel⟩
noncomputable abbrev s_sum_for : Stmt := top 17
theorem sc_sum_for : FnScope ["rows", "wish", "steps", "found"] ["rows", "wish"] (defScope s_sum_for) := ⟨rfl, rfl, rfl, by decide +kernel, rfl, by decide +kernel, by decide +kernel⟩
noncomputable abbrev s_chain : Stmt := top 18
theorem sc_chain : FnScope ["masks", "place", "found", "sums"] ["masks"] (defScope s_chain) := ⟨rfl, rfl, rfl, by decide +kernel, rfl, by decide +kernel, by decide +kernel⟩
noncomputable abbrev s_states_behind : Stmt := top 20
theorem sc_states_behind : FnScope ["machine", "state", "states", "turn"] ["machine", "state"] (defScope s_states_behind) := ⟨rfl, rfl, rfl, by decide +kernel, rfl, by decide +kernel, by decide +kernel⟩
noncomputable abbrev s_state_poly : Stmt := top 22
theorem sc_state_poly : FnScope ["machine", "state", "shown"] ["machine", "state"] (defScope s_state_poly) := ⟨rfl, rfl, rfl, by decide +kernel, rfl, by decide +kernel, by decide +kernel⟩
noncomputable abbrev s_ring_of : Stmt := top 23
theorem sc_ring_of : FnScope ["machine", "state", "poly", "lead"] ["machine", "state"] (defScope s_ring_of) := ⟨rfl, rfl, rfl, by decide +kernel, rfl, by decide +kernel, by decide +kernel⟩
noncomputable abbrev s_is_pair : Stmt := top 28
theorem sc_is_pair : FnScope ["thing", "stores", "inputs"] ["thing", "stores", "inputs"] (defScope s_is_pair) := ⟨rfl, rfl, rfl, by decide +kernel, rfl, by decide +kernel, by decide +kernel⟩
noncomputable abbrev s_check_table : Stmt := top 29
theorem sc_check_table : FnScope ["inputs", "nexts", "outs"] ["inputs", "nexts", "outs"] (defScope s_check_table) := ⟨rfl, rfl, rfl, by decide +kernel, rfl, by decide +kernel, by decide +kernel⟩
noncomputable abbrev s_is_odd : Stmt := top 30
theorem sc_is_odd : FnScope ["pair", "state", "row"] ["pair", "state", "row"] (defScope s_is_odd) := ⟨rfl, rfl, rfl, by decide +kernel, rfl, by decide +kernel, by decide +kernel⟩
noncomputable abbrev s_odd_places : Stmt := top 31
theorem sc_odd_places : FnScope ["pairs", "state", "row"] ["pairs", "state", "row"] (defScope s_odd_places) := ⟨rfl, rfl, rfl, by decide +kernel, rfl, by decide +kernel, by decide +kernel⟩
noncomputable abbrev s_Machine___init__ : Stmt := inClass (top 32) 0
theorem sc_Machine___init__ : FnScope ["self", "inputs", "nexts", "outs"] ["self", "inputs", "nexts", "outs"] (defScope s_Machine___init__) := ⟨rfl, rfl, rfl, by decide +kernel, rfl, by decide +kernel, by decide +kernel⟩
noncomputable abbrev s_Machine_stores : Stmt := inClass (top 32) 1
theorem sc_Machine_stores : FnScope ["self"] ["self"] (defScope s_Machine_stores) := ⟨rfl, rfl, rfl, by decide +kernel, rfl, by decide +kernel, by decide +kernel⟩
noncomputable abbrev s_Machine_check_state : Stmt := inClass (top 32) 4
theorem sc_Machine_check_state : FnScope ["self", "state"] ["self", "state"] (defScope s_Machine_check_state) := ⟨rfl, rfl, rfl, by decide +kernel, rfl, by decide +kernel, by decide +kernel⟩
noncomputable abbrev s_Machine_step : Stmt := inClass (top 32) 5
theorem sc_Machine_step : FnScope ["self", "state", "row"] ["self", "state", "row"] (defScope s_Machine_step) := ⟨rfl, rfl, rfl, by decide +kernel, rfl, by decide +kernel, by decide +kernel⟩
noncomputable abbrev s__law_cell : Stmt := top 34
theorem sc__law_cell : FnScope ["_law_script", "_law_k"] ["_law_script", "_law_k"] (defScope s__law_cell) := ⟨rfl, rfl, rfl, by decide +kernel, rfl, by decide +kernel, by decide +kernel⟩
noncomputable abbrev s__law_mix : Stmt := top 35
theorem sc__law_mix : FnScope ["_law_cell_here", "_law_k", "_law_number"] ["_law_cell_here", "_law_k"] (defScope s__law_mix) := ⟨rfl, rfl, rfl, by decide +kernel, rfl, by decide +kernel, by decide +kernel⟩
noncomputable abbrev s__law_masks : Stmt := top 36
theorem sc__law_masks : FnScope ["_law_cell_here", "_law_start", "_law_many", "_law_width", "_law_digits", "_law_found", "_law_left", "_law_k"] ["_law_cell_here", "_law_start", "_law_many", "_law_width", "_law_digits"] (defScope s__law_masks) := ⟨rfl, rfl, rfl, by decide +kernel, rfl, by decide +kernel, by decide +kernel⟩
noncomputable abbrev s__law_thinned : Stmt := top 37
theorem sc__law_thinned : FnScope ["_law_masks_here", "_law_cell_here", "_law_start", "_law_way", "_law_found", "_law_k", "_law_mask"] ["_law_masks_here", "_law_cell_here", "_law_start", "_law_way"] (defScope s__law_thinned) := ⟨rfl, rfl, rfl, by decide +kernel, rfl, by decide +kernel, by decide +kernel⟩
noncomputable abbrev s__law_machine : Stmt := top 38
theorem sc__law_machine : FnScope ["_law_script", "_law_start", "_law_most", "_law_cell_here", "_law_stores", "_law_inputs", "_law_outputs", "_law_digits", "_law_way", "_law_one", "_law_other", "_law_shown", "_law_straight"] ["_law_script", "_law_start", "_law_most"] (defScope s__law_machine) := ⟨rfl, rfl, rfl, by decide +kernel, rfl, by decide +kernel, by decide +kernel⟩
noncomputable abbrev s__law_odd : Stmt := top 39
theorem sc__law_odd : FnScope ["_law_mask", "_law_odd_here"] ["_law_mask"] (defScope s__law_odd) := ⟨rfl, rfl, rfl, by decide +kernel, rfl, by decide +kernel, by decide +kernel⟩
noncomputable abbrev s__law_turn : Stmt := top 40
theorem sc__law_turn : FnScope ["_law_nexts", "_law_state", "_law_found", "_law_k", "_law_pair"] ["_law_nexts", "_law_state"] (defScope s__law_turn) := ⟨rfl, rfl, rfl, by decide +kernel, rfl, by decide +kernel, by decide +kernel⟩
noncomputable abbrev s__law_by : Stmt := top 41
theorem sc__law_by : FnScope ["_law_ends", "_law_state", "_law_found", "_law_k", "_law_end"] ["_law_ends", "_law_state"] (defScope s__law_by) := ⟨rfl, rfl, rfl, by decide +kernel, rfl, by decide +kernel, by decide +kernel⟩
noncomputable abbrev s__law_behind : Stmt := top 42
theorem sc__law_behind : FnScope ["_law_nexts", "_law_state", "_law_turns", "_law_ends"] ["_law_nexts", "_law_state", "_law_turns"] (defScope s__law_behind) := ⟨rfl, rfl, rfl, by decide +kernel, rfl, by decide +kernel, by decide +kernel⟩
noncomputable abbrev s__law_primes : Stmt := top 43
theorem sc__law_primes : FnScope ["_law_number", "_law_found", "_law_one"] ["_law_number"] (defScope s__law_primes) := ⟨rfl, rfl, rfl, by decide +kernel, rfl, by decide +kernel, by decide +kernel⟩
noncomputable abbrev s__law_walked : Stmt := top 44
theorem sc__law_walked : FnScope ["_law_nexts", "_law_state", "_law_length", "_law_at", "_law_turns"] ["_law_nexts", "_law_state", "_law_length"] (defScope s__law_walked) := ⟨rfl, rfl, rfl, by decide +kernel, rfl, by decide +kernel, by decide +kernel⟩
noncomputable abbrev s__law_right : Stmt := top 45
theorem sc__law_right : FnScope ["_law_machine_here", "_law_nexts", "_law_state", "_law_found", "_law_lead", "_law_length", "_law_number", "_law_later", "_law_prime", "_law_early"] ["_law_machine_here", "_law_nexts", "_law_state"] (defScope s__law_right) := ⟨rfl, rfl, rfl, by decide +kernel, rfl, by decide +kernel, by decide +kernel⟩
noncomputable abbrev s__law_refused : Stmt := top 46
theorem sc__law_refused : FnScope ["_law_machine_here", "_law_thing", "_law_refused_here"] ["_law_machine_here", "_law_thing"] (defScope s__law_refused) := ⟨rfl, rfl, rfl, by decide +kernel, rfl, by decide +kernel, by decide +kernel⟩
noncomputable abbrev s_law : Stmt := top 47
theorem sc_law : FnScope ["_law_script", "_law_inputs", "_law_nexts", "_law_outs", "_law_machine_here", "_law_room", "_law_cell_here"] ["_law_script"] (defScope s_law) := ⟨rfl, rfl, rfl, by decide +kernel, rfl, by decide +kernel, by decide +kernel⟩
structure Ad where
  f_is_whole : Addr
  d_is_whole : FuncData
  f_is_mask : Addr
  d_is_mask : FuncData
  f_even : Addr
  d_even : FuncData
  f_bits_of : Addr
  d_bits_of : FuncData
  f_mask_of : Addr
  d_mask_of : FuncData
  f_degree : Addr
  d_degree : FuncData
  f_divided : Addr
  d_divided : FuncData
  f_turns_to_one : Addr
  d_turns_to_one : FuncData
  f_Steps___init__ : Addr
  d_Steps___init__ : FuncData
  f_Steps_lowered : Addr
  d_Steps_lowered : FuncData
  f_Steps_lay : Addr
  d_Steps_lay : FuncData
  f_Steps_barring : Addr
  d_Steps_barring : FuncData
  f_sum_for : Addr
  d_sum_for : FuncData
  f_chain : Addr
  d_chain : FuncData
  f_states_behind : Addr
  d_states_behind : FuncData
  f_state_poly : Addr
  d_state_poly : FuncData
  f_ring_of : Addr
  d_ring_of : FuncData
  f_is_pair : Addr
  d_is_pair : FuncData
  f_check_table : Addr
  d_check_table : FuncData
  f_is_odd : Addr
  d_is_odd : FuncData
  f_odd_places : Addr
  d_odd_places : FuncData
  f_Machine___init__ : Addr
  d_Machine___init__ : FuncData
  f_Machine_stores : Addr
  d_Machine_stores : FuncData
  f_Machine_check_state : Addr
  d_Machine_check_state : FuncData
  f_Machine_step : Addr
  d_Machine_step : FuncData
  f__law_cell : Addr
  d__law_cell : FuncData
  f__law_mix : Addr
  d__law_mix : FuncData
  f__law_masks : Addr
  d__law_masks : FuncData
  f__law_thinned : Addr
  d__law_thinned : FuncData
  f__law_machine : Addr
  d__law_machine : FuncData
  f__law_odd : Addr
  d__law_odd : FuncData
  f__law_turn : Addr
  d__law_turn : FuncData
  f__law_by : Addr
  d__law_by : FuncData
  f__law_behind : Addr
  d__law_behind : FuncData
  f__law_primes : Addr
  d__law_primes : FuncData
  f__law_walked : Addr
  d__law_walked : FuncData
  f__law_right : Addr
  d__law_right : FuncData
  f__law_refused : Addr
  d__law_refused : FuncData
  f_law : Addr
  d_law : FuncData
  c_Steps : Addr
  c_Machine : Addr
  c_BadMask : Addr
  c_BadTable : Addr
  t_MOST_INPUTS : Tok
  t_MOST_OUTS : Tok
  t_MOST_STORES : Tok
structure Tx (K : PySem.W.Frag) (mg : Str → Option Value) (a : Ad) : Prop where
  F_is_whole : Fun K "is_whole" "is_whole" s_is_whole a.f_is_whole a.d_is_whole
  k_is_whole : PySem.W.keepIn K (.ref a.f_is_whole) = true
  b_is_whole : Binds K a.d_is_whole ["thing"] []
  g_is_whole : mg "is_whole" = some (.ref a.f_is_whole)
  F_is_mask : Fun K "is_mask" "is_mask" s_is_mask a.f_is_mask a.d_is_mask
  k_is_mask : PySem.W.keepIn K (.ref a.f_is_mask) = true
  b_is_mask : Binds K a.d_is_mask ["thing", "width"] []
  g_is_mask : mg "is_mask" = some (.ref a.f_is_mask)
  F_even : Fun K "even" "even" s_even a.f_even a.d_even
  k_even : PySem.W.keepIn K (.ref a.f_even) = true
  b_even : Binds K a.d_even ["number"] []
  g_even : mg "even" = some (.ref a.f_even)
  F_bits_of : Fun K "bits_of" "bits_of" s_bits_of a.f_bits_of a.d_bits_of
  k_bits_of : PySem.W.keepIn K (.ref a.f_bits_of) = true
  b_bits_of : Binds K a.d_bits_of ["mask"] []
  g_bits_of : mg "bits_of" = some (.ref a.f_bits_of)
  F_mask_of : Fun K "mask_of" "mask_of" s_mask_of a.f_mask_of a.d_mask_of
  k_mask_of : PySem.W.keepIn K (.ref a.f_mask_of) = true
  b_mask_of : Binds K a.d_mask_of ["places"] []
  g_mask_of : mg "mask_of" = some (.ref a.f_mask_of)
  F_degree : Fun K "degree" "degree" s_degree a.f_degree a.d_degree
  k_degree : PySem.W.keepIn K (.ref a.f_degree) = true
  b_degree : Binds K a.d_degree ["poly"] []
  g_degree : mg "degree" = some (.ref a.f_degree)
  F_divided : Fun K "divided" "divided" s_divided a.f_divided a.d_divided
  k_divided : PySem.W.keepIn K (.ref a.f_divided) = true
  b_divided : Binds K a.d_divided ["one", "other"] []
  g_divided : mg "divided" = some (.ref a.f_divided)
  F_turns_to_one : Fun K "turns_to_one" "turns_to_one" s_turns_to_one a.f_turns_to_one a.d_turns_to_one
  k_turns_to_one : PySem.W.keepIn K (.ref a.f_turns_to_one) = true
  b_turns_to_one : Binds K a.d_turns_to_one ["poly"] []
  g_turns_to_one : mg "turns_to_one" = some (.ref a.f_turns_to_one)
  F_Steps___init__ : Fun K "__init__" "Steps.__init__" s_Steps___init__ a.f_Steps___init__ a.d_Steps___init__
  k_Steps___init__ : PySem.W.keepIn K (.ref a.f_Steps___init__) = true
  b_Steps___init__ : Binds K a.d_Steps___init__ ["self", "rows"] []
  F_Steps_lowered : Fun K "lowered" "Steps.lowered" s_Steps_lowered a.f_Steps_lowered a.d_Steps_lowered
  k_Steps_lowered : PySem.W.keepIn K (.ref a.f_Steps_lowered) = true
  b_Steps_lowered : Binds K a.d_Steps_lowered ["self", "mask"] []
  F_Steps_lay : Fun K "lay" "Steps.lay" s_Steps_lay a.f_Steps_lay a.d_Steps_lay
  k_Steps_lay : PySem.W.keepIn K (.ref a.f_Steps_lay) = true
  b_Steps_lay : Binds K a.d_Steps_lay ["self", "place", "row"] []
  F_Steps_barring : Fun K "barring" "Steps.barring" s_Steps_barring a.f_Steps_barring a.d_Steps_barring
  k_Steps_barring : PySem.W.keepIn K (.ref a.f_Steps_barring) = true
  b_Steps_barring : Binds K a.d_Steps_barring ["self", "bit"] []
  F_sum_for : Fun K "sum_for" "sum_for" s_sum_for a.f_sum_for a.d_sum_for
  k_sum_for : PySem.W.keepIn K (.ref a.f_sum_for) = true
  b_sum_for : Binds K a.d_sum_for ["rows", "wish"] []
  g_sum_for : mg "sum_for" = some (.ref a.f_sum_for)
  F_chain : Fun K "chain" "chain" s_chain a.f_chain a.d_chain
  k_chain : PySem.W.keepIn K (.ref a.f_chain) = true
  b_chain : Binds K a.d_chain ["masks"] []
  g_chain : mg "chain" = some (.ref a.f_chain)
  F_states_behind : Fun K "states_behind" "states_behind" s_states_behind a.f_states_behind a.d_states_behind
  k_states_behind : PySem.W.keepIn K (.ref a.f_states_behind) = true
  b_states_behind : Binds K a.d_states_behind ["machine", "state"] []
  g_states_behind : mg "states_behind" = some (.ref a.f_states_behind)
  F_state_poly : Fun K "state_poly" "state_poly" s_state_poly a.f_state_poly a.d_state_poly
  k_state_poly : PySem.W.keepIn K (.ref a.f_state_poly) = true
  b_state_poly : Binds K a.d_state_poly ["machine", "state"] []
  g_state_poly : mg "state_poly" = some (.ref a.f_state_poly)
  F_ring_of : Fun K "ring_of" "ring_of" s_ring_of a.f_ring_of a.d_ring_of
  k_ring_of : PySem.W.keepIn K (.ref a.f_ring_of) = true
  b_ring_of : Binds K a.d_ring_of ["machine", "state"] []
  g_ring_of : mg "ring_of" = some (.ref a.f_ring_of)
  F_is_pair : Fun K "is_pair" "is_pair" s_is_pair a.f_is_pair a.d_is_pair
  k_is_pair : PySem.W.keepIn K (.ref a.f_is_pair) = true
  b_is_pair : Binds K a.d_is_pair ["thing", "stores", "inputs"] []
  g_is_pair : mg "is_pair" = some (.ref a.f_is_pair)
  F_check_table : Fun K "check_table" "check_table" s_check_table a.f_check_table a.d_check_table
  k_check_table : PySem.W.keepIn K (.ref a.f_check_table) = true
  b_check_table : Binds K a.d_check_table ["inputs", "nexts", "outs"] []
  g_check_table : mg "check_table" = some (.ref a.f_check_table)
  F_is_odd : Fun K "is_odd" "is_odd" s_is_odd a.f_is_odd a.d_is_odd
  k_is_odd : PySem.W.keepIn K (.ref a.f_is_odd) = true
  b_is_odd : Binds K a.d_is_odd ["pair", "state", "row"] []
  g_is_odd : mg "is_odd" = some (.ref a.f_is_odd)
  F_odd_places : Fun K "odd_places" "odd_places" s_odd_places a.f_odd_places a.d_odd_places
  k_odd_places : PySem.W.keepIn K (.ref a.f_odd_places) = true
  b_odd_places : Binds K a.d_odd_places ["pairs", "state", "row"] []
  g_odd_places : mg "odd_places" = some (.ref a.f_odd_places)
  F_Machine___init__ : Fun K "__init__" "Machine.__init__" s_Machine___init__ a.f_Machine___init__ a.d_Machine___init__
  k_Machine___init__ : PySem.W.keepIn K (.ref a.f_Machine___init__) = true
  b_Machine___init__ : Binds K a.d_Machine___init__ ["self", "inputs", "nexts", "outs"] []
  F_Machine_stores : Fun K "stores" "Machine.stores" s_Machine_stores a.f_Machine_stores a.d_Machine_stores
  k_Machine_stores : PySem.W.keepIn K (.ref a.f_Machine_stores) = true
  b_Machine_stores : Binds K a.d_Machine_stores ["self"] []
  F_Machine_check_state : Fun K "check_state" "Machine.check_state" s_Machine_check_state a.f_Machine_check_state a.d_Machine_check_state
  k_Machine_check_state : PySem.W.keepIn K (.ref a.f_Machine_check_state) = true
  b_Machine_check_state : Binds K a.d_Machine_check_state ["self", "state"] []
  F_Machine_step : Fun K "step" "Machine.step" s_Machine_step a.f_Machine_step a.d_Machine_step
  k_Machine_step : PySem.W.keepIn K (.ref a.f_Machine_step) = true
  b_Machine_step : Binds K a.d_Machine_step ["self", "state", "row"] []
  F__law_cell : Fun K "_law_cell" "_law_cell" s__law_cell a.f__law_cell a.d__law_cell
  k__law_cell : PySem.W.keepIn K (.ref a.f__law_cell) = true
  b__law_cell : Binds K a.d__law_cell ["_law_script", "_law_k"] []
  g__law_cell : mg "_law_cell" = some (.ref a.f__law_cell)
  F__law_mix : Fun K "_law_mix" "_law_mix" s__law_mix a.f__law_mix a.d__law_mix
  k__law_mix : PySem.W.keepIn K (.ref a.f__law_mix) = true
  b__law_mix : Binds K a.d__law_mix ["_law_cell_here", "_law_k"] []
  g__law_mix : mg "_law_mix" = some (.ref a.f__law_mix)
  F__law_masks : Fun K "_law_masks" "_law_masks" s__law_masks a.f__law_masks a.d__law_masks
  k__law_masks : PySem.W.keepIn K (.ref a.f__law_masks) = true
  b__law_masks : Binds K a.d__law_masks ["_law_cell_here", "_law_start", "_law_many", "_law_width", "_law_digits"] []
  g__law_masks : mg "_law_masks" = some (.ref a.f__law_masks)
  F__law_thinned : Fun K "_law_thinned" "_law_thinned" s__law_thinned a.f__law_thinned a.d__law_thinned
  k__law_thinned : PySem.W.keepIn K (.ref a.f__law_thinned) = true
  b__law_thinned : Binds K a.d__law_thinned ["_law_masks_here", "_law_cell_here", "_law_start", "_law_way"] []
  g__law_thinned : mg "_law_thinned" = some (.ref a.f__law_thinned)
  F__law_machine : Fun K "_law_machine" "_law_machine" s__law_machine a.f__law_machine a.d__law_machine
  k__law_machine : PySem.W.keepIn K (.ref a.f__law_machine) = true
  b__law_machine : Binds K a.d__law_machine ["_law_script", "_law_start", "_law_most"] []
  g__law_machine : mg "_law_machine" = some (.ref a.f__law_machine)
  F__law_odd : Fun K "_law_odd" "_law_odd" s__law_odd a.f__law_odd a.d__law_odd
  k__law_odd : PySem.W.keepIn K (.ref a.f__law_odd) = true
  b__law_odd : Binds K a.d__law_odd ["_law_mask"] []
  g__law_odd : mg "_law_odd" = some (.ref a.f__law_odd)
  F__law_turn : Fun K "_law_turn" "_law_turn" s__law_turn a.f__law_turn a.d__law_turn
  k__law_turn : PySem.W.keepIn K (.ref a.f__law_turn) = true
  b__law_turn : Binds K a.d__law_turn ["_law_nexts", "_law_state"] []
  g__law_turn : mg "_law_turn" = some (.ref a.f__law_turn)
  F__law_by : Fun K "_law_by" "_law_by" s__law_by a.f__law_by a.d__law_by
  k__law_by : PySem.W.keepIn K (.ref a.f__law_by) = true
  b__law_by : Binds K a.d__law_by ["_law_ends", "_law_state"] []
  g__law_by : mg "_law_by" = some (.ref a.f__law_by)
  F__law_behind : Fun K "_law_behind" "_law_behind" s__law_behind a.f__law_behind a.d__law_behind
  k__law_behind : PySem.W.keepIn K (.ref a.f__law_behind) = true
  b__law_behind : Binds K a.d__law_behind ["_law_nexts", "_law_state", "_law_turns"] []
  g__law_behind : mg "_law_behind" = some (.ref a.f__law_behind)
  F__law_primes : Fun K "_law_primes" "_law_primes" s__law_primes a.f__law_primes a.d__law_primes
  k__law_primes : PySem.W.keepIn K (.ref a.f__law_primes) = true
  b__law_primes : Binds K a.d__law_primes ["_law_number"] []
  g__law_primes : mg "_law_primes" = some (.ref a.f__law_primes)
  F__law_walked : Fun K "_law_walked" "_law_walked" s__law_walked a.f__law_walked a.d__law_walked
  k__law_walked : PySem.W.keepIn K (.ref a.f__law_walked) = true
  b__law_walked : Binds K a.d__law_walked ["_law_nexts", "_law_state", "_law_length"] []
  g__law_walked : mg "_law_walked" = some (.ref a.f__law_walked)
  F__law_right : Fun K "_law_right" "_law_right" s__law_right a.f__law_right a.d__law_right
  k__law_right : PySem.W.keepIn K (.ref a.f__law_right) = true
  b__law_right : Binds K a.d__law_right ["_law_machine_here", "_law_nexts", "_law_state"] []
  g__law_right : mg "_law_right" = some (.ref a.f__law_right)
  F__law_refused : Fun K "_law_refused" "_law_refused" s__law_refused a.f__law_refused a.d__law_refused
  k__law_refused : PySem.W.keepIn K (.ref a.f__law_refused) = true
  b__law_refused : Binds K a.d__law_refused ["_law_machine_here", "_law_thing"] []
  g__law_refused : mg "_law_refused" = some (.ref a.f__law_refused)
  F_law : Fun K "law" "law" s_law a.f_law a.d_law
  k_law : PySem.W.keepIn K (.ref a.f_law) = true
  b_law : Binds K a.d_law ["_law_script"] []
  g_law : mg "law" = some (.ref a.f_law)
  g_Steps : mg "Steps" = some (.ref a.c_Steps)
  C_Steps : Cls K a.c_Steps
  I_Steps : IsiOk K a.c_Steps
  M_Steps : Mk K a.c_Steps a.f_Steps___init__
  m_Steps_lowered : Meth K a.c_Steps "lowered" a.f_Steps_lowered
  m_Steps_lay : Meth K a.c_Steps "lay" a.f_Steps_lay
  m_Steps_barring : Meth K a.c_Steps "barring" a.f_Steps_barring
  n_Steps_by_top : NoAttr K a.c_Steps "by_top"
  n_Steps_free_places : NoAttr K a.c_Steps "free_places"
  n_Steps_inputs : NoAttr K a.c_Steps "inputs"
  n_Steps_nexts : NoAttr K a.c_Steps "nexts"
  n_Steps_null_masks : NoAttr K a.c_Steps "null_masks"
  n_Steps_outs : NoAttr K a.c_Steps "outs"
  g_Machine : mg "Machine" = some (.ref a.c_Machine)
  C_Machine : Cls K a.c_Machine
  I_Machine : IsiOk K a.c_Machine
  M_Machine : Mk K a.c_Machine a.f_Machine___init__
  m_Machine_stores : Meth K a.c_Machine "stores" a.f_Machine_stores
  m_Machine_check_state : Meth K a.c_Machine "check_state" a.f_Machine_check_state
  m_Machine_step : Meth K a.c_Machine "step" a.f_Machine_step
  n_Machine_by_top : NoAttr K a.c_Machine "by_top"
  n_Machine_free_places : NoAttr K a.c_Machine "free_places"
  n_Machine_inputs : NoAttr K a.c_Machine "inputs"
  n_Machine_nexts : NoAttr K a.c_Machine "nexts"
  n_Machine_null_masks : NoAttr K a.c_Machine "null_masks"
  n_Machine_outs : NoAttr K a.c_Machine "outs"
  g_BadMask : mg "BadMask" = some (.ref a.c_BadMask)
  x_BadMask : PySem.W.excIn K a.c_BadMask [.type "ValueError", .type "Exception", .type "BaseException", .type "object"] "ValueError.__new__" = true
  I_BadMask : XIsi K a.c_BadMask
  r_BadMask_BadMask : PySem.W.mroIn K a.c_BadMask (.ref a.c_BadMask) = some true
  h_BadMask : CatchOk K a.c_BadMask
  g_BadTable : mg "BadTable" = some (.ref a.c_BadTable)
  x_BadTable : PySem.W.excIn K a.c_BadTable [.type "ValueError", .type "Exception", .type "BaseException", .type "object"] "ValueError.__new__" = true
  I_BadTable : XIsi K a.c_BadTable
  r_BadTable_BadMask : PySem.W.mroIn K a.c_BadTable (.ref a.c_BadMask) = some false
  g_MOST_INPUTS : mg "MOST_INPUTS" = some (.int 6 a.t_MOST_INPUTS)
  g_MOST_OUTS : mg "MOST_OUTS" = some (.int 6 a.t_MOST_OUTS)
  g_MOST_STORES : mg "MOST_STORES" = some (.int 120 a.t_MOST_STORES)
  n_all : mg "all" = none
  n_bool : mg "bool" = none
  n_enumerate : mg "enumerate" = none
  n_int : mg "int" = none
  n_isinstance : mg "isinstance" = none
  n_len : mg "len" = none
  n_list : mg "list" = none
  n_range : mg "range" = none
  n_sorted : mg "sorted" = none
  n_tuple : mg "tuple" = none
  n_zip : mg "zip" = none
section
variable {P : Program} {w : World} {K : PySem.W.Frag} {mg : Str → Option Value} {base : Heap} {a : Ad}
theorem ok_is_whole (T : Tx K mg a) : FnOk P w K mg base CX0 1 a.f_is_whole a.d_is_whole ["thing"] (sp_whole K) := by
  refine T.F_is_whole.ok sc_is_whole (fun vs H Q E h => ?_) (fun cdv A outer s H vs Q E hr h => ?_)
  · obtain ⟨x, k, rfl, _⟩ := h; rfl
  · obtain ⟨x, k, rfl, hk, q⟩ := h
    refine ⟨_, ((pss_one (ps_ret (pe_and (pe_callB (call_isiK (K := K) rfl) (by rfl) T.n_isinstance PyProof.Rows.boot_isinstance (pa_cons (pv 0) (pa_cons (pe_bltn (v := .ty "int") (by rfl) T.n_int PyProof.Rows.boot_int rfl) pa_nil))) (pe_one (pe_not (pe_callB (call_isiK (K := K) rfl) (by rfl) T.n_isinstance PyProof.Rows.boot_isinstance (pa_cons (pv 0) (pa_cons (pe_bltn (v := .ty "bool") (by rfl) T.n_bool PyProof.Rows.boot_bool rfl) pa_nil))))))))), s_start (σ' := [some _]) rfl ?_⟩
    walk_at "l2"
    unfold wholeB at q
    cases hc : subB k "int"
    · rw [hc] at q
      walk_at "l2"
      exact q
    · rw [hc] at q
      walk_at "l2"
      exact q
local macro_rules | `(tactic| walk_at "l2step") => `(tactic| ((with_reducible refine' c_whole ?e ?_); (case e => walk_at "l2kind")))
theorem ok_is_mask (T : Tx K mg a) : FnOk P w K mg base CX0 2 a.f_is_mask a.d_is_mask ["thing", "width"] (sp_mask K) := by
  have G_is_whole : FnOk P w K mg base CX0 1 a.f_is_whole a.d_is_whole ["thing"] (sp_whole K) := ok_is_whole T
  refine T.F_is_mask.ok sc_is_mask (fun vs H Q E h => ?_) (fun cdv A outer s H vs Q E hr h => ?_)
  · obtain ⟨x, k, w, rfl, _⟩ := h; rfl
  · obtain ⟨x, k, wd, rfl, hk, q⟩ := h
    refine ⟨_, ((pss_one (ps_ret (pe_and (pe_call G_is_whole (hr.mono (by decide)) (by rfl) T.g_is_whole T.k_is_whole T.b_is_whole .nil pass0 (pa_cons (pv 0) pa_nil)) (pe_and (pe_cmpR op_ge (pv 0) pe_int (nomark _)) (pe_one (pe_cmpR op_le (pe_bm0K (K := K) rfl PySem.F.plainAttrs_int PySem.F.slot_int_bit_length PySem.F.type_int_bit_length mt_bits (pv 0)) (pv 1) (nomark _)))))))), s_start (σ' := [some _, some _]) rfl ?_⟩
    walk_at "l2"
    cases x with
    | int i =>
      have hk : k = "int" := hk
      subst hk
      walk_at "l2"
      have q : Q (.bl (decide (0 ≤ i) && decide (((Builtin.Int.intBits i : Nat) : Int) ≤ wd))) H := q
      cases hc : decide (0 ≤ i)
      · rw [hc] at q; walk_at "l2"; exact q
      · rw [hc] at q; walk_at "l2"; exact q
    | bl b => have hk : k = "bool" := hk; subst hk; walk_at "l2"; exact q
    | non => have hk : k = "NoneType" := hk; subst hk; walk_at "l2"; exact q
    | str z => have hk : k = "str" := hk; subst hk; walk_at "l2"; exact q
    | ref p =>
      rcases hk with ⟨rfl, _⟩ | ⟨rfl, _⟩ | ⟨rfl, _⟩ <;> walk_at "l2" <;> exact q
    | _ => exact False.elim hk
local macro_rules | `(tactic| walk_at "l2step") => `(tactic| ((with_reducible refine' c_mask ?e ?_); (case e => walk_at "l2kind")))
theorem ok_even (T : Tx K mg a) : FnOk P w K mg base CX0 1 a.f_even a.d_even ["number"] sp_even := by
  refine T.F_even.ok sc_even (fun vs H Q E h => ?_) (fun cdv A outer s H vs Q E hr h => ?_)
  · obtain ⟨m, rfl, _⟩ := h; rfl
  · obtain ⟨m, rfl, hm, q⟩ := h
    refine ⟨_, ((pss_cons (ps_set (i := 1) sc_even.nd rfl (by first | exact Or.inl rfl | exact Or.inr rfl) (pe_bm0K (K := K) rfl PySem.F.plainAttrs_int PySem.F.slot_int_bit_length PySem.F.type_int_bit_length mt_bits (pv 0)))
      (pss_cons (ps_while PassesOwn.never (pt_cmpR op_gt (pv 1) pe_int (nomark _)) (pss_cons (ps_set (i := 2) sc_even.nd rfl (by first | exact Or.inl rfl | exact Or.inr rfl) (pe_op op_fdiv (pe_op op_add (pv 1) pe_int) pe_int))
      (pss_cons (ps_set (i := 0) sc_even.nd rfl (by first | exact Or.inl rfl | exact Or.inr rfl) (pe_op op_xor (pe_op op_shr (pv 0) (pv 2)) (pe_op op_and (pv 0) (pe_op op_sub (pe_op op_shl pe_int (pv 2)) pe_int))))
      (pss_one (ps_set (i := 1) sc_even.nd rfl (by first | exact Or.inl rfl | exact Or.inr rfl) (pv 2))))))
      (pss_one (ps_ret (pe_cmpR op_eq (pv 0) pe_int (nomark _))))))), s_start (σ' := [some _, none, none]) rfl ?_⟩
    walk_at "l2"
    refine ⟨fun μ σ' H' => ∃ n hf, σ' = [some (nat n), some (nat μ), hf] ∧ H' = H ∧ n < 2 ^ μ ∧ μ ≤ 1000 ∧ M.od n = M.od m, ⟨Builtin.Int.intBits (m : Int), m, none, rfl, rfl, bits_lt m, bits_le hm, rfl⟩, ?_⟩
    rintro μ σ' H' ⟨n, hf, rfl, rfl, hn, hw, hp⟩
    walk_at "l2"
    refine iteB (fun hc => ?_) (fun hc => ?_)
    · have hc := of_decide_eq_true hc
      have hlt : (μ + 1) / 2 < μ := by omega
      refine ⟨fun σ2 H2 => ∃ n2 hf, σ2 = [some (nat n2), some (nat ((μ + 1) / 2)), hf] ∧ H2 = H' ∧ n2 < 2 ^ ((μ + 1) / 2) ∧ M.od n2 = M.od m, fun σ2 H2 ⟨n2, hf2, e1, e2, e3, e4⟩ => ⟨(μ + 1) / 2, hlt, n2, hf2, e1, e2, e3, by omega, e4⟩, ?_⟩
      walk_at "l2"
      refine ⟨(n >>> ((μ + 1) / 2)) ^^^ (n &&& (2 ^ ((μ + 1) / 2) - 1)), some (nat ((μ + 1) / 2)), ?_, rfl, M.fold_lt μ _ n hn (by omega), ?_⟩
      · rw [half_cast, even_step]
      · rw [← hp]
        have f := M.pb_fold μ ((μ + 1) / 2) n (by omega) hn (by omega)
        show M.pb 1000 _ = M.pb 1000 _
        rw [M.pb_up (M.fold_lt μ _ n hn (by omega)) (by omega), f, ← M.pb_up hn hw]
    · have hc := of_decide_eq_false hc
      have hn2 : n < 2 := Nat.lt_of_lt_of_le hn (Nat.pow_le_pow_right (by decide) (show μ ≤ 1 by omega))
      walk_at "l2"
      rw [show decide (V.int (n : Int) = V.int 0) = !M.od n from od_small hn2, hp]
      exact q
theorem ok_Steps_barring (T : Tx K mg a) : FnOk P w K mg base CX0 2 a.f_Steps_barring a.d_Steps_barring ["self", "bit"] (sp_bar a.c_Steps) := by
  have G_even := ok_even (P := P) (w := w) (base := base) T
  refine T.F_Steps_barring.ok sc_Steps_barring (fun vs H Q E h => ?_) (fun cdv A outer s H vs Q E hr h => ?_)
  · obtain ⟨p, d, f, n, rows, b, rfl, _⟩ := h; rfl
  · obtain ⟨p, d, f, n, rows, b, rfl, st, hb, hr1, h64, hnt, q⟩ := h
    have hu := hu_of hr
    obtain ⟨dx, ho⟩ := st.ho
    obtain ⟨es, hd, ht, g, l⟩ := st.he
    have nd : (es.map fun e => e.m.log2).Nodup := by have := g.nd; rw [List.map_map] at this; exact this
    refine ⟨_, ((pss_cons (ps_set (i := 2) sc_Steps_barring.nd rfl (by first | exact Or.inl rfl | exact Or.inr rfl) (pe_op op_shl pe_int (pv 1)))
      (pss_cons (ps_for PassesOwn.never rfl (pi_listK (K := K) rfl (pe_callB (call_sortD rfl) (by rfl) T.n_sorted PyProof.Rows.boot_sorted (pa_cons (pe_fldK (K := K) rfl (pv 0) rfl) pa_nil))) (pg_name (i := 3) sc_Steps_barring.nd rfl (by first | exact Or.inl rfl | exact Or.inr rfl)) (pss_one (ps_if (pt_not (pt_val (pe_call G_even (hr.mono (by decide)) (by rfl) T.g_even T.k_even T.b_even .nil pass0 (pa_cons (pe_op op_and (pv 2) (pe_ix (ix_tupK (K := K) rfl) (pe_dget hu (pe_fldK (K := K) rfl (pv 0) rfl) (pv 3) (fun _ _ => rfl)) pe_int (fun _ _ => rfl))) pa_nil)))) (pss_one (ps_set (i := 2) sc_Steps_barring.nd rfl (by first | exact Or.inl rfl | exact Or.inr rfl) (pe_op op_xor (pv 2) (pe_op op_shl pe_int (pv 3))))) pss_nil)))
      (pss_one (ps_ret (pv 2)))))), s_start (σ' := [some _, some _, none, none]) rfl ?_⟩
    walk_at "l2"
    refine s_fldAt ho T.C_Steps T.n_Steps_by_top rfl ?_
    walk_at "l2"
    refine s_sortD hd (kvs_keys es) (by unfold kvsOf; rw [List.length_map]; omega) fun L ns H1 f1 s1 e1 hp hw => ?_
    obtain ⟨ts, rfl, up, mem⟩ := tops_sorted hp hw nd
    rw [← nat_int] at e1
    walk_at "l2"
    rw [shl1]
    refine for_list (xs := ts.map nat) (fun i σ H' => ∃ (m : Nat) (v : Option V), σ = [some (.ref p), some (nat b), some (nat m), v] ∧ H' = H1 ∧ M.BarI (es.map fun e => (e.m, e.p)) (ts.take i) b m) ⟨2 ^ b, none, rfl, rfl, M.BarI.zero _ b⟩ (fun i σ H' _ ⟨_, _, _, e, _⟩ => by rw [e]; exact SqL.of e1) ?_ ?_
    · rintro i y σ H' hy ⟨m, v, rfl, rfl, I⟩
      obtain ⟨t, hti, rfl⟩ := get_map hy
      obtain ⟨hi, eti⟩ := List.getElem?_eq_some_iff.mp hti
      rcases val_kvs es (t : Int) with ⟨e, he, ez, ev⟩ | ⟨hno, _⟩
      · have ez : e.m.log2 = t := by omega
        subst ez
        have hem : (e.m, e.p) ∈ es.map (fun e => (e.m, e.p)) := List.mem_map.mpr ⟨e, he, rfl⟩
        have hm1 : e.m < 2 ^ 1000 := M.span_lt hr1 (g.span hem)
        have ht1 : e.m.log2 < 1000 := M.log2_under (g.nz _ hem) hm1
        have hte := s1.get (ht e he)
        have hup : ∀ t ∈ ts.take i, t < e.m.log2 := fun t hm => by
          obtain ⟨j, hj, ej⟩ := List.mem_iff_getElem.mp hm
          rw [List.length_take] at hj
          rw [List.getElem_take] at ej
          have := List.pairwise_iff_getElem.mp up j i (by omega) hi (by omega)
          rw [ej, eti] at this
          exact this
        have ntb : e.m.log2 ≠ b := hnt e.m (g.span hem) (g.nz _ hem)
        have nd' := g.nd
        walk_at "l2"
        refine s_fldAt (s1.get ho) T.C_Steps T.n_Steps_by_top rfl ?_
        walk_at "l2"
        refine s_dgetI (s1.get hd) ev ?_
        walk_at "l2"
        rw [bitAnd_nat]
        refine ⟨m &&& e.m, rfl, Nat.lt_of_le_of_lt Nat.and_le_right hm1, ?_⟩
        cases hod : M.od (m &&& e.m) with
        | true =>
          walk_at "l2"
          refine ⟨m ^^^ 2 ^ e.m.log2, some (nat e.m.log2), by rw [shl1, bitXor_nat], rfl, ?_⟩
          rw [take_succ hti]
          exact I.flip (e := (e.m, e.p)) nd' g.nz hem hod hup ntb ht1
        | false =>
          walk_at "l2"
          rw [take_succ hti]
          exact I.keep (e := (e.m, e.p)) nd' hem hod
      · obtain ⟨e, he, ez⟩ := (mem t).mp (List.mem_of_getElem? hti)
        exact absurd (by rw [ez]) (hno e he)
    · rintro σ H' ⟨m, v, rfl, rfl, I⟩
      rw [List.length_map, List.take_length] at I
      walk_at "l2"
      refine q m H' s1 (I.done g fun e he => ?_)
      obtain ⟨e', he', rfl⟩ := List.mem_map.mp he
      exact (mem _).mpr ⟨e', he', rfl⟩
theorem ok_bits_of (T : Tx K mg a) : FnOk P w K mg base CX0 1 a.f_bits_of a.d_bits_of ["mask"] sp_bits := by
  refine T.F_bits_of.ok sc_bits_of (fun vs H Q E h => ?_) (fun cdv A outer s H vs Q E hr h => ?_)
  · obtain ⟨m, rfl, _⟩ := h; rfl
  · obtain ⟨m, rfl, hm, q⟩ := h
    have hb := bits_le hm
    refine ⟨_, ((pss_one (ps_ret (pe_comp (osc := defScope s_bits_of) (ON := ["mask"]) (N := ["place", "mask"]) (n := 1) (fx := [0]) rfl rfl rfl (by decide +kernel) (pi_range1 (by rfl) T.n_range (pa_cons (pe_bm0K (K := K) rfl PySem.F.plainAttrs_int PySem.F.slot_int_bit_length PySem.F.type_int_bit_length mt_bits (pv 0)) pa_nil)) (gk_name (by decide)) (fun _ _ _ _ _ => ⟨(pg_name (i := 0) (show List.Nodup (["place", "mask"] : List Str) from by decide +kernel) rfl (by first | exact Or.inl rfl | exact Or.inr rfl)), (pts_one (pt_cmpR op_eq (pe_op op_and (pe_op op_shr (pv 1) (pv 0)) pe_int) pe_int (nomark _))), (pv 0)⟩))))), s_start (σ' := [some _]) rfl ?_⟩
    walk_at "l2"
    intro D hD
    refine comp_range (fun i ys H' => Cs (fun i ys => ys = (M.pl i m).map nat) H D i ys H') (Cs.zero hD rfl) (fun i ys H' hi c => ?_) (fun ys H' c => ?_)
    · walk_at "l2"
      rw [bit_test]
      by_cases ht : m.testBit i = true
      · rw [if_pos ht]
        walk_at "l2"
        refine Cs.put hD c.same c.at' c.len (by omega) ?_
        rw [c.pv, M.pl_next, if_pos ht, List.map_append, Int.zero_add]
        rfl
      · rw [if_neg ht]
        walk_at "l2"
        refine Cs.skip c.same c.at' c.len ?_
        rw [c.pv, M.pl_next, if_neg ht, List.append_nil]
    · have e := c.pv
      rw [Int.toNat_natCast] at e
      refine q D H' hD c.same ?_
      rw [c.at', e, M.pl_up (bits_lt m) hb]
theorem ok_mask_of (T : Tx K mg a) : FnOk P w K mg base CX0 1 a.f_mask_of a.d_mask_of ["places"] sp_maskof := by
  refine T.F_mask_of.ok sc_mask_of (fun vs H Q E h => ?_) (fun cdv A outer s H vs Q E hr h => ?_)
  · obtain ⟨r, ps, rfl, _⟩ := h; rfl
  · obtain ⟨r, ps, rfl, hp, hl, q⟩ := h
    refine ⟨_, ((pss_cons (ps_set (i := 1) sc_mask_of.nd rfl (by first | exact Or.inl rfl | exact Or.inr rfl) pe_int)
      (pss_cons (ps_for PassesOwn.never rfl (pi_listK (K := K) rfl (pv 0)) (pg_name (i := 2) sc_mask_of.nd rfl (by first | exact Or.inl rfl | exact Or.inr rfl)) (pss_one (ps_set (i := 1) sc_mask_of.nd rfl (by first | exact Or.inl rfl | exact Or.inr rfl) (pe_op op_xor (pv 1) (pe_op op_shl pe_int (pv 2))))))
      (pss_one (ps_ret (pv 1)))))), s_start (σ' := [some _, none, none]) rfl ?_⟩
    walk_at "l2"
    refine for_list (xs := ps.map nat) (fun i σ H' => ∃ v, σ = [some (.ref r), some (nat (M.xm (ps.take i))), v] ∧ H' = H) ⟨none, rfl, rfl⟩ (fun i σ H' _ ⟨_, _, e⟩ => by rw [e]; exact SqL.of hp) ?_ ?_
    · rintro i y σ H' hy ⟨v, rfl, rfl⟩
      obtain ⟨k, hk, rfl⟩ := get_map hy
      have := hl k (List.mem_of_getElem? hk)
      walk_at "l2"
      refine ⟨some (nat k), ?_, rfl⟩
      rw [shl1, bitXor_nat, xm_take hk]
    · rintro σ H' ⟨v, rfl, rfl⟩
      rw [List.length_map, List.take_length]
      walk_at "l2"
      exact q
end
section
variable {P : Program} {w : World} {K : PySem.W.Frag} {mg : Str → Option Value} {base : Heap} {a : Ad}
theorem ok_degree (T : Tx K mg a) : FnOk P w K mg base CX0 1 a.f_degree a.d_degree ["poly"] sp_deg := by
  refine T.F_degree.ok sc_degree (fun vs H Q E h => ?_) (fun cdv A outer s H vs Q E hr h => ?_)
  · obtain ⟨m, rfl, _⟩ := h; rfl
  · obtain ⟨m, rfl, q⟩ := h
    refine ⟨_, ((pss_one (ps_ret (pe_op op_sub (pe_bm0K (K := K) rfl PySem.F.plainAttrs_int PySem.F.slot_int_bit_length PySem.F.type_int_bit_length mt_bits (pv 0)) pe_int)))), s_start (σ' := [some _]) rfl ?_⟩
    walk_at "l2"
    exact q
theorem c_deg {H : Hp} {Q : VK} {E : XK} {m : Nat} (q : Q (.int (dg m)) H) : sp_deg [nat m] H Q E := ⟨m, rfl, q⟩
local macro_rules | `(tactic| walk_at "l2step") => `(tactic| (with_reducible refine c_deg ?_))
theorem ok_divided (T : Tx K mg a) : FnOk P w K mg base (CX1 P w) 2 a.f_divided a.d_divided ["one", "other"] (sp_div a.c_BadMask) := by
  have G_degree := ok_degree (P := P) (w := w) (base := base) T
  refine T.F_divided.okX sc_divided (fun vs H Q E h => ?_) (fun cdv A outer s H vs Q E hr h => ?_)
  · obtain ⟨x, d, rfl, _⟩ := h; rfl
  · obtain ⟨x, d, rfl, hx, hd, qE, qQ⟩ := h
    refine ⟨_, ((pss_cons (ps_if (pt_cmpR op_eq (pv 1) pe_int (nomark _)) (pss_one (ps_raise PySem.F.excBase_ValueError T.x_BadMask thr_self rfl (by rfl) T.g_BadMask (pa_cons pe_str pa_nil))) pss_nil)
      (pss_cons (ps_set (i := 2) sc_divided.nd rfl (by first | exact Or.inl rfl | exact Or.inr rfl) pe_int)
      (pss_cons (ps_set (i := 3) sc_divided.nd rfl (by first | exact Or.inl rfl | exact Or.inr rfl) (pv 0))
      (pss_cons (ps_while (passes_thrW ⟨rfl, rfl⟩) (pt_cmpR op_ge (pe_call G_degree (hr.mono (by decide)) (by rfl) T.g_degree T.k_degree T.b_degree .nil pass0 (pa_cons (pv 3) pa_nil)) (pe_call G_degree (hr.mono (by decide)) (by rfl) T.g_degree T.k_degree T.b_degree .nil pass0 (pa_cons (pv 1) pa_nil)) (nomark _)) (pss_cons (ps_set (i := 4) sc_divided.nd rfl (by first | exact Or.inl rfl | exact Or.inr rfl) (pe_op op_sub (pe_call G_degree (hr.mono (by decide)) (by rfl) T.g_degree T.k_degree T.b_degree .nil pass0 (pa_cons (pv 3) pa_nil)) (pe_call G_degree (hr.mono (by decide)) (by rfl) T.g_degree T.k_degree T.b_degree .nil pass0 (pa_cons (pv 1) pa_nil))))
      (pss_cons (ps_set (i := 2) sc_divided.nd rfl (by first | exact Or.inl rfl | exact Or.inr rfl) (pe_op op_xor (pv 2) (pe_op op_shl pe_int (pv 4))))
      (pss_one (ps_set (i := 3) sc_divided.nd rfl (by first | exact Or.inl rfl | exact Or.inr rfl) (pe_op op_xor (pv 3) (pe_op op_shlB (pv 1) (pv 4))))))))
      (pss_one (ps_ret (pe_tup (pa_cons (pv 2) (pa_cons (pv 3) pa_nil)))))))))), s_start (σ' := [some _, some _, none, none, none]) rfl ?_⟩
    walk_at "l2"
    by_cases d0 : d = 0
    · subst d0
      walk_at "l2"
      exact ⟨by rw [sizeLine_eq]; decide, qE rfl⟩
    · refine s_ifF (decide_eq_false fun z => d0 (by have := V.int.inj z; omega)) ?_
      have qQ := qQ d0
      walk_at "l2"
      refine ⟨fun μ σ' H' => ∃ qq v, σ' = [some (nat x), some (nat d), some (nat qq), some (nat μ), v] ∧ H' = H ∧ M.cm qq d ^^^ μ = x ∧ μ ≤ x ∧ M.Dv d (x ^^^ μ), ⟨x, 0, none, rfl, rfl, by rw [M.zero_cm, Nat.zero_xor], Nat.le_refl _, by rw [Nat.xor_self]; exact M.Dv.zero d⟩, ?_⟩
      rintro μ σ' H' ⟨qq, v, rfl, rfl, hc, hle, hdv⟩
      walk_at "l2"
      refine iteB (fun hb => ?_) (fun hb => ?_)
      · obtain ⟨m0, hl⟩ := (dg_ge d0).mp (of_decide_eq_true hb)
        have hμ : μ < 2 ^ 1000 := Nat.lt_of_le_of_lt hle hx
        have hlog := M.log2_under m0 hμ
        have ep : dg μ - dg d = ((μ.log2 - d.log2 : Nat) : Int) := by rw [dg_log m0, dg_log d0]; omega
        have ht := M.div_turn d0 m0 hl
        have hs : CShl (d : Int) ((μ.log2 - d.log2 : Nat) : Int) := cshl (wide_up hd (by decide)) (by omega)
        generalize hpl : μ.log2 - d.log2 = pl at *
        refine ⟨fun σ2 H2 => ∃ qq μ' v, σ2 = [some (nat x), some (nat d), some (nat qq), some (nat μ'), v] ∧ H2 = H' ∧ M.cm qq d ^^^ μ' = x ∧ μ' < μ ∧ M.Dv d (x ^^^ μ'), fun σ2 H2 ⟨qq, μ', v, h1, h2, h3, h4, h5⟩ => ⟨μ', h4, qq, v, h1, h2, h3, by omega, h5⟩, ?_⟩
        walk_at "l2"
        rw [ep]
        walk_at "l2"
        refine ⟨qq ^^^ 2 ^ pl, μ ^^^ d * 2 ^ pl, some (nat pl), ?_, rfl, by rw [cm_turn]; exact hc, ht, ?_⟩
        · rw [shl1, bitXor_nat, shl_nat, bitXor_nat]
        · have := hdv.xor (M.turn_dv d μ pl)
          rwa [← Nat.xor_assoc, M.xor_cancel] at this
      · have hlt := lt_of_not d0 (fun z => absurd ((dg_ge d0).mpr z) (of_decide_eq_false hb))
        walk_at "l2"
        intro t H2 f2 s2 e2
        exact qQ t H2 qq μ f2 s2 e2 ⟨hlt, hdv⟩ hc
theorem ok_turns_to_one (T : Tx K mg a) : FnOk P w K mg base CX0 3 a.f_turns_to_one a.d_turns_to_one ["poly"] sp_turns := by
  have G_degree := ok_degree (P := P) (w := w) (base := base) T
  have G_divided := ok_divided (P := P) (w := w) (base := base) T
  refine T.F_turns_to_one.ok sc_turns_to_one (fun vs H Q E h => ?_) (fun cdv A outer s H vs Q E hr h => ?_)
  · obtain ⟨d, rfl, _⟩ := h; rfl
  · obtain ⟨d, rfl, hodd, hl1, hlt, q⟩ := h
    have d0 : d ≠ 0 := by omega
    have hd1 : d < 2 ^ 1000 := wide_up hlt (by decide)
    obtain ⟨e0, O⟩ := M.order_exists hodd hl1
    refine ⟨_, ((pss_cons (ps_set (i := 1) sc_turns_to_one.nd rfl (by first | exact Or.inl rfl | exact Or.inr rfl) (pe_call G_degree (hr.mono (by decide)) (by rfl) T.g_degree T.k_degree T.b_degree .nil pass0 (pa_cons (pv 0) pa_nil)))
      (pss_cons (ps_set (i := 2) sc_turns_to_one.nd rfl (by first | exact Or.inl rfl | exact Or.inr rfl) (pe_ix (ix_tupK (K := K) rfl) (pe_callX G_divided (hr.mono (by decide)) (by rfl) T.g_divided T.k_divided T.b_divided .nil thr0 (pa_cons pe_int (pa_cons (pv 0) pa_nil))) pe_int (fun _ _ => rfl)))
      (pss_cons (ps_set (i := 3) sc_turns_to_one.nd rfl (by first | exact Or.inl rfl | exact Or.inr rfl) pe_int)
      (pss_cons (ps_while PassesOwn.never (pt_cmpR op_ne (pv 2) pe_int (nomark _)) (pss_cons (ps_set (i := 2) sc_turns_to_one.nd rfl (by first | exact Or.inl rfl | exact Or.inr rfl) (pe_op op_shlB (pv 2) pe_int))
      (pss_cons (ps_if (pt_cmpR op_eq (pe_call G_degree (hr.mono (by decide)) (by rfl) T.g_degree T.k_degree T.b_degree .nil pass0 (pa_cons (pv 2) pa_nil)) (pv 1) (nomark _)) (pss_one (ps_set (i := 2) sc_turns_to_one.nd rfl (by first | exact Or.inl rfl | exact Or.inr rfl) (pe_op op_xor (pv 2) (pv 0)))) pss_nil)
      (pss_one (ps_set (i := 3) sc_turns_to_one.nd rfl (by first | exact Or.inl rfl | exact Or.inr rfl) (pe_op op_add (pv 3) pe_int))))))
      (pss_one (ps_ret (pv 3)))))))), s_start (σ' := [some _, none, none, none]) rfl ?_⟩
    walk_at "l2"
    refine ⟨2, d, rfl, wide_up (show 2 < 2 ^ 2 by decide) (by decide), hd1, fun z => absurd z d0, fun _ t H2 qq r f2 s2 e2 R _ => ?_⟩
    walk_at "l2"
    refine ⟨fun μ σ' H' => ∃ p n, σ' = [some (nat d), some (.int (dg d)), some (nat p), some (nat n)] ∧ H' = H2 ∧ M.Rm d (2 ^ n) p ∧ 1 ≤ n ∧ n ≤ e0 ∧ μ = e0 - n, ⟨e0 - 1, r, 1, rfl, rfl, by rw [Nat.pow_one]; exact R, Nat.le_refl _, O.pos, rfl⟩, ?_⟩
    rintro μ σ' H' ⟨p, n, rfl, rfl, hR, hn1, hne, rfl⟩
    walk_at "l2"
    by_cases p1 : p = 1
    · subst p1
      refine s_ifF rfl ?_
      walk_at "l2"
      have : n = e0 := by
        refine Nat.le_antisymm hne (Nat.le_of_not_lt fun hlt => O.least n hn1 hlt hR)
      rw [this]
      exact q H' e0 s2 O
    · refine s_ifT (by rw [decide_eq_false fun z => p1 (by have := V.int.inj z; omega)]; rfl) ?_
      have hlt2 : n < e0 := Nat.lt_of_le_of_ne hne fun z => p1 (by rw [z] at hR; exact hR.uniq d0 O.one)
      have hp17 : p < 2 ^ 17 := Nat.lt_trans hR.lt (Nat.lt_of_le_of_lt (Nat.log2_self_le d0) hlt)
      have hs : CShl (p : Int) 1 := cshl (p := 1) (wide_up hp17 (by decide)) (by decide)
      have hnx := hR.next d0
      have e1 : (p : Int) * 2 ^ (1 : Int).toNat = ((p * 2 : Nat) : Int) := by push_cast; rfl
      refine ⟨fun σ2 H2 => ∃ p n', σ2 = [some (nat d), some (.int (dg d)), some (nat p), some (nat n')] ∧ H2 = H' ∧ M.Rm d (2 ^ n') p ∧ 1 ≤ n' ∧ n' ≤ e0 ∧ e0 - n' < e0 - n, fun σ2 H2 ⟨p, n', h1, h2, h3, h4, h5, h6⟩ => ⟨_, h6, p, n', h1, h2, h3, h4, h5, rfl⟩, ?_⟩
      walk_at "l2"
      rw [e1]
      walk_at "l2"
      by_cases hc : p * 2 ≠ 0 ∧ (p * 2).log2 = d.log2
      · rw [if_pos hc] at hnx
        refine s_ifT (decide_eq_true (by rw [dg_log hc.1, dg_log d0, hc.2])) ?_
        walk_at "l2"
        refine ⟨p * 2 ^^^ d, n + 1, ?_, rfl, hnx, by omega, by omega, by omega⟩
        rw [bitXor_nat]
        rfl
      · rw [if_neg hc] at hnx
        refine s_ifF (decide_eq_false fun z => hc ?_) ?_
        · have z := V.int.inj z
          have p0 : p * 2 ≠ 0 := fun y => by rw [y, dg_zero, dg_log d0] at z; omega
          exact ⟨p0, by rw [dg_log p0, dg_log d0] at z; omega⟩
        · walk_at "l2"
          exact ⟨hnx, (show 1 ≤ n + 1 by omega), (show n + 1 ≤ e0 by omega), (show e0 - (n + 1) < e0 - n by omega)⟩
end
section
variable {P : Program} {w : World} {K : PySem.W.Frag} {mg : Str → Option Value} {base : Heap} {a : Ad}
theorem ok_Steps_lowered (T : Tx K mg a) : FnOk P w K mg base CX0 1 a.f_Steps_lowered a.d_Steps_lowered ["self", "mask"] (sp_low a.c_Steps) := by
  refine T.F_Steps_lowered.ok sc_Steps_lowered (fun vs H Q E h => ?_) (fun cdv A outer s H vs Q E hr h => ?_)
  · obtain ⟨p, d, f, n, rows, x, rfl, _⟩ := h; rfl
  · obtain ⟨p, d, f, n, rows, x, rfl, st, q⟩ := h
    have hu := hu_of hr
    obtain ⟨dx, ho⟩ := st.ho
    obtain ⟨es, hd, ht, g, l⟩ := st.he
    refine ⟨_, ((pss_cons (ps_set (i := 2) sc_Steps_lowered.nd rfl (by first | exact Or.inl rfl | exact Or.inr rfl) pe_int)
      (pss_cons (ps_while PassesOwn.never (pt_cmp (pc_din hu (pe_op op_sub (pe_bm0K (K := K) rfl PySem.F.plainAttrs_int PySem.F.slot_int_bit_length PySem.F.type_int_bit_length mt_bits (pv 1)) pe_int) (pe_fldK (K := K) rfl (pv 0) rfl))) (pss_cons (ps_set (i := 3) sc_Steps_lowered.nd rfl (by first | exact Or.inl rfl | exact Or.inr rfl) (pe_dget hu (pe_fldK (K := K) rfl (pv 0) rfl) (pe_op op_sub (pe_bm0K (K := K) rfl PySem.F.plainAttrs_int PySem.F.slot_int_bit_length PySem.F.type_int_bit_length mt_bits (pv 1)) pe_int) (fun _ _ => rfl)))
      (pss_cons (ps_set (i := 1) sc_Steps_lowered.nd rfl (by first | exact Or.inl rfl | exact Or.inr rfl) (pe_op op_xor (pv 1) (pe_ix (ix_tupK (K := K) rfl) (pv 3) pe_int (fun _ _ => rfl))))
      (pss_one (ps_set (i := 2) sc_Steps_lowered.nd rfl (by first | exact Or.inl rfl | exact Or.inr rfl) (pe_op op_xor (pv 2) (pe_ix (ix_tupK (K := K) rfl) (pv 3) pe_int (fun _ _ => rfl))))))))
      (pss_one (ps_ret (pe_tup (pa_cons (pv 1) (pa_cons (pv 2) pa_nil)))))))), s_start (σ' := [some _, some _, none, none]) rfl ?_⟩
    walk_at "l2"
    refine ⟨fun μ σ' H' => ∃ qq v, σ' = [some (.ref p), some (nat (x ^^^ M.sm rows qq)), some (nat qq), v] ∧ H' = H ∧ qq < 2 ^ rows.length ∧ μ = x ^^^ M.sm rows qq ∧ M.Frs rows qq, ⟨x, 0, none, ?_, rfl, Nat.two_pow_pos _, ?_, M.Frs.zero _⟩, ?_⟩
    · rw [M.sm_zero, Nat.xor_zero]; rfl
    · rw [M.sm_zero, Nat.xor_zero]
    rintro μ σ' H' ⟨qq, v, rfl, rfl, hq, rfl, hfr⟩
    walk_at "l2"
    refine s_fldAt ho T.C_Steps T.n_Steps_by_top rfl ?_
    refine s_dinI hd ?_
    walk_at "l2"
    generalize hm : x ^^^ M.sm rows qq = m
    refine iteB (fun hc => ?_) (fun hc => ?_)
    · rcases val_kvs es ((Builtin.Int.intBits (m : Int) : Nat) - 1 : Int) with ⟨e, he, ez, ev⟩ | ⟨_, hv⟩
      · have hm0 : m ≠ 0 := fun z => by rw [z, bits_zero] at ez; omega
        have hl2 : m.log2 = e.m.log2 := by rw [bits_log hm0] at ez; omega
        have hem : (e.m, e.p) ∈ es.map (fun e => (e.m, e.p)) := List.mem_map.mpr ⟨e, he, rfl⟩
        have e0 := g.nz _ hem
        refine ⟨fun σ2 H2 => ∃ q2 v, σ2 = [some (.ref p), some (nat (x ^^^ M.sm rows q2)), some (nat q2), v] ∧ H2 = H' ∧ q2 < 2 ^ rows.length ∧ x ^^^ M.sm rows q2 < m ∧ M.Frs rows q2, fun σ2 H2 ⟨q2, v, h1, h2, h3, h4, h5⟩ => ⟨_, h4, q2, v, h1, h2, h3, rfl, h5⟩, ?_⟩
        walk_at "l2"
        refine s_fldAt ho T.C_Steps T.n_Steps_by_top rfl ?_
        walk_at "l2"
        refine s_dgetI hd ev ?_
        have hte := ht e he
        walk_at "l2"
        refine ⟨qq ^^^ e.p, some (.ref e.a), ?_, rfl, M.xor_lt_pow hq (g.lt _ hem), ?_, hfr.xor (g.sub _ hem)⟩
        · rw [M.sm_xor, g.sm _ hem, ← Nat.xor_assoc, hm, bitXor_nat, bitXor_nat]
        · rw [M.sm_xor, g.sm _ hem, ← Nat.xor_assoc, hm]; exact M.xor_less hm0 e0 hl2
      · rw [hv] at hc; cases hc
    · walk_at "l2"
      intro t H2 f2 s2 e2
      subst hm
      refine q t H2 qq f2 s2 e2 hq (fun m0 y hy y0 hl2 => ?_) hfr
      rcases val_kvs es ((Builtin.Int.intBits ((x ^^^ M.sm rows qq : Nat) : Int) : Nat) - 1 : Int) with ⟨e, he, ez, ev⟩ | ⟨h1, hv⟩
      · rw [ev] at hc; cases hc
      · obtain ⟨e, he, ee⟩ := g.all y hy y0
        obtain ⟨e', he', rfl⟩ := List.mem_map.mp he
        refine h1 e' he' ?_
        have ee : e'.m.log2 = y.log2 := ee
        rw [bits_log m0, ee, hl2]; omega
theorem ok_Steps_lay (T : Tx K mg a) : FnOk P w K mg base CX0 2 a.f_Steps_lay a.d_Steps_lay ["self", "place", "row"] (sp_lay a.c_Steps) := by
  have G_Steps_lowered := ok_Steps_lowered (P := P) (w := w) (base := base) T
  refine T.F_Steps_lay.ok sc_Steps_lay (fun vs H Q E h => ?_) (fun cdv A outer s H vs Q E hr h => ?_)
  · obtain ⟨p, d, f, n, rows, r, rfl, _⟩ := h; rfl
  · obtain ⟨p, d, f, n, rows, r, rfl, st, hl, q⟩ := h
    have hu := hu_of hr
    obtain ⟨dx, ho⟩ := st.ho
    refine ⟨_, ((pss_cons (ps_set (i := 3) sc_Steps_lay.nd rfl (by first | exact Or.inl rfl | exact Or.inr rfl) (pe_meth (pv 0) T.C_Steps T.m_Steps_lowered G_Steps_lowered (hr.mono (by decide)) T.b_Steps_lowered .nil pass0 (pa_cons (pv 2) pa_nil)))
      (pss_cons (ps_set (i := 4) sc_Steps_lay.nd rfl (by first | exact Or.inl rfl | exact Or.inr rfl) (pe_op op_xor (pe_ix (ix_tupK (K := K) rfl) (pv 3) pe_int (fun _ _ => rfl)) (pe_op op_shl pe_int (pv 1))))
      (pss_one (ps_if (pt_cmpR op_eq (pe_ix (ix_tupK (K := K) rfl) (pv 3) pe_int (fun _ _ => rfl)) pe_int (nomark _)) (pss_one (ps_expr (pe_bmK (K := K) rfl PySem.F.plainAttrs_list PySem.F.slot_list_append PySem.F.type_list_append mt_append (pe_fldK (K := K) rfl (pv 0) rfl) (pa_cons (pv 4) pa_nil)))) (pss_cons (ps_expr (pe_bmK (K := K) rfl PySem.F.plainAttrs_list PySem.F.slot_list_append PySem.F.type_list_append mt_append (pe_fldK (K := K) rfl (pv 0) rfl) (pa_cons (pv 1) pa_nil)))
      (pss_one (ps_dput hu (pe_fldK (K := K) rfl (pv 0) rfl) (pe_op op_sub (pe_bm0K (K := K) rfl PySem.F.plainAttrs_int PySem.F.slot_int_bit_length PySem.F.type_int_bit_length mt_bits (pe_ix (ix_tupK (K := K) rfl) (pv 3) pe_int (fun _ _ => rfl))) pe_int) (pe_tup (pa_cons (pe_ix (ix_tupK (K := K) rfl) (pv 3) pe_int (fun _ _ => rfl)) (pa_cons (pv 4) pa_nil))) rfl)))))))), s_start (σ' := [some _, some _, some _, none, none]) rfl ?_⟩
    walk_at "l2"
    refine s_methAt ho rfl ?_
    walk_at "l2"
    refine ⟨p, d, f, n, rows, r, rfl, st, fun t H2 qq f2 s2 e2 hq hn hfr => ?_⟩
    walk_at "l2"
    rw [shl1, bitXor_nat]
    have ho2 := s2.get ho
    have st2 := st.same s2
    have lf := M.fr_len rows
    refine iteB (fun hc => ?_) (fun hc => ?_)
    · have hz : r ^^^ M.sm rows qq = 0 := by have := V.int.inj (of_decide_eq_true hc); omega
      obtain ⟨nms, hnn, gn⟩ := st2.hn
      have ln := gn.len
      walk_at "l2"
      refine s_fldAt ho2 T.C_Steps T.n_Steps_null_masks rfl ?_
      walk_at "l2"
      refine s_append hnn (by rw [List.length_map]; exact small1000 (by omega)) fun H3 u3 => ?_
      walk_at "l2"
      exact q H3 (fun b o h1 h2 h3 e => u3.oth _ _ h3 (s2.get e)) (st2.null hq hz gn hnn u3)
    · have hz : r ^^^ M.sm rows qq ≠ 0 := fun z => by rw [z] at hc; exact absurd hc (by decide)
      obtain ⟨es, hd, ht, g, le⟩ := st2.he
      have hf2 := st2.hf
      walk_at "l2"
      refine s_fldAt ho2 T.C_Steps T.n_Steps_free_places rfl ?_
      walk_at "l2"
      refine s_append st2.hf (by rw [List.length_map]; exact small1000 (by omega)) fun H3 u3 => ?_
      have e3 := u3.oth _ _ (ne_of e2 st2.hf (by simp)) e2
      have ho3 := u3.oth _ _ (ne_of ho2 st2.hf (by simp)) ho2
      have hd3 := u3.oth _ _ (ne_of hd st2.hf (by simp)) hd
      walk_at "l2"
      intro t' H4 f4 s4 e4
      walk_at "l2"
      refine s_fldAt (s4.get ho3) T.C_Steps T.n_Steps_by_top rfl ?_
      walk_at "l2"
      refine s_dputI (s4.get hd3) (by unfold kvsOf; rw [List.length_map]; exact small1000 (by omega)) fun H5 u5 => ?_
      walk_at "l2"
      refine q H5 (fun b o h1 h2 h3 e => u5.oth _ _ h1 (s4.get (u3.oth _ _ h2 (s2.get e)))) (st2.more hq hz (hn hz) hfr u3 s4 e4 hd ht g le ?_)
      have ez : (((r ^^^ M.sm rows qq).log2 + 1 : Nat) : Int) - 1 = (((r ^^^ M.sm rows qq).log2 : Nat) : Int) := by omega
      rw [bits_log hz, ez] at u5
      exact u5
theorem ok_Steps___init__ (T : Tx K mg a) : FnOk P w K mg base CX0 3 a.f_Steps___init__ a.d_Steps___init__ ["self", "rows"] (sp_sini a.c_Steps) := by
  have G_Steps_lay := ok_Steps_lay (P := P) (w := w) (base := base) T
  refine T.F_Steps___init__.ok sc_Steps___init__ (fun vs H Q E h => ?_) (fun cdv A outer s H vs Q E hr h => ?_)
  · obtain ⟨x, dx, r, rows, rfl, _⟩ := h; rfl
  · obtain ⟨x, dx, r, rows, rfl, hw, hl, hx, q⟩ := h
    have hu := hu_of hr
    have rx : r ≠ x := ne_of hw hx (by simp)
    refine ⟨_, ((pss_cons (ps_fldK (K := K) rfl (pv 0) pe_dnewK rfl)
      (pss_cons (ps_fldK (K := K) rfl (pv 0) (pe_lst pa_nil) rfl)
      (pss_cons (ps_fldK (K := K) rfl (pv 0) (pe_lst pa_nil) rfl)
      (pss_one (ps_for PassesOwn.never rfl (pi_enum (K := K) rfl (by rfl) T.n_enumerate (pv 1)) (pg_tup rfl (pgs_cons (pg_name (i := 2) sc_Steps___init__.nd rfl (by first | exact Or.inl rfl | exact Or.inr rfl)) (pgs_cons (pg_name (i := 3) sc_Steps___init__.nd rfl (by first | exact Or.inl rfl | exact Or.inr rfl)) pgs_nil))) (pss_one (ps_expr (pe_meth (pv 0) T.C_Steps T.m_Steps_lay G_Steps_lay (hr.mono (by decide)) T.b_Steps_lay .nil pass0 (pa_cons (pv 2) (pa_cons (pv 3) pa_nil))))))))))), s_start (σ' := [some _, some _, none, none]) rfl ?_⟩
    walk_at "l2"
    intro d H1 f1 s1 e1
    walk_at "l2"
    have dx1 : d ≠ x := fun z => by rw [z, hx] at f1; cases f1
    refine s_setAt (s1.get hx) T.C_Steps T.n_Steps_by_top (by decide) rfl fun H2 u2 => ?_
    walk_at "l2"
    intro f H3 f3 s3 e3
    walk_at "l2"
    have fx1 : f ≠ x := fun z => by rw [z, u2.at'] at f3; cases f3
    refine s_setAt (s3.get u2.at') T.C_Steps T.n_Steps_free_places (by show 1 < 1000; decide) rfl fun H4 u4 => ?_
    walk_at "l2"
    intro n H5 f5 s5 e5
    walk_at "l2"
    have nx1 : n ≠ x := fun z => by rw [z, u4.at'] at f5; cases f5
    refine s_setAt (s5.get u4.at') T.C_Steps T.n_Steps_null_masks (by show 2 < 1000; decide) rfl fun H6 u6 => ?_
    have k1 : ∀ b o, b ≠ x → H b = some o → H2 b = some o := fun b o nb e => u2.oth _ _ nb (s1.get e)
    have k2 : ∀ b o, b ≠ x → H b = some o → H4 b = some o := fun b o nb e => u4.oth _ _ nb (s3.get (k1 b o nb e))
    have k3 : ∀ b o, b ≠ x → H b = some o → H6 b = some o := fun b o nb e => u6.oth _ _ nb (s5.get (k2 b o nb e))
    have nd : ∀ b o, H b = some o → b ≠ d := fun b o e => ne_of_none e f1
    have nf : ∀ b o, b ≠ x → H b = some o → b ≠ f := fun b o nb e => ne_of_none (k1 b o nb e) f3
    have nn : ∀ b o, b ≠ x → H b = some o → b ≠ n := fun b o nb e => ne_of_none (k2 b o nb e) f5
    have e3' := u4.oth _ _ fx1 e3
    have fn : f ≠ n := ne_of_none e3' f5
    have hd0 : H6 d = some (.dK (kvsOf [])) := u6.oth _ _ dx1 (s5.get (u4.oth _ _ dx1 (s3.get (u2.oth _ _ dx1 e1))))
    have hw6 := k3 _ _ rx hw
    walk_at "l2"
    refine for_enum (xs := rows.map nat) (fun i σ H' => ∃ v v', σ = [some (.ref x), some (.ref r), v, v'] ∧ StA H' a.c_Steps x d f n (rows.take i) ∧ ∀ b o, b ≠ x → H b = some o → H' b = some o) ?_ ?_ ?_ ?_
    · refine ⟨none, none, rfl, ⟨⟨dx, u6.at'⟩, ⟨[], hd0, fun _ h => absurd h (by simp), M.Ech.nil, rfl⟩, u6.oth _ _ fx1 (s5.get e3'), ⟨[], u6.oth _ _ nx1 e5, M.Nul.nil⟩, fn⟩, k3⟩
    · rintro i σ H' _ ⟨v, v', _, _, k⟩
      exact SqL.of (k _ _ rx hw)
    · rintro i y σ H' p H7 hy ⟨v, v', rfl, st, k⟩ fp s7 e7
      obtain ⟨ri, hri, rfl⟩ := get_map hy
      obtain ⟨dx7, ho7⟩ := (st.same s7).ho
      walk_at "l2"
      refine s_methAt ho7 rfl ?_
      walk_at "l2"
      have tl := take_len hri
      refine ⟨x, d, f, n, rows.take i, ri, by rw [tl], st.same s7, by rw [tl]; have := (List.getElem?_eq_some_iff.mp hri).1; omega, fun H8 fr8 st8 => ?_⟩
      walk_at "l2"
      refine ⟨_, _, rfl, by rw [take_succ hri]; exact st8, fun b o nb e => fr8 b o (nd b o e) (nf b o nb e) (nn b o nb e) (s7.get (k b o nb e))⟩
    · rintro σ H' ⟨v, v', rfl, st, k⟩
      rw [List.length_map, List.take_length] at st
      walk_at "l2"
      exact q H' d f n k st
theorem ok_sum_for (T : Tx K mg a) : FnOk P w K mg base CX0 5 a.f_sum_for a.d_sum_for ["rows", "wish"] sp_sumfor2 := by
  have G_Steps___init__ := ok_Steps___init__ (P := P) (w := w) (base := base) T
  have G_Steps_lowered := ok_Steps_lowered (P := P) (w := w) (base := base) T
  have G_Steps_barring := ok_Steps_barring (P := P) (w := w) (base := base) T
  have G_bits_of := ok_bits_of (P := P) (w := w) (base := base) T
  refine T.F_sum_for.ok sc_sum_for (fun vs H Q E h => ?_) (fun cdv A outer s H vs Q E hr h => ?_)
  · obtain ⟨r, rows, x, rfl, _⟩ := h; rfl
  · obtain ⟨r, rows, x, rfl, hw, hl, hr1, hx1, h64, qA, qB⟩ := h
    refine ⟨_, ((pss_cons (ps_set (i := 2) sc_sum_for.nd rfl (by first | exact Or.inl rfl | exact Or.inr rfl) (pe_make T.M_Steps G_Steps___init__ (hr.mono (by decide)) (by rfl) T.g_Steps T.b_Steps___init__ .nil pass0 (pa_cons (pv 0) pa_nil)))
      (pss_cons (ps_set (i := 3) sc_sum_for.nd rfl (by first | exact Or.inl rfl | exact Or.inr rfl) (pe_meth (pv 2) T.C_Steps T.m_Steps_lowered G_Steps_lowered (hr.mono (by decide)) T.b_Steps_lowered .nil pass0 (pa_cons (pv 1) pa_nil)))
      (pss_cons (ps_if (pt_cmpR op_eq (pe_ix (ix_tupK (K := K) rfl) (pv 3) pe_int (fun _ _ => rfl)) pe_int (nomark _)) (pss_one (ps_ret (pe_tup (pa_cons pe_str (pa_cons (pe_call G_bits_of (hr.mono (by decide)) (by rfl) T.g_bits_of T.k_bits_of T.b_bits_of .nil pass0 (pa_cons (pe_ix (ix_tupK (K := K) rfl) (pv 3) pe_int (fun _ _ => rfl)) pa_nil)) pa_nil))))) pss_nil)
      (pss_one (ps_ret (pe_tup (pa_cons pe_str (pa_cons (pe_meth (pv 2) T.C_Steps T.m_Steps_barring G_Steps_barring (hr.mono (by decide)) T.b_Steps_barring .nil pass0 (pa_cons (pe_op op_sub (pe_bm0K (K := K) rfl PySem.F.plainAttrs_int PySem.F.slot_int_bit_length PySem.F.type_int_bit_length mt_bits (pe_ix (ix_tupK (K := K) rfl) (pv 3) pe_int (fun _ _ => rfl))) pe_int) pa_nil)) pa_nil))))))))), s_start (σ' := [some _, some _, none, none]) rfl ?_⟩
    walk_at "l2"
    intro p dx H2 f2 s2 e2
    refine ⟨p, dx, r, rows, rfl, s2.get hw, hl, e2, fun H3 d f n k st => ⟨rfl, ?_⟩⟩
    obtain ⟨dx3, ho⟩ := st.ho
    have hs : Same H H3 := fun b o e => k b o (ne_of_none e f2) (s2.get e)
    walk_at "l2"
    refine s_methAt ho rfl ?_
    walk_at "l2"
    refine ⟨p, d, f, n, rows, x, rfl, st, fun t H4 qq f4 s4 e4 hq hn hfr => ?_⟩
    walk_at "l2"
    refine iteB (fun hc => ?_) (fun hc => ?_)
    · have hz : x ^^^ M.sm rows qq = 0 := by have := V.int.inj (of_decide_eq_true hc); omega
      have hsm : M.sm rows qq = x := by
        have := congrArg (x ^^^ ·) hz
        simp only [← Nat.xor_assoc, Nat.xor_self, Nat.zero_xor, Nat.xor_zero] at this
        exact this
      walk_at "l2"
      refine ⟨qq, rfl, Nat.lt_of_lt_of_le hq (Nat.pow_le_pow_right (by decide) hl), fun D H5 f5 s5 e5 => ?_⟩
      walk_at "l2"
      intro t' H6 f6 s6 e6
      exact qA t' D H6 qq (fresh_of (hs.trans s4) f5) (hs.trans (s4.trans (s5.trans s6))) e6 (s6.get e5) ⟨hq, hsm, hfr⟩
    · have hz : x ^^^ M.sm rows qq ≠ 0 := fun z => by rw [z] at hc; exact absurd hc (by decide)
      have hx1' : x ^^^ M.sm rows qq < 2 ^ 1000 := M.xor_lt_pow hx1 (M.span_lt hr1 (M.sm_span rows qq))
      have hb1 := M.log2_under hz hx1'
      have hns : ¬ M.Span rows x := fun hsp => hn hz _ (M.span_xor hsp (M.sm_span rows qq)) hz rfl
      have h64' : (M.fr rows).length < 64 := h64.resolve_left hns
      have ez : (((x ^^^ M.sm rows qq).log2 + 1 : Nat) : Int) - 1 = (((x ^^^ M.sm rows qq).log2 : Nat) : Int) := by omega
      walk_at "l2"
      refine s_methAt (s4.get ho) rfl ?_
      walk_at "l2"
      rw [bits_log hz, ez]
      refine ⟨p, d, f, n, rows, (x ^^^ M.sm rows qq).log2, rfl, st.same s4, hb1, hr1, h64', hn hz, fun m H5 s5 B => ?_⟩
      walk_at "l2"
      intro t' H6 f6 s6 e6
      refine qB t' H6 m (hs.trans (s4.trans (s5.trans s6))) e6 ⟨hns, ⟨M.sm rows qq, M.sm_span _ _, hz, hn hz, B⟩, B.ev, B.odd hz rfl hb1, fun W hW hxW => B.lt W hW ?_⟩
      exact M.log2_under hz (M.xor_lt_pow hxW (M.span_lt hW (M.sm_span rows qq)))
end
section
variable {P : Program} {w : World} {K : PySem.W.Frag} {mg : Str → Option Value} {base : Heap} {a : Ad}
local macro_rules | `(tactic| walk_at "l2step") => `(tactic| first | ((with_reducible refine' c_whole ?e ?_); (case e => walk_at "l2kind")) | ((with_reducible refine' c_mask ?e ?_); (case e => walk_at "l2kind")) | (with_reducible refine s_iEnumT ?_) | (with_reducible refine s_methX ?_))
theorem ok_is_pair (T : Tx K mg a) : FnOk P w K mg base CX0 3 a.f_is_pair a.d_is_pair ["thing", "stores", "inputs"] sp_pairG := by
  have G_is_mask : FnOk P w K mg base CX0 2 a.f_is_mask a.d_is_mask ["thing", "width"] (sp_mask K) := ok_is_mask T
  refine T.F_is_pair.ok sc_is_pair (fun vs H Q E h => ?_) (fun cdv A outer s H vs Q E hr h => ?_)
  · obtain ⟨t, x, y, n, m, rfl, _⟩ := h; rfl
  · obtain ⟨t, x, y, n, m, rfl, ht, hx, hy, q⟩ := h
    refine ⟨_, ((pss_cons (ps_if (PW.pt (pw_or (pt_not (pt_val (pe_callB (call_isiK (K := K) rfl) (by rfl) T.n_isinstance PyProof.Rows.boot_isinstance (pa_cons (pv 0) (pa_cons (pe_bltn (v := .ty "tuple") (by rfl) T.n_tuple PyProof.Rows.boot_tuple rfl) pa_nil))))) (pw_or1 (pt_cmpR op_ne (pe_callB (call_lenK (K := K) rfl) (by rfl) T.n_len PySem.boot_len (pa_cons (pv 0) pa_nil)) pe_int (nomark _))))) (pss_one (ps_ret pe_bl)) pss_nil)
      (pss_one (ps_ret (pe_and (pe_call G_is_mask (hr.mono (by decide)) (by rfl) T.g_is_mask T.k_is_mask T.b_is_mask .nil pass0 (pa_cons (pe_ix (ix_tupK (K := K) rfl) (pv 0) pe_int (fun _ _ => rfl)) (pa_cons (pv 1) pa_nil))) (pe_one (pe_call G_is_mask (hr.mono (by decide)) (by rfl) T.g_is_mask T.k_is_mask T.b_is_mask .nil pass0 (pa_cons (pe_ix (ix_tupK (K := K) rfl) (pv 0) pe_int (fun _ _ => rfl)) (pa_cons (pv 2) pa_nil))))))))), s_start (σ' := [some _, some _, some _]) rfl ?_⟩
    walk_at "l2"
    refine s_ifT (maskB_nat hx) ?_
    walk_at "l2"
    rw [maskB_nat hy]
    exact q
theorem ok_check_table (T : Tx K mg a) : FnOk P w K mg base CX0 4 a.f_check_table a.d_check_table ["inputs", "nexts", "outs"] sp_ctab := by
  have G_is_whole : FnOk P w K mg base CX0 1 a.f_is_whole a.d_is_whole ["thing"] (sp_whole K) := ok_is_whole T
  have G_is_pair := ok_is_pair (P := P) (w := w) (base := base) T
  refine T.F_check_table.ok sc_check_table (fun vs H Q E h => ?_) (fun cdv A outer s H vs Q E hr h => ?_)
  · obtain ⟨n, o, m, nx, os, rfl, _⟩ := h; rfl
  · obtain ⟨n, o, m, nx, os, rfl, t, q⟩ := h
    refine ⟨_, ((pss_cons (ps_if (PW.pt (pw_or (pt_not (pt_val (pe_call G_is_whole (hr.mono (by decide)) (by rfl) T.g_is_whole T.k_is_whole T.b_is_whole .nil pass0 (pa_cons (pv 0) pa_nil)))) (pw_or (pt_cmpR op_lt (pv 0) pe_int (nomark _)) (pw_or1 (pt_cmpR op_gt (pv 0) (pe_glob (v := .int 6) (by rfl) T.g_MOST_INPUTS ⟨_, rfl⟩) (nomark _)))))) (pss_one (ps_raise PySem.F.excBase_ValueError T.x_BadTable thr0 rfl (by rfl) T.g_BadTable (pa_cons pe_str pa_nil))) pss_nil)
      (pss_cons (ps_if (PW.pt (pw_or (pt_not (pt_val (pe_callB (call_isiK (K := K) rfl) (by rfl) T.n_isinstance PyProof.Rows.boot_isinstance (pa_cons (pv 1) (pa_cons (pe_bltn (v := .ty "list") (by rfl) T.n_list PyProof.Rows.boot_list rfl) pa_nil))))) (pw_or1 (pt_cmpR op_gt (pe_callB (call_lenK (K := K) rfl) (by rfl) T.n_len PySem.boot_len (pa_cons (pv 1) pa_nil)) (pe_glob (v := .int 120) (by rfl) T.g_MOST_STORES ⟨_, rfl⟩) (nomark _))))) (pss_one (ps_raise PySem.F.excBase_ValueError T.x_BadTable thr0 rfl (by rfl) T.g_BadTable (pa_cons pe_str pa_nil))) pss_nil)
      (pss_cons (ps_if (PW.pt (pw_or (pt_not (pt_val (pe_callB (call_isiK (K := K) rfl) (by rfl) T.n_isinstance PyProof.Rows.boot_isinstance (pa_cons (pv 2) (pa_cons (pe_bltn (v := .ty "list") (by rfl) T.n_list PyProof.Rows.boot_list rfl) pa_nil))))) (pw_or1 (pt_cmpR op_gt (pe_callB (call_lenK (K := K) rfl) (by rfl) T.n_len PySem.boot_len (pa_cons (pv 2) pa_nil)) (pe_glob (v := .int 6) (by rfl) T.g_MOST_OUTS ⟨_, rfl⟩) (nomark _))))) (pss_one (ps_raise PySem.F.excBase_ValueError T.x_BadTable thr0 rfl (by rfl) T.g_BadTable (pa_cons pe_str pa_nil))) pss_nil)
      (pss_one (ps_if (pt_not (pt_val (pe_callB (call_allK (K := K) rfl rfl) (by rfl) T.n_all PyProof.Rows.boot_all (pa_cons (pe_comp (osc := defScope s_check_table) (ON := ["inputs", "nexts", "outs"]) (N := ["pair", "nexts", "inputs"]) (n := 1) (fx := [1, 0]) rfl rfl rfl (by decide +kernel) (pi_listK (K := K) rfl (pe_op op_cat (pv 1) (pv 2))) (gk_name (by decide)) (fun _ _ _ _ _ => ⟨(pg_name (i := 0) (show List.Nodup (["pair", "nexts", "inputs"] : List Str) from by decide +kernel) rfl (by first | exact Or.inl rfl | exact Or.inr rfl)), pts_nil, (pe_call G_is_pair (hr.mono (by decide)) (by rfl) T.g_is_pair T.k_is_pair T.b_is_pair .nil pass0 (pa_cons (pv 0) (pa_cons (pe_callB (call_lenK (K := K) rfl) (by rfl) T.n_len PySem.boot_len (pa_cons (pv 1) pa_nil)) (pa_cons (pv 2) pa_nil))))⟩)) pa_nil)))) (pss_one (ps_raise PySem.F.excBase_ValueError T.x_BadTable thr0 rfl (by rfl) T.g_BadTable (pa_cons pe_str pa_nil))) pss_nil)))))), s_start (σ' := [some _, some _, some _]) rfl ?_⟩
    walk_at "l2"
    have m6 := t.m6
    have ln := t.ln
    have lo := t.lo
    have hn := t.n
    have ho := t.o
    have en : (refs nx).length = nx.length := List.length_map ..
    have eo : (refs os).length = os.length := List.length_map ..
    refine s_ifF (decide_eq_false (by omega)) ?_
    walk_at "l2"
    refine s_ifF (decide_eq_false (by omega)) ?_
    walk_at "l2"
    refine s_ifF (decide_eq_false (by omega)) ?_
    walk_at "l2"
    refine s_cat hn ho (by rw [sizeLine_eq]; omega) fun p H2 f2 s2 e2 => ?_
    walk_at "l2"
    intro D hD
    refine comp_list (xs := refs nx ++ refs os) (fun i ys H' => Cs (fun i ys => ys = (List.replicate i true).map V.bl) H2 D i ys H') (Cs.zero hD rfl) (fun i ys H' _ c => SqL.of (c.same.get e2)) (fun i x ys H' hx c => ?_) (fun ys H' c => ?_)
    · have hx : (refs (nx ++ os))[i]? = some x := by unfold refs at hx ⊢; rw [List.map_append]; exact hx
      obtain ⟨pr, hpr, rfl⟩ := get_map hx
      have hm := List.mem_of_getElem? hpr
      have hi := (List.getElem?_eq_some_iff.mp hpr).1
      rw [List.length_append] at hi
      have hb := t.bn pr hm
      have ht : H pr.1 = some (.tup [nat pr.2.1, nat pr.2.2]) := (List.mem_append.mp hm).elim (t.pn pr) (t.po pr)
      have hn' := c.same.get (s2.get hn)
      walk_at "l2"
      rw [en]
      refine ⟨pr.1, pr.2.1, pr.2.2, nx.length, m, rfl, c.same.get (s2.get ht), hb.1, hb.2, ?_⟩
      refine Cs.put hD c.same c.at' c.len (by omega) ?_
      rw [c.pv, List.replicate_succ', List.map_append]; rfl
    · have ec := c.at'
      rw [c.pv] at ec
      walk_at "l2"
      refine s_allB (SqL.of ec) ?_
      walk_at "l2"
      refine s_ifF (by rw [List.all_replicate]; simp) ?_
      walk_at "l2"
      exact q H' (s2.trans c.same)
theorem ok_Machine___init__ (T : Tx K mg a) : FnOk P w K mg base CX0 5 a.f_Machine___init__ a.d_Machine___init__ ["self", "inputs", "nexts", "outs"] (sp_mini a.c_Machine) := by
  have G_check_table := ok_check_table (P := P) (w := w) (base := base) T
  refine T.F_Machine___init__.ok sc_Machine___init__ (fun vs H Q E h => ?_) (fun cdv A outer s H vs Q E hr h => ?_)
  · obtain ⟨x, dx, n, o, m, nx, os, rfl, _⟩ := h; rfl
  · obtain ⟨x, dx, n, o, m, nx, os, rfl, hx, t, q⟩ := h
    refine ⟨_, ((pss_cons (ps_expr (pe_call G_check_table (hr.mono (by decide)) (by rfl) T.g_check_table T.k_check_table T.b_check_table .nil pass0 (pa_cons (pv 1) (pa_cons (pv 2) (pa_cons (pv 3) pa_nil)))))
      (pss_cons (ps_fldK (K := K) rfl (pv 0) (pv 1) rfl)
      (pss_cons (ps_fldK (K := K) rfl (pv 0) (pe_callTy (call_tupleK (K := K) rfl) (by rfl) T.n_tuple PyProof.Rows.boot_tuple (pa_cons (pv 2) pa_nil)) rfl)
      (pss_one (ps_fldK (K := K) rfl (pv 0) (pe_callTy (call_tupleK (K := K) rfl) (by rfl) T.n_tuple PyProof.Rows.boot_tuple (pa_cons (pv 3) pa_nil)) rfl)))))), s_start (σ' := [some _, some _, some _, some _]) rfl ?_⟩
    walk_at "l2"
    refine ⟨n, o, m, nx, os, rfl, t, fun H1 s1 => ?_⟩
    have nnx := ne_of t.n hx (by simp)
    have onx := ne_of t.o hx (by simp)
    walk_at "l2"
    refine s_setAt (s1.get hx) T.C_Machine T.n_Machine_inputs (by decide) rfl fun H2 u2 => ?_
    have hn2 := u2.oth _ _ nnx (s1.get t.n)
    have ho2 := u2.oth _ _ onx (s1.get t.o)
    walk_at "l2"
    intro tn H3 f3 s3 e3
    have tnx : tn ≠ x := fun z => by rw [z, u2.at'] at f3; cases f3
    walk_at "l2"
    refine s_setAt (s3.get u2.at') T.C_Machine T.n_Machine_nexts (by show 1 < 1000; decide) rfl fun H4 u4 => ?_
    have ho4 := u4.oth _ _ onx (s3.get ho2)
    have e4 := u4.oth _ _ tnx e3
    walk_at "l2"
    intro to H5 f5 s5 e5
    have tox : to ≠ x := fun z => by rw [z, u4.at'] at f5; cases f5
    walk_at "l2"
    refine s_setAt (s5.get u4.at') T.C_Machine T.n_Machine_outs (by show 2 < 1000; decide) rfl fun H6 u6 => ?_
    have k : ∀ b ob, b ≠ x → H b = some ob → H6 b = some ob := fun b ob nb e => u6.oth _ _ nb (s5.get (u4.oth _ _ nb (s3.get (u2.oth _ _ nb (s1.get e)))))
    walk_at "l2"
    refine q H6 k ⟨⟨dx, tn, to, u6.at', u6.oth _ _ tnx (s5.get e4), u6.oth _ _ tox e5⟩, fun pr h => k _ _ ?_ (t.pn pr h), fun pr h => k _ _ ?_ (t.po pr h)⟩
    · exact ne_of (t.pn pr h) hx (by simp)
    · exact ne_of (t.po pr h) hx (by simp)
theorem ok_Machine_stores (T : Tx K mg a) : FnOk P w K mg base CX0 1 a.f_Machine_stores a.d_Machine_stores ["self"] (sp_stores a.c_Machine) := by
  refine T.F_Machine_stores.ok sc_Machine_stores (fun vs H Q E h => ?_) (fun cdv A outer s H vs Q E hr h => ?_)
  · obtain ⟨p, m, nx, os, rfl, _⟩ := h; rfl
  · obtain ⟨p, m, nx, os, rfl, ma, q⟩ := h
    obtain ⟨dx, tn, to, ho, hn, ho2⟩ := ma.ho
    refine ⟨_, ((pss_one (ps_ret (pe_callB (call_lenK (K := K) rfl) (by rfl) T.n_len PySem.boot_len (pa_cons (pe_fldK (K := K) rfl (pv 0) rfl) pa_nil))))), s_start (σ' := [some _]) rfl ?_⟩
    walk_at "l2"
    refine s_fldAt ho T.C_Machine T.n_Machine_nexts rfl ?_
    walk_at "l2"
    unfold refs
    rw [List.length_map]
    exact q
theorem ok_is_odd (T : Tx K mg a) : FnOk P w K mg base CX0 2 a.f_is_odd a.d_is_odd ["pair", "state", "row"] sp_isodd := by
  have G_even := ok_even (P := P) (w := w) (base := base) T
  refine T.F_is_odd.ok sc_is_odd (fun vs H Q E h => ?_) (fun cdv A outer s H vs Q E hr h => ?_)
  · obtain ⟨t, x1, x2, x, r, rfl, _⟩ := h; rfl
  · obtain ⟨t, a1, b1, x, r, rfl, ht, ha, hb, q⟩ := h
    refine ⟨_, ((pss_one (ps_ret (pe_cmpR op_ne (pe_call G_even (hr.mono (by decide)) (by rfl) T.g_even T.k_even T.b_even .nil pass0 (pa_cons (pe_op op_and (pe_ix (ix_tupK (K := K) rfl) (pv 0) pe_int (fun _ _ => rfl)) (pv 1)) pa_nil)) (pe_call G_even (hr.mono (by decide)) (by rfl) T.g_even T.k_even T.b_even .nil pass0 (pa_cons (pe_op op_and (pe_ix (ix_tupK (K := K) rfl) (pv 0) pe_int (fun _ _ => rfl)) (pv 2)) pa_nil)) (nomark _))))), s_start (σ' := [some _, some _, some _]) rfl ?_⟩
    walk_at "l2"
    rw [bitAnd_nat]
    refine ⟨a1 &&& x, rfl, Nat.lt_of_le_of_lt Nat.and_le_left ha, ?_⟩
    walk_at "l2"
    rw [bitAnd_nat]
    refine ⟨b1 &&& r, rfl, Nat.lt_of_le_of_lt Nat.and_le_left hb, ?_⟩
    walk_at "l2"
    rw [xor_bools]
    exact q
theorem ok_odd_places (T : Tx K mg a) : FnOk P w K mg base CX0 3 a.f_odd_places a.d_odd_places ["pairs", "state", "row"] (sp_oddp K) := by
  have G_is_odd := ok_is_odd (P := P) (w := w) (base := base) T
  have G_mask_of := ok_mask_of (P := P) (w := w) (base := base) T
  refine T.F_odd_places.ok sc_odd_places (fun vs H Q E h => ?_) (fun cdv A outer s H vs Q E hr h => ?_)
  · obtain ⟨r, ps, x, y, rfl, _⟩ := h; rfl
  · obtain ⟨r, ps, x, y, rfl, hp, pt, hl, hb, q⟩ := h
    refine ⟨_, ((pss_one (ps_ret (pe_call G_mask_of (hr.mono (by decide)) (by rfl) T.g_mask_of T.k_mask_of T.b_mask_of .nil pass0 (pa_cons (pe_comp (osc := defScope s_odd_places) (ON := ["pairs", "state", "row"]) (N := ["place", "pair", "state", "row"]) (n := 2) (fx := [1, 2]) rfl rfl rfl (by decide +kernel) (pi_enumT (K := K) rfl (by rfl) T.n_enumerate (pv 0)) (gk_tup (gks_cons (gk_name (by decide)) (gks_cons (gk_name (by decide)) gks_nil))) (fun _ _ _ _ _ => ⟨(pg_tupK (K := K) (n := 2) rfl rfl (pgs_cons (pg_name (i := 0) (show List.Nodup (["place", "pair", "state", "row"] : List Str) from by decide +kernel) rfl (by first | exact Or.inl rfl | exact Or.inr rfl)) (pgs_cons (pg_name (i := 1) (show List.Nodup (["place", "pair", "state", "row"] : List Str) from by decide +kernel) rfl (by first | exact Or.inl rfl | exact Or.inr rfl)) pgs_nil))), (pts_one (pt_val (pe_call G_is_odd (hr.mono (by decide)) (by rfl) T.g_is_odd T.k_is_odd T.b_is_odd .nil pass0 (pa_cons (pv 1) (pa_cons (pv 2) (pa_cons (pv 3) pa_nil)))))), (pv 0)⟩)) pa_nil))))), s_start (σ' := [some _, some _, some _]) rfl ?_⟩
    walk_at "l2"
    refine .inr ⟨⟨_, hp⟩, ?_⟩
    intro D hD
    refine comp_enumT (xs := refs ps) (fun i ys H' => Cs (fun i ys => ∃ qs : List Nat, ys = qs.map nat ∧ (∀ p ∈ qs, p < i) ∧ M.xm qs = M.tr2 (prs (ps.take i)) x y) H D i ys H') (Cs.zero hD ⟨[], rfl, fun _ h => absurd h (by simp), rfl⟩) (fun i ys H' _ c => Same.tup c.same hp) (fun i v ys H' p H7 hv c fp s7 e7 => ?_) (fun ys H' c => ?_)
    · obtain ⟨pr, hpr, rfl⟩ := get_map hv
      obtain ⟨qs, eqs, hq, exm⟩ := c.pv
      have hm := List.mem_of_getElem? hpr
      have hi := (List.getElem?_eq_some_iff.mp hpr).1
      have ht := s7.get (c.same.get (pt pr hm))
      have ts := tr2_take x y hpr
      walk_at "l2"
      refine ⟨pr.1, pr.2.1, pr.2.2, x, y, rfl, ht, (hb pr hm).1, (hb pr hm).2, ?_⟩
      cases hod : (M.od (pr.2.1 &&& x) ^^ M.od (pr.2.2 &&& y)) with
      | true =>
        rw [hod, if_pos rfl] at ts
        walk_at "l2"
        refine Cs.put hD (c.same.trans s7) (s7.get c.at') c.len (by omega) ⟨qs ++ [i], ?_, fun k hk => ?_, ?_⟩
        · rw [eqs, List.map_append]; rfl
        · rcases List.mem_append.mp hk with h | h
          · have := hq k h; omega
          · rw [List.mem_singleton.mp h]; omega
        · rw [M.xm_snoc, exm, ts]
      | false =>
        rw [hod, if_neg Bool.false_ne_true, Nat.xor_zero] at ts
        walk_at "l2"
        refine Cs.skip (c.same.trans s7) (s7.get c.at') c.len ⟨qs, eqs, fun k hk => ?_, ?_⟩
        · have := hq k hk; omega
        · rw [exm, ts]
    · obtain ⟨qs, eqs, hq, exm⟩ := c.pv
      rw [refs_len] at hq exm
      have ec := c.at'
      rw [eqs] at ec
      walk_at "l2"
      refine ⟨D, qs, rfl, ec, fun k hk => by have := hq k hk; omega, ?_⟩
      rw [exm, List.take_length]
      exact q _ c.same
theorem ok_Machine_check_state (T : Tx K mg a) : FnOk P w K mg base (CX1 P w) 3 a.f_Machine_check_state a.d_Machine_check_state ["self", "state"] (sp_chk K a.c_Machine a.c_BadMask) := by
  have G_is_mask := ok_is_mask (P := P) (w := w) (base := base) T
  refine T.F_Machine_check_state.okX sc_Machine_check_state (fun vs H Q E h => ?_) (fun cdv A outer s H vs Q E hr h => ?_)
  · obtain ⟨p, m, nx, os, x, k, rfl, _⟩ := h; rfl
  · obtain ⟨p, m, nx, os, x, k, rfl, ma, hk, qQ, qE⟩ := h
    obtain ⟨dx, tn, to, ho, hn, ho2⟩ := ma.ho
    refine ⟨_, ((pss_one (ps_if (pt_not (pt_val (pe_call G_is_mask (hr.mono (by decide)) (by rfl) T.g_is_mask T.k_is_mask T.b_is_mask .nil pass0 (pa_cons (pv 1) (pa_cons (pe_callB (call_lenK (K := K) rfl) (by rfl) T.n_len PySem.boot_len (pa_cons (pe_fldK (K := K) rfl (pv 0) rfl) pa_nil)) pa_nil))))) (pss_one (ps_raise PySem.F.excBase_ValueError T.x_BadMask thr_self rfl (by rfl) T.g_BadMask (pa_cons pe_str pa_nil))) pss_nil))), s_start (σ' := [some _, some _]) rfl ?_⟩
    walk_at "l2"
    refine s_fldAt ho T.C_Machine T.n_Machine_nexts rfl ?_
    walk_at "l2"
    rw [refs_len]
    cases hm : maskB x (nx.length : Int) with
    | false =>
      walk_at "l2"
      exact ⟨by rw [sizeLine_eq]; decide, qE hm⟩
    | true =>
      walk_at "l2"
      exact qQ hm
theorem ok_Machine_step (T : Tx K mg a) : FnOk P w K mg base (CX1 P w) 4 a.f_Machine_step a.d_Machine_step ["self", "state", "row"] (sp_mstep K a.c_Machine a.c_BadMask) := by
  have G_is_mask := ok_is_mask (P := P) (w := w) (base := base) T
  have G_Machine_check_state := ok_Machine_check_state (P := P) (w := w) (base := base) T
  have G_odd_places := ok_odd_places (P := P) (w := w) (base := base) T
  refine T.F_Machine_step.okX sc_Machine_step (fun vs H Q E h => ?_) (fun cdv A outer s H vs Q E hr h => ?_)
  · obtain ⟨p, m, nx, os, x, y, kx, ky, rfl, _⟩ := h; rfl
  · obtain ⟨p, m, nx, os, x, y, kx, ky, rfl, ma, g, hkx, hky, qQ, qE⟩ := h
    obtain ⟨dx, tn, to, ho, hn, ho2⟩ := ma.ho
    have ln := g.ln
    have lo := g.lo
    refine ⟨_, ((pss_cons (ps_expr (pe_methX (pv 0) T.C_Machine T.m_Machine_check_state G_Machine_check_state (hr.mono (by decide)) T.b_Machine_check_state .nil thr_self (pa_cons (pv 1) pa_nil)))
      (pss_cons (ps_if (pt_not (pt_val (pe_call G_is_mask (hr.mono (by decide)) (by rfl) T.g_is_mask T.k_is_mask T.b_is_mask .nil pass0 (pa_cons (pv 2) (pa_cons (pe_fldK (K := K) rfl (pv 0) rfl) pa_nil))))) (pss_one (ps_raise PySem.F.excBase_ValueError T.x_BadMask thr_self rfl (by rfl) T.g_BadMask (pa_cons pe_str pa_nil))) pss_nil)
      (pss_one (ps_ret (pe_tup (pa_cons (pe_call G_odd_places (hr.mono (by decide)) (by rfl) T.g_odd_places T.k_odd_places T.b_odd_places .nil pass0 (pa_cons (pe_fldK (K := K) rfl (pv 0) rfl) (pa_cons (pv 1) (pa_cons (pv 2) pa_nil)))) (pa_cons (pe_call G_odd_places (hr.mono (by decide)) (by rfl) T.g_odd_places T.k_odd_places T.b_odd_places .nil pass0 (pa_cons (pe_fldK (K := K) rfl (pv 0) rfl) (pa_cons (pv 1) (pa_cons (pv 2) pa_nil)))) pa_nil)))))))), s_start (σ' := [some _, some _, some _]) rfl ?_⟩
    walk_at "l2"
    refine s_methXAt ho rfl ?_
    walk_at "l2"
    refine ⟨p, m, nx, os, x, kx, rfl, ma, hkx, fun hm => ?_, fun hm => qE (.inl hm)⟩
    walk_at "l2"
    refine s_fldAt ho T.C_Machine T.n_Machine_inputs rfl ?_
    walk_at "l2"
    cases hm2 : maskB y (m : Int) with
    | false =>
      walk_at "l2"
      exact ⟨by rw [sizeLine_eq]; decide, qE (.inr hm2)⟩
    | true =>
      obtain ⟨a1, rfl, ha⟩ := maskB_of hm
      obtain ⟨b1, rfl, hb⟩ := maskB_of hm2
      walk_at "l2"
      refine s_fldAt ho T.C_Machine T.n_Machine_outs rfl ?_
      walk_at "l2"
      refine ⟨to, os, a1, b1, rfl, SqT.of ho2, ma.hs, by omega, g.b2, fun H2 s2 => ?_⟩
      walk_at "l2"
      refine s_fldAt (s2.get ho) T.C_Machine T.n_Machine_nexts rfl ?_
      walk_at "l2"
      refine ⟨tn, nx, a1, b1, rfl, SqT.of (s2.get hn), ma.hn.same s2, by omega, g.b1, fun H3 s3 => ?_⟩
      walk_at "l2"
      intro t H4 f4 s4 e4
      exact qQ a1 b1 rfl rfl ha hb t H4 (s2.trans (s3.trans s4)) e4
end
section
variable {P : Program} {w : World} {K : PySem.W.Frag} {mg : Str → Option Value} {base : Heap} {a : Ad}
local macro_rules | `(tactic| walk_at "l2step") => `(tactic| first | ((with_reducible refine' c_whole ?e ?_); (case e => walk_at "l2kind")) | ((with_reducible refine' c_mask ?e ?_); (case e => walk_at "l2kind")) | (with_reducible refine s_iEnumT ?_) | (with_reducible refine s_methX ?_))
theorem ok_chain (T : Tx K mg a) : FnOk P w K mg base CX0 6 a.f_chain a.d_chain ["masks"] sp_chain := by
  have G_sum_for := ok_sum_for (P := P) (w := w) (base := base) T
  refine T.F_chain.ok sc_chain (fun vs H Q E h => ?_) (fun cdv A outer s H vs Q E hr h => ?_)
  · obtain ⟨r, ms, n, rfl, _⟩ := h; rfl
  · obtain ⟨r, ms, n, rfl, hp, hlen, hn, hb, q⟩ := h
    have hb1 : ∀ x ∈ ms, x < 2 ^ 1000 := fun x hx => lt1000 hn (hb x hx)
    have hgb : ∀ k, ms.getD k 0 < 2 ^ 1000 := fun k => by
      rw [List.getD_eq_getElem?_getD]
      cases e : ms[k]? with
      | none => exact Nat.two_pow_pos _
      | some x => exact hb1 x (List.mem_of_getElem? e)
    have hat : ∀ k, k ≤ n → atI (ms.map nat) ((k : Nat) : Int) = some (nat (ms.getD k 0)) := fun k hk => at_nats (by omega)
    have h00 := hat 0 (Nat.zero_le n)
    refine ⟨_, ((pss_cons (ps_set (i := 1) sc_chain.nd rfl (by first | exact Or.inl rfl | exact Or.inr rfl) pe_int)
      (pss_cons (ps_set (i := 2) sc_chain.nd rfl (by first | exact Or.inl rfl | exact Or.inr rfl) (pe_call G_sum_for (hr.mono (by decide)) (by rfl) T.g_sum_for T.k_sum_for T.b_sum_for .nil pass0 (pa_cons (pe_lst pa_nil) (pa_cons (pe_ix (ix_listK (K := K) rfl) (pv 0) pe_int (fun _ _ => rfl)) pa_nil))))
      (pss_cons (ps_while PassesOwn.never (pt_cmpR op_eq (pe_ix (ix_tupK (K := K) rfl) (pv 2) pe_int (fun _ _ => rfl)) pe_str (nomark _)) (pss_cons (ps_set (i := 1) sc_chain.nd rfl (by first | exact Or.inl rfl | exact Or.inr rfl) (pe_op op_add (pv 1) pe_int))
      (pss_one (ps_set (i := 2) sc_chain.nd rfl (by first | exact Or.inl rfl | exact Or.inr rfl) (pe_call G_sum_for (hr.mono (by decide)) (by rfl) T.g_sum_for T.k_sum_for T.b_sum_for .nil pass0 (pa_cons (pe_slice (sl_listK (K := K) rfl) (pv 0) po_none (po_some (pv 1))) (pa_cons (pe_ix (ix_listK (K := K) rfl) (pv 0) (pv 1) (fun _ _ => rfl)) pa_nil)))))))
      (pss_cons (ps_comp (osc := defScope s_chain) (ON := ["masks", "place", "found", "sums"]) (N := ["number"]) (n := 1) (fx := []) (i := 3) sc_chain.nd rfl rfl rfl rfl rfl rfl (by decide +kernel) (pi_range1 (by rfl) T.n_range (pa_cons (pe_op op_sub (pv 1) pe_int) pa_nil)) (gk_name (by decide)) (fun _ _ _ _ _ => ⟨(pg_name (i := 0) (show List.Nodup (["number"] : List Str) from by decide +kernel) rfl (by first | exact Or.inl rfl | exact Or.inr rfl)), pts_nil, (pe_lst (pa_cons (pe_op op_add (pv 0) pe_int) pa_nil))⟩))
      (pss_cons (ps_if (pt_cmpR op_gt (pv 1) pe_int (nomark _)) (pss_one (ps_expr (pe_bmK (K := K) rfl PySem.F.plainAttrs_list PySem.F.slot_list_append PySem.F.type_list_append mt_append (pv 3) (pa_cons (pe_ix (ix_tupK (K := K) rfl) (pv 2) pe_int (fun _ _ => rfl)) pa_nil)))) pss_nil)
      (pss_one (ps_ret (pe_tup (pa_cons (pe_slice (sl_listK (K := K) rfl) (pv 0) po_none (po_some (pv 1))) (pa_cons (pv 3) pa_nil))))))))))), s_start (σ' := [some _, none, none, none]) rfl ?_⟩
    walk_at "l2"
    intro E0 H1 f1 s1 e1
    have hp1 := s1.get hp
    walk_at "l2"
    refine c_sumfor2 (rows := []) (x := ms.getD 0 0) e1 (by decide) (fun _ h => absurd h (by simp)) (hgb 0) (by decide) fun t0 H2 s2 F0 => ?_
    walk_at "l2"
    have hns : ∀ {p : Nat}, p ≤ n → (∀ k, k < p → ¬ M.Span (ms.take k) (ms.getD k 0)) → ¬ M.Span (ms.take p) (ms.getD p 0) → p + 1 ≤ n := fun {p} hp1 h h' =>
      M.chain_short hb (by omega) fun k hk => if hkp : k < p then h k hkp else by rw [show k = p by omega]; exact h'
    refine ⟨fun μ σ' H' => ∃ (p : Nat) (t : Addr), σ' = [some (.ref r), some (nat p), some (.ref t), none] ∧ Same H H' ∧ p ≤ n ∧ μ = n - p ∧ FdS H H' t (ms.take p) (ms.getD p 0) ∧ ∀ k, k < p → ¬ M.Span (ms.take k) (ms.getD k 0), ⟨n, 0, t0, rfl, s1.trans s2, Nat.zero_le n, rfl, F0.back s1, fun k h => absurd h (Nat.not_lt_zero k)⟩, ?_⟩
    rintro μ σ' H' ⟨p, t, rfl, s6, hpn, rfl, F, hno⟩
    have hp6 := s6.get hp
    rcases F with ⟨D1, qq, e, e', sd, fD⟩ | ⟨m, e, bd⟩
    · walk_at "l2"
      intro S hS
      refine comp_range (fun i ys H7 => ∃ rs : List Addr, Cs (fun i ys => ys = rs.map V.ref) H' S i ys H7 ∧ rs.length = i ∧ ∀ k r, rs[k]? = some r → H7 r = some (.lst [nat (k + 1)]) ∧ r ≠ S) ⟨[], Cs.zero hS rfl, rfl, fun k r h => by simp at h⟩ (fun i ys H7 hi ⟨rs, c, lr, hg⟩ => ?_) (fun ys H7 ⟨rs, c, lr, hg⟩ => ?_)
      · walk_at "l2"
        intro r2 H8 f8 s8 e8
        have eS := s8.get c.at'
        have nS : r2 ≠ S := fun z => by subst z; rw [c.at'] at f8; cases f8
        have ei : (0 : Int) + (i : Int) + 1 = ((i + 1 : Nat) : Int) := by push_cast; omega
        rw [ei] at e8
        obtain ⟨a1, a2, a3⟩ := Cs.put (Pv := fun i ys => ys = (rs ++ [r2]).map V.ref) (v := V.ref r2) hS (c.same.trans s8) eS c.len (by omega) (by rw [c.pv, List.map_append]; rfl)
        refine ⟨a1, a2, rs ++ [r2], a3, by rw [List.length_append, lr]; rfl, fun k x hx => ?_⟩
        by_cases hk : k < rs.length
        · rw [List.getElem?_append_left hk] at hx
          obtain ⟨h1, h2⟩ := hg k x hx
          exact ⟨by rw [upd_ne h2]; exact s8.get h1, h2⟩
        · have hk2 : k = rs.length := by
            have := (List.getElem?_eq_some_iff.mp hx).1
            rw [List.length_append] at this
            have : k < rs.length + 1 := this
            omega
          subst hk2
          rw [List.getElem?_append_right (Nat.le_refl _), Nat.sub_self] at hx
          cases hx
          exact ⟨by rw [upd_ne nS, lr]; exact e8, nS⟩
      · have eS := c.at'
        rw [c.pv] at eS
        have el : ((p : Int) - 1).toNat = p - 1 := by omega
        rw [el] at lr
        have hp7 := c.same.get hp6
        have e7 := c.same.get e
        have e7' := c.same.get e'
        have s7 := s6.trans c.same
        have fS : H S = none := s6.free hS
        have nDS : D1 ≠ S := ne_of_none e' hS
        have nrS : r ≠ S := ne_of_none hp6 hS
        walk_at "l2"
        refine iteB (fun hc => ?_) (fun hc => ?_)
        · have hp0 : 0 < p := by have := of_decide_eq_true hc; omega
          walk_at "l2"
          refine s_append eS (by rw [List.length_map, sizeLine_eq]; omega) fun H9 u => ?_
          have s9 : Same H H9 := fun b o e => u.oth b o (ne_of_none e fS) (s7.get e)
          have hp9 := u.oth _ _ nrS hp7
          have hS9 : H9 S = some (.lst ((rs ++ [D1]).map V.ref)) := by rw [u.at', List.map_append]; rfl
          have hg9 : ∀ k x, (rs ++ [D1])[k]? = some x → H9 x = some (.lst ((cps p qq k).map nat)) := fun k x hx => by
            by_cases hk : k < rs.length
            · rw [List.getElem?_append_left hk] at hx
              obtain ⟨h1, h2⟩ := hg k x hx
              rw [u.oth _ _ h2 h1]
              unfold cps
              rw [if_pos (by omega)]
              rfl
            · have hk2 : k = rs.length := by
                have := (List.getElem?_eq_some_iff.mp hx).1
                rw [List.length_append] at this
                have : k < rs.length + 1 := this
                omega
              subst hk2
              rw [List.getElem?_append_right (Nat.le_refl _), Nat.sub_self] at hx
              cases hx
              rw [u.oth _ _ nDS e7']
              unfold cps
              rw [if_neg (by omega)]
          have lr9 : (rs ++ [D1]).length = p := by rw [List.length_append, lr]; show p - 1 + 1 = p; omega
          clear u hg eS lr e7 e7' hp7 hp6 c s7 s6 e e' fD nDS nrS hc hS
          walk_at "l2"
          intro Dm H10 f10 s10 e10
          rw [cut_take _ _ (by rw [List.length_map]; omega), ← List.map_take] at e10
          walk_at "l2"
          intro tt H11 f11 s11 e11
          exact q tt Dm S H11 p qq (s9.free f10) fS (fun z => by subst z; rw [hS9] at f10; cases f10) ((s9.trans s10).trans s11) e11 ⟨⟨by omega, hno, by rw [← sd.sm]; exact M.sm_span _ _⟩, sd, s11.get e10, rs ++ [D1], (ChS.mk hS9 lr9 hg9).same (s10.trans s11)⟩
        · have hp0 : p = 0 := by
            have : ¬ (0 : Int) < (p : Int) := of_decide_eq_false hc
            omega
          subst hp0
          have lr0 : rs = [] := List.eq_nil_of_length_eq_zero lr
          subst lr0
          walk_at "l2"
          intro Dm H10 f10 s10 e10
          rw [cut_take _ 0 (Nat.zero_le _), ← List.map_take] at e10
          walk_at "l2"
          intro tt H11 f11 s11 e11
          exact q tt Dm S H11 0 qq (s7.free f10) fS (fun z => by subst z; rw [eS] at f10; cases f10) ((s7.trans s10).trans s11) e11 ⟨⟨by omega, hno, by rw [← sd.sm]; exact M.sm_span _ _⟩, sd, s11.get e10, [], (ChS.mk eS rfl (fun k x hx => by simp at hx)).same (s10.trans s11)⟩
    · have hp1 := hns hpn hno bd.ns
      walk_at "l2"
      refine ⟨fun σ2 H2 => ∃ t, σ2 = [some (.ref r), some (nat (p + 1)), some (.ref t), none] ∧ Same H H2 ∧ FdS H H2 t (ms.take (p + 1)) (ms.getD (p + 1) 0), fun σ2 H2 ⟨t2, h1, h2, h3⟩ => ⟨n - (p + 1), by omega, p + 1, t2, h1, h2, hp1, rfl, h3, fun k hk => ?_⟩, ?_⟩
      · by_cases h : k < p
        · exact hno k h
        · rw [show k = p by omega]; exact bd.ns
      · walk_at "l2"
        have e1 : (p : Int) + 1 = ((p + 1 : Nat) : Int) := by push_cast; rfl
        rw [e1]
        intro Dm H7 f7 s7 e7
        rw [cut_take _ _ (by rw [List.length_map]; omega), ← List.map_take] at e7
        have hp7 := s7.get hp6
        have hat1 := hat (p + 1) hp1
        walk_at "l2"
        refine c_sumfor2 (rows := ms.take (p + 1)) (x := ms.getD (p + 1) 0) e7 (by rw [List.length_take]; omega) (fun x hx => hb1 x (List.mem_of_mem_take hx)) (hgb _) (Nat.lt_of_le_of_lt (M.rank_le fun x hx => hb x (List.mem_of_mem_take hx)) (by omega)) fun t2 H8 s8 F8 => ?_
        walk_at "l2"
        exact ⟨(s6.trans s7).trans s8, F8.back (s6.trans s7)⟩
end
section
variable {P : Program} {w : World} {K : PySem.W.Frag} {mg : Str → Option Value} {base : Heap} {a : Ad}
local macro_rules | `(tactic| walk_at "l2step") => `(tactic| first | ((with_reducible refine' c_whole ?e ?_); (case e => walk_at "l2kind")) | ((with_reducible refine' c_mask ?e ?_); (case e => walk_at "l2kind")) | (with_reducible refine s_iEnumT ?_) | (with_reducible refine s_methX ?_))
theorem ok_states_behind (T : Tx K mg a) : FnOk P w K mg base CX0 5 a.f_states_behind a.d_states_behind ["machine", "state"] (sp_statesb a.c_Machine) := by
  have G_Machine_step := ok_Machine_step (P := P) (w := w) (base := base) T
  have G_Machine_stores := ok_Machine_stores (P := P) (w := w) (base := base) T
  refine T.F_states_behind.ok sc_states_behind (fun vs H Q E h => ?_) (fun cdv A outer s H vs Q E hr h => ?_)
  · obtain ⟨p, m, nx, os, d, rfl, _⟩ := h; rfl
  · obtain ⟨p, m, nx, os, d, rfl, ma, g, hd, q⟩ := h
    obtain ⟨dx, tn, to, ho, hn, ho2⟩ := ma.ho
    have ln := g.ln
    refine ⟨_, ((pss_cons (ps_set (i := 2) sc_states_behind.nd rfl (by first | exact Or.inl rfl | exact Or.inr rfl) (pe_lst (pa_cons (pv 1) pa_nil)))
      (pss_cons (ps_for PassesOwn.never rfl (pi_range1 (by rfl) T.n_range (pa_cons (pe_meth0 (pv 0) T.C_Machine T.m_Machine_stores G_Machine_stores (hr.mono (by decide)) T.b_Machine_stores .nil pass0) pa_nil)) (pg_name (i := 3) sc_states_behind.nd rfl (by first | exact Or.inl rfl | exact Or.inr rfl)) (pss_one (ps_expr (pe_bmK (K := K) rfl PySem.F.plainAttrs_list PySem.F.slot_list_append PySem.F.type_list_append mt_append (pv 2) (pa_cons (pe_ix (ix_tupK (K := K) rfl) (pe_methX (pv 0) T.C_Machine T.m_Machine_step G_Machine_step (hr.mono (by decide)) T.b_Machine_step .nil thr0 (pa_cons (pe_ix (ix_listK (K := K) rfl) (pv 2) (pe_un un_neg pe_int) (fun _ _ => rfl)) (pa_cons pe_int pa_nil))) pe_int (fun _ _ => rfl)) pa_nil)))))
      (pss_one (ps_ret (pv 2)))))), s_start (σ' := [some _, some _, none, none]) rfl ?_⟩
    walk_at "l2"
    intro D H1 f1 s1 e1
    walk_at "l2"
    refine s_methAt (s1.get ho) rfl ?_
    walk_at "l2"
    refine ⟨p, m, nx, os, rfl, ma.same s1, ?_⟩
    walk_at "l2"
    refine for_range (fun i σ H' => ∃ v, σ = [some (.ref p), some (nat d), some (.ref D), v] ∧ Same H H' ∧ H' D = some (.lst ((M.zl (prs nx) d i).map nat))) ⟨none, rfl, s1, e1⟩ ?_ ?_
    · rintro i σ H' hi ⟨v, rfl, s6, e6⟩
      have ez : (M.zl (prs nx) d i).map nat = ((List.range i).map (M.zs (prs nx) d)).map nat ++ [nat (M.zs (prs nx) d i)] := by unfold M.zl; rw [List.range_succ, List.map_append, List.map_append]; rfl
      have hz := M.zs_lt (ps := prs nx) (d := d) (by rw [prs_len]; exact hd) i
      rw [prs_len] at hz
      rw [ez] at e6
      have hla := atI_last (((List.range i).map (M.zs (prs nx) d)).map nat) (nat (M.zs (prs nx) d i))
      have ma6 := ma.same s6
      have ho6 := s6.get ho
      walk_at "l2"
      refine s_methXAt ho6 rfl ?_
      walk_at "l2"
      refine ⟨p, m, nx, os, nat (M.zs (prs nx) d i), nat 0, "int", "int", rfl, ma6, g, rfl, rfl, fun a1 b1 ea eb _ _ t7 H7 s7 e7 => ?_, fun bad => ?_⟩
      · have ea := nat_inj ea
        have eb := nat_inj eb
        subst ea eb
        walk_at "l2"
        refine s_append (s7.get e6) (by rw [List.length_append, List.length_map, List.length_map, List.length_range, sizeLine_eq]; show i + 1 < _; omega) fun H8 u => ?_
        walk_at "l2"
        refine ⟨fun b o e => u.oth b o (ne_of_none e f1) (s7.get (s6.get e)), ?_⟩
        rw [u.at', ← ez]
        unfold M.zl
        rw [List.range_succ (n := i + 1), List.map_append, List.map_append]
        rfl
      · rcases bad with h | h
        · rw [maskB_nat hz] at h; cases h
        · rw [maskB_nat (Nat.two_pow_pos _)] at h; cases h
    · rintro σ H' ⟨v, rfl, s6, e6⟩
      walk_at "l2"
      exact q D H' f1 s6 e6
theorem ok_state_poly (T : Tx K mg a) : FnOk P w K mg base CX0 7 a.f_state_poly a.d_state_poly ["machine", "state"] (sp_spoly a.c_Machine) := by
  have G_states_behind := ok_states_behind (P := P) (w := w) (base := base) T
  have G_chain := ok_chain (P := P) (w := w) (base := base) T
  have G_mask_of := ok_mask_of (P := P) (w := w) (base := base) T
  refine T.F_state_poly.ok sc_state_poly (fun vs H Q E h => ?_) (fun cdv A outer s H vs Q E hr h => ?_)
  · obtain ⟨p, m, nx, os, d, rfl, _⟩ := h; rfl
  · obtain ⟨p, m, nx, os, d, rfl, ma, g, l16, hd, q⟩ := h
    refine ⟨_, ((pss_cons (ps_set (i := 2) sc_state_poly.nd rfl (by first | exact Or.inl rfl | exact Or.inr rfl) (pe_call G_chain (hr.mono (by decide)) (by rfl) T.g_chain T.k_chain T.b_chain .nil pass0 (pa_cons (pe_call G_states_behind (hr.mono (by decide)) (by rfl) T.g_states_behind T.k_states_behind T.b_states_behind .nil pass0 (pa_cons (pv 0) (pa_cons (pv 1) pa_nil))) pa_nil)))
      (pss_cons (ps_if (pt_cmpR op_eq (pe_callB (call_lenK (K := K) rfl) (by rfl) T.n_len PySem.boot_len (pa_cons (pe_ix (ix_tupK (K := K) rfl) (pv 2) pe_int (fun _ _ => rfl)) pa_nil)) pe_int (nomark _)) (pss_one (ps_ret pe_int)) pss_nil)
      (pss_one (ps_ret (pe_call G_mask_of (hr.mono (by decide)) (by rfl) T.g_mask_of T.k_mask_of T.b_mask_of .nil pass0 (pa_cons (pe_op op_cat (pe_ix (ix_listK (K := K) rfl) (pe_ix (ix_tupK (K := K) rfl) (pv 2) pe_int (fun _ _ => rfl)) (pe_un un_neg pe_int) (fun _ _ => rfl)) (pe_lst (pa_cons (pe_callB (call_lenK (K := K) rfl) (by rfl) T.n_len PySem.boot_len (pa_cons (pe_ix (ix_tupK (K := K) rfl) (pv 2) pe_int (fun _ _ => rfl)) pa_nil)) pa_nil))) pa_nil))))))), s_start (σ' := [some _, some _, none]) rfl ?_⟩
    walk_at "l2"
    refine ⟨p, m, nx, os, d, rfl, ma, g, hd, fun D H1 f1 s1 e1 => ?_⟩
    walk_at "l2"
    have hzl : ∀ x ∈ M.zl (prs nx) d nx.length, x < 2 ^ nx.length := fun x hx => by
      have := M.zl_lt (ps := prs nx) (d := d) (n := nx.length) (by rw [prs_len]; exact hd) x hx
      rwa [prs_len] at this
    refine ⟨D, M.zl (prs nx) d nx.length, nx.length, rfl, e1, M.zl_len _ _ _, by omega, hzl, fun t A S H2 pp qq fA fS ne s2 et ch => ?_⟩
    have s02 := s1.trans s2
    obtain ⟨rs, cs⟩ := ch.s
    have hpn : pp ≤ nx.length := by have := ch.fs.lt; rw [M.zl_len] at this; omega
    have ltk : ((M.zl (prs nx) d nx.length).take pp).length = pp := by rw [List.length_take, M.zl_len]; omega
    have hq : qq < 2 ^ pp := by have := ch.sd.lt; rwa [ltk] at this
    obtain ⟨Ls, lg⟩ := M.least_of ch.fs hq ch.sd.sm
    have eA := ch.d
    walk_at "l2"
    rw [List.length_map, ltk]
    by_cases h0 : pp = 0
    · refine s_ifT (decide_eq_true (by rw [h0]; rfl)) ?_
      walk_at "l2"
      subst h0
      have hq0 : qq = 0 := by have : qq < 1 := hq; omega
      subst hq0
      exact q H2 1 s02 Ls (by have h1 : (0 ^^^ 2 ^ 0 : Nat).log2 = 0 := lg; have h2 : Nat.log2 1 = 0 := h1; omega)
    · refine s_ifF (decide_eq_false fun z => h0 (by have := V.int.inj z; omega)) ?_
      obtain ⟨r, hr'⟩ : ∃ r, rs[pp - 1]? = some r := ⟨_, List.getElem?_eq_getElem (by rw [cs.len]; omega)⟩
      have er := cs.get _ _ hr'
      unfold cps at er
      rw [if_neg (by omega)] at er
      have ers : rs = rs.take (pp - 1) ++ [r] := by
        have := take_succ hr'
        rw [show pp - 1 + 1 = rs.length by rw [cs.len]; omega, List.take_length] at this
        exact this
      have eS := cs.at_
      rw [ers, List.map_append] at eS
      have hla := atI_last ((rs.take (pp - 1)).map V.ref) (V.ref r)
      walk_at "l2"
      intro B H3 f3 s3 e3
      rw [List.length_map, ltk] at e3
      have hle := M.pl_le 1000 qq
      refine s_cat (s3.get er) e3 (by rw [List.length_map, sizeLine_eq]; simp; omega) fun B2 H4 f4 s4 e4 => ?_
      have e4' : H4 B2 = some (.lst ((M.pl 1000 qq ++ [pp]).map nat)) := by rw [e4, List.map_append]; rfl
      have hq1000 : qq < 2 ^ 1000 := Nat.lt_of_lt_of_le hq (Nat.pow_le_pow_right (by decide) (by omega))
      walk_at "l2"
      refine ⟨B2, M.pl 1000 qq ++ [pp], rfl, e4', fun z hz => ?_, ?_⟩
      · rcases List.mem_append.mp hz with h | h
        · have := M.pl_lt hq z h; omega
        · rw [List.mem_singleton.mp h]; omega
      · rw [M.xm_snoc, xm_pl hq1000]
        exact q _ _ (s02.trans (s3.trans s4)) Ls (by rw [lg]; exact hpn)
theorem ok_ring_of (T : Tx K mg a) : FnOk P w K mg base (CX1 P w) 8 a.f_ring_of a.d_ring_of ["machine", "state"] (sp_ring K a.c_Machine a.c_BadMask) := by
  have G_state_poly := ok_state_poly (P := P) (w := w) (base := base) T
  have G_Machine_check_state := ok_Machine_check_state (P := P) (w := w) (base := base) T
  have G_turns_to_one := ok_turns_to_one (P := P) (w := w) (base := base) T
  refine T.F_ring_of.okX sc_ring_of (fun vs H Q E h => ?_) (fun cdv A outer s H vs Q E hr h => ?_)
  · obtain ⟨p, m, nx, os, x, k, rfl, _⟩ := h; rfl
  · obtain ⟨p, m, nx, os, x, k, rfl, ma, g, l16, hk, qQ, qE⟩ := h
    obtain ⟨dx, tn, to, ho, hn, ho2⟩ := ma.ho
    refine ⟨_, ((pss_cons (ps_expr (pe_methX (pv 0) T.C_Machine T.m_Machine_check_state G_Machine_check_state (hr.mono (by decide)) T.b_Machine_check_state .nil thr_self (pa_cons (pv 1) pa_nil)))
      (pss_cons (ps_set (i := 2) sc_ring_of.nd rfl (by first | exact Or.inl rfl | exact Or.inr rfl) (pe_call G_state_poly (hr.mono (by decide)) (by rfl) T.g_state_poly T.k_state_poly T.b_state_poly .nil pass0 (pa_cons (pv 0) (pa_cons (pv 1) pa_nil))))
      (pss_cons (ps_set (i := 3) sc_ring_of.nd rfl (by first | exact Or.inl rfl | exact Or.inr rfl) pe_int)
      (pss_cons (ps_while (passes_thrW ⟨rfl, rfl⟩) (pt_cmpR op_eq (pe_op op_and (pv 2) pe_int) pe_int (nomark _)) (pss_cons (ps_set (i := 2) sc_ring_of.nd rfl (by first | exact Or.inl rfl | exact Or.inr rfl) (pe_op op_shr (pv 2) pe_int))
      (pss_one (ps_set (i := 3) sc_ring_of.nd rfl (by first | exact Or.inl rfl | exact Or.inr rfl) (pe_op op_add (pv 3) pe_int)))))
      (pss_cons (ps_if (pt_cmpR op_eq (pv 2) pe_int (nomark _)) (pss_one (ps_ret (pe_tup (pa_cons (pv 3) (pa_cons pe_int pa_nil))))) pss_nil)
      (pss_one (ps_ret (pe_tup (pa_cons (pv 3) (pa_cons (pe_call G_turns_to_one (hr.mono (by decide)) (by rfl) T.g_turns_to_one T.k_turns_to_one T.b_turns_to_one .nil pass0 (pa_cons (pv 2) pa_nil)) pa_nil))))))))))), s_start (σ' := [some _, some _, none, none]) rfl ?_⟩
    walk_at "l2"
    refine s_methXAt ho rfl ?_
    walk_at "l2"
    refine ⟨p, m, nx, os, x, k, rfl, ma, hk, fun ht => ?_, fun ht => qE ht⟩
    obtain ⟨d, rfl, hd⟩ := maskB_of ht
    have q := qQ d rfl hd
    walk_at "l2"
    refine ⟨p, m, nx, os, d, rfl, ma, g, l16, hd, fun H1 P0 s1 L0 lg => ?_⟩
    walk_at "l2"
    refine ⟨fun μ σ' H' => ∃ l : Nat, σ' = [some (.ref p), some (nat d), some (nat μ), some (nat l)] ∧ H' = H1 ∧ μ * 2 ^ l = P0, ⟨P0, 0, rfl, rfl, by simp⟩, ?_⟩
    rintro μ σ' H' ⟨l, rfl, rfl, hμ⟩
    have hμ0 : μ ≠ 0 := fun z => L0.nz (by rw [← hμ, z, Nat.zero_mul])
    have eand : Builtin.bitAnd (μ : Int) 1 = ((μ % 2 : Nat) : Int) := by rw [show (1 : Int) = ((1 : Nat) : Int) from rfl, bitAnd_nat, Nat.and_one_is_mod]
    walk_at "l2"
    rw [eand]
    rcases Nat.mod_two_eq_zero_or_one μ with h2 | h2
    · refine s_ifT (decide_eq_true (by rw [h2]; rfl)) ?_
      refine ⟨fun σ2 H2 => σ2 = [some (.ref p), some (nat d), some (nat (μ / 2)), some (nat (l + 1))] ∧ H2 = H', fun σ2 H2 ⟨e1, e2⟩ => ⟨μ / 2, by omega, l + 1, e1, e2, ?_⟩, ?_⟩
      · rw [Nat.pow_succ, ← hμ, Nat.mul_comm (2 ^ l), ← Nat.mul_assoc, show μ / 2 * 2 = μ by omega]
      · walk_at "l2"
        rfl
    · refine s_ifF (decide_eq_false fun z => by have := V.int.inj z; omega) ?_
      have hsh := M.log2_shift hμ0 l
      rw [hμ] at hsh
      have hl : l ≤ nx.length := by omega
      rw [← hμ] at L0
      walk_at "l2"
      by_cases h1 : μ = 1
      · subst h1
        refine s_ifT (decide_eq_true rfl) ?_
        walk_at "l2"
        intro t H2 f2 s2 e2
        exact q t H2 l 1 (s1.trans s2) e2 (M.ring_one L0) hl (by decide)
      · refine s_ifF (decide_eq_false fun z => h1 (by have := V.int.inj z; omega)) ?_
        have hlog : 1 ≤ μ.log2 := (Nat.le_log2 hμ0).mpr (by show 2 ≤ μ; omega)
        walk_at "l2"
        refine ⟨μ, rfl, h2, hlog, ?_, fun H2 e s2 O => ?_⟩
        · exact Nat.lt_of_lt_of_le Nat.lt_log2_self (Nat.pow_le_pow_right (by decide) (by omega))
        · have hlt := M.order_lt h2 hlog O
          have h16 := log16 (show μ.log2 ≤ 16 by omega)
          walk_at "l2"
          intro t H3 f3 s3 e3
          exact q t H3 l e (s1.trans (s2.trans s3)) e3 (M.ring_more L0 hlog O) hl (by omega)
end
section
variable {P : Program} {w : World} {K : PySem.W.Frag} {mg : Str → Option Value} {base : Heap} {a : Ad}
theorem ok__law_cell (T : Tx K mg a) : FnOk P w K mg base CX0 1 a.f__law_cell a.d__law_cell ["_law_script", "_law_k"] (sp_cell2 K) := by
  refine T.F__law_cell.ok sc__law_cell (fun vs H Q E h => ?_) (fun cdv A outer s H vs Q E hr h => ?_)
  · obtain ⟨a, ns, k, rfl, _⟩ := h; rfl
  · obtain ⟨p, ns, k, rfl, hS, h0, q⟩ := h
    refine ⟨_, ((pss_cons (ps_if (pt_cmpR op_lt (pv 1) (pe_callB (call_lenK (K := K) rfl) (by rfl) T.n_len PySem.boot_len (pa_cons (pv 0) pa_nil)) (nomark _)) (pss_one (ps_ret (pe_ix (ix_listK (K := K) rfl) (pv 0) (pv 1) (fun _ _ => rfl)))) pss_nil)
      (pss_one (ps_ret (pe_op op_add (pe_op op_mul pe_int (pv 1)) pe_int))))), s_start (σ' := [some _, some _]) rfl ?_⟩
    walk_at "l2"
    rw [List.length_map]
    unfold cell at q
    refine ite2 (fun hc => ?_) (fun hc => ?_)
    · have hc := of_decide_eq_true hc
      have ha : atI (ns.map V.int) k = some (.int (ns.getD k.toNat 0)) := by
        obtain ⟨j, rfl⟩ := Int.eq_ofNat_of_zero_le h0
        have hj : j < ns.length := by omega
        exact atI_nat (by rw [List.getElem?_map, List.getElem?_eq_getElem hj, List.getD_eq_getElem?_getD, Int.toNat_natCast, List.getElem?_eq_getElem hj]; rfl)
      rw [if_pos hc] at q
      walk_at "l2"
      exact q
    · have hc : ¬ k < ns.length := fun z => hc (decide_eq_true z)
      rw [if_neg hc] at q
      walk_at "l2"
      exact q
theorem ok__law_mix (T : Tx K mg a) : FnOk P w K mg base CX0 1 a.f__law_mix a.d__law_mix ["_law_cell_here", "_law_k"] sp_mix := by
  refine T.F__law_mix.ok sc__law_mix (fun vs H Q E h => ?_) (fun cdv A outer s H vs Q E hr h => ?_)
  · obtain ⟨c, k, rfl, _⟩ := h; rfl
  · obtain ⟨c, k, rfl, h0, h1, q⟩ := h
    refine ⟨_, ((pss_cons (ps_set (i := 2) sc__law_mix.nd rfl (by first | exact Or.inl rfl | exact Or.inr rfl) (pe_op op_mod (pe_op op_add (pe_op op_add (pe_op op_mul (pe_op op_mod (pv 0) pe_int) pe_int) (pe_op op_mul pe_int (pv 1))) pe_int) pe_int))
      (pss_cons (ps_set (i := 2) sc__law_mix.nd rfl (by first | exact Or.inl rfl | exact Or.inr rfl) (pe_op op_mod (pe_op op_mul (pv 2) (pv 2)) pe_int))
      (pss_one (ps_ret (pe_op op_mod (pe_op op_mul (pv 2) (pe_op op_add (pe_op op_add (pv 2) (pe_op op_mul pe_int (pv 1))) pe_int)) pe_int)))))), s_start (σ' := [some _, some _, none]) rfl ?_⟩
    walk_at "l2"
    show Q (.int _) H
    generalize hx : (_ : Int) * (_ + 48271 * k + 7) = x
    have r1 : 0 ≤ x % 2147483587 := Int.emod_nonneg _ (by decide)
    have r2 : x % 2147483587 < 2147483587 := Int.emod_lt_of_pos _ (by decide)
    obtain ⟨j, hj⟩ := Int.eq_ofNat_of_zero_le r1
    rw [hj] at r2 ⊢
    exact q j (by omega)
local macro_rules | `(tactic| walk_at "l2step") => `(tactic| first | ((with_reducible refine' c_cell2 ?e ?a ?_); (case e => walk_at "l2hp"); (case a => walk_at "l2side")) | ((with_reducible refine' c_mix ?a ?b ?_); (case a => walk_at "l2side"); (case b => walk_at "l2side"); (with_reducible intro _ _)))
local macro_rules | `(tactic| walk_at "l2step") => `(tactic| first | (with_reducible refine s_zip ?_))
theorem ok__law_masks (T : Tx K mg a) : FnOk P w K mg base CX0 2 a.f__law_masks a.d__law_masks ["_law_cell_here", "_law_start", "_law_many", "_law_width", "_law_digits"] sp_lmasks := by
  have G__law_mix := ok__law_mix (P := P) (w := w) (base := base) T
  refine T.F__law_masks.ok sc__law_masks (fun vs H Q E h => ?_) (fun cdv A outer s H vs Q E hr h => ?_)
  · obtain ⟨c, st, n, wd, dg, rfl, _⟩ := h; rfl
  · obtain ⟨c, st, n, wd, dg, rfl, hst, hn, hw, q⟩ := h
    have hnw : n * wd ≤ 1024 := Nat.le_trans (Nat.mul_le_mul hn hw) (by decide)
    have hpow : (1 : Int) * 2 ^ ((wd : Int).toNat) = ((2 ^ wd : Nat) : Int) := shl1 wd
    have hp0 := Nat.two_pow_pos wd
    have hp16 : 2 ^ wd ≤ 2 ^ 16 := Nat.pow_le_pow_right (by decide) hw
    have ec : (n : Int) * (wd : Int) + 1 = ((n * wd + 1 : Nat) : Int) := by push_cast; rfl
    have hpow2 : (1 : Int) * 2 ^ (((n * wd + 1 : Nat) : Int).toNat) = ((2 ^ (n * wd + 1) : Nat) : Int) := shl1 _
    have hp2 := Nat.two_pow_pos (n * wd + 1)
    refine ⟨_, ((pss_cons (ps_set (i := 5) sc__law_masks.nd rfl (by first | exact Or.inl rfl | exact Or.inr rfl) (pe_lst pa_nil))
      (pss_cons (ps_set (i := 6) sc__law_masks.nd rfl (by first | exact Or.inl rfl | exact Or.inr rfl) (pe_op op_fdiv (pe_op op_mod (pv 0) (pe_op op_shl pe_int (pe_op op_add (pe_op op_mul (pv 2) (pv 3)) pe_int))) pe_int))
      (pss_cons (ps_for PassesOwn.never rfl (pi_range1 (by rfl) T.n_range (pa_cons (pv 2) pa_nil)) (pg_name (i := 7) sc__law_masks.nd rfl (by first | exact Or.inl rfl | exact Or.inr rfl)) (pss_one (ps_if (pt_val (pv 4)) (pss_cons (ps_expr (pe_bmK (K := K) rfl PySem.F.plainAttrs_list PySem.F.slot_list_append PySem.F.type_list_append mt_append (pv 5) (pa_cons (pe_op op_mod (pv 6) (pe_op op_shl pe_int (pv 3))) pa_nil)))
      (pss_one (ps_set (i := 6) sc__law_masks.nd rfl (by first | exact Or.inl rfl | exact Or.inr rfl) (pe_op op_fdiv (pv 6) (pe_op op_shl pe_int (pv 3)))))) (pss_one (ps_expr (pe_bmK (K := K) rfl PySem.F.plainAttrs_list PySem.F.slot_list_append PySem.F.type_list_append mt_append (pv 5) (pa_cons (pe_op op_mod (pe_call G__law_mix (hr.mono (by decide)) (by rfl) T.g__law_mix T.k__law_mix T.b__law_mix .nil pass0 (pa_cons (pv 0) (pa_cons (pe_op op_add (pv 1) (pv 7)) pa_nil))) (pe_op op_shl pe_int (pv 3))) pa_nil)))))))
      (pss_one (ps_ret (pv 5))))))), s_start (σ' := [some _, some _, some _, some _, some _, none, none, none]) rfl ?_⟩
    walk_at "l2"
    intro D H1 f1 s1 e1
    walk_at "l2"
    rw [ec]
    walk_at "l2"
    rw [hpow2]
    walk_at "l2"
    refine for_range (fun i σ H' => ∃ (l : Int) (v : Option V) (ms : List Nat), σ = [some (.int c), some (nat st), some (nat n), some (nat wd), some (.bl dg), some (.ref D), some (.int l), v] ∧ Same H H' ∧ H' D = some (.lst (ms.map nat)) ∧ ms.length = i ∧ ∀ x ∈ ms, x < 2 ^ wd) ⟨_, none, [], rfl, s1, e1, rfl, fun _ h => absurd h (by simp)⟩ ?_ ?_
    · rintro i σ H' hi ⟨l, v, ms, rfl, s6, e6, el, hb⟩
      have hi' : i < n := by omega
      clear hpow2 hp2 ec
      cases dg with
      | true =>
        walk_at "l2"
        rw [hpow]
        obtain ⟨k, hk, hkl⟩ := emod_nat (c := l) (m := ((2 ^ wd : Nat) : Int)) (by omega)
        walk_at "l2"
        rw [hk]
        refine s_append e6 (by rw [List.length_map, sizeLine_eq]; omega) fun H7 u7 => ?_
        walk_at "l2"
        rw [hpow]
        walk_at "l2"
        refine ⟨_, _, ms ++ [k], rfl, fun b o e => u7.oth _ _ (ne_of_none e f1) (s6.get e), ?_, by rw [List.length_append, el]; rfl, fun x hx => ?_⟩
        · rw [u7.at', List.map_append]; rfl
        · rcases List.mem_append.mp hx with h | h
          · exact hb x h
          · rw [List.mem_singleton.mp h]; omega
      | false =>
        walk_at "l2"
        rename_i r hr'
        rw [hpow]
        obtain ⟨k, hk, hkl⟩ := emod_nat (c := (r : Int)) (m := ((2 ^ wd : Nat) : Int)) (by omega)
        walk_at "l2"
        rw [hk]
        refine s_append e6 (by rw [List.length_map, sizeLine_eq]; omega) fun H7 u7 => ?_
        walk_at "l2"
        refine ⟨_, _, ms ++ [k], rfl, fun b o e => u7.oth _ _ (ne_of_none e f1) (s6.get e), ?_, by rw [List.length_append, el]; rfl, fun x hx => ?_⟩
        · rw [u7.at', List.map_append]; rfl
        · rcases List.mem_append.mp hx with h | h
          · exact hb x h
          · rw [List.mem_singleton.mp h]; omega
    · rintro σ H' ⟨l, v, ms, rfl, s6, e6, el, hb⟩
      walk_at "l2"
      exact q D H' ms f1 s6 e6 (by omega) hb
theorem ok__law_thinned (T : Tx K mg a) : FnOk P w K mg base CX0 2 a.f__law_thinned a.d__law_thinned ["_law_masks_here", "_law_cell_here", "_law_start", "_law_way"] sp_lthin := by
  have G__law_mix := ok__law_mix (P := P) (w := w) (base := base) T
  refine T.F__law_thinned.ok sc__law_thinned (fun vs H Q E h => ?_) (fun cdv A outer s H vs Q E hr h => ?_)
  · obtain ⟨r, ms, c, st, wy, wd, rfl, _⟩ := h; rfl
  · obtain ⟨r, ms, c, st, wy, wd, rfl, hp, hst, hw, hl, hb, q⟩ := h
    refine ⟨_, ((pss_cons (ps_set (i := 4) sc__law_thinned.nd rfl (by first | exact Or.inl rfl | exact Or.inr rfl) (pe_lst pa_nil))
      (pss_cons (ps_for PassesOwn.never rfl (pi_enum (K := K) rfl (by rfl) T.n_enumerate (pv 0)) (pg_tup rfl (pgs_cons (pg_name (i := 5) sc__law_thinned.nd rfl (by first | exact Or.inl rfl | exact Or.inr rfl)) (pgs_cons (pg_name (i := 6) sc__law_thinned.nd rfl (by first | exact Or.inl rfl | exact Or.inr rfl)) pgs_nil))) (pss_cut (ps_if (pt_cmpR op_eq (pv 3) pe_int (nomark _)) (pss_one (ps_set (i := 6) sc__law_thinned.nd rfl (by first | exact Or.inl rfl | exact Or.inr rfl) (pe_op op_and (pv 6) (pe_call G__law_mix (hr.mono (by decide)) (by rfl) T.g__law_mix T.k__law_mix T.b__law_mix .nil pass0 (pa_cons (pv 1) (pa_cons (pe_op op_add (pv 2) (pv 5)) pa_nil)))))) pss_nil)
      (pss_cut (ps_if (PW.pt (pw_and (pt_cmpR op_eq (pv 3) pe_int (nomark _)) (pw_and1 (pt_cmpR op_gt (pv 5) pe_int (nomark _))))) (pss_one (ps_set (i := 6) sc__law_thinned.nd rfl (by first | exact Or.inl rfl | exact Or.inr rfl) (pe_op op_shl pe_int (pe_op op_sub (pv 5) pe_int)))) pss_nil)
      (pss_cut (ps_if (pt_cmpR op_eq (pv 3) pe_int (nomark _)) (pss_one (ps_set (i := 6) sc__law_thinned.nd rfl (by first | exact Or.inl rfl | exact Or.inr rfl) (pe_op op_and (pv 6) (pe_ix (ix_listK (K := K) rfl) (pe_lst (pa_cons pe_int (pa_cons pe_int pa_nil))) (pe_op op_mod (pv 5) pe_int) (fun _ _ => rfl))))) pss_nil)
      (pss_one (ps_expr (pe_bmK (K := K) rfl PySem.F.plainAttrs_list PySem.F.slot_list_append PySem.F.type_list_append mt_append (pv 4) (pa_cons (pv 6) pa_nil))))))))
      (pss_one (ps_ret (pv 4)))))), s_start (σ' := [some _, some _, some _, some _, none, none, none]) rfl ?_⟩
    walk_at "l2"
    intro D H1 f1 s1 e1
    walk_at "l2"
    refine for_enum (xs := ms.map nat) (fun i σ H' => ∃ (v v' : Option V) (ms2 : List Nat), σ = [some (.ref r), some (.int c), some (nat st), some (nat wy), some (.ref D), v, v'] ∧ Same H H' ∧ H' D = some (.lst (ms2.map nat)) ∧ ms2.length = i ∧ ∀ x ∈ ms2, x < 2 ^ wd) ⟨none, none, [], rfl, s1, e1, rfl, fun _ h => absurd h (by simp)⟩ (fun i σ H' _ ⟨_, _, _, _, e, _⟩ => SqL.of (e.get hp)) ?_ ?_
    · rintro i y σ H' p H7 hy ⟨v, v', ms2, rfl, s6, e6, el, hb2⟩ fp s7 e7
      obtain ⟨x, hx, rfl⟩ := get_map hy
      have hi := (List.getElem?_eq_some_iff.mp hx).1
      have hxb := hb x (List.mem_of_getElem? hx)
      have eD7 := s7.get e6
      walk_at "l2"
      refine s_cut (fun σ H2 => H7 = H2 ∧ ∃ x : Nat, x < 2 ^ wd ∧ σ = [some (.ref r), some (.int c), some (nat st), some (nat wy), some (.ref D), some (nat i), some (nat x)]) ?_ ?_
      · walk_at "l2"
        refine iteB (fun hc => ?_) (fun hc => ?_)
        · walk_at "l2"
          rw [bitAnd_nat]
          exact ⟨_, Nat.lt_of_le_of_lt Nat.and_le_left hxb, rfl⟩
        · walk_at "l2"
          exact ⟨_, hxb, rfl⟩
      · rintro σ H2 ⟨rfl, x2, hx2, rfl⟩
        walk_at "l2"
        refine s_cut (fun σ H2 => H7 = H2 ∧ ∃ x : Nat, x < 2 ^ wd ∧ σ = [some (.ref r), some (.int c), some (nat st), some (nat wy), some (.ref D), some (nat i), some (nat x)]) ?_ ?_
        · walk_at "l2"
          refine iteB (fun hc => ?_) (fun hc => ?_)
          · walk_at "l2"
            refine iteB (fun hc2 => ?_) (fun hc2 => ?_)
            · have hi0 : 0 < i := by have := of_decide_eq_true hc2; omega
              have e1 : (i : Int) - 1 = ((i - 1 : Nat) : Int) := by omega
              walk_at "l2"
              rw [e1]
              walk_at "l2"
              rw [shl1]
              exact ⟨_, Nat.pow_lt_pow_right (by decide) (show i - 1 < wd by omega), rfl⟩
            · walk_at "l2"
              exact ⟨_, hx2, rfl⟩
          · walk_at "l2"
            exact ⟨_, hx2, rfl⟩
        · rintro σ H2 ⟨rfl, x3, hx3, rfl⟩
          walk_at "l2"
          refine s_cut (fun σ H2 => Same H7 H2 ∧ ∃ x : Nat, x < 2 ^ wd ∧ σ = [some (.ref r), some (.int c), some (nat st), some (nat wy), some (.ref D), some (nat i), some (nat x)]) ?_ ?_
          · walk_at "l2"
            refine iteB (fun hc => ?_) (fun hc => ?_)
            · walk_at "l2"
              intro D8 H8 f8 s8 e8
              have key : ∃ k : Nat, atI [V.int 43690, .int 21845] ((i : Int) % 2) = some (nat k) := by
                rcases Int.emod_two_eq (i : Int) with h | h <;> rw [h]
                · exact ⟨43690, rfl⟩
                · exact ⟨21845, rfl⟩
              obtain ⟨k, hk⟩ := key
              walk_at "l2"
              rw [bitAnd_nat]
              exact ⟨s8, _, Nat.lt_of_le_of_lt Nat.and_le_left hx3, rfl⟩
            · walk_at "l2"
              exact ⟨Same.refl _, _, hx3, rfl⟩
          · rintro σ H2 ⟨s8, x4, hx4, rfl⟩
            walk_at "l2"
            refine s_append (s8.get eD7) (by rw [List.length_map, sizeLine_eq]; omega) fun H9 u9 => ?_
            walk_at "l2"
            refine ⟨_, _, ms2 ++ [x4], rfl, fun b o e => u9.oth _ _ (ne_of_none e f1) (s8.get (s7.get (s6.get e))), ?_, by rw [List.length_append, el]; rfl, fun z hz => ?_⟩
            · rw [u9.at', List.map_append]; rfl
            · rcases List.mem_append.mp hz with h | h
              · exact hb2 z h
              · rw [List.mem_singleton.mp h]; exact hx4
    · rintro σ H' ⟨v, v', ms2, rfl, s6, e6, el, hb2⟩
      rw [List.length_map] at el
      walk_at "l2"
      exact q D H' ms2 f1 s6 e6 el hb2
theorem ok__law_machine (T : Tx K mg a) : FnOk P w K mg base CX0 3 a.f__law_machine a.d__law_machine ["_law_script", "_law_start", "_law_most"] (sp_lmach K) := by
  have G__law_cell := ok__law_cell (P := P) (w := w) (base := base) T
  have G__law_mix := ok__law_mix (P := P) (w := w) (base := base) T
  have G__law_masks := ok__law_masks (P := P) (w := w) (base := base) T
  have G__law_thinned := ok__law_thinned (P := P) (w := w) (base := base) T
  refine T.F__law_machine.ok sc__law_machine (fun vs H Q E h => ?_) (fun cdv A outer s H vs Q E hr h => ?_)
  · obtain ⟨p, ns, st, mo, rfl, _⟩ := h; rfl
  · obtain ⟨p, ns, st, mo, rfl, hS, hst, hmo, q⟩ := h
    refine ⟨_, ((pss_cons (ps_set (i := 3) sc__law_machine.nd rfl (by first | exact Or.inl rfl | exact Or.inr rfl) (pe_call G__law_cell (hr.mono (by decide)) (by rfl) T.g__law_cell T.k__law_cell T.b__law_cell .nil pass0 (pa_cons (pv 0) (pa_cons (pv 1) pa_nil))))
      (pss_cons (ps_set (i := 4) sc__law_machine.nd rfl (by first | exact Or.inl rfl | exact Or.inr rfl) (pe_op op_mod (pe_op op_fdiv (pv 3) pe_int) (pe_op op_add (pv 2) pe_int)))
      (pss_cut (ps_if (pt_cmpR op_eq (pe_op op_mod (pe_op op_fdiv (pv 3) pe_int) pe_int) pe_int (nomark _)) (pss_one (ps_set (i := 4) sc__law_machine.nd rfl (by first | exact Or.inl rfl | exact Or.inr rfl) (pe_op op_mod (pe_op op_fdiv (pv 3) pe_int) pe_int))) pss_nil)
      (pss_cons (ps_set (i := 5) sc__law_machine.nd rfl (by first | exact Or.inl rfl | exact Or.inr rfl) (pe_op op_mod (pe_call G__law_mix (hr.mono (by decide)) (by rfl) T.g__law_mix T.k__law_mix T.b__law_mix .nil pass0 (pa_cons (pv 3) (pa_cons pe_int pa_nil))) pe_int))
      (pss_cons (ps_set (i := 6) sc__law_machine.nd rfl (by first | exact Or.inl rfl | exact Or.inr rfl) (pe_op op_mod (pe_call G__law_mix (hr.mono (by decide)) (by rfl) T.g__law_mix T.k__law_mix T.b__law_mix .nil pass0 (pa_cons (pv 3) (pa_cons pe_int pa_nil))) pe_int))
      (pss_cut (ps_if (pt_cmpR op_eq (pe_op op_mod (pe_op op_fdiv (pv 3) pe_int) pe_int) pe_int (nomark _)) (pss_cons (ps_set (i := 5) sc__law_machine.nd rfl (by first | exact Or.inl rfl | exact Or.inr rfl) (pe_op op_mod (pe_call G__law_mix (hr.mono (by decide)) (by rfl) T.g__law_mix T.k__law_mix T.b__law_mix .nil pass0 (pa_cons (pv 3) (pa_cons pe_int pa_nil))) pe_int))
      (pss_one (ps_set (i := 6) sc__law_machine.nd rfl (by first | exact Or.inl rfl | exact Or.inr rfl) (pe_op op_mod (pe_call G__law_mix (hr.mono (by decide)) (by rfl) T.g__law_mix T.k__law_mix T.b__law_mix .nil pass0 (pa_cons (pv 3) (pa_cons pe_int pa_nil))) pe_int)))) pss_nil)
      (pss_cons (ps_set (i := 7) sc__law_machine.nd rfl (by first | exact Or.inl rfl | exact Or.inr rfl) (pe_cmpR op_eq (pe_op op_mod (pv 3) pe_int) pe_int (nomark _)))
      (pss_cons (ps_set (i := 8) sc__law_machine.nd rfl (by first | exact Or.inl rfl | exact Or.inr rfl) (pe_op op_mod (pe_call G__law_mix (hr.mono (by decide)) (by rfl) T.g__law_mix T.k__law_mix T.b__law_mix .nil pass0 (pa_cons (pv 3) (pa_cons pe_int pa_nil))) pe_int))
      (pss_cons (ps_set (i := 9) sc__law_machine.nd rfl (by first | exact Or.inl rfl | exact Or.inr rfl) (pe_call G__law_masks (hr.mono (by decide)) (by rfl) T.g__law_masks T.k__law_masks T.b__law_masks .nil pass0 (pa_cons (pe_call G__law_cell (hr.mono (by decide)) (by rfl) T.g__law_cell T.k__law_cell T.b__law_cell .nil pass0 (pa_cons (pv 0) (pa_cons (pe_op op_add (pv 1) pe_int) pa_nil))) (pa_cons pe_int (pa_cons (pv 4) (pa_cons (pv 4) (pa_cons (pv 7) pa_nil)))))))
      (pss_cons (ps_set (i := 10) sc__law_machine.nd rfl (by first | exact Or.inl rfl | exact Or.inr rfl) (pe_call G__law_masks (hr.mono (by decide)) (by rfl) T.g__law_masks T.k__law_masks T.b__law_masks .nil pass0 (pa_cons (pe_call G__law_cell (hr.mono (by decide)) (by rfl) T.g__law_cell T.k__law_cell T.b__law_cell .nil pass0 (pa_cons (pv 0) (pa_cons (pe_op op_add (pv 1) pe_int) pa_nil))) (pa_cons pe_int (pa_cons (pv 4) (pa_cons (pv 5) (pa_cons (pv 7) pa_nil)))))))
      (pss_cut (ps_if (pt_not (pt_val (pv 7))) (pss_cons (ps_set (i := 9) sc__law_machine.nd rfl (by first | exact Or.inl rfl | exact Or.inr rfl) (pe_call G__law_thinned (hr.mono (by decide)) (by rfl) T.g__law_thinned T.k__law_thinned T.b__law_thinned .nil pass0 (pa_cons (pv 9) (pa_cons (pe_call G__law_cell (hr.mono (by decide)) (by rfl) T.g__law_cell T.k__law_cell T.b__law_cell .nil pass0 (pa_cons (pv 0) (pa_cons (pe_op op_add (pv 1) pe_int) pa_nil))) (pa_cons pe_int (pa_cons (pv 8) pa_nil))))))
      (pss_one (ps_if (pt_cmpR op_gt (pv 8) pe_int (nomark _)) (pss_one (ps_comp (osc := defScope s__law_machine) (ON := ["_law_script", "_law_start", "_law_most", "_law_cell_here", "_law_stores", "_law_inputs", "_law_outputs", "_law_digits", "_law_way", "_law_one", "_law_other", "_law_shown", "_law_straight"]) (N := ["_law_k", "_law_mask", "_law_script", "_law_start"]) (n := 2) (fx := [0, 1]) (i := 10) sc__law_machine.nd rfl rfl rfl rfl rfl rfl (by decide +kernel) (pi_enum (K := K) rfl (by rfl) T.n_enumerate (pv 10)) (gk_tup (gks_cons (gk_name (by decide)) (gks_cons (gk_name (by decide)) gks_nil))) (fun _ _ _ _ _ => ⟨(pg_tupK (K := K) (n := 2) rfl rfl (pgs_cons (pg_name (i := 0) (show List.Nodup (["_law_k", "_law_mask", "_law_script", "_law_start"] : List Str) from by decide +kernel) rfl (by first | exact Or.inl rfl | exact Or.inr rfl)) (pgs_cons (pg_name (i := 1) (show List.Nodup (["_law_k", "_law_mask", "_law_script", "_law_start"] : List Str) from by decide +kernel) rfl (by first | exact Or.inl rfl | exact Or.inr rfl)) pgs_nil))), pts_nil, (pe_op op_and (pv 1) (pe_call G__law_mix (hr.mono (by decide)) (by rfl) T.g__law_mix T.k__law_mix T.b__law_mix .nil pass0 (pa_cons (pe_call G__law_cell (hr.mono (by decide)) (by rfl) T.g__law_cell T.k__law_cell T.b__law_cell .nil pass0 (pa_cons (pv 2) (pa_cons (pe_op op_add (pv 3) pe_int) pa_nil))) (pa_cons (pe_op op_add pe_int (pv 0)) pa_nil))))⟩))) pss_nil))) pss_nil)
      (pss_cons (ps_set (i := 11) sc__law_machine.nd rfl (by first | exact Or.inl rfl | exact Or.inr rfl) (pe_call G__law_masks (hr.mono (by decide)) (by rfl) T.g__law_masks T.k__law_masks T.b__law_masks .nil pass0 (pa_cons (pe_call G__law_cell (hr.mono (by decide)) (by rfl) T.g__law_cell T.k__law_cell T.b__law_cell .nil pass0 (pa_cons (pv 0) (pa_cons (pe_op op_add (pv 1) pe_int) pa_nil))) (pa_cons pe_int (pa_cons (pv 6) (pa_cons (pv 4) (pa_cons (pv 7) pa_nil)))))))
      (pss_cons (ps_set (i := 12) sc__law_machine.nd rfl (by first | exact Or.inl rfl | exact Or.inr rfl) (pe_call G__law_masks (hr.mono (by decide)) (by rfl) T.g__law_masks T.k__law_masks T.b__law_masks .nil pass0 (pa_cons (pe_call G__law_cell (hr.mono (by decide)) (by rfl) T.g__law_cell T.k__law_cell T.b__law_cell .nil pass0 (pa_cons (pv 0) (pa_cons (pe_op op_add (pv 1) pe_int) pa_nil))) (pa_cons pe_int (pa_cons (pv 6) (pa_cons (pv 5) (pa_cons (pv 7) pa_nil)))))))
      (pss_cut (ps_if (PW.pt (pw_and (pt_not (pt_val (pv 7))) (pw_and1 (pt_cmpR op_gt (pv 8) pe_int (nomark _))))) (pss_one (ps_comp (osc := defScope s__law_machine) (ON := ["_law_script", "_law_start", "_law_most", "_law_cell_here", "_law_stores", "_law_inputs", "_law_outputs", "_law_digits", "_law_way", "_law_one", "_law_other", "_law_shown", "_law_straight"]) (N := ["_law_k", "_law_mask", "_law_script", "_law_start"]) (n := 2) (fx := [0, 1]) (i := 11) sc__law_machine.nd rfl rfl rfl rfl rfl rfl (by decide +kernel) (pi_enum (K := K) rfl (by rfl) T.n_enumerate (pv 11)) (gk_tup (gks_cons (gk_name (by decide)) (gks_cons (gk_name (by decide)) gks_nil))) (fun _ _ _ _ _ => ⟨(pg_tupK (K := K) (n := 2) rfl rfl (pgs_cons (pg_name (i := 0) (show List.Nodup (["_law_k", "_law_mask", "_law_script", "_law_start"] : List Str) from by decide +kernel) rfl (by first | exact Or.inl rfl | exact Or.inr rfl)) (pgs_cons (pg_name (i := 1) (show List.Nodup (["_law_k", "_law_mask", "_law_script", "_law_start"] : List Str) from by decide +kernel) rfl (by first | exact Or.inl rfl | exact Or.inr rfl)) pgs_nil))), pts_nil, (pe_op op_and (pv 1) (pe_call G__law_mix (hr.mono (by decide)) (by rfl) T.g__law_mix T.k__law_mix T.b__law_mix .nil pass0 (pa_cons (pe_call G__law_cell (hr.mono (by decide)) (by rfl) T.g__law_cell T.k__law_cell T.b__law_cell .nil pass0 (pa_cons (pv 2) (pa_cons (pe_op op_add (pv 3) pe_int) pa_nil))) (pa_cons (pe_op op_add pe_int (pv 0)) pa_nil))))⟩))) pss_nil)
      (pss_cut (ps_if (PW.pt (pw_and (pt_not (pt_val (pv 7))) (pw_and1 (pt_cmpR op_gt (pv 8) pe_int (nomark _))))) (pss_one (ps_comp (osc := defScope s__law_machine) (ON := ["_law_script", "_law_start", "_law_most", "_law_cell_here", "_law_stores", "_law_inputs", "_law_outputs", "_law_digits", "_law_way", "_law_one", "_law_other", "_law_shown", "_law_straight"]) (N := ["_law_mask"]) (n := 1) (fx := []) (i := 12) sc__law_machine.nd rfl rfl rfl rfl rfl rfl (by decide +kernel) (pi_listK (K := K) rfl (pv 12)) (gk_name (by decide)) (fun _ _ _ _ _ => ⟨(pg_name (i := 0) (show List.Nodup (["_law_mask"] : List Str) from by decide +kernel) rfl (by first | exact Or.inl rfl | exact Or.inr rfl)), pts_nil, pe_int⟩))) pss_nil)
      (pss_one (ps_ret (pe_tup (pa_cons (pv 5) (pa_cons (pe_listzip (K := K) rfl rfl (by rfl) (by rfl) T.n_list T.n_zip (pv 9) (pv 10)) (pa_cons (pe_listzip (K := K) rfl rfl (by rfl) (by rfl) T.n_list T.n_zip (pv 11) (pv 12)) pa_nil)))))))))))))))))))))), s_start (σ' := [some _, some _, some _, none, none, none, none, none, none, none, none, none, none]) rfl ?_⟩
    walk_at "l2"
    obtain ⟨S0, eS, lS⟩ := emod_nat (c := cell ns (st : Int) / 2) (m := (mo : Int) + 1) (by omega)
    rw [eS]
    generalize cell ns (st : Int) = c
    refine s_cut (fun σ H2 => H = H2 ∧ ∃ S : Nat, S ≤ 16 ∧ σ = [some (.ref p), some (nat st), some (nat mo), some (.int c), some (nat S), none, none, none, none, none, none, none, none]) ?_ ?_
    · walk_at "l2"
      refine iteB (fun hc => ?_) (fun hc => ?_)
      · walk_at "l2"
        obtain ⟨k, hk, hkl⟩ := emod_nat (c := c / 512) (m := 17) (by decide)
        rw [hk]
        exact ⟨_, by omega, rfl⟩
      · walk_at "l2"
        exact ⟨_, by omega, rfl⟩
    · rintro σ H2 ⟨rfl, S, hS16, rfl⟩
      clear eS lS
      walk_at "l2"
      rename_i r1 h1 r2 h2
      have ei : (r1 : Int) % 4 = ((r1 % 4 : Nat) : Int) := by omega
      have eo : (r2 : Int) % 4 = ((r2 % 4 : Nat) : Int) := by omega
      rw [ei, eo]
      refine s_cut (fun σ H2 => H = H2 ∧ ∃ I O : Nat, (I ≤ 6 ∧ O ≤ 6) ∧ σ = [some (.ref p), some (nat st), some (nat mo), some (.int c), some (nat S), some (nat I), some (nat O), none, none, none, none, none, none]) ?_ ?_
      · walk_at "l2"
        refine iteB (fun hc => ?_) (fun hc => ?_)
        · walk_at "l2"
          rename_i r3 h3 r4 h4
          have ei : (r3 : Int) % 7 = ((r3 % 7 : Nat) : Int) := by omega
          have eo : (r4 : Int) % 7 = ((r4 % 7 : Nat) : Int) := by omega
          rw [ei, eo]
          exact ⟨_, _, ⟨by omega, by omega⟩, rfl⟩
        · walk_at "l2"
          exact ⟨_, _, ⟨by omega, by omega⟩, rfl⟩
      · rintro σ H2 ⟨rfl, I, O, ⟨hI, hO⟩, rfl⟩
        clear ei eo h1 h2
        walk_at "l2"
        rename_i r5 h5
        have ew : (r5 : Int) % 5 = ((r5 % 5 : Nat) : Int) := by omega
        rw [ew]
        generalize hwy : r5 % 5 = wy
        have hwy5 : wy < 5 := by omega
        generalize hdg : decide (V.int (c % 2) = V.int 0) = dg
        clear ew hwy hdg h5
        refine ⟨_, 100, S, S, dg, rfl, by decide, by omega, hS16, fun D1 H1 ms1 f1 s1 e1 l1 b1 => ?_⟩
        have hS1 := Same.seq s1 hS
        walk_at "l2"
        refine ⟨_, 140, S, I, dg, rfl, by decide, by omega, by omega, fun D2 H2 ms2 f2 s2 e2 l2 b2 => ?_⟩
        have hS2 := Same.seq s2 hS1
        have e1' := s2.get e1
        walk_at "l2"
        refine s_cut (fun σ H3 => ∃ (D1 D2 : Addr) (ms1 ms2 : List Nat), σ = [some (.ref p), some (nat st), some (nat mo), some (.int c), some (nat S), some (nat I), some (nat O), some (.bl dg), some (nat wy), some (.ref D1), some (.ref D2), none, none] ∧ Same H H3 ∧ H3 D1 = some (.lst (ms1.map nat)) ∧ H3 D2 = some (.lst (ms2.map nat)) ∧ ms1.length = S ∧ ms2.length = S ∧ (∀ x ∈ ms1, x < 2 ^ S) ∧ ∀ x ∈ ms2, x < 2 ^ I) ?_ ?_
        · walk_at "l2"
          cases dg with
          | true =>
            walk_at "l2"
            exact ⟨D1, D2, ms1, ms2, rfl, s1.trans s2, e1', e2, l1, l2, b1, b2⟩
          | false =>
            walk_at "l2"
            refine ⟨D1, ms1, _, 180, wy, S, rfl, e1', by decide, hS16, by omega, b1, fun D3 H3 ms3 f3 s3 e3 l3 b3 => ?_⟩
            have e23 := s3.get e2
            have hS3 := Same.seq s3 hS2
            walk_at "l2"
            refine iteB (fun hc => ?_) (fun hc => ?_)
            · walk_at "l2"
              intro D hD
              refine comp_enumL (xs := ms2.map nat) (fun i ys H' => Cs (fun i ys => ∃ qs : List Nat, ys = qs.map nat ∧ qs.length = i ∧ ∀ x ∈ qs, x < 2 ^ I) H3 D i ys H') (Cs.zero hD ⟨[], rfl, rfl, fun _ h => absurd h (by simp)⟩) (fun i ys H' _ c => SqL.of (c.same.get e23)) (fun i v ys H' p' H7 hv c' fp s7 e7 => ?_) (fun ys H' c' => ?_)
              · obtain ⟨x, hx, rfl⟩ := get_map hv
                obtain ⟨qs, eqs, lqs, bqs⟩ := c'.pv
                have hi := (List.getElem?_eq_some_iff.mp hx).1
                have hS7 := Same.seq s7 (Same.seq c'.same hS3)
                walk_at "l2"
                rw [bitAnd_nat]
                refine Cs.put hD (c'.same.trans s7) (s7.get c'.at') c'.len (by omega) ⟨qs ++ [_], by rw [eqs, List.map_append]; rfl, by rw [List.length_append, lqs]; rfl, fun z hz => ?_⟩
                rcases List.mem_append.mp hz with h | h
                · exact bqs z h
                · rw [List.mem_singleton.mp h]; exact Nat.lt_of_le_of_lt Nat.and_le_left (b2 x (List.mem_of_getElem? hx))
              · obtain ⟨qs, eqs, lqs, bqs⟩ := c'.pv
                rw [List.length_map] at lqs
                have ec := c'.at'
                rw [eqs] at ec
                exact ⟨D3, D, ms3, qs, rfl, s1.trans (s2.trans (s3.trans c'.same)), c'.same.get e3, ec, by omega, by omega, b3, bqs⟩
            · walk_at "l2"
              exact ⟨D3, D2, ms3, ms2, rfl, s1.trans (s2.trans s3), e3, e23, by omega, l2, b3, b2⟩
        · rintro σ H3 ⟨D1, D2, ms1, ms2, rfl, s3, e1, e2, l1, l2, b1, b2⟩
          have hS3 := Same.seq s3 hS
          walk_at "l2"
          refine ⟨_, 260, O, S, dg, rfl, by decide, by omega, hS16, fun D4 H4 ms4 f4 s4 e4 l4 b4 => ?_⟩
          have hS4 := Same.seq s4 hS3
          walk_at "l2"
          refine ⟨_, 280, O, I, dg, rfl, by decide, by omega, by omega, fun D5 H5 ms5 f5 s5 e5 l5 b5 => ?_⟩
          have hS5 := Same.seq s5 hS4
          have e45 := s5.get e4
          walk_at "l2"
          refine s_cut (fun σ H6 => ∃ (D4 : Addr) (ms4 : List Nat), σ = [some (.ref p), some (nat st), some (nat mo), some (.int c), some (nat S), some (nat I), some (nat O), some (.bl dg), some (nat wy), some (.ref D1), some (.ref D2), some (.ref D4), some (.ref D5)] ∧ Same H5 H6 ∧ H6 D4 = some (.lst (ms4.map nat)) ∧ ms4.length = O ∧ ∀ x ∈ ms4, x < 2 ^ S) ?_ ?_
          · walk_at "l2"
            refine iteB (fun hc => ?_) (fun hc => ?_)
            · walk_at "l2"
              refine iteB (fun hc => ?_) (fun hc => ?_)
              · walk_at "l2"
                intro D hD
                refine comp_enumL (xs := ms4.map nat) (fun i ys H' => Cs (fun i ys => ∃ qs : List Nat, ys = qs.map nat ∧ qs.length = i ∧ ∀ x ∈ qs, x < 2 ^ S) H5 D i ys H') (Cs.zero hD ⟨[], rfl, rfl, fun _ h => absurd h (by simp)⟩) (fun i ys H' _ c => SqL.of (c.same.get e45)) (fun i v ys H' p' H7 hv c' fp s7 e7 => ?_) (fun ys H' c' => ?_)
                · obtain ⟨x, hx, rfl⟩ := get_map hv
                  obtain ⟨qs, eqs, lqs, bqs⟩ := c'.pv
                  have hi := (List.getElem?_eq_some_iff.mp hx).1
                  have hS7 := Same.seq s7 (Same.seq c'.same hS5)
                  walk_at "l2"
                  rw [bitAnd_nat]
                  refine Cs.put hD (c'.same.trans s7) (s7.get c'.at') c'.len (by omega) ⟨qs ++ [_], by rw [eqs, List.map_append]; rfl, by rw [List.length_append, lqs]; rfl, fun z hz => ?_⟩
                  rcases List.mem_append.mp hz with h | h
                  · exact bqs z h
                  · rw [List.mem_singleton.mp h]; exact Nat.lt_of_le_of_lt Nat.and_le_left (b4 x (List.mem_of_getElem? hx))
                · obtain ⟨qs, eqs, lqs, bqs⟩ := c'.pv
                  rw [List.length_map] at lqs
                  have ec := c'.at'
                  rw [eqs] at ec
                  exact ⟨D, qs, rfl, c'.same, ec, by omega, bqs⟩
              · walk_at "l2"
                exact ⟨D4, ms4, rfl, Same.refl _, e45, l4, b4⟩
            · walk_at "l2"
              exact ⟨D4, ms4, rfl, Same.refl _, e45, l4, b4⟩
          · rintro σ H6 ⟨D4, ms4, rfl, s6, e4, l4, b4⟩
            have e56 := s6.get e5
            have e16 := s6.get (s5.get (s4.get e1))
            have e26 := s6.get (s5.get (s4.get e2))
            have s06 := s3.trans (s4.trans (s5.trans s6))
            clear hS1 hS2 hS3 hS4 hS5 e45
            walk_at "l2"
            refine s_cut (fun σ H7 => ∃ (D5 : Addr) (ms5 : List Nat), σ = [some (.ref p), some (nat st), some (nat mo), some (.int c), some (nat S), some (nat I), some (nat O), some (.bl dg), some (nat wy), some (.ref D1), some (.ref D2), some (.ref D4), some (.ref D5)] ∧ Same H6 H7 ∧ H7 D5 = some (.lst (ms5.map nat)) ∧ ms5.length = O ∧ ∀ x ∈ ms5, x < 2 ^ I) ?_ ?_
            · walk_at "l2"
              refine iteB (fun hc => ?_) (fun hc => ?_)
              · walk_at "l2"
                refine iteB (fun hc => ?_) (fun hc => ?_)
                · walk_at "l2"
                  intro D hD
                  refine comp_list (xs := ms5.map nat) (fun i ys H' => Cs (fun i ys => ys = (List.replicate i 0).map nat) H6 D i ys H') (Cs.zero hD rfl) (fun i ys H' _ c => SqL.of (c.same.get e56)) (fun i v ys H' hv c' => ?_) (fun ys H' c' => ?_)
                  · have hi := (List.getElem?_eq_some_iff.mp hv).1
                    rw [List.length_map] at hi
                    walk_at "l2"
                    refine Cs.put hD c'.same c'.at' c'.len (by omega) ?_
                    rw [c'.pv, List.replicate_succ', List.map_append]; rfl
                  · have ec := c'.at'
                    rw [c'.pv, List.length_map] at ec
                    refine ⟨D, List.replicate ms5.length 0, rfl, c'.same, ec, by rw [List.length_replicate]; exact l5, fun x hx => ?_⟩
                    rw [List.eq_of_mem_replicate hx]; exact Nat.two_pow_pos _
                · walk_at "l2"
                  exact ⟨D5, ms5, rfl, Same.refl _, e56, l5, b5⟩
              · walk_at "l2"
                exact ⟨D5, ms5, rfl, Same.refl _, e56, l5, b5⟩
            · rintro σ H7 ⟨D5, ms5, rfl, s7, e5, l5, b5⟩
              walk_at "l2"
              refine ⟨D1, D2, ms1.map nat, ms2.map nat, rfl, rfl, SqL.of (s7.get e16), SqL.of (s7.get e26), by rw [List.length_map, List.length_map]; omega, fun Dn pn H8 f8 s8 e8 lp8 t8 => ?_⟩
              obtain ⟨nx, rn, ptn, lnx, mn⟩ := zip_tab (by omega) lp8 t8
              rw [← rn] at e8
              walk_at "l2"
              refine ⟨D4, D5, ms4.map nat, ms5.map nat, rfl, rfl, SqL.of (s8.get (s7.get e4)), SqL.of (s8.get e5), by rw [List.length_map, List.length_map]; omega, fun Do po H9 f9 s9 e9 lp9 t9 => ?_⟩
              obtain ⟨os, ro, pto, los, mo'⟩ := zip_tab (by omega) lp9 t9
              rw [← ro] at e9
              walk_at "l2"
              intro t H10 f10 s10 e10
              have s07 := s06.trans s7
              refine q t Dn Do H10 I nx os (s07.trans (s8.trans (s9.trans s10))) (fresh_of s07 f8) (fresh_of (s07.trans s8) f9) ⟨e10, hI, s10.get (s9.get e8), s10.get e9, (ptn.same s9).same s10, pto.same s10, by omega, by omega, fun pr hpr => ?_⟩ (by omega)
              rw [lnx, l1]
              rcases List.mem_append.mp hpr with h | h
              · exact ⟨b1 _ (mn pr h).1, b2 _ (mn pr h).2⟩
              · exact ⟨b4 _ (mo' pr h).1, b5 _ (mo' pr h).2⟩
end
section
variable {P : Program} {w : World} {K : PySem.W.Frag} {mg : Str → Option Value} {base : Heap} {a : Ad}
theorem ok__law_odd (T : Tx K mg a) : FnOk P w K mg base CX0 1 a.f__law_odd a.d__law_odd ["_law_mask"] sp_odd := by
  refine T.F__law_odd.ok sc__law_odd (fun vs H Q E h => ?_) (fun cdv A outer s H vs Q E hr h => ?_)
  · obtain ⟨m, rfl, _⟩ := h; rfl
  · obtain ⟨m, rfl, hm, q⟩ := h
    refine ⟨_, ((pss_cons (ps_set (i := 1) sc__law_odd.nd rfl (by first | exact Or.inl rfl | exact Or.inr rfl) pe_bl)
      (pss_cons (ps_while PassesOwn.never (pt_cmpR op_gt (pv 0) pe_int (nomark _)) (pss_cons (ps_set (i := 0) sc__law_odd.nd rfl (by first | exact Or.inl rfl | exact Or.inr rfl) (pe_op op_and (pv 0) (pe_op op_sub (pv 0) pe_int)))
      (pss_one (ps_set (i := 1) sc__law_odd.nd rfl (by first | exact Or.inl rfl | exact Or.inr rfl) (pe_not (pv 1))))))
      (pss_one (ps_ret (pv 1)))))), s_start (σ' := [some _, none]) rfl ?_⟩
    walk_at "l2"
    refine ⟨fun μ σ' H' => ∃ o, σ' = [some (nat μ), some (.bl o)] ∧ H' = H ∧ μ < 2 ^ 1000 ∧ (o ^^ M.od μ) = M.od m, ⟨m, false, rfl, rfl, hm, by simp⟩, ?_⟩
    rintro μ σ' H' ⟨o, rfl, rfl, hμ, ho⟩
    walk_at "l2"
    by_cases h0 : 0 < μ
    · refine s_ifT (decide_eq_true (by omega)) ?_
      refine ⟨fun σ2 H2 => ∃ (n : Nat) (o : Bool), σ2 = [some (nat n), some (.bl o)] ∧ H2 = H' ∧ n < μ ∧ (o ^^ M.od n) = M.od m, fun σ2 H2 ⟨n, o, e1, e2, e3, e4⟩ => ⟨n, e3, o, e1, e2, by omega, e4⟩, ?_⟩
      walk_at "l2"
      have e1 : (μ : Int) - 1 = ((μ - 1 : Nat) : Int) := by omega
      rw [e1, bitAnd_nat]
      refine ⟨μ &&& (μ - 1), !o, rfl, rfl, M.drop_less h0, ?_⟩
      have e2 : M.od (μ &&& (μ - 1)) = !M.od μ := M.drop_bit 1000 μ h0 hμ
      rw [e2, ← ho]
      cases o <;> cases M.od μ <;> rfl
    · have e0 : μ = 0 := by omega
      subst e0
      walk_at "l2"
      rw [M.od_zero] at ho
      simp at ho
      rw [ho]
      exact q
local macro_rules | `(tactic| walk_at "l2step") => `(tactic| (with_reducible refine s_iEnumT ?_))
theorem ok__law_turn (T : Tx K mg a) : FnOk P w K mg base CX0 2 a.f__law_turn a.d__law_turn ["_law_nexts", "_law_state"] (sp_turn K) := by
  have G__law_odd := ok__law_odd (P := P) (w := w) (base := base) T
  refine T.F__law_turn.ok sc__law_turn (fun vs H Q E h => ?_) (fun cdv A outer s H vs Q E hr h => ?_)
  · obtain ⟨r, nx, x, rfl, _⟩ := h; rfl
  · obtain ⟨r, nx, x, rfl, hp, pt, hn, hx, q⟩ := h
    refine ⟨_, ((pss_cons (ps_set (i := 2) sc__law_turn.nd rfl (by first | exact Or.inl rfl | exact Or.inr rfl) pe_int)
      (pss_cons (ps_for PassesOwn.never rfl (pi_enumT (K := K) rfl (by rfl) T.n_enumerate (pv 0)) (pg_tup rfl (pgs_cons (pg_name (i := 3) sc__law_turn.nd rfl (by first | exact Or.inl rfl | exact Or.inr rfl)) (pgs_cons (pg_name (i := 4) sc__law_turn.nd rfl (by first | exact Or.inl rfl | exact Or.inr rfl)) pgs_nil))) (pss_one (ps_set (i := 2) sc__law_turn.nd rfl (by first | exact Or.inl rfl | exact Or.inr rfl) (pe_op op_or (pv 2) (pe_op op_shl (pe_callTy call_int1 (by rfl) T.n_int PyProof.Rows.boot_int (pa_cons (pe_call G__law_odd (hr.mono (by decide)) (by rfl) T.g__law_odd T.k__law_odd T.b__law_odd .nil pass0 (pa_cons (pe_op op_and (pe_ix (ix_tupK (K := K) rfl) (pv 4) pe_int (fun _ _ => rfl)) (pv 1)) pa_nil)) pa_nil)) (pv 3))))))
      (pss_one (ps_ret (pv 2)))))), s_start (σ' := [some _, some _, none, none, none]) rfl ?_⟩
    walk_at "l2"
    rcases hp with hp | hp
    · refine .inl ⟨⟨_, hp⟩, ?_⟩
      refine for_enum (xs := refs nx) (fun i σ H' => ∃ v v', σ = [some (.ref r), some (nat x), some (nat (M.tr (ms (nx.take i)) x)), v, v'] ∧ Same H H') ⟨none, none, rfl, Same.refl _⟩ (fun i σ H' _ ⟨_, _, _, e⟩ => Same.seq e hp) ?_ ?_
      · rintro i y σ H' p H7 hy ⟨v, v', rfl, s6⟩ fp s7 e7
        obtain ⟨pr, hpr, rfl⟩ := get_map hy
        have hi := (List.getElem?_eq_some_iff.mp hpr).1
        have ht := s7.get (s6.get (pt pr (List.mem_of_getElem? hpr)))
        walk_at "l2"
        rw [bitAnd_nat]
        refine ⟨pr.2.1 &&& x, rfl, Nat.lt_of_le_of_lt Nat.and_le_right hx, ?_⟩
        have ts := turn_step x hpr
        cases hod : M.od (pr.2.1 &&& x) with
        | true =>
          rw [hod, if_pos rfl] at ts
          walk_at "l2"
          refine ⟨some (.int i), some (.ref pr.1), ?_, s6.trans s7⟩
          rw [ts, if_pos rfl, shl1, bitOr_nat]
        | false =>
          rw [hod, if_neg Bool.false_ne_true] at ts
          walk_at "l2"
          refine ⟨some (.int i), some (.ref pr.1), ?_, s6.trans s7⟩
          rw [ts, if_neg Bool.false_ne_true, Int.zero_mul, show (0 : Int) = ((0 : Nat) : Int) from rfl, bitOr_nat]
      · rintro σ H' ⟨v, v', rfl, s6⟩
        have el : (refs nx).length = nx.length := List.length_map ..
        rw [el, List.take_length]
        walk_at "l2"
        exact q _ s6
    · refine .inr ⟨⟨_, hp⟩, ?_⟩
      refine for_enumT (xs := refs nx) (fun i σ H' => ∃ v v', σ = [some (.ref r), some (nat x), some (nat (M.tr (ms (nx.take i)) x)), v, v'] ∧ Same H H') ⟨none, none, rfl, Same.refl _⟩ (fun i σ H' _ ⟨_, _, _, e⟩ => Same.tup e hp) ?_ ?_
      · rintro i y σ H' p H7 hy ⟨v, v', rfl, s6⟩ fp s7 e7
        obtain ⟨pr, hpr, rfl⟩ := get_map hy
        have hi := (List.getElem?_eq_some_iff.mp hpr).1
        have ht := s7.get (s6.get (pt pr (List.mem_of_getElem? hpr)))
        walk_at "l2"
        rw [bitAnd_nat]
        refine ⟨pr.2.1 &&& x, rfl, Nat.lt_of_le_of_lt Nat.and_le_right hx, ?_⟩
        have ts := turn_step x hpr
        cases hod : M.od (pr.2.1 &&& x) with
        | true =>
          rw [hod, if_pos rfl] at ts
          walk_at "l2"
          refine ⟨some (.int i), some (.ref pr.1), ?_, s6.trans s7⟩
          rw [ts, if_pos rfl, shl1, bitOr_nat]
        | false =>
          rw [hod, if_neg Bool.false_ne_true] at ts
          walk_at "l2"
          refine ⟨some (.int i), some (.ref pr.1), ?_, s6.trans s7⟩
          rw [ts, if_neg Bool.false_ne_true, Int.zero_mul, show (0 : Int) = ((0 : Nat) : Int) from rfl, bitOr_nat]
      · rintro σ H' ⟨v, v', rfl, s6⟩
        have el : (refs nx).length = nx.length := List.length_map ..
        rw [el, List.take_length]
        walk_at "l2"
        exact q _ s6
end
section
variable {P : Program} {w : World} {K : PySem.W.Frag} {mg : Str → Option Value} {base : Heap} {a : Ad}
local macro_rules | `(tactic| walk_at "l2step") => `(tactic| (with_reducible refine s_iEnumT ?_))
theorem ok__law_by (T : Tx K mg a) : FnOk P w K mg base CX0 1 a.f__law_by a.d__law_by ["_law_ends", "_law_state"] sp_lby := by
  refine T.F__law_by.ok sc__law_by (fun vs H Q E h => ?_) (fun cdv A outer s H vs Q E hr h => ?_)
  · obtain ⟨r, es, x, rfl, _⟩ := h; rfl
  · obtain ⟨r, es, x, rfl, hp, hl, q⟩ := h
    refine ⟨_, ((pss_cons (ps_set (i := 2) sc__law_by.nd rfl (by first | exact Or.inl rfl | exact Or.inr rfl) pe_int)
      (pss_cons (ps_for PassesOwn.never rfl (pi_enumT (K := K) rfl (by rfl) T.n_enumerate (pv 0)) (pg_tup rfl (pgs_cons (pg_name (i := 3) sc__law_by.nd rfl (by first | exact Or.inl rfl | exact Or.inr rfl)) (pgs_cons (pg_name (i := 4) sc__law_by.nd rfl (by first | exact Or.inl rfl | exact Or.inr rfl)) pgs_nil))) (pss_one (ps_if (pt_cmpR op_eq (pe_op op_and (pe_op op_shr (pv 1) (pv 3)) pe_int) pe_int (nomark _)) (pss_one (ps_set (i := 2) sc__law_by.nd rfl (by first | exact Or.inl rfl | exact Or.inr rfl) (pe_op op_xor (pv 2) (pv 4)))) pss_nil)))
      (pss_one (ps_ret (pv 2)))))), s_start (σ' := [some _, some _, none, none, none]) rfl ?_⟩
    walk_at "l2"
    refine .inl ⟨⟨_, SqL.of hp⟩, ?_⟩
    refine for_enum (xs := es.map nat) (fun i σ H' => ∃ v v', σ = [some (.ref r), some (nat x), some (nat (M.sm (es.take i) x)), v, v'] ∧ Same H H') ⟨none, none, rfl, Same.refl _⟩ (fun i σ H' _ ⟨_, _, _, e⟩ => SqL.of (e.get hp)) ?_ ?_
    · rintro i y σ H' p H7 hy ⟨v, v', rfl, s6⟩ fp s7 e7
      obtain ⟨e, he, rfl⟩ := get_map hy
      have hi := (List.getElem?_eq_some_iff.mp he).1
      have st := M.sm_step x he
      walk_at "l2"
      rw [bit_test']
      by_cases hb : x.testBit i = true
      · rw [if_pos hb] at st ⊢
        walk_at "l2"
        rw [bitXor_nat, st]
        exact ⟨_, _, rfl, s6.trans s7⟩
      · rw [if_neg hb] at st ⊢
        rw [Nat.xor_zero] at st
        walk_at "l2"
        rw [st]
        exact ⟨_, _, rfl, s6.trans s7⟩
    · rintro σ H' ⟨v, v', rfl, s6⟩
      rw [List.length_map, List.take_length]
      walk_at "l2"
      exact q _ s6
theorem ok__law_behind (T : Tx K mg a) : FnOk P w K mg base CX0 3 a.f__law_behind a.d__law_behind ["_law_nexts", "_law_state", "_law_turns"] sp_lbehind := by
  have G__law_by := ok__law_by (P := P) (w := w) (base := base) T
  have G__law_turn := ok__law_turn (P := P) (w := w) (base := base) T
  refine T.F__law_behind.ok sc__law_behind (fun vs H Q E h => ?_) (fun cdv A outer s H vs Q E hr h => ?_)
  · obtain ⟨r, nx, x, T', rfl, _⟩ := h; rfl
  · obtain ⟨r, nx, x, T', rfl, nX, hx, hT, q⟩ := h
    have er := nX.r
    have l16 := nX.ln
    refine ⟨_, ((pss_cons (ps_set (i := 3) sc__law_behind.nd rfl (by first | exact Or.inl rfl | exact Or.inr rfl) (pe_comp (osc := defScope s__law_behind) (ON := ["_law_nexts", "_law_state", "_law_turns", "_law_ends"]) (N := ["_law_k", "_law_nexts"]) (n := 1) (fx := [0]) rfl rfl rfl (by decide +kernel) (pi_range1 (by rfl) T.n_range (pa_cons (pe_callB (call_lenK (K := K) rfl) (by rfl) T.n_len PySem.boot_len (pa_cons (pv 0) pa_nil)) pa_nil)) (gk_name (by decide)) (fun _ _ _ _ _ => ⟨(pg_name (i := 0) (show List.Nodup (["_law_k", "_law_nexts"] : List Str) from by decide +kernel) rfl (by first | exact Or.inl rfl | exact Or.inr rfl)), pts_nil, (pe_call G__law_turn (hr.mono (by decide)) (by rfl) T.g__law_turn T.k__law_turn T.b__law_turn .nil pass0 (pa_cons (pv 1) (pa_cons (pe_op op_shl pe_int (pv 0)) pa_nil)))⟩)))
      (pss_cons (ps_while PassesOwn.never (pt_cmpR op_gt (pv 2) pe_int (nomark _)) (pss_cut (ps_if (pt_cmpR op_eq (pe_op op_and (pv 2) pe_int) pe_int (nomark _)) (pss_one (ps_set (i := 1) sc__law_behind.nd rfl (by first | exact Or.inl rfl | exact Or.inr rfl) (pe_call G__law_by (hr.mono (by decide)) (by rfl) T.g__law_by T.k__law_by T.b__law_by .nil pass0 (pa_cons (pv 3) (pa_cons (pv 1) pa_nil))))) pss_nil)
      (pss_cons (ps_set (i := 3) sc__law_behind.nd rfl (by first | exact Or.inl rfl | exact Or.inr rfl) (pe_comp (osc := defScope s__law_behind) (ON := ["_law_nexts", "_law_state", "_law_turns", "_law_ends"]) (N := ["_law_end", "_law_ends"]) (n := 1) (fx := [3]) rfl rfl rfl (by decide +kernel) (pi_listK (K := K) rfl (pv 3)) (gk_name (by decide)) (fun _ _ _ _ _ => ⟨(pg_name (i := 0) (show List.Nodup (["_law_end", "_law_ends"] : List Str) from by decide +kernel) rfl (by first | exact Or.inl rfl | exact Or.inr rfl)), pts_nil, (pe_call G__law_by (hr.mono (by decide)) (by rfl) T.g__law_by T.k__law_by T.b__law_by .nil pass0 (pa_cons (pv 1) (pa_cons (pv 0) pa_nil)))⟩)))
      (pss_one (ps_set (i := 2) sc__law_behind.nd rfl (by first | exact Or.inl rfl | exact Or.inr rfl) (pe_op op_shr (pv 2) pe_int))))))
      (pss_one (ps_ret (pv 1)))))), s_start (σ' := [some _, some _, some _, none]) rfl ?_⟩
    walk_at "l2"
    rw [refs_len]
    refine ⟨by omega, by omega, ?_⟩
    intro D hD
    refine comp_range (fun i ys H' => Cs (fun i ys => ys = ((List.range i).map fun k => M.zs (prs nx) (2 ^ k) 1).map nat) H D i ys H') (Cs.zero hD rfl) (fun i ys H' hi c => ?_) (fun ys H' c => ?_)
    · have hi' : i < nx.length := by omega
      have ei : (0 : Int) + (i : Int) = (i : Int) := Int.zero_add _
      walk_at "l2"
      rw [ei, shl1]
      refine ⟨r, nx, 2 ^ i, rfl, .inl (SqL.of (c.same.get er)), nX.pt.same c.same, by omega, lt16 l16 (Nat.pow_lt_pow_right (by decide) hi'), fun H2 s2 => ?_⟩
      rw [tr_tr2]
      refine Cs.put hD (c.same.trans s2) (s2.get c.at') c.len (by omega) ?_
      rw [c.pv, List.range_succ, List.map_append, List.map_append]; rfl
    · have ec := c.at'
      rw [c.pv, Int.toNat_natCast, ← prs_len nx] at ec
      have ec : H' D = some (.lst ((M.ends (prs nx) 1).map nat)) := ec
      have s' := c.same
      clear c
      have eb : ∀ p : Nat, Builtin.bitAnd (p : Int) 1 = ((p % 2 : Nat) : Int) := fun p => by rw [show (1 : Int) = ((1 : Nat) : Int) from rfl, bitAnd_nat, Nat.and_one_is_mod]
      walk_at "l2"
      refine ⟨fun μ σ' H2 => ∃ (y u : Nat) (De : Addr), σ' = [some (.ref r), some (nat y), some (nat μ), some (.ref De)] ∧ Same H H2 ∧ H2 De = some (.lst ((M.ends (prs nx) u).map nat)) ∧ y < 2 ^ nx.length ∧ M.zs (prs nx) y (u * μ) = M.zs (prs nx) x T', ⟨T', x, 1, D, rfl, s', ec, hx, by rw [Nat.one_mul]⟩, ?_⟩
      rintro μ σ' H2 ⟨y, u, De, rfl, s2, e2, hy, hz⟩
      walk_at "l2"
      by_cases m0 : 0 < μ
      · refine s_ifT (decide_eq_true (by omega)) ?_
        have e3 : (μ : Int) / 2 ^ (1 : Int).toNat = ((μ / 2 : Nat) : Int) := by push_cast; rfl
        refine ⟨fun σ3 H3 => ∃ (y u : Nat) (De : Addr), σ3 = [some (.ref r), some (nat y), some (nat (μ / 2)), some (.ref De)] ∧ Same H H3 ∧ H3 De = some (.lst ((M.ends (prs nx) u).map nat)) ∧ y < 2 ^ nx.length ∧ M.zs (prs nx) y (u * (μ / 2)) = M.zs (prs nx) x T', fun σ3 H3 ⟨y, u, De, h1, h2, h3, h4, h5⟩ => ⟨μ / 2, by omega, y, u, De, h1, h2, h3, h4, h5⟩, ?_⟩
        have le : (M.ends (prs nx) u).length = nx.length := by rw [M.ends_len, prs_len]
        walk_at "l2"
        refine s_cut (fun σ3 H3 => ∃ y, σ3 = [some (.ref r), some (nat y), some (nat μ), some (.ref De)] ∧ Same H2 H3 ∧ y < 2 ^ nx.length ∧ M.zs (prs nx) y ((u + u) * (μ / 2)) = M.zs (prs nx) x T') ?_ ?_
        · have e4 : (u + u) * (μ / 2) = u * (2 * (μ / 2)) := by rw [← Nat.two_mul, Nat.mul_comm 2 u, Nat.mul_assoc]
          walk_at "l2"
          rw [eb]
          by_cases ho : μ % 2 = 1
          · refine s_ifT (decide_eq_true (by rw [ho]; rfl)) ?_
            walk_at "l2"
            refine ⟨De, M.ends (prs nx) u, y, rfl, e2, by omega, fun H3 s3 => ?_⟩
            rw [M.sm_ends _ _ _ (by rw [prs_len]; exact hy)]
            walk_at "l2"
            refine ⟨s3, zs_ltP hy u, ?_⟩
            rw [M.zs_add, e4, show u + u * (2 * (μ / 2)) = u * (1 + 2 * (μ / 2)) by rw [Nat.mul_add, Nat.mul_one], show 1 + 2 * (μ / 2) = μ by omega]
            exact hz
          · refine s_ifF (decide_eq_false fun z => ho (by have := V.int.inj z; omega)) ?_
            walk_at "l2"
            refine ⟨Same.refl _, hy, ?_⟩
            rw [e4, show 2 * (μ / 2) = μ by omega]
            exact hz
        · rintro σ3 H3 ⟨y3, rfl, s3, hy3, hz3⟩
          have e23 := s3.get e2
          walk_at "l2"
          intro D5 hD5
          refine comp_list (xs := (M.ends (prs nx) u).map nat) (fun i ys H5 => Cs (fun i ys => ys = (((M.ends (prs nx) u).take i).map (M.sm (M.ends (prs nx) u))).map nat) H3 D5 i ys H5) (Cs.zero hD5 rfl) (fun i ys H5 _ c => SqL.of (c.same.get e23)) (fun i z ys H5 hx c => ?_) (fun ys H5 c => ?_)
          · obtain ⟨e, he, rfl⟩ := get_map hx
            have hi := (List.getElem?_eq_some_iff.mp he).1
            walk_at "l2"
            refine ⟨De, M.ends (prs nx) u, e, rfl, c.same.get e23, by omega, fun H6 s6 => ?_⟩
            refine Cs.put hD5 (c.same.trans s6) (s6.get c.at') c.len (by omega) ?_
            rw [c.pv, take_succ he, List.map_append, List.map_append]; rfl
          · have e5 := c.at'
            rw [c.pv, List.length_map, List.take_length, M.ends_twice] at e5
            have s5 := c.same
            clear c
            walk_at "l2"
            rw [e3]
            exact ⟨y3, u + u, D5, rfl, s2.trans (s3.trans s5), e5, hy3, hz3⟩
      · have m1 : μ = 0 := by omega
        subst m1
        walk_at "l2"
        rw [Nat.mul_zero] at hz
        have hz : y = M.zs (prs nx) x T' := hz
        rw [hz]
        exact q _ s2
end
section
variable {P : Program} {w : World} {K : PySem.W.Frag} {mg : Str → Option Value} {base : Heap} {a : Ad}
theorem ok__law_primes (T : Tx K mg a) : FnOk P w K mg base CX0 1 a.f__law_primes a.d__law_primes ["_law_number"] sp_primes := by
  refine T.F__law_primes.ok sc__law_primes (fun vs H Q E h => ?_) (fun cdv A outer s H vs Q E hr h => ?_)
  · obtain ⟨n, rfl, _⟩ := h; rfl
  · obtain ⟨n, rfl, h1, h20, q⟩ := h
    refine ⟨_, ((pss_cons (ps_set (i := 1) sc__law_primes.nd rfl (by first | exact Or.inl rfl | exact Or.inr rfl) (pe_lst pa_nil))
      (pss_cons (ps_set (i := 2) sc__law_primes.nd rfl (by first | exact Or.inl rfl | exact Or.inr rfl) pe_int)
      (pss_cons (ps_while PassesOwn.never (pt_cmpR op_le (pe_op op_mul (pv 2) (pv 2)) (pv 0) (nomark _)) (pss_cut (ps_if (pt_cmpR op_eq (pe_op op_mod (pv 0) (pv 2)) pe_int (nomark _)) (pss_one (ps_expr (pe_bmK (K := K) rfl PySem.F.plainAttrs_list PySem.F.slot_list_append PySem.F.type_list_append mt_append (pv 1) (pa_cons (pv 2) pa_nil)))) pss_nil)
      (pss_cons (ps_while PassesOwn.never (pt_cmpR op_eq (pe_op op_mod (pv 0) (pv 2)) pe_int (nomark _)) (pss_one (ps_set (i := 0) sc__law_primes.nd rfl (by first | exact Or.inl rfl | exact Or.inr rfl) (pe_op op_fdiv (pv 0) (pv 2)))))
      (pss_one (ps_set (i := 2) sc__law_primes.nd rfl (by first | exact Or.inl rfl | exact Or.inr rfl) (pe_op op_add (pv 2) pe_int))))))
      (pss_one (ps_ret (pe_op op_cat (pv 1) (pe_op op_rep (pe_lst (pa_cons (pv 0) pa_nil)) (pe_callTy call_int1 (by rfl) T.n_int PyProof.Rows.boot_int (pa_cons (pe_cmpR op_gt (pv 0) pe_int (nomark _)) pa_nil)))))))))), s_start (σ' := [some _, none, none]) rfl ?_⟩
    walk_at "l2"
    intro D H1 f1 s1 e1
    walk_at "l2"
    refine ⟨fun μ σ' H' => ∃ m o ps, σ' = [some (nat m), some (.ref D), some (nat o)] ∧ (∀ b o, b ≠ D → H1 b = some o → H' b = some o) ∧ H' D = some (.lst (ps.map nat)) ∧ 1 ≤ m ∧ m ∣ n ∧ 2 ≤ o ∧ (∀ p ∈ ps, 2 ≤ p ∧ p ∣ n) ∧ ps.length ≤ o ∧ o ≤ n + 2 ∧ μ = m + 1 - o, ⟨n + 1 - 2, n, 2, [], rfl, fun b o _ e => e, e1, h1, Nat.dvd_refl n, Nat.le_refl _, fun _ h => absurd h (by simp), Nat.zero_le _, by omega, rfl⟩, ?_⟩
    rintro μ σ' H' ⟨m, o, ps, rfl, k, eD, hm, hmn, ho, hps, hl, hon, rfl⟩
    have hmle := Nat.le_of_dvd (by omega) hmn
    walk_at "l2"
    by_cases hc : o * o ≤ m
    · have hom : o ≤ m := Nat.le_trans (Nat.le_mul_of_pos_left o (by omega)) hc
      refine s_ifT (decide_eq_true (by have : ((o * o : Nat) : Int) ≤ (m : Int) := Int.ofNat_le.mpr hc; push_cast at this; exact this)) ?_
      refine ⟨fun σ2 H2 => ∃ (m' : Nat) (ps : List Nat), σ2 = [some (nat m'), some (.ref D), some (nat (o + 1))] ∧ (∀ b o, b ≠ D → H1 b = some o → H2 b = some o) ∧ H2 D = some (.lst (ps.map nat)) ∧ 1 ≤ m' ∧ m' ∣ n ∧ (∀ p ∈ ps, 2 ≤ p ∧ p ∣ n) ∧ ps.length ≤ o + 1 ∧ m' ≤ m, fun σ2 H2 ⟨m', ps, h1, h2, h3, h4, h5, h6, h7, h8⟩ => ⟨m' + 1 - (o + 1), by omega, m', o + 1, ps, h1, h2, h3, h4, h5, by omega, h6, h7, by omega, rfl⟩, ?_⟩
      have hmod : (m : Int) % (o : Int) = ((m % o : Nat) : Int) := by push_cast; rfl
      refine s_cut (fun σ2 H2 => ∃ ps : List Nat, σ2 = [some (nat m), some (.ref D), some (nat o)] ∧ (∀ b o, b ≠ D → H1 b = some o → H2 b = some o) ∧ H2 D = some (.lst (ps.map nat)) ∧ (∀ p ∈ ps, 2 ≤ p ∧ p ∣ n) ∧ ps.length ≤ o + 1) ?_ ?_
      · walk_at "l2"
        rw [hmod]
        by_cases hz : m % o = 0
        · refine s_ifT (decide_eq_true (by rw [hz]; rfl)) ?_
          walk_at "l2"
          refine s_append eD (by rw [List.length_map]; exact Nat.lt_of_le_of_lt hl (by rw [sizeLine_eq]; omega)) fun H2 u2 => ?_
          walk_at "l2"
          refine ⟨ps ++ [o], rfl, fun b ob nb e => u2.oth _ _ nb (k b ob nb e), by rw [u2.at', List.map_append]; rfl, fun p hp => ?_, by rw [List.length_append]; simp; omega⟩
          rcases List.mem_append.mp hp with hp | hp
          · exact hps p hp
          · rw [List.mem_singleton] at hp; subst hp
            exact ⟨ho, Nat.dvd_trans (Nat.dvd_of_mod_eq_zero hz) hmn⟩
        · refine s_ifF (decide_eq_false fun z => hz (by have := V.int.inj z; omega)) ?_
          walk_at "l2"
          exact ⟨ps, rfl, k, eD, hps, by omega⟩
      · rintro σ2 H2 ⟨ps, rfl, k, eD, hps, hl⟩
        walk_at "l2"
        refine ⟨fun ν σ3 H3 => σ3 = [some (nat ν), some (.ref D), some (nat o)] ∧ H3 = H2 ∧ 1 ≤ ν ∧ ν ∣ n ∧ ν ≤ m, ⟨m, rfl, rfl, hm, hmn, Nat.le_refl _⟩, ?_⟩
        rintro ν σ3 H3 ⟨rfl, rfl, hν, hνn, hνm⟩
        have hmod : (ν : Int) % (o : Int) = ((ν % o : Nat) : Int) := by push_cast; rfl
        have hdiv : (ν : Int) / (o : Int) = ((ν / o : Nat) : Int) := by push_cast; rfl
        walk_at "l2"
        rw [hmod]
        by_cases hz : ν % o = 0
        · refine s_ifT (decide_eq_true (by rw [hz]; rfl)) ?_
          have hdv := Nat.dvd_of_mod_eq_zero hz
          refine ⟨fun σ4 H4 => ∃ ν', σ4 = [some (nat ν'), some (.ref D), some (nat o)] ∧ H4 = H3 ∧ 1 ≤ ν' ∧ ν' ∣ n ∧ ν' < ν ∧ ν' ≤ m, fun σ4 H4 ⟨ν', h1, h2, h3, h4, h5, h6⟩ => ⟨ν', h5, h1, h2, h3, h4, h6⟩, ?_⟩
          walk_at "l2"
          have hlt := Nat.div_lt_self hν (show 1 < o by omega)
          exact ⟨Nat.div_pos (Nat.le_of_dvd hν hdv) (by omega), Nat.dvd_trans (Nat.div_dvd_of_dvd hdv) hνn, hlt, (show ν / o ≤ m by omega)⟩
        · refine s_ifF (decide_eq_false fun z => hz (by have := V.int.inj z; omega)) ?_
          walk_at "l2"
          exact ⟨ν, ps, rfl, k, eD, hν, hνn, hps, hl, hνm⟩
    · refine s_ifF (decide_eq_false fun z => hc (by have : ((o * o : Nat) : Int) ≤ (m : Int) := by push_cast; exact z
                                                    exact Int.ofNat_le.mp this)) ?_
      walk_at "l2"
      intro D2 H2 f2 s2 e2
      walk_at "l2"
      by_cases hm1 : 1 < m
      · rw [decide_eq_true (show (1 : Int) < (m : Int) by omega)]
        refine s_rep (k := 1) e2 (by decide) (by decide) (by rw [sizeLine_eq]; exact Nat.le_of_ble_eq_true rfl) fun D3 H3 f3 s3 e3 => ?_
        refine s_cat (s3.get (s2.get eD)) e3 (by rw [List.length_map]; simp only [List.length_append, List.length_flatten]; rw [sizeLine_eq]; simp; omega) fun D4 H4 f4 s4 e4 => ?_
        have sH : Same H H4 := fun b ob e => s4.get (s3.get (s2.get (k b ob (ne_of_none e f1) (s1.get e))))
        have s03 : Same H H3 := fun b ob e => s3.get (s2.get (k b ob (ne_of_none e f1) (s1.get e)))
        refine q D4 H4 (ps ++ [m]) (s03.free f4) sH (by rw [e4, List.map_append]; rfl) fun p hp => ?_
        · rcases List.mem_append.mp hp with hp | hp
          · exact hps p hp
          · rw [List.mem_singleton] at hp; subst hp; exact ⟨hm1, hmn⟩
      · rw [decide_eq_false (show ¬ (1 : Int) < (m : Int) by omega)]
        refine s_rep (k := 0) e2 (by decide) (by decide) (by rw [sizeLine_eq]; exact Nat.le_of_ble_eq_true rfl) fun D3 H3 f3 s3 e3 => ?_
        refine s_cat (s3.get (s2.get eD)) e3 (by rw [List.length_map]; simp; rw [sizeLine_eq]; omega) fun D4 H4 f4 s4 e4 => ?_
        have sH : Same H H4 := fun b ob e => s4.get (s3.get (s2.get (k b ob (ne_of_none e f1) (s1.get e))))
        have s03 : Same H H3 := fun b ob e => s3.get (s2.get (k b ob (ne_of_none e f1) (s1.get e)))
        refine q D4 H4 ps (s03.free f4) sH (by rw [e4]; simp) hps
theorem ok__law_walked (T : Tx K mg a) : FnOk P w K mg base CX0 3 a.f__law_walked a.d__law_walked ["_law_nexts", "_law_state", "_law_length"] sp_lwalked81 := by
  have G__law_turn := ok__law_turn (P := P) (w := w) (base := base) T
  refine T.F__law_walked.ok sc__law_walked (fun vs H Q E h => ?_) (fun cdv A outer s H vs Q E hr h => ?_)
  · obtain ⟨r, nx, x, n, rfl, _⟩ := h; rfl
  · obtain ⟨r, nx, x, n, rfl, nX, hx, h1, hn, hb, hl, q⟩ := h
    have er := nX.r
    have l16 := nX.ln
    refine ⟨_, ((pss_cons (ps_set (i := 3) sc__law_walked.nd rfl (by first | exact Or.inl rfl | exact Or.inr rfl) (pe_call G__law_turn (hr.mono (by decide)) (by rfl) T.g__law_turn T.k__law_turn T.b__law_turn .nil pass0 (pa_cons (pv 0) (pa_cons (pv 1) pa_nil))))
      (pss_cons (ps_set (i := 4) sc__law_walked.nd rfl (by first | exact Or.inl rfl | exact Or.inr rfl) pe_int)
      (pss_cons (ps_while PassesOwn.never (PW.pt (pw_and (pt_cmpR op_ne (pv 3) (pv 1) (nomark _)) (pw_and1 (pt_cmpR op_le (pv 4) (pv 2) (nomark _))))) (pss_cons (ps_set (i := 3) sc__law_walked.nd rfl (by first | exact Or.inl rfl | exact Or.inr rfl) (pe_call G__law_turn (hr.mono (by decide)) (by rfl) T.g__law_turn T.k__law_turn T.b__law_turn .nil pass0 (pa_cons (pv 0) (pa_cons (pv 3) pa_nil))))
      (pss_one (ps_set (i := 4) sc__law_walked.nd rfl (by first | exact Or.inl rfl | exact Or.inr rfl) (pe_op op_add (pv 4) pe_int)))))
      (pss_one (ps_ret (pe_cmpR op_eq (pv 4) (pv 2) (nomark _)))))))), s_start (σ' := [some _, some _, some _, none, none]) rfl ?_⟩
    walk_at "l2"
    refine ⟨r, nx, x, rfl, .inl (SqL.of er), nX.pt, by omega, lt16 l16 hx, fun H1 s1 => ?_⟩
    rw [tr_tr2]
    walk_at "l2"
    refine ⟨fun μ σ' H' => ∃ k : Nat, σ' = [some (.ref r), some (nat x), some (nat n), some (nat (M.zs (prs nx) x k)), some (nat k)] ∧ Same H H' ∧ 1 ≤ k ∧ k ≤ n ∧ μ = n - k, ⟨n - 1, 1, rfl, s1, Nat.le_refl _, h1, rfl⟩, ?_⟩
    rintro μ σ' H' ⟨k, rfl, s', k1, kn, rfl⟩
    walk_at "l2"
    by_cases hk : k = n
    · subst hk
      refine s_ifF ?_ ?_
      · rw [hb]; simp
      · walk_at "l2"
        rw [decide_eq_true (show nat k = nat k from rfl)]
        exact q _ s'
    · have hne := hl k k1 (by omega)
      refine s_ifT ?_ ?_
      · rw [decide_eq_false fun h => hne (nat_inj h)]; rfl
      walk_at "l2"
      refine s_ifT (decide_eq_true (by omega)) ?_
      refine ⟨fun σ2 H2 => σ2 = [some (.ref r), some (nat x), some (nat n), some (nat (M.zs (prs nx) x (k + 1))), some (nat (k + 1))] ∧ Same H H2, fun σ2 H2 ⟨e1, e2⟩ => ⟨n - (k + 1), by omega, k + 1, e1, e2, by omega, by omega, rfl⟩, ?_⟩
      walk_at "l2"
      refine ⟨r, nx, M.zs (prs nx) x k, rfl, .inl (SqL.of (s'.get er)), nX.pt.same s', by omega, lt16 l16 (zs_ltP hx k), fun H2 s2 => ?_⟩
      rw [tr_tr2]
      walk_at "l2"
      trace_state
      exact s'.trans s2
end
section
variable {P : Program} {w : World} {K : PySem.W.Frag} {mg : Str → Option Value} {base : Heap} {a : Ad}
local macro_rules | `(tactic| walk_at "l2step") => `(tactic| first | ((with_reducible refine' c_whole ?e ?_); (case e => walk_at "l2kind")) | ((with_reducible refine' c_mask ?e ?_); (case e => walk_at "l2kind")) | (with_reducible refine s_iEnumT ?_) | (with_reducible refine s_methX ?_))
theorem ok__law_refused (T : Tx K mg a) : FnOk P w K mg base CX0 9 a.f__law_refused a.d__law_refused ["_law_machine_here", "_law_thing"] (sp_lrefu81 K a.c_Machine) := by
  have G_ring_of := ok_ring_of (P := P) (w := w) (base := base) T
  refine T.F__law_refused.ok sc__law_refused (fun vs H Q E h => ?_) (fun cdv A outer s H vs Q E hr h => ?_)
  · obtain ⟨p, m, nx, os, x, k, rfl, _⟩ := h; rfl
  · obtain ⟨p, m, nx, os, x, k, rfl, ma, g, l16, hk, hb, q⟩ := h
    refine ⟨_, ((pss_cons (ps_set (i := 2) sc__law_refused.nd rfl (by first | exact Or.inl rfl | exact Or.inr rfl) pe_bl)
      (pss_cons (ps_try0 ⟨rfl, rfl⟩ thr0 T.h_BadMask (by rfl) T.g_BadMask (fun _ _ => (pss_one (ps_expr (pe_callX G_ring_of (hr.mono (by decide)) (by rfl) T.g_ring_of T.k_ring_of T.b_ring_of .nil thr_self (pa_cons (pv 0) (pa_cons (pv 1) pa_nil)))))) (fun _ _ => (pss_one (ps_set (i := 2) sc__law_refused.nd rfl (by first | exact Or.inl rfl | exact Or.inr rfl) pe_bl))))
      (pss_one (ps_ret (pv 2)))))), s_start (σ' := [some _, some _, none]) rfl ?_⟩
    walk_at "l2"
    refine ⟨p, m, nx, os, x, k, rfl, ma, g, l16, hk, fun d ed hd => ?_, fun _ => ?_⟩
    · subst ed
      rw [maskB_nat hd] at hb; cases hb
    · refine s_caught0 T.r_BadMask_BadMask ?_
      walk_at "l2"
      exact q _ (Same.refl _)
theorem ok__law_right (T : Tx K mg a) : FnOk P w K mg base CX0 9 a.f__law_right a.d__law_right ["_law_machine_here", "_law_nexts", "_law_state"] (sp_lright81 a.c_Machine) := by
  have G_ring_of := ok_ring_of (P := P) (w := w) (base := base) T
  have G__law_behind := ok__law_behind (P := P) (w := w) (base := base) T
  have G__law_primes := ok__law_primes (P := P) (w := w) (base := base) T
  have G__law_walked := ok__law_walked (P := P) (w := w) (base := base) T
  refine T.F__law_right.ok sc__law_right (fun vs H Q E h => ?_) (fun cdv A outer s H vs Q E hr h => ?_)
  · obtain ⟨p, r, m, nx, os, x, rfl, _⟩ := h; rfl
  · obtain ⟨p, r, m, nx, os, x, rfl, ma, g, nX, hx, q⟩ := h
    refine ⟨_, ((pss_cons (ps_set (i := 3) sc__law_right.nd rfl (by first | exact Or.inl rfl | exact Or.inr rfl) (pe_callX G_ring_of (hr.mono (by decide)) (by rfl) T.g_ring_of T.k_ring_of T.b_ring_of .nil thr0 (pa_cons (pv 0) (pa_cons (pv 2) pa_nil))))
      (pss_cons (ps_if (PW.pt (pw_or (pt_not (pt_val (pe_callB (call_isiK (K := K) rfl) (by rfl) T.n_isinstance PyProof.Rows.boot_isinstance (pa_cons (pv 3) (pa_cons (pe_bltn (v := .ty "tuple") (by rfl) T.n_tuple PyProof.Rows.boot_tuple rfl) pa_nil))))) (pw_or1 (pt_cmpR op_ne (pe_callB (call_lenK (K := K) rfl) (by rfl) T.n_len PySem.boot_len (pa_cons (pv 3) pa_nil)) pe_int (nomark _))))) (pss_one (ps_ret pe_bl)) pss_nil)
      (pss_cons (ps_asg (pv 3) (pg_tup rfl (pgs_cons (pg_name (i := 4) sc__law_right.nd rfl (by first | exact Or.inl rfl | exact Or.inr rfl)) (pgs_cons (pg_name (i := 5) sc__law_right.nd rfl (by first | exact Or.inl rfl | exact Or.inr rfl)) pgs_nil))))
      (pss_cons (ps_for PassesOwn.never rfl (pi_tupK (K := K) rfl (pv 3)) (pg_name (i := 6) sc__law_right.nd rfl (by first | exact Or.inl rfl | exact Or.inr rfl)) (pss_one (ps_if (PW.pt (pw_or (pt_not (pt_val (pe_callB (call_isiK (K := K) rfl) (by rfl) T.n_isinstance PyProof.Rows.boot_isinstance (pa_cons (pv 6) (pa_cons (pe_bltn (v := .ty "int") (by rfl) T.n_int PyProof.Rows.boot_int rfl) pa_nil))))) (pw_or1 (pt_val (pe_callB (call_isiK (K := K) rfl) (by rfl) T.n_isinstance PyProof.Rows.boot_isinstance (pa_cons (pv 6) (pa_cons (pe_bltn (v := .ty "bool") (by rfl) T.n_bool PyProof.Rows.boot_bool rfl) pa_nil))))))) (pss_one (ps_ret pe_bl)) pss_nil)))
      (pss_cons (ps_if (PW.pt (pw_or (pt_not (pt_chain op_le op_le pe_int (pv 4) (pe_callB (call_lenK (K := K) rfl) (by rfl) T.n_len PySem.boot_len (pa_cons (pv 1) pa_nil)))) (pw_or1 (pt_not (pt_chain op_le op_le pe_int (pv 5) pe_int))))) (pss_one (ps_ret pe_bl)) pss_nil)
      (pss_cons (ps_set (i := 7) sc__law_right.nd rfl (by first | exact Or.inl rfl | exact Or.inr rfl) (pe_call G__law_behind (hr.mono (by decide)) (by rfl) T.g__law_behind T.k__law_behind T.b__law_behind .nil pass0 (pa_cons (pv 1) (pa_cons (pv 2) (pa_cons (pv 4) pa_nil)))))
      (pss_cons (ps_if (pt_cmpR op_ne (pe_call G__law_behind (hr.mono (by decide)) (by rfl) T.g__law_behind T.k__law_behind T.b__law_behind .nil pass0 (pa_cons (pv 1) (pa_cons (pv 7) (pa_cons (pv 5) pa_nil)))) (pv 7) (nomark _)) (pss_one (ps_ret pe_bl)) pss_nil)
      (pss_cons (ps_for PassesOwn.never rfl (pi_listK (K := K) rfl (pe_call G__law_primes (hr.mono (by decide)) (by rfl) T.g__law_primes T.k__law_primes T.b__law_primes .nil pass0 (pa_cons (pv 5) pa_nil))) (pg_name (i := 8) sc__law_right.nd rfl (by first | exact Or.inl rfl | exact Or.inr rfl)) (pss_one (ps_if (pt_cmpR op_eq (pe_call G__law_behind (hr.mono (by decide)) (by rfl) T.g__law_behind T.k__law_behind T.b__law_behind .nil pass0 (pa_cons (pv 1) (pa_cons (pv 7) (pa_cons (pe_op op_fdiv (pv 5) (pv 8)) pa_nil)))) (pv 7) (nomark _)) (pss_one (ps_ret pe_bl)) pss_nil)))
      (pss_cut (ps_if (pt_cmpR op_gt (pv 4) pe_int (nomark _)) (pss_cons (ps_set (i := 9) sc__law_right.nd rfl (by first | exact Or.inl rfl | exact Or.inr rfl) (pe_call G__law_behind (hr.mono (by decide)) (by rfl) T.g__law_behind T.k__law_behind T.b__law_behind .nil pass0 (pa_cons (pv 1) (pa_cons (pv 2) (pa_cons (pe_op op_sub (pv 4) pe_int) pa_nil)))))
      (pss_one (ps_if (pt_cmpR op_eq (pe_call G__law_behind (hr.mono (by decide)) (by rfl) T.g__law_behind T.k__law_behind T.b__law_behind .nil pass0 (pa_cons (pv 1) (pa_cons (pv 9) (pa_cons (pv 5) pa_nil)))) (pv 9) (nomark _)) (pss_one (ps_ret pe_bl)) pss_nil))) pss_nil)
      (pss_one (ps_ret (pe_or (pe_cmpR op_gt (pv 5) pe_int (nomark _)) (pe_one (pe_call G__law_walked (hr.mono (by decide)) (by rfl) T.g__law_walked T.k__law_walked T.b__law_walked .nil pass0 (pa_cons (pv 1) (pa_cons (pv 7) (pa_cons (pv 5) pa_nil)))))))))))))))))), s_start (σ' := [some _, some _, some _, none, none, none, none, none, none, none]) rfl ?_⟩
    walk_at "l2"
    refine ⟨p, m, nx, os, nat x, "int", rfl, ma, g, nX.ln, rfl, fun d ed hd t H1 l n s1 e1 rg ll nl => ?_, fun bad => ?_⟩
    rotate_left
    · rw [maskB_nat hx] at bad; cases bad
    have ed := nat_inj ed
    subst ed
    have nX1 := nX.same s1
    have er1 := nX1.r
    have hpos := rg.pos
    have l16 := nX.ln
    walk_at "l2"
    refine for_tup (xs := [nat l, nat n]) (fun i σ H' => ∃ v, σ = [some (V.ref p), some (V.ref r), some (nat x), some (V.ref t), some (nat l), some (nat n), v, none, none, none] ∧ H' = H1) ⟨none, rfl, rfl⟩ (fun i σ H' _ ⟨_, _, e⟩ => by rw [e]; exact SqT.of e1) ?_ ?_
    · rintro i y σ H' hy ⟨v, rfl, rfl⟩
      have hy' : ∃ k : Nat, y = nat k := by
        have := List.mem_of_getElem? hy
        simp only [List.mem_cons, List.not_mem_nil, or_false] at this
        rcases this with rfl | rfl
        · exact ⟨l, rfl⟩
        · exact ⟨n, rfl⟩
      obtain ⟨k, rfl⟩ := hy'
      walk_at "l2"
      rfl
    · rintro σ H' ⟨v, rfl, rfl⟩
      have hln : decide ((l : Int) ≤ (nx.length : Int)) = true := decide_eq_true (by omega)
      have hn1 : decide ((1 : Int) ≤ (n : Int)) = true := decide_eq_true (by omega)
      have hn2 : decide ((n : Int) ≤ 65535) = true := decide_eq_true (by omega)
      walk_at "l2"
      rw [refs_len, hln]
      walk_at "l2"
      rw [hn2]
      walk_at "l2"
      refine ⟨r, nx, x, l, rfl, nX1, hx, by omega, fun H2 s2 => ?_⟩
      have nX2 := nX1.same s2
      have hy := zs_ltP hx l
      walk_at "l2"
      refine ⟨r, nx, M.zs (prs nx) x l, n, rfl, nX2, hy, nl, fun H3 s3 => ?_⟩
      rw [M.zs_add, rg.back]
      have nX3 := nX2.same s3
      walk_at "l2"
      refine s_ifF (by simp) ?_
      walk_at "l2"
      refine ⟨n, rfl, hpos, by omega, fun D H4 ps f4 s4 e4 hps => ?_⟩
      walk_at "l2"
      have s14 := s2.trans (s3.trans s4)
      refine for_list (xs := ps.map nat) (fun i σ H' => ∃ v', σ = [some (V.ref p), some (V.ref r), some (nat x), some (V.ref t), some (nat l), some (nat n), v, some (nat (M.zs (prs nx) x l)), v', none] ∧ Same H4 H') ⟨none, rfl, Same.refl _⟩ (fun i σ H' _ ⟨_, _, s'⟩ => SqL.of (s'.get e4)) ?_ ?_
      · rintro i y σ H' hy' ⟨v', rfl, s'⟩
        obtain ⟨pr, hpr, rfl⟩ := get_map hy'
        obtain ⟨p2, pd⟩ := hps pr (List.mem_of_getElem? hpr)
        have pn : pr ≤ n := Nat.le_of_dvd hpos pd
        have pz : (0 : Int) < (pr : Int) := by omega
        have p30 : (pr : Int) < 1073741824 := by omega
        have ed : (n : Int) / (pr : Int) = ((n / pr : Nat) : Int) := (Int.natCast_ediv n pr).symm
        have q1 : 1 ≤ n / pr := Nat.div_pos (Nat.le_of_dvd hpos pd) (by omega)
        have q2 : n / pr < n := Nat.div_lt_self hpos p2
        walk_at "l2"
        rw [ed]
        refine ⟨r, nx, M.zs (prs nx) x l, n / pr, rfl, nX3.same (s4.trans s'), hy, by omega, fun H5 s5 => ?_⟩
        rw [M.zs_add]
        have hne := rg.least _ q1 q2
        walk_at "l2"
        refine s_ifF (decide_eq_false fun z => hne (nat_inj z)) ?_
        walk_at "l2"
        exact s'.trans s5
      · rintro σ H' ⟨v', rfl, s'⟩
        have s1' := s14.trans s'
        walk_at "l2"
        refine s_cut (fun σ H5 => ∃ v9, σ = [some (V.ref p), some (V.ref r), some (nat x), some (V.ref t), some (nat l), some (nat n), v, some (nat (M.zs (prs nx) x l)), v', v9] ∧ Same H' H5) ?_ ?_
        · walk_at "l2"
          by_cases h0 : 0 < l
          · refine s_ifT (decide_eq_true (by omega)) ?_
            have e1 : (l : Int) - 1 = ((l - 1 : Nat) : Int) := by omega
            walk_at "l2"
            rw [e1]
            refine ⟨r, nx, x, l - 1, rfl, nX1.same s1', hx, by omega, fun H5 s5 => ?_⟩
            walk_at "l2"
            refine ⟨r, nx, M.zs (prs nx) x (l - 1), n, rfl, (nX1.same s1').same s5, zs_ltP hx _, nl, fun H6 s6 => ?_⟩
            rw [M.zs_add]
            have hne := rg.early h0
            walk_at "l2"
            refine s_ifF (decide_eq_false fun z => hne (nat_inj z)) ?_
            walk_at "l2"
            exact s5.trans s6
          · refine s_ifF (decide_eq_false (by omega)) ?_
            walk_at "l2"
            exact Same.refl _
        · rintro σ H5 ⟨v9, rfl, s5⟩
          walk_at "l2"
          by_cases h40 : 40 < n
          · rw [decide_eq_true (show (40 : Int) < (n : Int) by omega)]
            walk_at "l2"
            exact q _ (s1.trans (s1'.trans s5))
          · rw [decide_eq_false (show ¬ (40 : Int) < (n : Int) by omega)]
            walk_at "l2"
            refine ⟨r, nx, M.zs (prs nx) x l, n, rfl, (nX1.same s1').same s5, hy, hpos, nl, by rw [M.zs_add]; exact rg.back, fun e a b => by rw [M.zs_add]; exact rg.least e a b, fun H6 s6 => ?_⟩
            walk_at "l2"
            exact q _ (s1.trans (s1'.trans (s5.trans s6)))
end
local macro_rules | `(tactic| walk_at "l2step") => `(tactic| first | ((with_reducible refine' c_cell2 ?e ?a ?_); (case e => walk_at "l2hp"); (case a => walk_at "l2side")) | ((with_reducible refine' c_mix ?a ?b ?_); (case a => walk_at "l2side"); (case b => walk_at "l2side"); (with_reducible intro _ _)))
section
variable {P : Program} {w : World} {K : PySem.W.Frag} {mg : Str → Option Value} {base : Heap} {a : Ad}
local macro_rules | `(tactic| walk_at "l2step") => `(tactic| first | ((with_reducible refine' c_whole ?e ?_); (case e => walk_at "l2kind")) | ((with_reducible refine' c_mask ?e ?_); (case e => walk_at "l2kind")) | (with_reducible refine s_iEnumT ?_) | (with_reducible refine s_methX ?_))
theorem ok_law (T : Tx K mg a) : FnOk P w K mg base CX0 10 a.f_law a.d_law ["_law_script"] (sp_law K) := by
  have G__law_cell := ok__law_cell (P := P) (w := w) (base := base) T
  have G__law_mix := ok__law_mix (P := P) (w := w) (base := base) T
  have G__law_machine := ok__law_machine (P := P) (w := w) (base := base) T
  have G__law_right := ok__law_right (P := P) (w := w) (base := base) T
  have G__law_refused := ok__law_refused (P := P) (w := w) (base := base) T
  have G_Machine___init__ := ok_Machine___init__ (P := P) (w := w) (base := base) T
  refine T.F_law.ok sc_law (fun vs H Q E h => ?_) (fun cdv A outer s H vs Q E hr h => ?_)
  · obtain ⟨p, ns, rfl, _⟩ := h; rfl
  · obtain ⟨p0, ns, rfl, hS, hlen, q⟩ := h
    refine ⟨_, ((pss_cons (ps_asg (pe_call G__law_machine (hr.mono (by decide)) (by rfl) T.g__law_machine T.k__law_machine T.b__law_machine .nil pass0 (pa_cons (pv 0) (pa_cons pe_int (pa_cons pe_int pa_nil)))) (pg_tup rfl (pgs_cons (pg_name (i := 1) sc_law.nd rfl (by first | exact Or.inl rfl | exact Or.inr rfl)) (pgs_cons (pg_name (i := 2) sc_law.nd rfl (by first | exact Or.inl rfl | exact Or.inr rfl)) (pgs_cons (pg_name (i := 3) sc_law.nd rfl (by first | exact Or.inl rfl | exact Or.inr rfl)) pgs_nil)))))
      (pss_cons (ps_set (i := 4) sc_law.nd rfl (by first | exact Or.inl rfl | exact Or.inr rfl) (pe_make T.M_Machine G_Machine___init__ (hr.mono (by decide)) (by rfl) T.g_Machine T.b_Machine___init__ .nil pass0 (pa_cons (pv 1) (pa_cons (pv 2) (pa_cons (pv 3) pa_nil)))))
      (pss_cons (ps_set (i := 5) sc_law.nd rfl (by first | exact Or.inl rfl | exact Or.inr rfl) (pe_op op_shl pe_int (pe_callB (call_lenK (K := K) rfl) (by rfl) T.n_len PySem.boot_len (pa_cons (pv 2) pa_nil))))
      (pss_cons (ps_for PassesOwn.never rfl (pi_listK (K := K) rfl (pe_op op_cat (pe_slice (sl_listK (K := K) rfl) (pv 0) (po_some pe_int) (po_some pe_int)) (pe_lst (pa_cons (pe_call G__law_mix (hr.mono (by decide)) (by rfl) T.g__law_mix T.k__law_mix T.b__law_mix .nil pass0 (pa_cons (pe_call G__law_cell (hr.mono (by decide)) (by rfl) T.g__law_cell T.k__law_cell T.b__law_cell .nil pass0 (pa_cons (pv 0) (pa_cons pe_int pa_nil))) (pa_cons pe_int pa_nil))) pa_nil)))) (pg_name (i := 6) sc_law.nd rfl (by first | exact Or.inl rfl | exact Or.inr rfl)) (pss_cons (ps_if (pt_not (pt_val (pe_call G__law_right (hr.mono (by decide)) (by rfl) T.g__law_right T.k__law_right T.b__law_right .nil pass0 (pa_cons (pv 4) (pa_cons (pv 2) (pa_cons (pe_op op_mod (pv 6) (pv 5)) pa_nil)))))) (pss_one (ps_ret pe_bl)) pss_nil)
      (pss_one (ps_if (pt_not (pt_val (pe_call G__law_refused (hr.mono (by decide)) (by rfl) T.g__law_refused T.k__law_refused T.b__law_refused .nil pass0 (pa_cons (pv 4) (pa_cons (pe_ix (ix_listK (K := K) rfl) (pe_lst (pa_cons (pe_op op_sub (pe_un un_neg pe_int) (pe_op op_mod (pv 6) pe_int)) (pa_cons (pe_op op_add (pv 5) (pe_op op_mod (pv 6) (pe_op op_pow pe_int pe_int))) (pa_cons pe_bl (pa_cons pe_non (pa_cons pe_str pa_nil)))))) (pe_op op_mod (pv 6) pe_int) (fun _ _ => rfl)) pa_nil))))) (pss_one (ps_ret pe_bl)) pss_nil))))
      (pss_one (ps_ret (pe_call G__law_right (hr.mono (by decide)) (by rfl) T.g__law_right T.k__law_right T.b__law_right .nil pass0 (pa_cons (pv 4) (pa_cons (pv 2) (pa_cons pe_int pa_nil))))))))))), s_start (σ' := [some _, none, none, none, none, none, none]) rfl ?_⟩
    walk_at "l2"
    refine ⟨p0, ns, 0, 6, rfl, hS, by decide, by decide, fun t n o H1 m nx os s1 fn fo tt hl => ?_⟩
    have hS1 := Same.seq s1 hS
    have e0 := tt.t
    have en := tt.tab.n
    have eo := tt.tab.o
    have m6 := tt.tab.m6
    have g := tt.tab.g
    walk_at "l2"
    intro x dx H4 f4 s4 e4
    refine ⟨x, dx, n, o, m, nx, os, rfl, e4, tt.tab.same s4, fun H5 k ma => ⟨rfl, ?_⟩⟩
    have s15 : Same H1 H5 := fun b ob e => k b ob (ne_of_none e f4) (s4.get e)
    have nX5 : Nx H5 n nx := ⟨s15.get en, tt.tab.pn.same s15, hl⟩
    have hS5 := Same.seq s15 hS1
    have en5 := nX5.r
    clear k s15 e4 s4 f4 eo en e0 tt hS1 s1 fn fo
    walk_at "l2"
    rw [refs_len]
    have hp0 := Nat.two_pow_pos nx.length
    walk_at "l2"
    rw [shl1]
    intro Da Ha fa sa ea
    obtain ⟨cs, ecs, lc⟩ := cut_ints ns (some 5) (some 11)
    rw [ecs] at ea
    have hSa := Same.seq sa hS5
    walk_at "l2"
    rename_i r9 hr9
    clear hr9
    intro Db Hb fb sb eb
    refine s_cat (sb.get ea) eb (by rw [List.length_map, sizeLine_eq]; simp; omega) fun Dc Hc fc sc ec => ?_
    rw [show cs.map V.int ++ [nat r9] = (cs ++ [(r9 : Int)]).map V.int from by rw [List.map_append]; rfl] at ec
    generalize cs ++ [(r9 : Int)] = cells at ec
    have s5c := sa.trans (sb.trans sc)
    have mac := ma.same s5c
    have nXc := nX5.same s5c
    clear ea eb fa fb fc sa sb sc ecs lc hSa nX5 en5 hS5 s5c ma
    walk_at "l2"
    refine for_list (xs := cells.map V.int) (fun i σ H' => ∃ v, σ = [some (.ref p0), some (nat m), some (.ref n), some (.ref o), some (.ref x), some (nat (2 ^ nx.length)), v] ∧ Same Hc H') ⟨none, rfl, Same.refl _⟩ (fun i σ H' _ ⟨_, _, s'⟩ => SqL.of (s'.get ec)) ?_ ?_
    · rintro i y σ H' hy ⟨v, rfl, s'⟩
      obtain ⟨c, hc, rfl⟩ := get_map hy
      obtain ⟨d, ed, ld⟩ := emod_nat (c := c) (m := ((2 ^ nx.length : Nat) : Int)) (by omega)
      walk_at "l2"
      rw [ed]
      refine ⟨x, n, m, nx, os, d, rfl, mac.same s', g, nXc.same s', by omega, fun H2 s2 => ?_⟩
      have p30 : (0 : Int) < 10 ^ (30 : Int).toNat := by decide
      have hf0 := Int.emod_nonneg c (Int.ne_of_gt p30)
      have h99 := Int.emod_nonneg c (show (99 : Int) ≠ 0 by decide)
      walk_at "l2"
      intro L3 H3 f3 s3 e3
      generalize c % 10 ^ (30 : Int).toNat = far at hf0 e3
      generalize c % 99 = near at h99 e3
      clear p30
      obtain ⟨k, hk, hkl⟩ := emod_nat (c := c) (m := 5) (by decide)
      have key : ∃ v kd, atI [V.int (-1 - near), V.int (((2 ^ nx.length : Nat) : Int) + far), V.bl true, V.non, V.str (Str.ofString "0")] (c % 5) = some v ∧ kindV K H3 v kd ∧ maskB v nx.length = false := by
        rw [hk]
        have : k = 0 ∨ k = 1 ∨ k = 2 ∨ k = 3 ∨ k = 4 := by omega
        rcases this with rfl | rfl | rfl | rfl | rfl
        · exact ⟨_, "int", atI_nat rfl, rfl, maskB_neg (by omega)⟩
        · exact ⟨_, "int", atI_nat rfl, rfl, maskB_great (by omega)⟩
        · exact ⟨_, "bool", atI_nat rfl, rfl, rfl⟩
        · exact ⟨_, "NoneType", atI_nat rfl, rfl, rfl⟩
        · exact ⟨_, "str", atI_nat rfl, rfl, rfl⟩
      obtain ⟨v5, kd, hav, hkd, hbad⟩ := key
      clear hk hkl hf0 h99
      generalize [V.int (-1 - near), V.int (((2 ^ nx.length : Nat) : Int) + far), V.bl true, V.non, V.str (Str.ofString "0")] = five at hav e3
      walk_at "l2"
      have s3' := s'.trans (s2.trans s3)
      refine ⟨x, m, nx, os, v5, kd, rfl, mac.same s3', g, hl, hkd, hbad, fun H6 s6 => ?_⟩
      walk_at "l2"
      exact s3'.trans s6
    · rintro σ H' ⟨v, rfl, s'⟩
      walk_at "l2"
      refine ⟨x, n, m, nx, os, 0, rfl, mac.same s', g, nXc.same s', Nat.two_pow_pos _, fun H2 s2 => ?_⟩
      walk_at "l2"
      exact q _
end
theorem all_mk {l : PySem.W.OpenLaw} {w : World} {K : PySem.W.Frag} {h : Heap} {mg : Str → Option Value} {fa : Addr} (X : K.In h) (G : h.Ns mainGlobals mg) (hfa : mg "law" = some (.ref fa))
    {od_is_whole an_is_whole : Option Addr} {sl_is_whole : Array (Option Value)} {oc_is_whole kv_is_whole dc_is_whole pm_is_whole cd_is_whole ct_is_whole : Value} {f_is_whole : Addr}
    {od_is_mask an_is_mask : Option Addr} {sl_is_mask : Array (Option Value)} {oc_is_mask kv_is_mask dc_is_mask pm_is_mask cd_is_mask ct_is_mask : Value} {f_is_mask : Addr}
    {od_even an_even : Option Addr} {sl_even : Array (Option Value)} {oc_even kv_even dc_even pm_even cd_even ct_even : Value} {f_even : Addr}
    {od_bits_of an_bits_of : Option Addr} {sl_bits_of : Array (Option Value)} {oc_bits_of kv_bits_of dc_bits_of pm_bits_of cd_bits_of ct_bits_of : Value} {f_bits_of : Addr}
    {od_mask_of an_mask_of : Option Addr} {sl_mask_of : Array (Option Value)} {oc_mask_of kv_mask_of dc_mask_of pm_mask_of cd_mask_of ct_mask_of : Value} {f_mask_of : Addr}
    {od_degree an_degree : Option Addr} {sl_degree : Array (Option Value)} {oc_degree kv_degree dc_degree pm_degree cd_degree ct_degree : Value} {f_degree : Addr}
    {od_divided an_divided : Option Addr} {sl_divided : Array (Option Value)} {oc_divided kv_divided dc_divided pm_divided cd_divided ct_divided : Value} {f_divided : Addr}
    {od_turns_to_one an_turns_to_one : Option Addr} {sl_turns_to_one : Array (Option Value)} {oc_turns_to_one kv_turns_to_one dc_turns_to_one pm_turns_to_one cd_turns_to_one ct_turns_to_one : Value} {f_turns_to_one : Addr}
    {od_Steps___init__ an_Steps___init__ : Option Addr} {sl_Steps___init__ : Array (Option Value)} {oc_Steps___init__ kv_Steps___init__ dc_Steps___init__ pm_Steps___init__ cd_Steps___init__ ct_Steps___init__ : Value} {f_Steps___init__ : Addr}
    {od_Steps_lowered an_Steps_lowered : Option Addr} {sl_Steps_lowered : Array (Option Value)} {oc_Steps_lowered kv_Steps_lowered dc_Steps_lowered pm_Steps_lowered cd_Steps_lowered ct_Steps_lowered : Value} {f_Steps_lowered : Addr}
    {od_Steps_lay an_Steps_lay : Option Addr} {sl_Steps_lay : Array (Option Value)} {oc_Steps_lay kv_Steps_lay dc_Steps_lay pm_Steps_lay cd_Steps_lay ct_Steps_lay : Value} {f_Steps_lay : Addr}
    {od_Steps_barring an_Steps_barring : Option Addr} {sl_Steps_barring : Array (Option Value)} {oc_Steps_barring kv_Steps_barring dc_Steps_barring pm_Steps_barring cd_Steps_barring ct_Steps_barring : Value} {f_Steps_barring : Addr}
    {od_sum_for an_sum_for : Option Addr} {sl_sum_for : Array (Option Value)} {oc_sum_for kv_sum_for dc_sum_for pm_sum_for cd_sum_for ct_sum_for : Value} {f_sum_for : Addr}
    {od_chain an_chain : Option Addr} {sl_chain : Array (Option Value)} {oc_chain kv_chain dc_chain pm_chain cd_chain ct_chain : Value} {f_chain : Addr}
    {od_states_behind an_states_behind : Option Addr} {sl_states_behind : Array (Option Value)} {oc_states_behind kv_states_behind dc_states_behind pm_states_behind cd_states_behind ct_states_behind : Value} {f_states_behind : Addr}
    {od_state_poly an_state_poly : Option Addr} {sl_state_poly : Array (Option Value)} {oc_state_poly kv_state_poly dc_state_poly pm_state_poly cd_state_poly ct_state_poly : Value} {f_state_poly : Addr}
    {od_ring_of an_ring_of : Option Addr} {sl_ring_of : Array (Option Value)} {oc_ring_of kv_ring_of dc_ring_of pm_ring_of cd_ring_of ct_ring_of : Value} {f_ring_of : Addr}
    {od_is_pair an_is_pair : Option Addr} {sl_is_pair : Array (Option Value)} {oc_is_pair kv_is_pair dc_is_pair pm_is_pair cd_is_pair ct_is_pair : Value} {f_is_pair : Addr}
    {od_check_table an_check_table : Option Addr} {sl_check_table : Array (Option Value)} {oc_check_table kv_check_table dc_check_table pm_check_table cd_check_table ct_check_table : Value} {f_check_table : Addr}
    {od_is_odd an_is_odd : Option Addr} {sl_is_odd : Array (Option Value)} {oc_is_odd kv_is_odd dc_is_odd pm_is_odd cd_is_odd ct_is_odd : Value} {f_is_odd : Addr}
    {od_odd_places an_odd_places : Option Addr} {sl_odd_places : Array (Option Value)} {oc_odd_places kv_odd_places dc_odd_places pm_odd_places cd_odd_places ct_odd_places : Value} {f_odd_places : Addr}
    {od_Machine___init__ an_Machine___init__ : Option Addr} {sl_Machine___init__ : Array (Option Value)} {oc_Machine___init__ kv_Machine___init__ dc_Machine___init__ pm_Machine___init__ cd_Machine___init__ ct_Machine___init__ : Value} {f_Machine___init__ : Addr}
    {od_Machine_stores an_Machine_stores : Option Addr} {sl_Machine_stores : Array (Option Value)} {oc_Machine_stores kv_Machine_stores dc_Machine_stores pm_Machine_stores cd_Machine_stores ct_Machine_stores : Value} {f_Machine_stores : Addr}
    {od_Machine_check_state an_Machine_check_state : Option Addr} {sl_Machine_check_state : Array (Option Value)} {oc_Machine_check_state kv_Machine_check_state dc_Machine_check_state pm_Machine_check_state cd_Machine_check_state ct_Machine_check_state : Value} {f_Machine_check_state : Addr}
    {od_Machine_step an_Machine_step : Option Addr} {sl_Machine_step : Array (Option Value)} {oc_Machine_step kv_Machine_step dc_Machine_step pm_Machine_step cd_Machine_step ct_Machine_step : Value} {f_Machine_step : Addr}
    {od__law_cell an__law_cell : Option Addr} {sl__law_cell : Array (Option Value)} {oc__law_cell kv__law_cell dc__law_cell pm__law_cell cd__law_cell ct__law_cell : Value} {f__law_cell : Addr}
    {od__law_mix an__law_mix : Option Addr} {sl__law_mix : Array (Option Value)} {oc__law_mix kv__law_mix dc__law_mix pm__law_mix cd__law_mix ct__law_mix : Value} {f__law_mix : Addr}
    {od__law_masks an__law_masks : Option Addr} {sl__law_masks : Array (Option Value)} {oc__law_masks kv__law_masks dc__law_masks pm__law_masks cd__law_masks ct__law_masks : Value} {f__law_masks : Addr}
    {od__law_thinned an__law_thinned : Option Addr} {sl__law_thinned : Array (Option Value)} {oc__law_thinned kv__law_thinned dc__law_thinned pm__law_thinned cd__law_thinned ct__law_thinned : Value} {f__law_thinned : Addr}
    {od__law_machine an__law_machine : Option Addr} {sl__law_machine : Array (Option Value)} {oc__law_machine kv__law_machine dc__law_machine pm__law_machine cd__law_machine ct__law_machine : Value} {f__law_machine : Addr}
    {od__law_odd an__law_odd : Option Addr} {sl__law_odd : Array (Option Value)} {oc__law_odd kv__law_odd dc__law_odd pm__law_odd cd__law_odd ct__law_odd : Value} {f__law_odd : Addr}
    {od__law_turn an__law_turn : Option Addr} {sl__law_turn : Array (Option Value)} {oc__law_turn kv__law_turn dc__law_turn pm__law_turn cd__law_turn ct__law_turn : Value} {f__law_turn : Addr}
    {od__law_by an__law_by : Option Addr} {sl__law_by : Array (Option Value)} {oc__law_by kv__law_by dc__law_by pm__law_by cd__law_by ct__law_by : Value} {f__law_by : Addr}
    {od__law_behind an__law_behind : Option Addr} {sl__law_behind : Array (Option Value)} {oc__law_behind kv__law_behind dc__law_behind pm__law_behind cd__law_behind ct__law_behind : Value} {f__law_behind : Addr}
    {od__law_primes an__law_primes : Option Addr} {sl__law_primes : Array (Option Value)} {oc__law_primes kv__law_primes dc__law_primes pm__law_primes cd__law_primes ct__law_primes : Value} {f__law_primes : Addr}
    {od__law_walked an__law_walked : Option Addr} {sl__law_walked : Array (Option Value)} {oc__law_walked kv__law_walked dc__law_walked pm__law_walked cd__law_walked ct__law_walked : Value} {f__law_walked : Addr}
    {od__law_right an__law_right : Option Addr} {sl__law_right : Array (Option Value)} {oc__law_right kv__law_right dc__law_right pm__law_right cd__law_right ct__law_right : Value} {f__law_right : Addr}
    {od__law_refused an__law_refused : Option Addr} {sl__law_refused : Array (Option Value)} {oc__law_refused kv__law_refused dc__law_refused pm__law_refused cd__law_refused ct__law_refused : Value} {f__law_refused : Addr}
    {od_law an_law : Option Addr} {sl_law : Array (Option Value)} {oc_law kv_law dc_law pm_law cd_law ct_law : Value} {f_law : Addr}
    {c_Steps : Addr} (a_Steps : PySem.W.nsIn K mainGlobals "Steps" = some (some (.ref c_Steps)))
    {c_Machine : Addr} (a_Machine : PySem.W.nsIn K mainGlobals "Machine" = some (some (.ref c_Machine)))
    (a_is_whole : PySem.W.nsIn K mainGlobals "is_whole" = some (some (.ref f_is_whole)))
    (l_is_whole : K.lookup f_is_whole = some ⟨oc_is_whole, od_is_whole, .func (PySem.W.fnOf "is_whole" "is_whole" (defArgs s_is_whole) (defBody s_is_whole) (defScope s_is_whole) .none kv_is_whole dc_is_whole pm_is_whole an_is_whole cd_is_whole ct_is_whole), sl_is_whole⟩)
    (c_is_whole : PySem.W.codeIn K cd_is_whole "is_whole" = true)
    (p_is_whole : PySem.W.keepIn K (.ref f_is_whole) = true)
    (a_is_mask : PySem.W.nsIn K mainGlobals "is_mask" = some (some (.ref f_is_mask)))
    (l_is_mask : K.lookup f_is_mask = some ⟨oc_is_mask, od_is_mask, .func (PySem.W.fnOf "is_mask" "is_mask" (defArgs s_is_mask) (defBody s_is_mask) (defScope s_is_mask) .none kv_is_mask dc_is_mask pm_is_mask an_is_mask cd_is_mask ct_is_mask), sl_is_mask⟩)
    (c_is_mask : PySem.W.codeIn K cd_is_mask "is_mask" = true)
    (p_is_mask : PySem.W.keepIn K (.ref f_is_mask) = true)
    (a_even : PySem.W.nsIn K mainGlobals "even" = some (some (.ref f_even)))
    (l_even : K.lookup f_even = some ⟨oc_even, od_even, .func (PySem.W.fnOf "even" "even" (defArgs s_even) (defBody s_even) (defScope s_even) .none kv_even dc_even pm_even an_even cd_even ct_even), sl_even⟩)
    (c_even : PySem.W.codeIn K cd_even "even" = true)
    (p_even : PySem.W.keepIn K (.ref f_even) = true)
    (a_bits_of : PySem.W.nsIn K mainGlobals "bits_of" = some (some (.ref f_bits_of)))
    (l_bits_of : K.lookup f_bits_of = some ⟨oc_bits_of, od_bits_of, .func (PySem.W.fnOf "bits_of" "bits_of" (defArgs s_bits_of) (defBody s_bits_of) (defScope s_bits_of) .none kv_bits_of dc_bits_of pm_bits_of an_bits_of cd_bits_of ct_bits_of), sl_bits_of⟩)
    (c_bits_of : PySem.W.codeIn K cd_bits_of "bits_of" = true)
    (p_bits_of : PySem.W.keepIn K (.ref f_bits_of) = true)
    (a_mask_of : PySem.W.nsIn K mainGlobals "mask_of" = some (some (.ref f_mask_of)))
    (l_mask_of : K.lookup f_mask_of = some ⟨oc_mask_of, od_mask_of, .func (PySem.W.fnOf "mask_of" "mask_of" (defArgs s_mask_of) (defBody s_mask_of) (defScope s_mask_of) .none kv_mask_of dc_mask_of pm_mask_of an_mask_of cd_mask_of ct_mask_of), sl_mask_of⟩)
    (c_mask_of : PySem.W.codeIn K cd_mask_of "mask_of" = true)
    (p_mask_of : PySem.W.keepIn K (.ref f_mask_of) = true)
    (a_degree : PySem.W.nsIn K mainGlobals "degree" = some (some (.ref f_degree)))
    (l_degree : K.lookup f_degree = some ⟨oc_degree, od_degree, .func (PySem.W.fnOf "degree" "degree" (defArgs s_degree) (defBody s_degree) (defScope s_degree) .none kv_degree dc_degree pm_degree an_degree cd_degree ct_degree), sl_degree⟩)
    (c_degree : PySem.W.codeIn K cd_degree "degree" = true)
    (p_degree : PySem.W.keepIn K (.ref f_degree) = true)
    (a_divided : PySem.W.nsIn K mainGlobals "divided" = some (some (.ref f_divided)))
    (l_divided : K.lookup f_divided = some ⟨oc_divided, od_divided, .func (PySem.W.fnOf "divided" "divided" (defArgs s_divided) (defBody s_divided) (defScope s_divided) .none kv_divided dc_divided pm_divided an_divided cd_divided ct_divided), sl_divided⟩)
    (c_divided : PySem.W.codeIn K cd_divided "divided" = true)
    (p_divided : PySem.W.keepIn K (.ref f_divided) = true)
    (a_turns_to_one : PySem.W.nsIn K mainGlobals "turns_to_one" = some (some (.ref f_turns_to_one)))
    (l_turns_to_one : K.lookup f_turns_to_one = some ⟨oc_turns_to_one, od_turns_to_one, .func (PySem.W.fnOf "turns_to_one" "turns_to_one" (defArgs s_turns_to_one) (defBody s_turns_to_one) (defScope s_turns_to_one) .none kv_turns_to_one dc_turns_to_one pm_turns_to_one an_turns_to_one cd_turns_to_one ct_turns_to_one), sl_turns_to_one⟩)
    (c_turns_to_one : PySem.W.codeIn K cd_turns_to_one "turns_to_one" = true)
    (p_turns_to_one : PySem.W.keepIn K (.ref f_turns_to_one) = true)
    (x_Steps___init__ : PySem.W.findIn K (.ref c_Steps) "__init__" = some (some (.ref f_Steps___init__)))
    (l_Steps___init__ : K.lookup f_Steps___init__ = some ⟨oc_Steps___init__, od_Steps___init__, .func (PySem.W.fnOf "__init__" "Steps.__init__" (defArgs s_Steps___init__) (defBody s_Steps___init__) (defScope s_Steps___init__) .none kv_Steps___init__ dc_Steps___init__ pm_Steps___init__ an_Steps___init__ cd_Steps___init__ ct_Steps___init__), sl_Steps___init__⟩)
    (c_Steps___init__ : PySem.W.codeIn K cd_Steps___init__ "Steps.__init__" = true)
    (p_Steps___init__ : PySem.W.keepIn K (.ref f_Steps___init__) = true)
    (x_Steps_lowered : PySem.W.findIn K (.ref c_Steps) "lowered" = some (some (.ref f_Steps_lowered)))
    (l_Steps_lowered : K.lookup f_Steps_lowered = some ⟨oc_Steps_lowered, od_Steps_lowered, .func (PySem.W.fnOf "lowered" "Steps.lowered" (defArgs s_Steps_lowered) (defBody s_Steps_lowered) (defScope s_Steps_lowered) .none kv_Steps_lowered dc_Steps_lowered pm_Steps_lowered an_Steps_lowered cd_Steps_lowered ct_Steps_lowered), sl_Steps_lowered⟩)
    (c_Steps_lowered : PySem.W.codeIn K cd_Steps_lowered "Steps.lowered" = true)
    (p_Steps_lowered : PySem.W.keepIn K (.ref f_Steps_lowered) = true)
    (x_Steps_lay : PySem.W.findIn K (.ref c_Steps) "lay" = some (some (.ref f_Steps_lay)))
    (l_Steps_lay : K.lookup f_Steps_lay = some ⟨oc_Steps_lay, od_Steps_lay, .func (PySem.W.fnOf "lay" "Steps.lay" (defArgs s_Steps_lay) (defBody s_Steps_lay) (defScope s_Steps_lay) .none kv_Steps_lay dc_Steps_lay pm_Steps_lay an_Steps_lay cd_Steps_lay ct_Steps_lay), sl_Steps_lay⟩)
    (c_Steps_lay : PySem.W.codeIn K cd_Steps_lay "Steps.lay" = true)
    (p_Steps_lay : PySem.W.keepIn K (.ref f_Steps_lay) = true)
    (x_Steps_barring : PySem.W.findIn K (.ref c_Steps) "barring" = some (some (.ref f_Steps_barring)))
    (l_Steps_barring : K.lookup f_Steps_barring = some ⟨oc_Steps_barring, od_Steps_barring, .func (PySem.W.fnOf "barring" "Steps.barring" (defArgs s_Steps_barring) (defBody s_Steps_barring) (defScope s_Steps_barring) .none kv_Steps_barring dc_Steps_barring pm_Steps_barring an_Steps_barring cd_Steps_barring ct_Steps_barring), sl_Steps_barring⟩)
    (c_Steps_barring : PySem.W.codeIn K cd_Steps_barring "Steps.barring" = true)
    (p_Steps_barring : PySem.W.keepIn K (.ref f_Steps_barring) = true)
    (a_sum_for : PySem.W.nsIn K mainGlobals "sum_for" = some (some (.ref f_sum_for)))
    (l_sum_for : K.lookup f_sum_for = some ⟨oc_sum_for, od_sum_for, .func (PySem.W.fnOf "sum_for" "sum_for" (defArgs s_sum_for) (defBody s_sum_for) (defScope s_sum_for) .none kv_sum_for dc_sum_for pm_sum_for an_sum_for cd_sum_for ct_sum_for), sl_sum_for⟩)
    (c_sum_for : PySem.W.codeIn K cd_sum_for "sum_for" = true)
    (p_sum_for : PySem.W.keepIn K (.ref f_sum_for) = true)
    (a_chain : PySem.W.nsIn K mainGlobals "chain" = some (some (.ref f_chain)))
    (l_chain : K.lookup f_chain = some ⟨oc_chain, od_chain, .func (PySem.W.fnOf "chain" "chain" (defArgs s_chain) (defBody s_chain) (defScope s_chain) .none kv_chain dc_chain pm_chain an_chain cd_chain ct_chain), sl_chain⟩)
    (c_chain : PySem.W.codeIn K cd_chain "chain" = true)
    (p_chain : PySem.W.keepIn K (.ref f_chain) = true)
    (a_states_behind : PySem.W.nsIn K mainGlobals "states_behind" = some (some (.ref f_states_behind)))
    (l_states_behind : K.lookup f_states_behind = some ⟨oc_states_behind, od_states_behind, .func (PySem.W.fnOf "states_behind" "states_behind" (defArgs s_states_behind) (defBody s_states_behind) (defScope s_states_behind) .none kv_states_behind dc_states_behind pm_states_behind an_states_behind cd_states_behind ct_states_behind), sl_states_behind⟩)
    (c_states_behind : PySem.W.codeIn K cd_states_behind "states_behind" = true)
    (p_states_behind : PySem.W.keepIn K (.ref f_states_behind) = true)
    (a_state_poly : PySem.W.nsIn K mainGlobals "state_poly" = some (some (.ref f_state_poly)))
    (l_state_poly : K.lookup f_state_poly = some ⟨oc_state_poly, od_state_poly, .func (PySem.W.fnOf "state_poly" "state_poly" (defArgs s_state_poly) (defBody s_state_poly) (defScope s_state_poly) .none kv_state_poly dc_state_poly pm_state_poly an_state_poly cd_state_poly ct_state_poly), sl_state_poly⟩)
    (c_state_poly : PySem.W.codeIn K cd_state_poly "state_poly" = true)
    (p_state_poly : PySem.W.keepIn K (.ref f_state_poly) = true)
    (a_ring_of : PySem.W.nsIn K mainGlobals "ring_of" = some (some (.ref f_ring_of)))
    (l_ring_of : K.lookup f_ring_of = some ⟨oc_ring_of, od_ring_of, .func (PySem.W.fnOf "ring_of" "ring_of" (defArgs s_ring_of) (defBody s_ring_of) (defScope s_ring_of) .none kv_ring_of dc_ring_of pm_ring_of an_ring_of cd_ring_of ct_ring_of), sl_ring_of⟩)
    (c_ring_of : PySem.W.codeIn K cd_ring_of "ring_of" = true)
    (p_ring_of : PySem.W.keepIn K (.ref f_ring_of) = true)
    (a_is_pair : PySem.W.nsIn K mainGlobals "is_pair" = some (some (.ref f_is_pair)))
    (l_is_pair : K.lookup f_is_pair = some ⟨oc_is_pair, od_is_pair, .func (PySem.W.fnOf "is_pair" "is_pair" (defArgs s_is_pair) (defBody s_is_pair) (defScope s_is_pair) .none kv_is_pair dc_is_pair pm_is_pair an_is_pair cd_is_pair ct_is_pair), sl_is_pair⟩)
    (c_is_pair : PySem.W.codeIn K cd_is_pair "is_pair" = true)
    (p_is_pair : PySem.W.keepIn K (.ref f_is_pair) = true)
    (a_check_table : PySem.W.nsIn K mainGlobals "check_table" = some (some (.ref f_check_table)))
    (l_check_table : K.lookup f_check_table = some ⟨oc_check_table, od_check_table, .func (PySem.W.fnOf "check_table" "check_table" (defArgs s_check_table) (defBody s_check_table) (defScope s_check_table) .none kv_check_table dc_check_table pm_check_table an_check_table cd_check_table ct_check_table), sl_check_table⟩)
    (c_check_table : PySem.W.codeIn K cd_check_table "check_table" = true)
    (p_check_table : PySem.W.keepIn K (.ref f_check_table) = true)
    (a_is_odd : PySem.W.nsIn K mainGlobals "is_odd" = some (some (.ref f_is_odd)))
    (l_is_odd : K.lookup f_is_odd = some ⟨oc_is_odd, od_is_odd, .func (PySem.W.fnOf "is_odd" "is_odd" (defArgs s_is_odd) (defBody s_is_odd) (defScope s_is_odd) .none kv_is_odd dc_is_odd pm_is_odd an_is_odd cd_is_odd ct_is_odd), sl_is_odd⟩)
    (c_is_odd : PySem.W.codeIn K cd_is_odd "is_odd" = true)
    (p_is_odd : PySem.W.keepIn K (.ref f_is_odd) = true)
    (a_odd_places : PySem.W.nsIn K mainGlobals "odd_places" = some (some (.ref f_odd_places)))
    (l_odd_places : K.lookup f_odd_places = some ⟨oc_odd_places, od_odd_places, .func (PySem.W.fnOf "odd_places" "odd_places" (defArgs s_odd_places) (defBody s_odd_places) (defScope s_odd_places) .none kv_odd_places dc_odd_places pm_odd_places an_odd_places cd_odd_places ct_odd_places), sl_odd_places⟩)
    (c_odd_places : PySem.W.codeIn K cd_odd_places "odd_places" = true)
    (p_odd_places : PySem.W.keepIn K (.ref f_odd_places) = true)
    (x_Machine___init__ : PySem.W.findIn K (.ref c_Machine) "__init__" = some (some (.ref f_Machine___init__)))
    (l_Machine___init__ : K.lookup f_Machine___init__ = some ⟨oc_Machine___init__, od_Machine___init__, .func (PySem.W.fnOf "__init__" "Machine.__init__" (defArgs s_Machine___init__) (defBody s_Machine___init__) (defScope s_Machine___init__) .none kv_Machine___init__ dc_Machine___init__ pm_Machine___init__ an_Machine___init__ cd_Machine___init__ ct_Machine___init__), sl_Machine___init__⟩)
    (c_Machine___init__ : PySem.W.codeIn K cd_Machine___init__ "Machine.__init__" = true)
    (p_Machine___init__ : PySem.W.keepIn K (.ref f_Machine___init__) = true)
    (x_Machine_stores : PySem.W.findIn K (.ref c_Machine) "stores" = some (some (.ref f_Machine_stores)))
    (l_Machine_stores : K.lookup f_Machine_stores = some ⟨oc_Machine_stores, od_Machine_stores, .func (PySem.W.fnOf "stores" "Machine.stores" (defArgs s_Machine_stores) (defBody s_Machine_stores) (defScope s_Machine_stores) .none kv_Machine_stores dc_Machine_stores pm_Machine_stores an_Machine_stores cd_Machine_stores ct_Machine_stores), sl_Machine_stores⟩)
    (c_Machine_stores : PySem.W.codeIn K cd_Machine_stores "Machine.stores" = true)
    (p_Machine_stores : PySem.W.keepIn K (.ref f_Machine_stores) = true)
    (x_Machine_check_state : PySem.W.findIn K (.ref c_Machine) "check_state" = some (some (.ref f_Machine_check_state)))
    (l_Machine_check_state : K.lookup f_Machine_check_state = some ⟨oc_Machine_check_state, od_Machine_check_state, .func (PySem.W.fnOf "check_state" "Machine.check_state" (defArgs s_Machine_check_state) (defBody s_Machine_check_state) (defScope s_Machine_check_state) .none kv_Machine_check_state dc_Machine_check_state pm_Machine_check_state an_Machine_check_state cd_Machine_check_state ct_Machine_check_state), sl_Machine_check_state⟩)
    (c_Machine_check_state : PySem.W.codeIn K cd_Machine_check_state "Machine.check_state" = true)
    (p_Machine_check_state : PySem.W.keepIn K (.ref f_Machine_check_state) = true)
    (x_Machine_step : PySem.W.findIn K (.ref c_Machine) "step" = some (some (.ref f_Machine_step)))
    (l_Machine_step : K.lookup f_Machine_step = some ⟨oc_Machine_step, od_Machine_step, .func (PySem.W.fnOf "step" "Machine.step" (defArgs s_Machine_step) (defBody s_Machine_step) (defScope s_Machine_step) .none kv_Machine_step dc_Machine_step pm_Machine_step an_Machine_step cd_Machine_step ct_Machine_step), sl_Machine_step⟩)
    (c_Machine_step : PySem.W.codeIn K cd_Machine_step "Machine.step" = true)
    (p_Machine_step : PySem.W.keepIn K (.ref f_Machine_step) = true)
    (a__law_cell : PySem.W.nsIn K mainGlobals "_law_cell" = some (some (.ref f__law_cell)))
    (l__law_cell : K.lookup f__law_cell = some ⟨oc__law_cell, od__law_cell, .func (PySem.W.fnOf "_law_cell" "_law_cell" (defArgs s__law_cell) (defBody s__law_cell) (defScope s__law_cell) .none kv__law_cell dc__law_cell pm__law_cell an__law_cell cd__law_cell ct__law_cell), sl__law_cell⟩)
    (c__law_cell : PySem.W.codeIn K cd__law_cell "_law_cell" = true)
    (p__law_cell : PySem.W.keepIn K (.ref f__law_cell) = true)
    (a__law_mix : PySem.W.nsIn K mainGlobals "_law_mix" = some (some (.ref f__law_mix)))
    (l__law_mix : K.lookup f__law_mix = some ⟨oc__law_mix, od__law_mix, .func (PySem.W.fnOf "_law_mix" "_law_mix" (defArgs s__law_mix) (defBody s__law_mix) (defScope s__law_mix) .none kv__law_mix dc__law_mix pm__law_mix an__law_mix cd__law_mix ct__law_mix), sl__law_mix⟩)
    (c__law_mix : PySem.W.codeIn K cd__law_mix "_law_mix" = true)
    (p__law_mix : PySem.W.keepIn K (.ref f__law_mix) = true)
    (a__law_masks : PySem.W.nsIn K mainGlobals "_law_masks" = some (some (.ref f__law_masks)))
    (l__law_masks : K.lookup f__law_masks = some ⟨oc__law_masks, od__law_masks, .func (PySem.W.fnOf "_law_masks" "_law_masks" (defArgs s__law_masks) (defBody s__law_masks) (defScope s__law_masks) .none kv__law_masks dc__law_masks pm__law_masks an__law_masks cd__law_masks ct__law_masks), sl__law_masks⟩)
    (c__law_masks : PySem.W.codeIn K cd__law_masks "_law_masks" = true)
    (p__law_masks : PySem.W.keepIn K (.ref f__law_masks) = true)
    (a__law_thinned : PySem.W.nsIn K mainGlobals "_law_thinned" = some (some (.ref f__law_thinned)))
    (l__law_thinned : K.lookup f__law_thinned = some ⟨oc__law_thinned, od__law_thinned, .func (PySem.W.fnOf "_law_thinned" "_law_thinned" (defArgs s__law_thinned) (defBody s__law_thinned) (defScope s__law_thinned) .none kv__law_thinned dc__law_thinned pm__law_thinned an__law_thinned cd__law_thinned ct__law_thinned), sl__law_thinned⟩)
    (c__law_thinned : PySem.W.codeIn K cd__law_thinned "_law_thinned" = true)
    (p__law_thinned : PySem.W.keepIn K (.ref f__law_thinned) = true)
    (a__law_machine : PySem.W.nsIn K mainGlobals "_law_machine" = some (some (.ref f__law_machine)))
    (l__law_machine : K.lookup f__law_machine = some ⟨oc__law_machine, od__law_machine, .func (PySem.W.fnOf "_law_machine" "_law_machine" (defArgs s__law_machine) (defBody s__law_machine) (defScope s__law_machine) .none kv__law_machine dc__law_machine pm__law_machine an__law_machine cd__law_machine ct__law_machine), sl__law_machine⟩)
    (c__law_machine : PySem.W.codeIn K cd__law_machine "_law_machine" = true)
    (p__law_machine : PySem.W.keepIn K (.ref f__law_machine) = true)
    (a__law_odd : PySem.W.nsIn K mainGlobals "_law_odd" = some (some (.ref f__law_odd)))
    (l__law_odd : K.lookup f__law_odd = some ⟨oc__law_odd, od__law_odd, .func (PySem.W.fnOf "_law_odd" "_law_odd" (defArgs s__law_odd) (defBody s__law_odd) (defScope s__law_odd) .none kv__law_odd dc__law_odd pm__law_odd an__law_odd cd__law_odd ct__law_odd), sl__law_odd⟩)
    (c__law_odd : PySem.W.codeIn K cd__law_odd "_law_odd" = true)
    (p__law_odd : PySem.W.keepIn K (.ref f__law_odd) = true)
    (a__law_turn : PySem.W.nsIn K mainGlobals "_law_turn" = some (some (.ref f__law_turn)))
    (l__law_turn : K.lookup f__law_turn = some ⟨oc__law_turn, od__law_turn, .func (PySem.W.fnOf "_law_turn" "_law_turn" (defArgs s__law_turn) (defBody s__law_turn) (defScope s__law_turn) .none kv__law_turn dc__law_turn pm__law_turn an__law_turn cd__law_turn ct__law_turn), sl__law_turn⟩)
    (c__law_turn : PySem.W.codeIn K cd__law_turn "_law_turn" = true)
    (p__law_turn : PySem.W.keepIn K (.ref f__law_turn) = true)
    (a__law_by : PySem.W.nsIn K mainGlobals "_law_by" = some (some (.ref f__law_by)))
    (l__law_by : K.lookup f__law_by = some ⟨oc__law_by, od__law_by, .func (PySem.W.fnOf "_law_by" "_law_by" (defArgs s__law_by) (defBody s__law_by) (defScope s__law_by) .none kv__law_by dc__law_by pm__law_by an__law_by cd__law_by ct__law_by), sl__law_by⟩)
    (c__law_by : PySem.W.codeIn K cd__law_by "_law_by" = true)
    (p__law_by : PySem.W.keepIn K (.ref f__law_by) = true)
    (a__law_behind : PySem.W.nsIn K mainGlobals "_law_behind" = some (some (.ref f__law_behind)))
    (l__law_behind : K.lookup f__law_behind = some ⟨oc__law_behind, od__law_behind, .func (PySem.W.fnOf "_law_behind" "_law_behind" (defArgs s__law_behind) (defBody s__law_behind) (defScope s__law_behind) .none kv__law_behind dc__law_behind pm__law_behind an__law_behind cd__law_behind ct__law_behind), sl__law_behind⟩)
    (c__law_behind : PySem.W.codeIn K cd__law_behind "_law_behind" = true)
    (p__law_behind : PySem.W.keepIn K (.ref f__law_behind) = true)
    (a__law_primes : PySem.W.nsIn K mainGlobals "_law_primes" = some (some (.ref f__law_primes)))
    (l__law_primes : K.lookup f__law_primes = some ⟨oc__law_primes, od__law_primes, .func (PySem.W.fnOf "_law_primes" "_law_primes" (defArgs s__law_primes) (defBody s__law_primes) (defScope s__law_primes) .none kv__law_primes dc__law_primes pm__law_primes an__law_primes cd__law_primes ct__law_primes), sl__law_primes⟩)
    (c__law_primes : PySem.W.codeIn K cd__law_primes "_law_primes" = true)
    (p__law_primes : PySem.W.keepIn K (.ref f__law_primes) = true)
    (a__law_walked : PySem.W.nsIn K mainGlobals "_law_walked" = some (some (.ref f__law_walked)))
    (l__law_walked : K.lookup f__law_walked = some ⟨oc__law_walked, od__law_walked, .func (PySem.W.fnOf "_law_walked" "_law_walked" (defArgs s__law_walked) (defBody s__law_walked) (defScope s__law_walked) .none kv__law_walked dc__law_walked pm__law_walked an__law_walked cd__law_walked ct__law_walked), sl__law_walked⟩)
    (c__law_walked : PySem.W.codeIn K cd__law_walked "_law_walked" = true)
    (p__law_walked : PySem.W.keepIn K (.ref f__law_walked) = true)
    (a__law_right : PySem.W.nsIn K mainGlobals "_law_right" = some (some (.ref f__law_right)))
    (l__law_right : K.lookup f__law_right = some ⟨oc__law_right, od__law_right, .func (PySem.W.fnOf "_law_right" "_law_right" (defArgs s__law_right) (defBody s__law_right) (defScope s__law_right) .none kv__law_right dc__law_right pm__law_right an__law_right cd__law_right ct__law_right), sl__law_right⟩)
    (c__law_right : PySem.W.codeIn K cd__law_right "_law_right" = true)
    (p__law_right : PySem.W.keepIn K (.ref f__law_right) = true)
    (a__law_refused : PySem.W.nsIn K mainGlobals "_law_refused" = some (some (.ref f__law_refused)))
    (l__law_refused : K.lookup f__law_refused = some ⟨oc__law_refused, od__law_refused, .func (PySem.W.fnOf "_law_refused" "_law_refused" (defArgs s__law_refused) (defBody s__law_refused) (defScope s__law_refused) .none kv__law_refused dc__law_refused pm__law_refused an__law_refused cd__law_refused ct__law_refused), sl__law_refused⟩)
    (c__law_refused : PySem.W.codeIn K cd__law_refused "_law_refused" = true)
    (p__law_refused : PySem.W.keepIn K (.ref f__law_refused) = true)
    (a_law : PySem.W.nsIn K mainGlobals "law" = some (some (.ref f_law)))
    (l_law : K.lookup f_law = some ⟨oc_law, od_law, .func (PySem.W.fnOf "law" "law" (defArgs s_law) (defBody s_law) (defScope s_law) .none kv_law dc_law pm_law an_law cd_law ct_law), sl_law⟩)
    (c_law : PySem.W.codeIn K cd_law "law" = true)
    (p_law : PySem.W.keepIn K (.ref f_law) = true)
    (q1_Steps : PySem.W.plainGet K c_Steps Str.empty = true)
    (q2_Steps : PySem.W.hasDictIn K c_Steps = true)
    (q3_Steps : PySem.W.plainOver K c_Steps = true)
    (q4_Steps : PySem.W.findIn K (.ref c_Steps) "__setattr__" = some (some (.builtin "object.__setattr__")))
    (q5_Steps : PySem.W.findIn K (.ref c_Steps) "__class__" = some (some (.builtin "object.__class__")))
    (q6_Steps : PySem.W.mroIn K c_Steps (.type "object") = some true)
    (e1_Steps : PySem.W.makesIn K c_Steps = true)
    (e2_Steps : PySem.W.findIn K (.ref c_Steps) "__init__" = some (some (.ref f_Steps___init__)))
    (e3_Steps : PySem.W.isFn K (.ref f_Steps___init__) = true)
    (e4_Steps : PySem.W.keepIn K (.ref c_Steps) = true)
    (m1_Steps_lowered : PySem.W.findIn K (.ref c_Steps) "lowered" = some (some (.ref f_Steps_lowered)))
    (m2_Steps_lowered : PySem.W.isFn K (.ref f_Steps_lowered) = true)
    (m1_Steps_lay : PySem.W.findIn K (.ref c_Steps) "lay" = some (some (.ref f_Steps_lay)))
    (m2_Steps_lay : PySem.W.isFn K (.ref f_Steps_lay) = true)
    (m1_Steps_barring : PySem.W.findIn K (.ref c_Steps) "barring" = some (some (.ref f_Steps_barring)))
    (m2_Steps_barring : PySem.W.isFn K (.ref f_Steps_barring) = true)
    (o_Steps_by_top : PySem.W.findIn K (.ref c_Steps) "by_top" = some none)
    (o_Steps_free_places : PySem.W.findIn K (.ref c_Steps) "free_places" = some none)
    (o_Steps_inputs : PySem.W.findIn K (.ref c_Steps) "inputs" = some none)
    (o_Steps_nexts : PySem.W.findIn K (.ref c_Steps) "nexts" = some none)
    (o_Steps_null_masks : PySem.W.findIn K (.ref c_Steps) "null_masks" = some none)
    (o_Steps_outs : PySem.W.findIn K (.ref c_Steps) "outs" = some none)
    (q1_Machine : PySem.W.plainGet K c_Machine Str.empty = true)
    (q2_Machine : PySem.W.hasDictIn K c_Machine = true)
    (q3_Machine : PySem.W.plainOver K c_Machine = true)
    (q4_Machine : PySem.W.findIn K (.ref c_Machine) "__setattr__" = some (some (.builtin "object.__setattr__")))
    (q5_Machine : PySem.W.findIn K (.ref c_Machine) "__class__" = some (some (.builtin "object.__class__")))
    (q6_Machine : PySem.W.mroIn K c_Machine (.type "object") = some true)
    (e1_Machine : PySem.W.makesIn K c_Machine = true)
    (e2_Machine : PySem.W.findIn K (.ref c_Machine) "__init__" = some (some (.ref f_Machine___init__)))
    (e3_Machine : PySem.W.isFn K (.ref f_Machine___init__) = true)
    (e4_Machine : PySem.W.keepIn K (.ref c_Machine) = true)
    (m1_Machine_stores : PySem.W.findIn K (.ref c_Machine) "stores" = some (some (.ref f_Machine_stores)))
    (m2_Machine_stores : PySem.W.isFn K (.ref f_Machine_stores) = true)
    (m1_Machine_check_state : PySem.W.findIn K (.ref c_Machine) "check_state" = some (some (.ref f_Machine_check_state)))
    (m2_Machine_check_state : PySem.W.isFn K (.ref f_Machine_check_state) = true)
    (m1_Machine_step : PySem.W.findIn K (.ref c_Machine) "step" = some (some (.ref f_Machine_step)))
    (m2_Machine_step : PySem.W.isFn K (.ref f_Machine_step) = true)
    (o_Machine_by_top : PySem.W.findIn K (.ref c_Machine) "by_top" = some none)
    (o_Machine_free_places : PySem.W.findIn K (.ref c_Machine) "free_places" = some none)
    (o_Machine_inputs : PySem.W.findIn K (.ref c_Machine) "inputs" = some none)
    (o_Machine_nexts : PySem.W.findIn K (.ref c_Machine) "nexts" = some none)
    (o_Machine_null_masks : PySem.W.findIn K (.ref c_Machine) "null_masks" = some none)
    (o_Machine_outs : PySem.W.findIn K (.ref c_Machine) "outs" = some none)
    (w1 : PySem.W.specialIn K (.builtin "object.__class__") "__get__" = some (some (.builtin "getset_descriptor.__get__")))
    (w2 : PySem.W.takesIn K (.builtin "object.__class__") = some true)
    {c_BadMask : Addr} (a_BadMask : PySem.W.nsIn K mainGlobals "BadMask" = some (some (.ref c_BadMask)))
    {c_BadTable : Addr} (a_BadTable : PySem.W.nsIn K mainGlobals "BadTable" = some (some (.ref c_BadTable)))
    (t1_BadMask : PySem.W.isClsIn K c_BadMask = true)
    (t2_BadMask : PySem.W.typeIn K (.ref c_BadMask) = some (.type "type"))
    (t3_BadMask : PySem.W.mroIn K c_BadMask (.ref c_BadMask) = some true)
    (x_BadMask : PySem.W.excIn K c_BadMask [.type "ValueError", .type "Exception", .type "BaseException", .type "object"] "ValueError.__new__" = true)
    (y1_BadMask : PySem.W.isClsIn K c_BadMask = true)
    (y2_BadMask : PySem.W.findIn K (.ref c_BadMask) "__getattribute__" = some (some (.builtin "BaseException.__getattribute__")))
    (y3_BadMask : PySem.W.findIn K (.ref c_BadMask) "__getattr__" = some none)
    (y4_BadMask : PySem.W.findIn K (.ref c_BadMask) "__class__" = some (some (.builtin "object.__class__")))
    (y5_BadMask : PySem.W.mroIn K c_BadMask (.type "object") = some true)
    (y6_BadMask : PySem.W.mroIn K c_BadMask (.type "BaseException") = some true)
    (r_BadMask_BadMask : PySem.W.mroIn K c_BadMask (.ref c_BadMask) = some true)
    (hb_BadMask : PySem.W.mroIn K c_BadMask (.type "BaseException") = some true)
    (x_BadTable : PySem.W.excIn K c_BadTable [.type "ValueError", .type "Exception", .type "BaseException", .type "object"] "ValueError.__new__" = true)
    (y1_BadTable : PySem.W.isClsIn K c_BadTable = true)
    (y2_BadTable : PySem.W.findIn K (.ref c_BadTable) "__getattribute__" = some (some (.builtin "BaseException.__getattribute__")))
    (y3_BadTable : PySem.W.findIn K (.ref c_BadTable) "__getattr__" = some none)
    (y4_BadTable : PySem.W.findIn K (.ref c_BadTable) "__class__" = some (some (.builtin "object.__class__")))
    (y5_BadTable : PySem.W.mroIn K c_BadTable (.type "object") = some true)
    (y6_BadTable : PySem.W.mroIn K c_BadTable (.type "BaseException") = some true)
    (r_BadTable_BadMask : PySem.W.mroIn K c_BadTable (.ref c_BadMask) = some false)
    {t_MOST_INPUTS : Tok} (a_MOST_INPUTS : PySem.W.nsIn K mainGlobals "MOST_INPUTS" = some (some (.int 6 t_MOST_INPUTS)))
    {t_MOST_OUTS : Tok} (a_MOST_OUTS : PySem.W.nsIn K mainGlobals "MOST_OUTS" = some (some (.int 6 t_MOST_OUTS)))
    {t_MOST_STORES : Tok} (a_MOST_STORES : PySem.W.nsIn K mainGlobals "MOST_STORES" = some (some (.int 120 t_MOST_STORES)))
    (z_all : PySem.W.nsIn K mainGlobals "all" = some none)
    (z_bool : PySem.W.nsIn K mainGlobals "bool" = some none)
    (z_enumerate : PySem.W.nsIn K mainGlobals "enumerate" = some none)
    (z_int : PySem.W.nsIn K mainGlobals "int" = some none)
    (z_isinstance : PySem.W.nsIn K mainGlobals "isinstance" = some none)
    (z_len : PySem.W.nsIn K mainGlobals "len" = some none)
    (z_list : PySem.W.nsIn K mainGlobals "list" = some none)
    (z_range : PySem.W.nsIn K mainGlobals "range" = some none)
    (z_sorted : PySem.W.nsIn K mainGlobals "sorted" = some none)
    (z_tuple : PySem.W.nsIn K mainGlobals "tuple" = some none)
    (z_zip : PySem.W.nsIn K mainGlobals "zip" = some none) :
    ∃ fd : FuncData, (∀ (s : Shared) (v : Value), BindsTo s fd ⟨[v], []⟩ [("_law_script", v)]) ∧ ∀ base : Heap, K.In base → base.Ns mainGlobals mg → FnOk l.prog w K mg base CX0 10 fa fd ["_law_script"] (sp_law K) := by
  have e := hfa.symm.trans (PySem.W.mg_of X G a_law)
  cases e
  have F_is_whole := fun_mk (st := s_is_whole) l_is_whole c_is_whole p_is_whole
  have b_is_whole := F_is_whole.binds (ps := ["thing"]) fun _ _ _ _ _ _ us hl => match us, hl with | [_], _ => rfl
  have F_is_mask := fun_mk (st := s_is_mask) l_is_mask c_is_mask p_is_mask
  have b_is_mask := F_is_mask.binds (ps := ["thing", "width"]) fun _ _ _ _ _ _ us hl => match us, hl with | [_, _], _ => rfl
  have F_even := fun_mk (st := s_even) l_even c_even p_even
  have b_even := F_even.binds (ps := ["number"]) fun _ _ _ _ _ _ us hl => match us, hl with | [_], _ => rfl
  have F_bits_of := fun_mk (st := s_bits_of) l_bits_of c_bits_of p_bits_of
  have b_bits_of := F_bits_of.binds (ps := ["mask"]) fun _ _ _ _ _ _ us hl => match us, hl with | [_], _ => rfl
  have F_mask_of := fun_mk (st := s_mask_of) l_mask_of c_mask_of p_mask_of
  have b_mask_of := F_mask_of.binds (ps := ["places"]) fun _ _ _ _ _ _ us hl => match us, hl with | [_], _ => rfl
  have F_degree := fun_mk (st := s_degree) l_degree c_degree p_degree
  have b_degree := F_degree.binds (ps := ["poly"]) fun _ _ _ _ _ _ us hl => match us, hl with | [_], _ => rfl
  have F_divided := fun_mk (st := s_divided) l_divided c_divided p_divided
  have b_divided := F_divided.binds (ps := ["one", "other"]) fun _ _ _ _ _ _ us hl => match us, hl with | [_, _], _ => rfl
  have F_turns_to_one := fun_mk (st := s_turns_to_one) l_turns_to_one c_turns_to_one p_turns_to_one
  have b_turns_to_one := F_turns_to_one.binds (ps := ["poly"]) fun _ _ _ _ _ _ us hl => match us, hl with | [_], _ => rfl
  have F_Steps___init__ := fun_mk (st := s_Steps___init__) l_Steps___init__ c_Steps___init__ p_Steps___init__
  have b_Steps___init__ := F_Steps___init__.binds (ps := ["self", "rows"]) fun _ _ _ _ _ _ us hl => match us, hl with | [_, _], _ => rfl
  have F_Steps_lowered := fun_mk (st := s_Steps_lowered) l_Steps_lowered c_Steps_lowered p_Steps_lowered
  have b_Steps_lowered := F_Steps_lowered.binds (ps := ["self", "mask"]) fun _ _ _ _ _ _ us hl => match us, hl with | [_, _], _ => rfl
  have F_Steps_lay := fun_mk (st := s_Steps_lay) l_Steps_lay c_Steps_lay p_Steps_lay
  have b_Steps_lay := F_Steps_lay.binds (ps := ["self", "place", "row"]) fun _ _ _ _ _ _ us hl => match us, hl with | [_, _, _], _ => rfl
  have F_Steps_barring := fun_mk (st := s_Steps_barring) l_Steps_barring c_Steps_barring p_Steps_barring
  have b_Steps_barring := F_Steps_barring.binds (ps := ["self", "bit"]) fun _ _ _ _ _ _ us hl => match us, hl with | [_, _], _ => rfl
  have F_sum_for := fun_mk (st := s_sum_for) l_sum_for c_sum_for p_sum_for
  have b_sum_for := F_sum_for.binds (ps := ["rows", "wish"]) fun _ _ _ _ _ _ us hl => match us, hl with | [_, _], _ => rfl
  have F_chain := fun_mk (st := s_chain) l_chain c_chain p_chain
  have b_chain := F_chain.binds (ps := ["masks"]) fun _ _ _ _ _ _ us hl => match us, hl with | [_], _ => rfl
  have F_states_behind := fun_mk (st := s_states_behind) l_states_behind c_states_behind p_states_behind
  have b_states_behind := F_states_behind.binds (ps := ["machine", "state"]) fun _ _ _ _ _ _ us hl => match us, hl with | [_, _], _ => rfl
  have F_state_poly := fun_mk (st := s_state_poly) l_state_poly c_state_poly p_state_poly
  have b_state_poly := F_state_poly.binds (ps := ["machine", "state"]) fun _ _ _ _ _ _ us hl => match us, hl with | [_, _], _ => rfl
  have F_ring_of := fun_mk (st := s_ring_of) l_ring_of c_ring_of p_ring_of
  have b_ring_of := F_ring_of.binds (ps := ["machine", "state"]) fun _ _ _ _ _ _ us hl => match us, hl with | [_, _], _ => rfl
  have F_is_pair := fun_mk (st := s_is_pair) l_is_pair c_is_pair p_is_pair
  have b_is_pair := F_is_pair.binds (ps := ["thing", "stores", "inputs"]) fun _ _ _ _ _ _ us hl => match us, hl with | [_, _, _], _ => rfl
  have F_check_table := fun_mk (st := s_check_table) l_check_table c_check_table p_check_table
  have b_check_table := F_check_table.binds (ps := ["inputs", "nexts", "outs"]) fun _ _ _ _ _ _ us hl => match us, hl with | [_, _, _], _ => rfl
  have F_is_odd := fun_mk (st := s_is_odd) l_is_odd c_is_odd p_is_odd
  have b_is_odd := F_is_odd.binds (ps := ["pair", "state", "row"]) fun _ _ _ _ _ _ us hl => match us, hl with | [_, _, _], _ => rfl
  have F_odd_places := fun_mk (st := s_odd_places) l_odd_places c_odd_places p_odd_places
  have b_odd_places := F_odd_places.binds (ps := ["pairs", "state", "row"]) fun _ _ _ _ _ _ us hl => match us, hl with | [_, _, _], _ => rfl
  have F_Machine___init__ := fun_mk (st := s_Machine___init__) l_Machine___init__ c_Machine___init__ p_Machine___init__
  have b_Machine___init__ := F_Machine___init__.binds (ps := ["self", "inputs", "nexts", "outs"]) fun _ _ _ _ _ _ us hl => match us, hl with | [_, _, _, _], _ => rfl
  have F_Machine_stores := fun_mk (st := s_Machine_stores) l_Machine_stores c_Machine_stores p_Machine_stores
  have b_Machine_stores := F_Machine_stores.binds (ps := ["self"]) fun _ _ _ _ _ _ us hl => match us, hl with | [_], _ => rfl
  have F_Machine_check_state := fun_mk (st := s_Machine_check_state) l_Machine_check_state c_Machine_check_state p_Machine_check_state
  have b_Machine_check_state := F_Machine_check_state.binds (ps := ["self", "state"]) fun _ _ _ _ _ _ us hl => match us, hl with | [_, _], _ => rfl
  have F_Machine_step := fun_mk (st := s_Machine_step) l_Machine_step c_Machine_step p_Machine_step
  have b_Machine_step := F_Machine_step.binds (ps := ["self", "state", "row"]) fun _ _ _ _ _ _ us hl => match us, hl with | [_, _, _], _ => rfl
  have F__law_cell := fun_mk (st := s__law_cell) l__law_cell c__law_cell p__law_cell
  have b__law_cell := F__law_cell.binds (ps := ["_law_script", "_law_k"]) fun _ _ _ _ _ _ us hl => match us, hl with | [_, _], _ => rfl
  have F__law_mix := fun_mk (st := s__law_mix) l__law_mix c__law_mix p__law_mix
  have b__law_mix := F__law_mix.binds (ps := ["_law_cell_here", "_law_k"]) fun _ _ _ _ _ _ us hl => match us, hl with | [_, _], _ => rfl
  have F__law_masks := fun_mk (st := s__law_masks) l__law_masks c__law_masks p__law_masks
  have b__law_masks := F__law_masks.binds (ps := ["_law_cell_here", "_law_start", "_law_many", "_law_width", "_law_digits"]) fun _ _ _ _ _ _ us hl => match us, hl with | [_, _, _, _, _], _ => rfl
  have F__law_thinned := fun_mk (st := s__law_thinned) l__law_thinned c__law_thinned p__law_thinned
  have b__law_thinned := F__law_thinned.binds (ps := ["_law_masks_here", "_law_cell_here", "_law_start", "_law_way"]) fun _ _ _ _ _ _ us hl => match us, hl with | [_, _, _, _], _ => rfl
  have F__law_machine := fun_mk (st := s__law_machine) l__law_machine c__law_machine p__law_machine
  have b__law_machine := F__law_machine.binds (ps := ["_law_script", "_law_start", "_law_most"]) fun _ _ _ _ _ _ us hl => match us, hl with | [_, _, _], _ => rfl
  have F__law_odd := fun_mk (st := s__law_odd) l__law_odd c__law_odd p__law_odd
  have b__law_odd := F__law_odd.binds (ps := ["_law_mask"]) fun _ _ _ _ _ _ us hl => match us, hl with | [_], _ => rfl
  have F__law_turn := fun_mk (st := s__law_turn) l__law_turn c__law_turn p__law_turn
  have b__law_turn := F__law_turn.binds (ps := ["_law_nexts", "_law_state"]) fun _ _ _ _ _ _ us hl => match us, hl with | [_, _], _ => rfl
  have F__law_by := fun_mk (st := s__law_by) l__law_by c__law_by p__law_by
  have b__law_by := F__law_by.binds (ps := ["_law_ends", "_law_state"]) fun _ _ _ _ _ _ us hl => match us, hl with | [_, _], _ => rfl
  have F__law_behind := fun_mk (st := s__law_behind) l__law_behind c__law_behind p__law_behind
  have b__law_behind := F__law_behind.binds (ps := ["_law_nexts", "_law_state", "_law_turns"]) fun _ _ _ _ _ _ us hl => match us, hl with | [_, _, _], _ => rfl
  have F__law_primes := fun_mk (st := s__law_primes) l__law_primes c__law_primes p__law_primes
  have b__law_primes := F__law_primes.binds (ps := ["_law_number"]) fun _ _ _ _ _ _ us hl => match us, hl with | [_], _ => rfl
  have F__law_walked := fun_mk (st := s__law_walked) l__law_walked c__law_walked p__law_walked
  have b__law_walked := F__law_walked.binds (ps := ["_law_nexts", "_law_state", "_law_length"]) fun _ _ _ _ _ _ us hl => match us, hl with | [_, _, _], _ => rfl
  have F__law_right := fun_mk (st := s__law_right) l__law_right c__law_right p__law_right
  have b__law_right := F__law_right.binds (ps := ["_law_machine_here", "_law_nexts", "_law_state"]) fun _ _ _ _ _ _ us hl => match us, hl with | [_, _, _], _ => rfl
  have F__law_refused := fun_mk (st := s__law_refused) l__law_refused c__law_refused p__law_refused
  have b__law_refused := F__law_refused.binds (ps := ["_law_machine_here", "_law_thing"]) fun _ _ _ _ _ _ us hl => match us, hl with | [_, _], _ => rfl
  have F_law := fun_mk (st := s_law) l_law c_law p_law
  have b_law := F_law.binds (ps := ["_law_script"]) fun _ _ _ _ _ _ us hl => match us, hl with | [_], _ => rfl
  have T : Tx K mg ⟨f_is_whole, _, f_is_mask, _, f_even, _, f_bits_of, _, f_mask_of, _, f_degree, _, f_divided, _, f_turns_to_one, _, f_Steps___init__, _, f_Steps_lowered, _, f_Steps_lay, _, f_Steps_barring, _, f_sum_for, _, f_chain, _, f_states_behind, _, f_state_poly, _, f_ring_of, _, f_is_pair, _, f_check_table, _, f_is_odd, _, f_odd_places, _, f_Machine___init__, _, f_Machine_stores, _, f_Machine_check_state, _, f_Machine_step, _, f__law_cell, _, f__law_mix, _, f__law_masks, _, f__law_thinned, _, f__law_machine, _, f__law_odd, _, f__law_turn, _, f__law_by, _, f__law_behind, _, f__law_primes, _, f__law_walked, _, f__law_right, _, f__law_refused, _, fa, _, c_Steps, c_Machine, c_BadMask, c_BadTable, _, _, _⟩ := ⟨F_is_whole, p_is_whole, b_is_whole, PySem.W.mg_of X G a_is_whole, F_is_mask, p_is_mask, b_is_mask, PySem.W.mg_of X G a_is_mask, F_even, p_even, b_even, PySem.W.mg_of X G a_even, F_bits_of, p_bits_of, b_bits_of, PySem.W.mg_of X G a_bits_of, F_mask_of, p_mask_of, b_mask_of, PySem.W.mg_of X G a_mask_of, F_degree, p_degree, b_degree, PySem.W.mg_of X G a_degree, F_divided, p_divided, b_divided, PySem.W.mg_of X G a_divided, F_turns_to_one, p_turns_to_one, b_turns_to_one, PySem.W.mg_of X G a_turns_to_one, F_Steps___init__, p_Steps___init__, b_Steps___init__, F_Steps_lowered, p_Steps_lowered, b_Steps_lowered, F_Steps_lay, p_Steps_lay, b_Steps_lay, F_Steps_barring, p_Steps_barring, b_Steps_barring, F_sum_for, p_sum_for, b_sum_for, PySem.W.mg_of X G a_sum_for, F_chain, p_chain, b_chain, PySem.W.mg_of X G a_chain, F_states_behind, p_states_behind, b_states_behind, PySem.W.mg_of X G a_states_behind, F_state_poly, p_state_poly, b_state_poly, PySem.W.mg_of X G a_state_poly, F_ring_of, p_ring_of, b_ring_of, PySem.W.mg_of X G a_ring_of, F_is_pair, p_is_pair, b_is_pair, PySem.W.mg_of X G a_is_pair, F_check_table, p_check_table, b_check_table, PySem.W.mg_of X G a_check_table, F_is_odd, p_is_odd, b_is_odd, PySem.W.mg_of X G a_is_odd, F_odd_places, p_odd_places, b_odd_places, PySem.W.mg_of X G a_odd_places, F_Machine___init__, p_Machine___init__, b_Machine___init__, F_Machine_stores, p_Machine_stores, b_Machine_stores, F_Machine_check_state, p_Machine_check_state, b_Machine_check_state, F_Machine_step, p_Machine_step, b_Machine_step, F__law_cell, p__law_cell, b__law_cell, PySem.W.mg_of X G a__law_cell, F__law_mix, p__law_mix, b__law_mix, PySem.W.mg_of X G a__law_mix, F__law_masks, p__law_masks, b__law_masks, PySem.W.mg_of X G a__law_masks, F__law_thinned, p__law_thinned, b__law_thinned, PySem.W.mg_of X G a__law_thinned, F__law_machine, p__law_machine, b__law_machine, PySem.W.mg_of X G a__law_machine, F__law_odd, p__law_odd, b__law_odd, PySem.W.mg_of X G a__law_odd, F__law_turn, p__law_turn, b__law_turn, PySem.W.mg_of X G a__law_turn, F__law_by, p__law_by, b__law_by, PySem.W.mg_of X G a__law_by, F__law_behind, p__law_behind, b__law_behind, PySem.W.mg_of X G a__law_behind, F__law_primes, p__law_primes, b__law_primes, PySem.W.mg_of X G a__law_primes, F__law_walked, p__law_walked, b__law_walked, PySem.W.mg_of X G a__law_walked, F__law_right, p__law_right, b__law_right, PySem.W.mg_of X G a__law_right, F__law_refused, p__law_refused, b__law_refused, PySem.W.mg_of X G a__law_refused, F_law, p_law, b_law, PySem.W.mg_of X G a_law, PySem.W.mg_of X G a_Steps, ⟨q1_Steps, q2_Steps, q3_Steps, q4_Steps⟩, ⟨⟨q1_Steps, q2_Steps, q3_Steps, q4_Steps⟩, q5_Steps, w1, w2, q6_Steps⟩, ⟨e1_Steps, e2_Steps, e3_Steps, e4_Steps⟩, ⟨m1_Steps_lowered, m2_Steps_lowered, p_Steps_lowered⟩, ⟨m1_Steps_lay, m2_Steps_lay, p_Steps_lay⟩, ⟨m1_Steps_barring, m2_Steps_barring, p_Steps_barring⟩, o_Steps_by_top, o_Steps_free_places, o_Steps_inputs, o_Steps_nexts, o_Steps_null_masks, o_Steps_outs, PySem.W.mg_of X G a_Machine, ⟨q1_Machine, q2_Machine, q3_Machine, q4_Machine⟩, ⟨⟨q1_Machine, q2_Machine, q3_Machine, q4_Machine⟩, q5_Machine, w1, w2, q6_Machine⟩, ⟨e1_Machine, e2_Machine, e3_Machine, e4_Machine⟩, ⟨m1_Machine_stores, m2_Machine_stores, p_Machine_stores⟩, ⟨m1_Machine_check_state, m2_Machine_check_state, p_Machine_check_state⟩, ⟨m1_Machine_step, m2_Machine_step, p_Machine_step⟩, o_Machine_by_top, o_Machine_free_places, o_Machine_inputs, o_Machine_nexts, o_Machine_null_masks, o_Machine_outs, PySem.W.mg_of X G a_BadMask, x_BadMask, ⟨y1_BadMask, y2_BadMask, y3_BadMask, y4_BadMask, w1, w2, y5_BadMask, y6_BadMask⟩, r_BadMask_BadMask, ⟨t2_BadMask, t1_BadMask, hb_BadMask⟩, PySem.W.mg_of X G a_BadTable, x_BadTable, ⟨y1_BadTable, y2_BadTable, y3_BadTable, y4_BadTable, w1, w2, y5_BadTable, y6_BadTable⟩, r_BadTable_BadMask, PySem.W.mg_of X G a_MOST_INPUTS, PySem.W.mg_of X G a_MOST_OUTS, PySem.W.mg_of X G a_MOST_STORES, PySem.W.mg_none_of X G z_all, PySem.W.mg_none_of X G z_bool, PySem.W.mg_none_of X G z_enumerate, PySem.W.mg_none_of X G z_int, PySem.W.mg_none_of X G z_isinstance, PySem.W.mg_none_of X G z_len, PySem.W.mg_none_of X G z_list, PySem.W.mg_none_of X G z_range, PySem.W.mg_none_of X G z_sorted, PySem.W.mg_none_of X G z_tuple, PySem.W.mg_none_of X G z_zip⟩
  exact ⟨_, fun s v => .of_eq rfl, fun base _ _ => ok_law T⟩
theorem walk {l : PySem.W.OpenLaw} {q : Program} {loose : List Str} {XP : (Str → Option Value) → Heap → Prop} {YP : World → Heap → Prop} {d : DefRec} {K : Params → PySem.W.Frag} (hn : l.most = some 63) (hdf : d.params.defaults = [])
    (hY : ∀ (w : World) (h : Heap), YP w h → (K w.params).In h)
    (F : ∀ (w : World) (mg : Str → Option Value) (fa : Addr) (h : Heap), (K w.params).In h → h.Ns mainGlobals mg → mg d.name = some (.ref fa) →
      ∃ fd : FuncData, (∀ (s : Shared) (u : Value), BindsTo s fd ⟨[u], []⟩ [("_law_script", u)]) ∧ ∀ base : Heap, (K w.params).In base → base.Ns mainGlobals mg → FnOk l.prog w (K w.params) mg base CX0 10 fa fd ["_law_script"] (sp_law (K w.params))) :
    PySem.W.WalkO q loose XP YP l.row.toRowW d [] (fun f vs => PySem.call f vs) :=
  L2.walk_of (n := 63) (k := 10) (x := "_law_script") (CX := fun _ => CX0) (sp := fun w => sp_law (K w.params)) hn (by decide) hdf ⟨rfl, by decide, by decide⟩ hY F (fun _ _ a ns hl _ hS => ⟨a, ns, rfl, hS, hl, fun _ => rfl⟩) fun _ _ _ _ _ z => z
end My
def PySem.W.Fast.tw5141402082893697144 : Unit := ()
def PySem.W.Fast.tw12977790583080544671 : Unit := ()
def PySem.W.Fast.tw9233395377973473681 : Unit := ()
def PySem.W.Fast.tw11009019005527888438 : Unit := ()
def PySem.W.Fast.tw7939056215644393337 : Unit := ()
def PySem.W.Fast.tw18102525732983072091 : Unit := ()
def PySem.W.Fast.tw7061673586470779404 : Unit := ()
def PySem.W.Fast.tw13411928799369098208 : Unit := ()
def PySem.W.Fast.tw12792752053824297193 : Unit := ()
def PySem.W.Fast.tw4546869112838920732 : Unit := ()
def PySem.W.Fast.tw6191532917511966611 : Unit := ()
def PySem.W.Fast.tw453747827035082163 : Unit := ()
def PySem.W.Fast.tw14139510241234249691 : Unit := ()
def PySem.W.Fast.tw9643732778581951882 : Unit := ()
def PySem.W.Fast.tw11944726294465898735 : Unit := ()
def PySem.W.Fast.tw2974399976495311203 : Unit := ()
def PySem.W.Fast.tw13706920089937235719 : Unit := ()
def PySem.W.Fast.tw13610559458776832967 : Unit := ()
def PySem.W.Fast.tw14329100900691537583 : Unit := ()
def PySem.W.Fast.tw7210035091252997648 : Unit := ()
def PySem.W.Fast.tw17918968812085894970 : Unit := ()
def PySem.W.Fast.tw9998334125756760896 : Unit := ()
def PySem.W.Fast.tw14775577564834642434 : Unit := ()
def PySem.W.Fast.tw11210335784868065156 : Unit := ()
def PySem.W.Fast.tw5724366618208032020 : Unit := ()
def PySem.W.Fast.tw8984532329168531703 : Unit := ()
def PySem.W.Fast.tw14486273475946523680 : Unit := ()
def PySem.W.Fast.tw15846252495285636193 : Unit := ()
def PySem.W.Fast.tw17900806902795450076 : Unit := ()
def PySem.W.Fast.tw7812271918408006457 : Unit := ()
def PySem.W.Fast.tw7683382324489248311 : Unit := ()
def PySem.W.Fast.tw9235736467446754923 : Unit := ()
def PySem.W.Fast.tw4388770874770281002 : Unit := ()
def PySem.W.Fast.tw8882026095143102627 : Unit := ()
def PySem.W.Fast.tw15014979245768991262 : Unit := ()
def PySem.W.Fast.tw721988414652689626 : Unit := ()
open PySem PySem.W PyProof.Rows
set_option maxRecDepth 100000 in
set_option maxHeartbeats 0 in
theorem PySem.Challenge.cw_sumwires_k81_whole_states_go_round_holds : PySem.Challenge.rw_sumwires_k81_whole_states_go_round.Holds := by
  w_on; o_law; k_head; (case hw => w_witness2)
  k_fill
  refine My.walk (l := PySem.Challenge.rw_sumwires_k81_whole_states_go_round) rfl rfl (fun w h Y => PySem.W.kIn_of Y) ?F
  case F =>
    intro w mg fa h KX G hmg
    refine' My.all_mk KX G hmg ?a_Steps ?a_Machine ?a_is_whole ?l_is_whole ?c_is_whole ?p_is_whole ?a_is_mask ?l_is_mask ?c_is_mask ?p_is_mask ?a_even ?l_even ?c_even ?p_even ?a_bits_of ?l_bits_of ?c_bits_of ?p_bits_of ?a_mask_of ?l_mask_of ?c_mask_of ?p_mask_of ?a_degree ?l_degree ?c_degree ?p_degree ?a_divided ?l_divided ?c_divided ?p_divided ?a_turns_to_one ?l_turns_to_one ?c_turns_to_one ?p_turns_to_one ?x_Steps___init__ ?l_Steps___init__ ?c_Steps___init__ ?p_Steps___init__ ?x_Steps_lowered ?l_Steps_lowered ?c_Steps_lowered ?p_Steps_lowered ?x_Steps_lay ?l_Steps_lay ?c_Steps_lay ?p_Steps_lay ?x_Steps_barring ?l_Steps_barring ?c_Steps_barring ?p_Steps_barring ?a_sum_for ?l_sum_for ?c_sum_for ?p_sum_for ?a_chain ?l_chain ?c_chain ?p_chain ?a_states_behind ?l_states_behind ?c_states_behind ?p_states_behind ?a_state_poly ?l_state_poly ?c_state_poly ?p_state_poly ?a_ring_of ?l_ring_of ?c_ring_of ?p_ring_of ?a_is_pair ?l_is_pair ?c_is_pair ?p_is_pair ?a_check_table ?l_check_table ?c_check_table ?p_check_table ?a_is_odd ?l_is_odd ?c_is_odd ?p_is_odd ?a_odd_places ?l_odd_places ?c_odd_places ?p_odd_places ?x_Machine___init__ ?l_Machine___init__ ?c_Machine___init__ ?p_Machine___init__ ?x_Machine_stores ?l_Machine_stores ?c_Machine_stores ?p_Machine_stores ?x_Machine_check_state ?l_Machine_check_state ?c_Machine_check_state ?p_Machine_check_state ?x_Machine_step ?l_Machine_step ?c_Machine_step ?p_Machine_step ?a__law_cell ?l__law_cell ?c__law_cell ?p__law_cell ?a__law_mix ?l__law_mix ?c__law_mix ?p__law_mix ?a__law_masks ?l__law_masks ?c__law_masks ?p__law_masks ?a__law_thinned ?l__law_thinned ?c__law_thinned ?p__law_thinned ?a__law_machine ?l__law_machine ?c__law_machine ?p__law_machine ?a__law_odd ?l__law_odd ?c__law_odd ?p__law_odd ?a__law_turn ?l__law_turn ?c__law_turn ?p__law_turn ?a__law_by ?l__law_by ?c__law_by ?p__law_by ?a__law_behind ?l__law_behind ?c__law_behind ?p__law_behind ?a__law_primes ?l__law_primes ?c__law_primes ?p__law_primes ?a__law_walked ?l__law_walked ?c__law_walked ?p__law_walked ?a__law_right ?l__law_right ?c__law_right ?p__law_right ?a__law_refused ?l__law_refused ?c__law_refused ?p__law_refused ?a_law ?l_law ?c_law ?p_law ?q1_Steps ?q2_Steps ?q3_Steps ?q4_Steps ?q5_Steps ?q6_Steps ?e1_Steps ?e2_Steps ?e3_Steps ?e4_Steps ?m1_Steps_lowered ?m2_Steps_lowered ?m1_Steps_lay ?m2_Steps_lay ?m1_Steps_barring ?m2_Steps_barring ?o_Steps_by_top ?o_Steps_free_places ?o_Steps_inputs ?o_Steps_nexts ?o_Steps_null_masks ?o_Steps_outs ?q1_Machine ?q2_Machine ?q3_Machine ?q4_Machine ?q5_Machine ?q6_Machine ?e1_Machine ?e2_Machine ?e3_Machine ?e4_Machine ?m1_Machine_stores ?m2_Machine_stores ?m1_Machine_check_state ?m2_Machine_check_state ?m1_Machine_step ?m2_Machine_step ?o_Machine_by_top ?o_Machine_free_places ?o_Machine_inputs ?o_Machine_nexts ?o_Machine_null_masks ?o_Machine_outs ?w1 ?w2 ?a_BadMask ?a_BadTable ?t1_BadMask ?t2_BadMask ?t3_BadMask ?x_BadMask ?y1_BadMask ?y2_BadMask ?y3_BadMask ?y4_BadMask ?y5_BadMask ?y6_BadMask ?r_BadMask_BadMask ?hb_BadMask ?x_BadTable ?y1_BadTable ?y2_BadTable ?y3_BadTable ?y4_BadTable ?y5_BadTable ?y6_BadTable ?r_BadTable_BadMask ?a_MOST_INPUTS ?a_MOST_OUTS ?a_MOST_STORES ?z_all ?z_bool ?z_enumerate ?z_int ?z_isinstance ?z_len ?z_list ?z_range ?z_sorted ?z_tuple ?z_zip
    (case a_Steps => k_is)
    (case a_Machine => k_is)
    (case a_is_whole => k_is)
    (case l_is_whole => k_is)
    (case c_is_whole => k_is)
    (case p_is_whole => k_is)
    (case a_is_mask => k_is)
    (case l_is_mask => k_is)
    (case c_is_mask => k_is)
    (case p_is_mask => k_is)
    (case a_even => k_is)
    (case l_even => k_is)
    (case c_even => k_is)
    (case p_even => k_is)
    (case a_bits_of => k_is)
    (case l_bits_of => k_is)
    (case c_bits_of => k_is)
    (case p_bits_of => k_is)
    (case a_mask_of => k_is)
    (case l_mask_of => k_is)
    (case c_mask_of => k_is)
    (case p_mask_of => k_is)
    (case a_degree => k_is)
    (case l_degree => k_is)
    (case c_degree => k_is)
    (case p_degree => k_is)
    (case a_divided => k_is)
    (case l_divided => k_is)
    (case c_divided => k_is)
    (case p_divided => k_is)
    (case a_turns_to_one => k_is)
    (case l_turns_to_one => k_is)
    (case c_turns_to_one => k_is)
    (case p_turns_to_one => k_is)
    (case x_Steps___init__ => k_is)
    (case l_Steps___init__ => k_is)
    (case c_Steps___init__ => k_is)
    (case p_Steps___init__ => k_is)
    (case x_Steps_lowered => k_is)
    (case l_Steps_lowered => k_is)
    (case c_Steps_lowered => k_is)
    (case p_Steps_lowered => k_is)
    (case x_Steps_lay => k_is)
    (case l_Steps_lay => k_is)
    (case c_Steps_lay => k_is)
    (case p_Steps_lay => k_is)
    (case x_Steps_barring => k_is)
    (case l_Steps_barring => k_is)
    (case c_Steps_barring => k_is)
    (case p_Steps_barring => k_is)
    (case a_sum_for => k_is)
    (case l_sum_for => k_is)
    (case c_sum_for => k_is)
    (case p_sum_for => k_is)
    (case a_chain => k_is)
    (case l_chain => k_is)
    (case c_chain => k_is)
    (case p_chain => k_is)
    (case a_states_behind => k_is)
    (case l_states_behind => k_is)
    (case c_states_behind => k_is)
    (case p_states_behind => k_is)
    (case a_state_poly => k_is)
    (case l_state_poly => k_is)
    (case c_state_poly => k_is)
    (case p_state_poly => k_is)
    (case a_ring_of => k_is)
    (case l_ring_of => k_is)
    (case c_ring_of => k_is)
    (case p_ring_of => k_is)
    (case a_is_pair => k_is)
    (case l_is_pair => k_is)
    (case c_is_pair => k_is)
    (case p_is_pair => k_is)
    (case a_check_table => k_is)
    (case l_check_table => k_is)
    (case c_check_table => k_is)
    (case p_check_table => k_is)
    (case a_is_odd => k_is)
    (case l_is_odd => k_is)
    (case c_is_odd => k_is)
    (case p_is_odd => k_is)
    (case a_odd_places => k_is)
    (case l_odd_places => k_is)
    (case c_odd_places => k_is)
    (case p_odd_places => k_is)
    (case x_Machine___init__ => k_is)
    (case l_Machine___init__ => k_is)
    (case c_Machine___init__ => k_is)
    (case p_Machine___init__ => k_is)
    (case x_Machine_stores => k_is)
    (case l_Machine_stores => k_is)
    (case c_Machine_stores => k_is)
    (case p_Machine_stores => k_is)
    (case x_Machine_check_state => k_is)
    (case l_Machine_check_state => k_is)
    (case c_Machine_check_state => k_is)
    (case p_Machine_check_state => k_is)
    (case x_Machine_step => k_is)
    (case l_Machine_step => k_is)
    (case c_Machine_step => k_is)
    (case p_Machine_step => k_is)
    (case a__law_cell => k_is)
    (case l__law_cell => k_is)
    (case c__law_cell => k_is)
    (case p__law_cell => k_is)
    (case a__law_mix => k_is)
    (case l__law_mix => k_is)
    (case c__law_mix => k_is)
    (case p__law_mix => k_is)
    (case a__law_masks => k_is)
    (case l__law_masks => k_is)
    (case c__law_masks => k_is)
    (case p__law_masks => k_is)
    (case a__law_thinned => k_is)
    (case l__law_thinned => k_is)
    (case c__law_thinned => k_is)
    (case p__law_thinned => k_is)
    (case a__law_machine => k_is)
    (case l__law_machine => k_is)
    (case c__law_machine => k_is)
    (case p__law_machine => k_is)
    (case a__law_odd => k_is)
    (case l__law_odd => k_is)
    (case c__law_odd => k_is)
    (case p__law_odd => k_is)
    (case a__law_turn => k_is)
    (case l__law_turn => k_is)
    (case c__law_turn => k_is)
    (case p__law_turn => k_is)
    (case a__law_by => k_is)
    (case l__law_by => k_is)
    (case c__law_by => k_is)
    (case p__law_by => k_is)
    (case a__law_behind => k_is)
    (case l__law_behind => k_is)
    (case c__law_behind => k_is)
    (case p__law_behind => k_is)
    (case a__law_primes => k_is)
    (case l__law_primes => k_is)
    (case c__law_primes => k_is)
    (case p__law_primes => k_is)
    (case a__law_walked => k_is)
    (case l__law_walked => k_is)
    (case c__law_walked => k_is)
    (case p__law_walked => k_is)
    (case a__law_right => k_is)
    (case l__law_right => k_is)
    (case c__law_right => k_is)
    (case p__law_right => k_is)
    (case a__law_refused => k_is)
    (case l__law_refused => k_is)
    (case c__law_refused => k_is)
    (case p__law_refused => k_is)
    (case a_law => k_is)
    (case l_law => k_is)
    (case c_law => k_is)
    (case p_law => k_is)
    (case q1_Steps => k_is)
    (case q2_Steps => k_is)
    (case q3_Steps => k_is)
    (case q4_Steps => k_is)
    (case q5_Steps => k_is)
    (case q6_Steps => k_is)
    (case e1_Steps => k_is)
    (case e2_Steps => k_is)
    (case e3_Steps => k_is)
    (case e4_Steps => k_is)
    (case m1_Steps_lowered => k_is)
    (case m2_Steps_lowered => k_is)
    (case m1_Steps_lay => k_is)
    (case m2_Steps_lay => k_is)
    (case m1_Steps_barring => k_is)
    (case m2_Steps_barring => k_is)
    (case o_Steps_by_top => k_is)
    (case o_Steps_free_places => k_is)
    (case o_Steps_inputs => k_is)
    (case o_Steps_nexts => k_is)
    (case o_Steps_null_masks => k_is)
    (case o_Steps_outs => k_is)
    (case q1_Machine => k_is)
    (case q2_Machine => k_is)
    (case q3_Machine => k_is)
    (case q4_Machine => k_is)
    (case q5_Machine => k_is)
    (case q6_Machine => k_is)
    (case e1_Machine => k_is)
    (case e2_Machine => k_is)
    (case e3_Machine => k_is)
    (case e4_Machine => k_is)
    (case m1_Machine_stores => k_is)
    (case m2_Machine_stores => k_is)
    (case m1_Machine_check_state => k_is)
    (case m2_Machine_check_state => k_is)
    (case m1_Machine_step => k_is)
    (case m2_Machine_step => k_is)
    (case o_Machine_by_top => k_is)
    (case o_Machine_free_places => k_is)
    (case o_Machine_inputs => k_is)
    (case o_Machine_nexts => k_is)
    (case o_Machine_null_masks => k_is)
    (case o_Machine_outs => k_is)
    (case w1 => k_is)
    (case w2 => k_is)
    (case a_BadMask => k_is)
    (case a_BadTable => k_is)
    (case t1_BadMask => k_is)
    (case t2_BadMask => k_is)
    (case t3_BadMask => k_is)
    (case x_BadMask => k_exc)
    (case y1_BadMask => k_is)
    (case y2_BadMask => k_is)
    (case y3_BadMask => k_is)
    (case y4_BadMask => k_is)
    (case y5_BadMask => k_is)
    (case y6_BadMask => k_is)
    (case r_BadMask_BadMask => k_is)
    (case hb_BadMask => k_is)
    (case x_BadTable => k_exc)
    (case y1_BadTable => k_is)
    (case y2_BadTable => k_is)
    (case y3_BadTable => k_is)
    (case y4_BadTable => k_is)
    (case y5_BadTable => k_is)
    (case y6_BadTable => k_is)
    (case r_BadTable_BadMask => k_is)
    (case a_MOST_INPUTS => k_is)
    (case a_MOST_OUTS => k_is)
    (case a_MOST_STORES => k_is)
    (case z_all => k_is)
    (case z_bool => k_is)
    (case z_enumerate => k_is)
    (case z_int => k_is)
    (case z_isinstance => k_is)
    (case z_len => k_is)
    (case z_list => k_is)
    (case z_range => k_is)
    (case z_sorted => k_is)
    (case z_tuple => k_is)
    (case z_zip => k_is)
