import PyProof.Rows.All
import Wide.All
import OpenK.AllK
import Wide.FinOn
import Lean
import PyProof.EqAt
import PyProof.EqKinds
import PyProof.TupleCall
import PyProof.NeKinds
import KE.KIsAll
import PyProof.RulesAs
import PyProof.StationsW
import PyProof.ExcClass2
import OpenK.KOwn
import PyProof.NsDelKeeps
import PyProof.ExcAttrAll.ValueError
import KE.KDictList
import KE.KSorted
import PyProof.SumAny
import PyProof.WalkInts
import PyProof.EnumMake
import KE.KItemsList
import KE.KRevIter
import PyProof.ExcInit
import PyProof.InstStoreFacts
import PySem.Challenge.RW_sumwires_k04_refusals_apart
set_option Elab.async false
set_option linter.all false
set_option maxRecDepth 100000
namespace L2
open PySem PySem.Spec PyProof.Rows
noncomputable abbrev Key := Sum Int Str
noncomputable def keyIs : Key → Value → Bool
  | .inl k, v => Value.isInt k v
  | .inr x, v => Value.isStrOf x v
noncomputable def keyH (w : World) : Key → Int
  | .inl k => hashInt k
  | .inr x => hashStr w x
theorem keyIs_shape : ∀ {k : Key} {v : Value}, keyIs k v = true → (∃ i t, k = Sum.inl i ∧ v = Value.int i t) ∨ (∃ x t, k = Sum.inr x ∧ v = Value.str x t)
  | .inl i, v, h => by
    obtain ⟨t, e⟩ := Value.isInt_shape (k := i) (v := v) h
    exact .inl ⟨i, t, rfl, e⟩
  | .inr x, v, h => by
    obtain ⟨t, e⟩ := Value.isStrOf_shape (x := x) (v := v) h
    exact .inr ⟨x, t, rfl, e⟩
theorem key_ll (a b : Int) : decide ((Sum.inl a : Key) = Sum.inl b) = (a == b) := by
  by_cases e : a = b
  · subst e; simp
  · have h : ¬ (Sum.inl a : Key) = Sum.inl b := fun q => e (Sum.inl.inj q)
    rw [decide_eq_false h]
    exact (beq_eq_false_iff_ne.mpr e).symm
theorem key_rr (a b : Str) : decide ((Sum.inr a : Key) = Sum.inr b) = decide (a = b) := by
  by_cases e : a = b
  · subst e; simp
  · have h : ¬ (Sum.inr a : Key) = Sum.inr b := fun q => e (Sum.inr.inj q)
    rw [decide_eq_false h, decide_eq_false e]
theorem key_lr (a : Int) (b : Str) : decide ((Sum.inl a : Key) = Sum.inr b) = false := decide_eq_false (fun q => nomatch q)
theorem key_rl (a : Str) (b : Int) : decide ((Sum.inr a : Key) = Sum.inl b) = false := decide_eq_false (fun q => nomatch q)
noncomputable def mixKind (prog : Program) (w : World) : PySem.KeyKind prog w Key where
  is := keyIs
  hash := keyH w
  inj := fun v a b ha hb => by
    rcases keyIs_shape ha with ⟨i, t, rfl, rfl⟩ | ⟨x, t, rfl, rfl⟩
    · rcases keyIs_shape hb with ⟨j, u, rfl, e⟩ | ⟨y, u, rfl, e⟩
      · injection e with e1 _; rw [e1]
      · exact nomatch e
    · rcases keyIs_shape hb with ⟨j, u, rfl, e⟩ | ⟨y, u, rfl, e⟩
      · exact nomatch e
      · injection e with e1 _; rw [e1]
  byValue := fun k v h => by
    rcases keyIs_shape h with ⟨i, t, rfl, rfl⟩ | ⟨x, t, rfl, rfl⟩ <;> rfl
  pyHash := fun hv h => by
    rcases keyIs_shape hv with ⟨i, t, rfl, rfl⟩ | ⟨x, t, rfl, rfl⟩
    · exact wpAny_pyHash_int h
    · exact wpAny_pyHash_str h
  eqBool := fun hu hv h => by
    rcases keyIs_shape hu with ⟨i, t, rfl, rfl⟩ | ⟨x, t, rfl, rfl⟩
    · rcases keyIs_shape hv with ⟨j, u, rfl, rfl⟩ | ⟨y, u, rfl, rfl⟩
      · rw [key_ll] at h; exact wpAny_eqBool_int h
      · rw [key_lr] at h; exact SeqAt.EqAt.int_str i t y u _ _ _ _ h
    · rcases keyIs_shape hv with ⟨j, u, rfl, rfl⟩ | ⟨y, u, rfl, rfl⟩
      · rw [key_rl] at h; exact SeqAt.EqAt.str_int x t j u _ _ _ _ h
      · rw [key_rr] at h; exact wpAny_eqBool_str h
  «strs» := fun k x t v h => by
    rcases keyIs_shape h with ⟨i, u, rfl, e⟩ | ⟨y, u, rfl, e⟩
    · exact nomatch e
    · injection e with e1 _
      subst e1
      cases v <;> rfl
end L2
namespace L2
open PySem PySem.Spec PyProof.Rows
inductive V where
  | non | bl (b : Bool) | int (i : Int) | str (x : Str) | byt (b : Array UInt8) | flt (b : UInt64) | ref (a : Addr) | ty (n : String)
  deriving DecidableEq
noncomputable def RelV : V → Value → Prop
  | .non, u => u = Value.none
  | .bl b, u => u = Value.bool b
  | .int i, u => ∃ t, u = Value.int i t
  | .str x, u => ∃ t, u = Value.str x t
  | .byt b, u => ∃ t, u = Value.bytes b t
  | .flt b, u => ∃ t, u = Value.float b t
  | .ref a, u => u = Value.ref a
  | .ty n, u => u = Value.type n
noncomputable abbrev Vals : List V → List Value → Prop := Paired RelV
theorem Vals.length {xs : List V} {us : List Value} (r : Vals xs us) : xs.length = us.length := Paired.length r
theorem Vals.get : ∀ {xs : List V} {us : List Value} {i : Nat} {x : V}, Vals xs us → xs[i]? = some x → ∃ u, us[i]? = some u ∧ RelV x u
  | _, _, _, _, .nil, e => by simp at e
  | _, _, 0, _, .cons r _, e => by simp at e; subst e; exact ⟨_, rfl, r⟩
  | _, _, i + 1, x, .cons _ t, e => by
    obtain ⟨u, h1, h2⟩ := Vals.get (i := i) (x := x) t (by simpa using e)
    exact ⟨u, by simpa using h1, h2⟩
theorem Vals.append : ∀ {xs ys : List V} {us ws : List Value}, Vals xs us → Vals ys ws → Vals (xs ++ ys) (us ++ ws)
  | _, _, _, _, .nil, s => s
  | _, _, _, _, .cons r t, s => .cons r (Vals.append t s)
theorem Vals.take : ∀ {xs : List V} {us : List Value} (n : Nat), Vals xs us → Vals (xs.take n) (us.take n)
  | _, _, 0, _ => .nil
  | _, _, _ + 1, .nil => .nil
  | _, _, n + 1, .cons r t => .cons r (Vals.take n t)
theorem Vals.drop : ∀ {xs : List V} {us : List Value} (n : Nat), Vals xs us → Vals (xs.drop n) (us.drop n)
  | _, _, 0, r => r
  | _, _, _ + 1, .nil => .nil
  | _, _, n + 1, .cons _ t => Vals.drop n t
noncomputable def RelO : Option V → Option Value → Prop
  | some v, some u => RelV v u
  | none, none => True
  | _, _ => False
noncomputable def KV {κ : Type} : List (κ × V) → List (κ × Value) → Prop := Paired fun (p : κ × V) (q : κ × Value) => p.1 = q.1 ∧ RelV p.2 q.2
noncomputable def kV : Key → V
  | .inl i => .int i
  | .inr x => .str x
inductive HO where
  | lst (xs : List V)
  | tup (xs : List V)
  | dK (kvs : List (Key × V)) | dT (kvs : List (List Key × V))
  | set (S : Int → Bool) (n : Nat)
  | ins (C dx : Addr) (fs : List (Str × V))
  | own (x : Addr)
  | xd (fs : List (Str × V))
  | met (f x : Addr)
  | rng (lo hi : Int)
  | frz (o : Obj) (u : HO)
  | tbl (ps : Array Value)
  | ext (φ : Heap → Prop)
noncomputable abbrev Hp := Addr → Option HO
noncomputable def upd (H : Hp) (a : Addr) (o : HO) : Hp := fun b => if b = a then some o else H b
theorem upd_same {H : Hp} {a : Addr} {o : HO} : upd H a o a = some o := by unfold upd; rw [if_pos rfl]
theorem upd_ne {H : Hp} {a b : Addr} {o : HO} (h : b ≠ a) : upd H a o b = H b := by unfold upd; rw [if_neg h]
theorem ne_of_none {H : Hp} {a b : Addr} {o : HO} (h : H a = some o) (h' : H b = none) : a ≠ b := by
  intro e; subst e; rw [h] at h'; cases h'
section
variable (P : Program) (w : World)
noncomputable def ObjOk (H : Hp) (h : Heap) (a : Addr) : HO → Prop
  | .lst xs => xs.length ≤ sizeLine ∧ ∃ (its : List Value) (n : Nat), Vals xs its ∧ h.get? a = some { cls := .type "list", data := .seq its.toArray n }
  | .tup xs => xs.length ≤ sizeLine ∧ ∃ its : List Value, Vals xs its ∧ IsTup h a its.toArray
  | .dK kvs => kvs.length ≤ sizeLine ∧ (a == sysModules) = false ∧ ∃ vs, KV kvs vs ∧ h.DictOf (mixKind P w) a vs
  | .dT kvs => kvs.length ≤ sizeLine ∧ (a == sysModules) = false ∧ ∃ xs : List (List Key × Addr × Value),
      Paired (fun (p : List Key × V) (q : List Key × Addr × Value) => p.1 = q.1 ∧ H q.2.1 = some (.tup (p.1.map kV)) ∧ RelV p.2 q.2.2) kvs xs ∧
      ∃ o es ep, h.get? a = some o ∧ o.ExactDict ∧ o.data = .dict es ep ∧ es.toList = xs.map (entryOfKey (tupleKind (mixKind P w))) ∧ (xs.map (·.1)).Nodup
  | .set S n => h.SetOf (intKind P w) a S n
  | .ins C dx fs => H dx = some (.own a) ∧ fs.length ≤ 1000 ∧ dx ≠ a ∧ h.get? a = some (PySem.W.instObj C dx) ∧
      ∃ mA, h.Ns1 dx mA ∧ (∀ f, RelO (fs.lookup f) (mA f)) ∧ PySem.Within mA (fs.map (·.1))
  | .own _ => ∃ o, h.get? a = some o
  | .xd fs => ∃ mA, h.Ns1 a mA ∧ ∀ f, RelO (fs.lookup f) (mA f)
  | .rng lo hi => ∃ t u v, h.get? a = some { cls := .type "range", data := .fields #[.int lo t, .int hi u, .int 1 v] }
  | .frz o u => h.get? a = some o ∧ ObjOk H h a u
  | .tbl ps => h.get? a = some { cls := .none, data := .fields ps }
  | .met f x => h.get? a = some (PySem.W.methodObj (.ref f) (.ref x))
  | .ext φ => φ h ∧ (∃ o, h.get? a = some o) ∧ ∀ h1 h2 : Heap, φ h1 → (∀ o, h1.get? a = some o → h2.get? a = some o) → φ h2
noncomputable def HOk (H : Hp) (h : Heap) : Prop := ∀ a o, H a = some o → ObjOk P w H h a o
end
section
variable {P : Program} {w : World} {H H' : Hp} {h h' : Heap} {a : Addr} {o : HO}
theorem ObjOk.lt (x : ObjOk P w H h a o) : a < h.objs.size := by
  cases o with
  | lst xs => obtain ⟨_, _, _, _, e⟩ := x; exact Heap.lt_size e
  | tup xs => obtain ⟨_, _, _, p⟩ := x; exact p.lt
  | dK kvs => obtain ⟨_, _, _, _, o, _, _, e, _⟩ := x; exact Heap.lt_size e
  | dT kvs => obtain ⟨_, _, _, _, o, _, _, e, _⟩ := x; exact Heap.lt_size e
  | set S n => obtain ⟨o, _, _, _, e, _⟩ := x; exact Heap.lt_size e
  | ins C dx fs => obtain ⟨_, _, _, e, _⟩ := x; exact Heap.lt_size e
  | own y => obtain ⟨_, e⟩ := x; exact Heap.lt_size e
  | xd fs => obtain ⟨_, ⟨_, _, _, e, _⟩, _⟩ := x; exact Heap.lt_size e
  | rng lo hi => obtain ⟨_, _, _, e⟩ := x; exact Heap.lt_size e
  | frz ob u => obtain ⟨e, _⟩ := x; exact Heap.lt_size e
  | tbl ps => exact Heap.lt_size (show h.get? a = some _ from x)
  | met f y => exact Heap.lt_size (show h.get? a = some _ from x)
  | ext φ => obtain ⟨_, ⟨_, e⟩, _⟩ := x; exact Heap.lt_size e
theorem Paired.mapP {α β : Type} {F G : α → β → Prop} : ∀ {l₁ : List α} {l₂ : List β}, Paired F l₁ l₂ → (∀ a b, F a b → G a b) → Paired G l₁ l₂
  | _, _, .nil, _ => .nil
  | _, _, .cons r t, f => .cons (f _ _ r) (Paired.mapP t f)
theorem ObjOk.stay (x : ObjOk P w H h a o) (k : ∀ b u, (b = a ∨ H b = some (.own a)) → h.get? b = some u → h'.get? b = some u)
    (ho : ∀ b, H b = some (.own a) → H' b = some (.own a)) (ht : ∀ b xs, H b = some (.tup xs) → H' b = some (.tup xs)) : ObjOk P w H' h' a o := by
  induction o with
  | lst xs => obtain ⟨z, its, n, r, e⟩ := x; exact ⟨z, its, n, r, k _ _ (.inl rfl) e⟩
  | tup xs => obtain ⟨z, its, r, ob, e, c⟩ := x; exact ⟨z, its, r, ob, k _ _ (.inl rfl) e, c⟩
  | dK kvs => obtain ⟨z, y, vs, r, ob, es, ep, e, c⟩ := x; exact ⟨z, y, vs, r, ob, es, ep, k _ _ (.inl rfl) e, c⟩
  | dT kvs =>
    obtain ⟨z, y, xs, r, ob, es, ep, e, c⟩ := x
    exact ⟨z, y, xs, Paired.mapP r fun p q z => ⟨z.1, ht _ _ z.2.1, z.2.2⟩, ob, es, ep, k _ _ (.inl rfl) e, c⟩
  | set S n => obtain ⟨ob, es, ep, t, e, c⟩ := x; exact ⟨ob, es, ep, t, k _ _ (.inl rfl) e, c⟩
  | ins C dx fs =>
    obtain ⟨d, z, ne, e, mA, ⟨od, es, ep, e2, c⟩, r⟩ := x
    exact ⟨ho _ d, z, ne, k _ _ (.inl rfl) e, mA, ⟨od, es, ep, k _ _ (.inr d) e2, c⟩, r⟩
  | own y => obtain ⟨ob, e⟩ := x; exact ⟨ob, k _ _ (.inl rfl) e⟩
  | xd fs => obtain ⟨mA, ⟨od, es, ep, e, c⟩, r⟩ := x; exact ⟨mA, ⟨od, es, ep, k _ _ (.inl rfl) e, c⟩, r⟩
  | rng lo hi => obtain ⟨t, u, v, e⟩ := x; exact ⟨t, u, v, k _ _ (.inl rfl) e⟩
  | frz ob u ih => obtain ⟨e, q⟩ := x; exact ⟨k _ _ (.inl rfl) e, ih q⟩
  | tbl ps =>
    have e : h.get? a = some { cls := .none, data := .fields ps } := x
    show h'.get? a = some { cls := .none, data := .fields ps }
    exact k a _ (.inl rfl) e
  | met f y =>
    have e : h.get? a = some (PySem.W.methodObj (.ref f) (.ref y)) := x
    show h'.get? a = some (PySem.W.methodObj (.ref f) (.ref y))
    exact k a _ (.inl rfl) e
  | ext φ => obtain ⟨p, ⟨o, e⟩, st⟩ := x; exact ⟨st _ _ p fun o q => k _ _ (.inl rfl) q, ⟨o, k _ _ (.inl rfl) e⟩, st⟩
theorem HOk.lt (x : HOk P w H h) (e : H a = some o) : a < h.objs.size := (x a o e).lt
theorem HOk.fresh (x : HOk P w H h) (e : h.objs.size ≤ a) : H a = none := by
  cases q : H a with
  | none => rfl
  | some u => exact absurd (Nat.lt_of_lt_of_le (x.lt q) e) (Nat.lt_irrefl _)
theorem HOk.kept (x : HOk P w H h) (k : ∀ b u, h.get? b = some u → h'.get? b = some u) : HOk P w H h' := fun a o e =>
  (x a o e).stay (fun b u _ q => k b u q) (fun _ q => q) fun _ _ q => q
theorem HOk.laid (x : HOk P w H h) (k : ∀ b u, h.get? b = some u → h'.get? b = some u) (hp : h.objs.size ≤ a) (new : ObjOk P w (upd H a o) h' a o) : HOk P w (upd H a o) h' := fun b u e => by
  have hn := x.fresh hp
  by_cases hb : b = a
  · subst hb; rw [upd_same] at e; cases e; exact new
  · rw [upd_ne hb] at e
    exact (x b u e).stay (fun c v _ q => k c v q) (fun c q => by rw [upd_ne (ne_of_none q hn)]; exact q) fun c xs q => by rw [upd_ne (ne_of_none q hn)]; exact q
end
noncomputable def Rd (H : Hp) (a : Addr) (u : HO) : Prop := H a = some u ∨ ∃ o, H a = some (.frz o u)
theorem Rd.ok {P : Program} {w : World} {H : Hp} {h : Heap} {a : Addr} {u : HO} (r : Rd H a u) (x : HOk P w H h) : ObjOk P w H h a u := by
  rcases r with r | ⟨o, r⟩
  · exact x a u r
  · obtain ⟨_, q⟩ := x a _ r
    exact q
noncomputable def Mut : Option HO → Prop
  | some (.lst _) => True
  | some (.dK _) => True
  | some (.dT _) => True
  | some (.set _ _) => True
  | some (.ins _ _ _) => True
  | some (.ext _) => True
  | _ => False
section
variable {P : Program} {w : World} {H : Hp} {h h' : Heap} {x e : Addr} {o' : HO}
theorem HOk.write (ok : HOk P w H h) (mu : Mut (H x)) (he : e = x ∨ H e = some (.own x)) (k : ∀ b u, b ≠ e → h.get? b = some u → h'.get? b = some u) (heo : ∃ u, h'.get? e = some u)
    (new : ObjOk P w (upd H x o') h' x o') : HOk P w (upd H x o') h' := fun b u q => by
  have nown : ∀ c y, H c = some (.own y) → c ≠ x := fun c y r z => by subst z; rw [r] at mu; exact mu
  have ntup : ∀ c xs, H c = some (.tup xs) → c ≠ x := fun c xs r z => by subst z; rw [r] at mu; exact mu
  by_cases hb : b = x
  · subst hb; rw [upd_same] at q; cases q; exact new
  · rw [upd_ne hb] at q
    by_cases hbe : b = e
    · have q' : H b = some (.own x) := by
        rcases he with z | z
        · exact absurd (hbe.trans z) hb
        · rw [hbe]; exact z
      rw [q] at q'; cases q'
      obtain ⟨v, hv⟩ := heo
      exact ⟨v, by rw [hbe]; exact hv⟩
    · refine (ok b u q).stay (fun c v hc r => k c v ?_ r) (fun c r => by rw [upd_ne (nown c b r)]; exact r) fun c xs r => by rw [upd_ne (ntup c xs r)]; exact r
      rcases hc with rfl | hc
      · exact hbe
      · rintro rfl
        rcases he with z | z
        · exact nown c b hc z
        · rw [hc] at z; cases z; exact hb rfl
end
structure Un (fs ex : List Addr) (H H' : Hp) (h h' : Heap) : Prop where
  keep : ∀ b o, h.get? b = some o → H b = none → b ∉ fs → b ∉ ex → h'.get? b = some o
  slot : ∀ b o, h.get? b = some o → H b = none → b ∈ fs → b ∉ ex → ∃ sl, h'.get? b = some { o with slots := sl }
  free : ∀ b o, h.get? b = some o → H b = none → b ∉ ex → H' b = none
  there : ∀ b o, h.get? b = some o → b ∉ ex → ∃ o', h'.get? b = some o'
  tups : ∀ b xs, H b = some (.tup xs) → H' b = some (.tup xs)
  frzs : ∀ b o u, H b = some (.frz o u) → H' b = some (.frz o u)
  tbls : ∀ b ps, H b = some (.tbl ps) → ∃ more, H' b = some (.tbl (ps ++ more))
section
variable {fs fs' ex ex' : List Addr} {H H1 H2 : Hp} {h h1 h2 h' : Heap} {a x e : Addr} {o : HO}
theorem Un.any (u : Un fs ex H H1 h h1) {b : Addr} {ob : Obj} (q : h.get? b = some ob) (n : H b = none) (hx : b ∉ ex) : ∃ sl, h1.get? b = some { ob with slots := sl } := by
  by_cases hb : b ∈ fs
  · exact u.slot b ob q n hb hx
  · exact ⟨ob.slots, u.keep b ob q n hb hx⟩
theorem Un.kept (k : ∀ b u, h.get? b = some u → h'.get? b = some u) : Un fs ex H H h h' :=
  ⟨fun b ob q _ _ _ => k b ob q, fun b ob q _ _ _ => ⟨ob.slots, k b ob q⟩, fun _ _ _ n _ => n, fun b ob q _ => ⟨ob, k b ob q⟩, fun _ _ q => q, fun _ _ _ q => q, fun _ ps q => ⟨#[], by rw [q]; simp⟩⟩
theorem Un.refl : Un fs ex H H h h := Un.kept fun _ _ q => q
theorem Un.laid (k : ∀ b u, h.get? b = some u → h'.get? b = some u) (hp : h.objs.size ≤ a) (hn : H a = none) : Un fs ex H (upd H a o) h h' where
  keep := fun b u q _ _ _ => k b u q
  slot := fun b u q _ _ _ => ⟨u.slots, k b u q⟩
  free := fun b u q n _ => by rw [upd_ne (Nat.ne_of_lt (Nat.lt_of_lt_of_le (Heap.lt_size q) hp))]; exact n
  there := fun b u q _ => ⟨u, k b u q⟩
  tups := fun b xs q => by rw [upd_ne (ne_of_none q hn)]; exact q
  frzs := fun b u xs q => by rw [upd_ne (ne_of_none q hn)]; exact q
  tbls := fun b ps q => ⟨#[], by rw [upd_ne (ne_of_none q hn), q]; simp⟩
theorem Un.write (mu : Mut (H x)) (he : e = x ∨ H e = some (.own x)) (k : ∀ b u, b ≠ e → h.get? b = some u → h'.get? b = some u) (heo : ∃ u, h'.get? e = some u) : Un fs ex H (upd H x o) h h' := by
  have hx : ∀ b, H b = none → b ≠ x := fun b n z => by subst z; rw [n] at mu; exact mu
  have hb : ∀ b, H b = none → b ≠ e := fun b n z => by
    subst z
    rcases he with r | r
    · exact hx b n r
    · rw [n] at r; cases r
  have hm : ∀ b u, H b = some u → ¬ Mut (some u) → b ≠ x := fun b u q nm z => by subst z; rw [q] at mu; exact nm mu
  refine ⟨fun b u q n _ _ => k b u (hb b n) q, fun b u q n _ _ => ⟨u.slots, k b u (hb b n) q⟩, fun b u q n _ => by rw [upd_ne (hx b n)]; exact n, fun b u q _ => ?_,
    fun b xs q => by rw [upd_ne (hm b _ q fun z => z)]; exact q, fun b u xs q => by rw [upd_ne (hm b _ q fun z => z)]; exact q, fun b ps q => ⟨#[], by rw [upd_ne (hm b _ q fun z => z), q]; simp⟩⟩
  by_cases hbe : b = e
  · subst hbe; exact heo
  · exact ⟨u, k b u hbe q⟩
end
noncomputable def trk (h : Heap) (H : Hp) : List Addr := (List.range h.objs.size).filter fun a => (H a).isSome
noncomputable def hidT (h : Heap) (H : Hp) : Heap := PySem.W.hideAll h (trk h H)
theorem hidT_size (h : Heap) (H : Hp) : (hidT h H).objs.size = h.objs.size := PySem.W.hideAll_size _ _
theorem hidT_get {h : Heap} {H : Hp} {b : Addr} {o : Obj} (e : h.get? b = some o) (n : H b = none) : (hidT h H).get? b = some o :=
  PySem.W.hideAll_get _ e fun hm => by
    have q : (H b).isSome = true := (List.mem_filter.mp hm).2
    rw [n] at q; simp at q
theorem of_hidT {h : Heap} {H : Hp} {b : Addr} {o : Obj} (e : (hidT h H).get? b = some o) : h.get? b = some o ∧ H b = none := by
  have e' : h.get? b = some o := PySem.W.of_hideAll (trk h H) e
  refine ⟨e', ?_⟩
  cases q : H b with
  | none => rfl
  | some x =>
    have hm : b ∈ trk h H := List.mem_filter.mpr ⟨List.mem_range.mpr (Heap.lt_size e'), by simp [q]⟩
    have z : (hidT h H).get? b = none := PySem.W.hideAll_none (trk h H) hm
    rw [z] at e; cases e
noncomputable def allNews (g h : Heap) (L : Addr) : List (Addr × Obj) := (List.range h.objs.size).filterMap fun a => if a = L ∨ (g.get? a).isSome = true then none else (h.get? a).map fun o => (a, o)
noncomputable def rest (g h : Heap) (L d : Addr) : List (Addr × Obj) := (allNews g h L).filter fun p => decide (p.1 ≠ d)
end L2
namespace L2
open PySem PySem.Spec PyProof.Rows
structure Mod (K : PySem.W.Frag) (mg : Str → Option Value) (base : Heap) : Prop where
  kin : K.In base
  glob : base.Ns mainGlobals mg
  blt : ∃ mb, base.Ns builtinsNs mb ∧ ∀ x : Str, x ≠ "__name__" → mb x = bootBuiltins x
  nolimit : base.NoLimit
structure Cx where
  prog : Program
  w : World
  K : PySem.W.Frag
  mg : Str → Option Value
  base : Heap
  A : Around
  N : List Str
  s₀ : Shared
  H₀ : Hp
  env : Env
  outer : List Env
  stack : List Env
  ex : List Addr
  fn : Str → Bool
  calm : Bool
  pn : List (Addr × Obj)
  xe : Value → Shared → Prop
noncomputable def frs (l : List Env) : List Addr := l.filterMap (·.frame)
noncomputable abbrev Cx.fs (X : Cx) : List Addr := frs X.outer
noncomputable def Vis (sc : Scope) (x : Str) : Prop := sc.names.lookup x = some .local ∨ sc.names.lookup x = some .cell ∨ sc.names.lookup x = some .free
noncomputable def Loc (sc : Scope) (x : Str) : Prop := sc.names.lookup x = some .local ∨ sc.names.lookup x = some .cell
noncomputable def Look (env : Env) (h : Heap) (m : Str → Option Value) (x : Str) (u : Value) : Prop :=
  (env.kindOf x = some .local ∧ m x = some u) ∨ ((env.kindOf x = some .cell ∨ env.kindOf x = some .free) ∧ ∃ c, env.cells.lookup x = some c ∧ h.IsCell c (some u))
structure Cx.Ok (X : Cx) : Prop where
  mod : Mod X.K X.mg X.base
  kind : X.env.scope.kind = .function
  glob : X.env.globals = mainGlobals
  blt : X.env.builtins = builtinsNs
  above : X.s₀.heap.objs.size ≤ X.env.locals
  inj : ∀ x y c, X.env.cells.lookup x = some c → X.env.cells.lookup y = some c → x = y
  has : ∀ x, (X.env.kindOf x = some .cell ∨ X.env.kindOf x = some .free) → ∃ c, X.env.cells.lookup x = some c
  cab : ∀ x c, X.fn x = true → X.env.cells.lookup x = some c → X.s₀.heap.objs.size ≤ c
  hd : X.calm = true → X.A.handled = none
  frames : X.A.frames = some X.stack
  stk : X.stack = X.outer ∨ (X.stack = X.env :: X.outer ∧ X.env.frame = some X.env.locals)
  exf : ∀ b ∈ X.ex, b ≠ X.env.locals ∧ ∀ x c, X.env.cells.lookup x = some c → c ≠ b
  bs : ∀ b o, X.base.get? b = some o → X.s₀.heap.get? b = some o ∧ X.H₀ b = none
  bsz : X.base.objs.size ≤ X.s₀.heap.objs.size
  noex : ∀ b o, X.base.get? b = some o → b ∉ X.ex
  exfs : ∀ b ∈ X.ex, b ∉ X.fs
  funs : X.s₀.heap.FunFrames X.base X.outer
  frf : ∀ b ∈ X.fs, X.H₀ b = none
structure Inv (X : Cx) (pins : List (Addr × Obj)) (σ : List (Option V)) (H : Hp) (s : Shared) : Prop where
  ok : X.Ok
  os : s.os = X.s₀.os
  bare : AllBare s.gens
  base : Un X.fs X.ex X.H₀ H X.s₀.heap s.heap
  loc : ∃ m, s.heap.Ns X.env.locals m ∧ ∀ (i : Nat) (x : Str) (v : V), X.N[i]? = some x → σ[i]? = some (some v) → Vis X.env.scope x → ∃ u, RelV v u ∧ Look X.env s.heap m x u
  cell : ∀ x c, X.env.cells.lookup x = some c → ∃ v, s.heap.IsCell c v
  free : H X.env.locals = none
  freeC : ∀ x c, X.env.cells.lookup x = some c → H c = none
  pin : ∀ p ∈ X.pn ++ pins, s.heap.get? p.1 = some p.2 ∧ H p.1 = none ∧ p.1 ≠ X.env.locals ∧ p.1 ∉ X.fs ∧ ∀ v, p.2.data ≠ .cell v
  hok : HOk X.prog X.w H s.heap
  len : σ.length = X.N.length
section
variable {X : Cx} {pins : List (Addr × Obj)} {σ : List (Option V)} {H H' : Hp} {s : Shared} {h' : Heap}
theorem Cx.Ok.nofr (ok : X.Ok) {b : Addr} {o : Obj} (e : X.base.get? b = some o) : b ∉ X.fs := fun hb => by
  have := (ok.funs.mem hb).1
  rw [e] at this; cases this
theorem Inv.bs (I : Inv X pins σ H s) : ∀ b o, X.base.get? b = some o → s.heap.get? b = some o ∧ H b = none := fun b o e =>
  ⟨I.base.keep b o (I.ok.bs b o e).1 (I.ok.bs b o e).2 (I.ok.nofr e) (I.ok.noex b o e), I.base.free b o (I.ok.bs b o e).1 (I.ok.bs b o e).2 (I.ok.noex b o e)⟩
theorem Inv.bk (I : Inv X pins σ H s) : ∀ b o, X.base.get? b = some o → s.heap.get? b = some o := fun b o e => (I.bs b o e).1
theorem Inv.mod (I : Inv X pins σ H s) : Mod X.K X.mg X.base := I.ok.mod
theorem Inv.kIn (I : Inv X pins σ H s) : X.K.In s.heap := I.ok.mod.kin.keeps I.bk
theorem Inv.fr (I : Inv X pins σ H s) : ∃ m, Fr X.base X.env.locals s.heap m :=
  let ⟨m, hn, _⟩ := I.loc
  ⟨m, hn, I.bk, Nat.le_trans I.ok.bsz I.ok.above⟩
theorem Inv.lt (I : Inv X pins σ H s) : X.env.locals < s.heap.objs.size := let ⟨_, hn, _⟩ := I.loc; hn.lt
theorem Inv.sz (I : Inv X pins σ H s) : X.s₀.heap.objs.size ≤ s.heap.objs.size := Nat.le_trans I.ok.above (Nat.le_of_lt I.lt)
theorem Inv.nofs (I : Inv X pins σ H s) {a : Addr} (h : s.heap.objs.size ≤ a) : a ∉ X.fs := fun hb => by
  obtain ⟨_, o, ho, _⟩ := I.ok.funs.mem hb
  exact absurd (Nat.lt_of_lt_of_le (Heap.lt_size ho) (Nat.le_trans I.sz h)) (Nat.lt_irrefl _)
theorem Inv.cne (I : Inv X pins σ H s) : ∀ x c, X.env.cells.lookup x = some c → c ≠ X.env.locals := fun x c e z => by
  obtain ⟨v, o, ho, hd⟩ := I.cell x c e
  obtain ⟨m, ⟨o', es, ep, ho', hd', _⟩, _⟩ := I.loc
  rw [z, ho'] at ho; cases ho; rw [hd'] at hd; cases hd
theorem Inv.funs (I : Inv X pins σ H s) : s.heap.FunFrames X.base X.outer := by
  have all : ∀ (l : List Env), (∀ b ∈ frs l, b ∈ X.fs) → X.s₀.heap.FunFrames X.base l → s.heap.FunFrames X.base l := by
    intro l
    induction l with
    | nil => intro _ _; trivial
    | cons env r ih =>
      intro hs hl
      obtain ⟨hk, ⟨L, o, hf, hn, ho, hd⟩, hr⟩ := hl
      have hL : L ∈ X.fs := hs L (by unfold frs; rw [List.filterMap_cons, hf]; exact List.mem_cons_self)
      obtain ⟨sl, e⟩ := I.base.slot L o ho (I.ok.frf L hL) hL fun z => I.ok.exfs L z hL
      exact ⟨hk, ⟨L, _, hf, hn, e, hd⟩, ih (fun b hb => hs b (by unfold frs; rw [List.filterMap_cons, hf]; exact List.mem_cons_of_mem _ hb)) hr⟩
  exact all X.outer (fun _ hb => hb) I.ok.funs
theorem Inv.stack (I : Inv X pins σ H s) : s.heap.FunFrames X.base X.stack := by
  rcases I.ok.stk with e | ⟨e, hf⟩
  · rw [e]; exact I.funs
  · rw [e]
    obtain ⟨m, hn, _⟩ := I.loc
    refine .cons (by rw [I.ok.kind]; decide) hf hn ?_ I.funs
    exact Heap.get?_none_of_le (Nat.le_trans I.ok.bsz I.ok.above)
theorem Inv.stkSub (I : Inv X pins σ H s) : ∀ b ∈ frs X.stack, b ∈ X.env.locals :: X.fs := fun b hb => by
  rcases I.ok.stk with e | ⟨e, hf⟩
  · rw [e] at hb; exact List.mem_cons_of_mem _ hb
  · rw [e] at hb
    unfold frs at hb
    rw [List.filterMap_cons, hf] at hb
    exact hb
theorem Inv.stkFree (I : Inv X pins σ H s) : ∀ b ∈ frs X.stack, H b = none := fun b hb => by
  rcases List.mem_cons.mp (I.stkSub b hb) with e | hb
  · rw [e]; exact I.free
  · obtain ⟨_, o, ho, _⟩ := I.ok.funs.mem hb
    exact I.base.free b o ho (I.ok.frf b hb) fun z => I.ok.exfs b z hb
theorem Inv.step {g' : Array GenState} {t' : Nat} {d' : Drawn} {ch : List Addr} (I : Inv X pins σ H s)
    (hch : ∀ b ∈ ch, (b ∈ X.ex ∨ X.s₀.heap.objs.size ≤ b) ∧ b ≠ X.env.locals ∧ (∀ x c, X.env.cells.lookup x = some c → c ≠ b) ∧ ∀ p ∈ X.pn ++ pins, p.1 ≠ b)
    (keep : ∀ b o, b ≠ X.env.locals → b ∉ X.fs → b ∉ ch → s.heap.get? b = some o → H b = none → h'.get? b = some o)
    (slot : ∀ b o, b ≠ X.env.locals → b ∈ X.fs → b ∉ ch → s.heap.get? b = some o → H b = none → ∃ sl, h'.get? b = some { o with slots := sl }) (free : ∀ b o, b ∉ ch → s.heap.get? b = some o → H b = none → H' b = none)
    (there : ∀ b o, b ∉ ch → s.heap.get? b = some o → ∃ o', h'.get? b = some o')
    (tups : ∀ b xs, H b = some (.tup xs) → H' b = some (.tup xs)) (frzs : ∀ b o u, H b = some (.frz o u) → H' b = some (.frz o u)) (tbls : ∀ b ps, H b = some (.tbl ps) → ∃ more, H' b = some (.tbl (ps ++ more)))
    (ns : ∀ m, s.heap.Ns X.env.locals m → h'.Ns X.env.locals m) (hok : HOk X.prog X.w H' h') (hg : AllBare g') :
    Inv X pins σ H' { s with heap := h', gens := g', drawn := d', toks := t' } := by
  have neL : ∀ b o, X.s₀.heap.get? b = some o → b ≠ X.env.locals := fun b o e => Nat.ne_of_lt (Nat.lt_of_lt_of_le (Heap.lt_size e) I.ok.above)
  have neC : ∀ b o, X.s₀.heap.get? b = some o → b ∉ X.ex → b ∉ ch := fun b o e hx hb => by
    rcases (hch b hb).1 with z | z
    · exact hx z
    · exact absurd (Nat.lt_of_lt_of_le (Heap.lt_size e) z) (Nat.lt_irrefl _)
  have cellK : ∀ x c, X.env.cells.lookup x = some c → ∀ v, s.heap.IsCell c v → h'.IsCell c v := fun x c e v ⟨o, ho, hd⟩ => by
    have nch : c ∉ ch := fun z => (hch c z).2.2.1 x c e rfl
    by_cases hc : c ∈ X.fs
    · obtain ⟨sl, q⟩ := slot c o (I.cne x c e) hc nch ho (I.freeC x c e)
      exact ⟨_, q, hd⟩
    · exact ⟨o, keep c o (I.cne x c e) hc nch ho (I.freeC x c e), hd⟩
  refine ⟨I.ok, I.os, hg, ⟨fun b o e n hb hx => ?_, fun b o e n hb hx => ?_, fun b o e n hx => ?_, fun b o e hx => ?_, fun b xs e => tups b xs (I.base.tups b xs e), fun b o xs e => frzs b o xs (I.base.frzs b o xs e), fun b ps e => ?_⟩, ?_, fun x c e => ?_, ?_, fun x c e => ?_, fun p hp => ?_, hok, I.len⟩
  · exact keep b o (neL b o e) hb (neC b o e hx) (I.base.keep b o e n hb hx) (I.base.free b o e n hx)
  · obtain ⟨sl, e1⟩ := I.base.slot b o e n hb hx
    obtain ⟨sl', e2⟩ := slot b _ (neL b o e) hb (neC b o e hx) e1 (I.base.free b o e n hx)
    exact ⟨sl', e2⟩
  · obtain ⟨o', e1⟩ := I.base.there b o e hx
    exact free b o' (neC b o e hx) e1 (I.base.free b o e n hx)
  · obtain ⟨o', e1⟩ := I.base.there b o e hx
    exact there b o' (neC b o e hx) e1
  · obtain ⟨m1, e1⟩ := I.base.tbls b ps e
    obtain ⟨m2, e2⟩ := tbls b _ e1
    exact ⟨m1 ++ m2, by rw [e2, Array.append_assoc]⟩
  · obtain ⟨m, hn, hl⟩ := I.loc
    refine ⟨m, ns m hn, fun i x v e1 e2 e3 => ?_⟩
    obtain ⟨u, r, l⟩ := hl i x v e1 e2 e3
    refine ⟨u, r, ?_⟩
    rcases l with l | ⟨k, c, e, z⟩
    · exact .inl l
    · exact .inr ⟨k, c, e, cellK x c e _ z⟩
  · obtain ⟨v, z⟩ := I.cell x c e
    exact ⟨v, cellK x c e v z⟩
  · obtain ⟨m, ⟨o, _, _, ho, _⟩, _⟩ := I.loc
    exact free _ o (fun z => (hch _ z).2.1 rfl) ho I.free
  · obtain ⟨v, o, ho, hd⟩ := I.cell x c e
    exact free c o (fun z => (hch c z).2.2.1 x c e rfl) ho (I.freeC x c e)
  · obtain ⟨e, n, ne, nf, d⟩ := I.pin p hp
    have nch : p.1 ∉ ch := fun z => (hch p.1 z).2.2.2 p hp rfl
    exact ⟨keep p.1 p.2 ne nf nch e n, free p.1 p.2 nch e n, ne, nf, d⟩
theorem Inv.un {t' : Nat} (I : Inv X pins σ H s) (u : Un X.fs [] H H' s.heap h') (hok : HOk X.prog X.w H' h') : Inv X pins σ H' { s with heap := h', toks := t' } := by
  obtain ⟨m, ⟨o, es, ep, ho, r⟩, _⟩ := id I.loc
  obtain ⟨sl, hL⟩ := u.any ho I.free (by simp)
  exact I.step (g' := s.gens) (d' := s.drawn) (ch := []) (fun _ z => nomatch z) (fun b o _ hb _ e n => u.keep b o e n hb (by simp)) (fun b o _ hb _ e n => u.slot b o e n hb (by simp)) (fun b o _ e n => u.free b o e n (by simp)) (fun b o _ e => u.there b o e (by simp)) u.tups u.frzs u.tbls (fun m' hm => by
    obtain ⟨o', es', ep', ho', r'⟩ := hm
    rw [ho] at ho'; cases ho'
    exact ⟨_, es', ep', hL, r'⟩) hok I.bare
theorem Inv.call {g' : Array GenState} {t' : Nat} {d' : Drawn} {ch : List Addr} (I : Inv X pins σ H s) (u : Un (frs X.stack) ch H H' s.heap h') (hok : HOk X.prog X.w H' h') (hg : AllBare g')
    (hch : ∀ b ∈ ch, (b ∈ X.ex ∨ X.s₀.heap.objs.size ≤ b) ∧ b ≠ X.env.locals ∧ (∀ x c, X.env.cells.lookup x = some c → c ≠ b) ∧ ∀ p ∈ X.pn ++ pins, p.1 ≠ b) :
    Inv X pins σ H' { s with heap := h', gens := g', drawn := d', toks := t' } := by
  obtain ⟨m, ⟨o, es, ep, ho, r⟩, _⟩ := id I.loc
  obtain ⟨sl, hL⟩ := u.any ho I.free fun z => (hch _ z).2.1 rfl
  exact I.step (ch := ch) hch (fun b o hL hb hc e n => u.keep b o e n (fun z => (List.mem_cons.mp (I.stkSub b z)).elim hL hb) hc) (fun b o _ _ hc e n => u.any e n hc) (fun b o hc e n => u.free b o e n hc) (fun b o hc e => u.there b o e hc) u.tups u.frzs u.tbls (fun m' hm => by
    obtain ⟨o', es', ep', ho', r'⟩ := hm
    rw [ho] at ho'; cases ho'
    exact ⟨_, es', ep', hL, r'⟩) hok hg
theorem Inv.turned {t' : Nat} {it : Addr} (I : Inv X pins σ H s) (k : ∀ b o, b ≠ it → s.heap.get? b = some o → h'.get? b = some o) (hn : H it = none) (hL : it ≠ X.env.locals)
    (h1 : it ∈ X.ex ∨ X.s₀.heap.objs.size ≤ it) (h2 : ∀ x c, X.env.cells.lookup x = some c → c ≠ it) (h3 : ∀ p ∈ X.pn ++ pins, p.1 ≠ it) : Inv X pins σ H { s with heap := h', toks := t' } := by
  have nit : ∀ b u, H b = some u → b ≠ it := fun b u e z => by rw [z, hn] at e; cases e
  refine I.step (g' := s.gens) (d' := s.drawn) (ch := [it]) (fun b hb => ?_) (fun b o _ _ hc e _ => k b o (fun z => hc (by simp [z])) e) (fun b o _ _ hc e _ => ⟨o.slots, k b o (fun z => hc (by simp [z])) e⟩) (fun _ _ _ _ n => n)
    (fun b o hc e => ⟨o, k b o (fun z => hc (by simp [z])) e⟩) (fun _ _ e => e) (fun _ _ _ e => e) (fun b ps e => ⟨#[], by rw [e]; simp⟩) (fun m hm => ?_) (fun b u e => ?_) I.bare
  · have e : b = it := by simpa using hb
    subst e
    exact ⟨h1, hL, h2, h3⟩
  · obtain ⟨o, es, ep, ho, r⟩ := hm
    exact ⟨o, es, ep, k _ o (Ne.symm hL) ho, r⟩
  · refine (I.hok b u e).stay (fun c v hc q => k c v ?_ q) (fun _ q => q) fun _ _ q => q
    rcases hc with z | z
    · rw [z]; exact nit b u e
    · exact nit c _ z
theorem Inv.tok (I : Inv X pins σ H s) (t : Nat) : Inv X pins σ H { s with toks := t } := I.un (h' := s.heap) (t' := t) Un.refl I.hok
theorem Inv.kept {t' : Nat} (I : Inv X pins σ H s) (k : ∀ b u, s.heap.get? b = some u → h'.get? b = some u) : Inv X pins σ H { s with heap := h', toks := t' } := I.un (Un.kept k) (I.hok.kept k)
theorem Inv.laid {a : Addr} {o : HO} {t' : Nat} (I : Inv X pins σ H s) (k : ∀ b u, s.heap.get? b = some u → h'.get? b = some u) (hp : s.heap.objs.size ≤ a) (new : ObjOk X.prog X.w (upd H a o) h' a o) :
    Inv X pins σ (upd H a o) { s with heap := h', toks := t' } := I.un (Un.laid k hp (I.hok.fresh hp)) (I.hok.laid k hp new)
theorem Inv.write {x e : Addr} {o : HO} {t' : Nat} (I : Inv X pins σ H s) (mu : Mut (H x)) (he : e = x ∨ H e = some (.own x)) (k : ∀ b u, b ≠ e → s.heap.get? b = some u → h'.get? b = some u) (heo : ∃ u, h'.get? e = some u)
    (new : ObjOk X.prog X.w (upd H x o) h' x o) : Inv X pins σ (upd H x o) { s with heap := h', toks := t' } := I.un (Un.write mu he k heo) (I.hok.write mu he k heo new)
theorem Inv.weak {σ' : List (Option V)} (I : Inv X pins σ H s) (hl : σ'.length = σ.length) (w : ∀ (i : Nat) v, σ'[i]? = some (some v) → σ[i]? = some (some v)) : Inv X pins σ' H s :=
  ⟨I.ok, I.os, I.bare, I.base, let ⟨m, hn, hl'⟩ := I.loc; ⟨m, hn, fun i x v e1 e2 e3 => hl' i x v e1 (w i v e2) e3⟩, I.cell, I.free, I.freeC, I.pin, I.hok, hl.trans I.len⟩
theorem Inv.pins_of {pins' : List (Addr × Obj)} (I : Inv X pins σ H s) (h : ∀ p ∈ pins', s.heap.get? p.1 = some p.2 ∧ H p.1 = none ∧ p.1 ≠ X.env.locals ∧ p.1 ∉ X.fs ∧ ∀ v, p.2.data ≠ .cell v) : Inv X pins' σ H s :=
  ⟨I.ok, I.os, I.bare, I.base, I.loc, I.cell, I.free, I.freeC, fun p hp => (List.mem_append.mp hp).elim (fun z => I.pin p (List.mem_append_left _ z)) (h p), I.hok, I.len⟩
theorem nodup_ix {N : List Str} (hN : N.Nodup) {i j : Nat} {x : Str} (a : N[i]? = some x) (b : N[j]? = some x) : i = j := by
  obtain ⟨h1, e1⟩ := List.getElem?_eq_some_iff.mp a
  obtain ⟨h2, e2⟩ := List.getElem?_eq_some_iff.mp b
  exact (List.getElem_inj hN).mp (e1.trans e2.symm)
theorem store_ok2 {M : Model} {A : Around} {E : Value → Shared → Prop} {i : Nat} {x : Str} {v : V} {u : Value} {Q : Unit → Shared → Prop} (I : Inv X pins σ H s) (hN : X.N.Nodup) (hi : X.N[i]? = some x) (hx : Loc X.env.scope x) (r : RelV v u)
    (h : ∀ s', Inv X pins (σ.set i (some v)) H s' → (∃ a, Heap.SameBut a s.heap s'.heap ∧ (a = X.env.locals ∨ X.env.cells.lookup x = some a)) → Q () s') (hf : X.fn x = true ∨ X.env.scope.names.lookup x = some .local := by first | exact .inl rfl | exact .inr rfl | assumption) : wpAny M A (storeName X.env x u) Q E s := by
  obtain ⟨m, hn, hl⟩ := id I.loc
  have hcls : (X.env.scope.kind == .class || (X.env.scope.kind == .module && X.env.locals != X.env.globals)) = false := by rw [I.ok.kind]; rfl
  have hiσ : i < σ.length := by rw [I.len]; exact (List.getElem?_eq_some_iff.mp hi).1
  have cne := I.cne
  have tracked : ∀ {a : Addr} {h' : Heap}, (∃ o, s.heap.get? a = some o ∧ H a = none) → Heap.SameBut a s.heap h' → HOk X.prog X.w H h' := fun {a h'} ha hs b ob e => by
    obtain ⟨_, _, hfree⟩ := ha
    refine (I.hok b ob e).stay (fun c w' hc q => (hs.2 c ?_).trans q) (fun _ q => q) fun _ _ q => q
    rintro rfl
    rcases hc with rfl | hc
    · rw [hfree] at e; cases e
    · rw [hfree] at hc; cases hc
  rcases hx with hk | hk
  · refine wpAny_storeName_local hk hn (fun h' hn' hs => ?_) hcls
    obtain ⟨oL, _, _, hoL, _⟩ := id hn
    refine h _ ⟨I.ok, I.os, I.bare, ⟨fun b o e n hb hx => ?_, fun b o e n hb hx => ?_, I.base.free, fun b o e hx => ?_, I.base.tups, I.base.frzs, I.base.tbls⟩, ⟨_, hn', fun j y v' e1 e2 e3 => ?_⟩, fun y c e => ?_, I.free, I.freeC, fun p hp => ?_, tracked ⟨oL, hoL, I.free⟩ hs, by simpa using I.len⟩ ⟨_, hs, .inl rfl⟩
    · exact (hs.2 b (Nat.ne_of_lt (Nat.lt_of_lt_of_le (Heap.lt_size e) I.ok.above))).trans (I.base.keep b o e n hb hx)
    · obtain ⟨sl, e1⟩ := I.base.slot b o e n hb hx
      exact ⟨sl, (hs.2 b (Nat.ne_of_lt (Nat.lt_of_lt_of_le (Heap.lt_size e) I.ok.above))).trans e1⟩
    · obtain ⟨o', e1⟩ := I.base.there b o e hx
      exact ⟨o', (hs.2 b (Nat.ne_of_lt (Nat.lt_of_lt_of_le (Heap.lt_size e) I.ok.above))).trans e1⟩
    · by_cases hj : j = i
      · subst hj
        rw [hi] at e1; cases e1
        rw [List.getElem?_set_self hiσ] at e2
        cases e2
        exact ⟨u, r, .inl ⟨hk, by simp⟩⟩
      · rw [List.getElem?_set_ne (Ne.symm hj)] at e2
        obtain ⟨u', r', q⟩ := hl j y v' e1 e2 e3
        refine ⟨u', r', ?_⟩
        rcases q with ⟨k, e⟩ | ⟨k, c, e, z⟩
        · refine .inl ⟨k, ?_⟩
          have : y ≠ x := fun e => hj (nodup_ix hN e1 (e ▸ hi))
          simp [this, e]
        · exact .inr ⟨k, c, e, z.sameBut hs (cne y c e)⟩
    · obtain ⟨w', z⟩ := I.cell y c e
      exact ⟨w', z.sameBut hs (cne y c e)⟩
    · obtain ⟨e, n, ne, nf, d⟩ := I.pin p hp
      exact ⟨(hs.2 p.1 ne).trans e, n, ne, nf, d⟩
  · have hfn : X.fn x = true := by
      rcases hf with z | z
      · exact z
      · rw [z] at hk; cases hk
    obtain ⟨c, hc⟩ := I.ok.has x (.inl hk)
    obtain ⟨w', z⟩ := I.cell x c hc
    refine wpAny_storeName_cell I.ok.kind hk hc z (fun h' hc' hs => ?_)
    obtain ⟨oc, hoc, hocd⟩ := id z
    refine h { s with heap := h' } ⟨I.ok, I.os, I.bare, ⟨fun b o e n hb hx => ?_, fun b o e n hb hx => ?_, I.base.free, fun b o e hx => ?_, I.base.tups, I.base.frzs, I.base.tbls⟩, ⟨m, hn.sameBut hs (Ne.symm (cne x c hc)), fun j y v' e1 e2 e3 => ?_⟩, fun y c' e => ?_, I.free, I.freeC, fun p hp => ?_, tracked ⟨oc, hoc, I.freeC x c hc⟩ hs, by simpa using I.len⟩ ⟨c, hs, .inr hc⟩
    · exact (hs.2 b (Nat.ne_of_lt (Nat.lt_of_lt_of_le (Heap.lt_size e) (I.ok.cab x c hfn hc)))).trans (I.base.keep b o e n hb hx)
    · obtain ⟨sl, e1⟩ := I.base.slot b o e n hb hx
      exact ⟨sl, (hs.2 b (Nat.ne_of_lt (Nat.lt_of_lt_of_le (Heap.lt_size e) (I.ok.cab x c hfn hc)))).trans e1⟩
    · obtain ⟨o', e1⟩ := I.base.there b o e hx
      exact ⟨o', (hs.2 b (Nat.ne_of_lt (Nat.lt_of_lt_of_le (Heap.lt_size e) (I.ok.cab x c hfn hc)))).trans e1⟩
    · by_cases hj : j = i
      · subst hj
        rw [hi] at e1; cases e1
        rw [List.getElem?_set_self hiσ] at e2
        cases e2
        exact ⟨u, r, .inr ⟨.inl hk, c, hc, hc'⟩⟩
      · rw [List.getElem?_set_ne (Ne.symm hj)] at e2
        obtain ⟨u', r', q⟩ := hl j y v' e1 e2 e3
        refine ⟨u', r', ?_⟩
        rcases q with q | ⟨k, c', e, z'⟩
        · exact .inl q
        · refine .inr ⟨k, c', e, z'.sameBut hs ?_⟩
          rintro rfl
          exact hj (nodup_ix hN e1 (I.ok.inj _ _ _ e hc ▸ hi))
    · by_cases hcc : c' = c
      · subst hcc; exact ⟨_, hc'⟩
      · obtain ⟨w2, z2⟩ := I.cell y c' e
        exact ⟨w2, z2.sameBut hs hcc⟩
    · obtain ⟨e, n, ne, nf, d⟩ := I.pin p hp
      refine ⟨(hs.2 p.1 ?_).trans e, n, ne, nf, d⟩
      intro q
      rw [q, hoc] at e
      have q' : oc = p.2 := Option.some.inj e
      exact d w' (by rw [← q']; exact hocd)
theorem store_ok {M : Model} {A : Around} {E : Value → Shared → Prop} {i : Nat} {x : Str} {v : V} {u : Value} {Q : Unit → Shared → Prop} (I : Inv X pins σ H s) (hN : X.N.Nodup) (hi : X.N[i]? = some x) (hx : Loc X.env.scope x) (r : RelV v u)
    (h : ∀ s', Inv X pins (σ.set i (some v)) H s' → Q () s') (hf : X.fn x = true ∨ X.env.scope.names.lookup x = some .local := by first | exact .inl rfl | exact .inr rfl | assumption) : wpAny M A (storeName X.env x u) Q E s :=
  store_ok2 I hN hi hx r (fun s' I' _ => h s' I') hf
end
noncomputable abbrev XK := Value → Option Addr → Hp → Prop
noncomputable abbrev St := List (Option V)
noncomputable abbrev VK := V → Hp → Prop
noncomputable abbrev TE := St → Hp → VK → Prop
noncomputable abbrev TT := St → Hp → (Bool → Hp → Prop) → Prop
noncomputable abbrev TA := St → Hp → (List V → Hp → Prop) → Prop
structure Ends where
  nx : St → Hp → Prop
  rt : VK
  bk : St → Hp → Prop := fun _ _ => False
  ct : St → Hp → Prop := fun _ _ => False
noncomputable abbrev TS := Ends → St → Hp → Prop
noncomputable def EP (X : Cx) (pins : List (Addr × Obj)) (σ : St) (Q : VK) (u : Value) (s' : Shared) : Prop := ∃ v H', Inv X pins σ H' s' ∧ RelV v u ∧ Q v H'
noncomputable def TP (X : Cx) (pins : List (Addr × Obj)) (σ : St) (Q : Bool → Hp → Prop) (b : Bool) (s' : Shared) : Prop := ∃ H', Inv X pins σ H' s' ∧ Q b H'
noncomputable def AP (X : Cx) (pins : List (Addr × Obj)) (σ : St) (Q : List V → Hp → Prop) (us : List Value) (s' : Shared) : Prop := ∃ vs H', Inv X pins σ H' s' ∧ Vals vs us ∧ Q vs H'
noncomputable def SP (X : Cx) (pins : List (Addr × Obj)) (D : Ends) (f : Flow) (s' : Shared) : Prop :=
  match f with
  | .next => ∃ σ' H', Inv X pins σ' H' s' ∧ D.nx σ' H'
  | .brk => ∃ σ' H', Inv X pins σ' H' s' ∧ D.bk σ' H'
  | .cont => ∃ σ' H', Inv X pins σ' H' s' ∧ D.ct σ' H'
  | .ret u => ∃ v σ' H', Inv X pins σ' H' s' ∧ RelV v u ∧ D.rt v H'
noncomputable def PE (X : Cx) (e : Expr) (t : TE) : Prop :=
  ∀ (pins : List (Addr × Obj)) (s : Shared) (σ : St) (H : Hp) (Q : VK), Inv X pins σ H s → t σ H Q → wpAny (model X.prog X.w) X.A (eval e X.env) (EP X pins σ Q) X.xe s
noncomputable def PT (X : Cx) (e : Expr) (t : TT) : Prop :=
  ∀ (pins : List (Addr × Obj)) (s : Shared) (σ : St) (H : Hp) (Q : Bool → Hp → Prop), Inv X pins σ H s → t σ H Q → wpAny (model X.prog X.w) X.A (isTrue e X.env (eval e X.env)) (TP X pins σ Q) X.xe s
noncomputable def PW (X : Cx) (e : Expr) (t : TT) : Prop :=
  ∀ (whole : Sem Value) (pins : List (Addr × Obj)) (s : Shared) (σ : St) (H : Hp) (Q : Bool → Hp → Prop), Inv X pins σ H s → t σ H Q → wpAny (model X.prog X.w) X.A (isTrue e X.env whole) (TP X pins σ Q) X.xe s
theorem PW.pt {X : Cx} {e : Expr} {t : TT} (h : PW X e t) : PT X e t := h _
noncomputable def PA (X : Cx) (es : List Expr) (t : TA) : Prop :=
  ∀ (pos : Pos) (pins : List (Addr × Obj)) (s : Shared) (σ : St) (H : Hp) (Q : List V → Hp → Prop), Inv X pins σ H s → t σ H Q → wpAny (model X.prog X.w) X.A (spliced (backTo pos (starEach es X.env))) (AP X pins σ Q) X.xe s
noncomputable def PS (X : Cx) (st : Stmt) (t : TS) : Prop :=
  ∀ (pins : List (Addr × Obj)) (s : Shared) (σ : St) (H : Hp) (D : Ends), Inv X pins σ H s → t D σ H → wpAny (model X.prog X.w) X.A (exec st X.env) (SP X pins D) X.xe s
noncomputable def PSs (X : Cx) (st : List Stmt) (t : TS) : Prop :=
  ∀ (pins : List (Addr × Obj)) (s : Shared) (σ : St) (H : Hp) (D : Ends), Inv X pins σ H s → t D σ H → wpAny (model X.prog X.w) X.A (execs st X.env) (SP X pins D) X.xe s
theorem thn {α : Type} {t : Sem α} {Q Q' : α → Shared → Prop} {M : Model} {A : Around} {E : Value → Shared → Prop} {s : Shared} (h : wpAny M A t Q E s) (hQ : ∀ a s, Q a s → Q' a s) : wpAny M A t Q' E s := wpAny_mono h hQ fun _ _ x => x
end L2
namespace L2
open PySem PySem.Spec PyProof.Rows
section
variable {X : Cx}
noncomputable def tVar (i : Nat) : TE := fun σ H Q => ∃ v, σ[i]? = some (some v) ∧ Q v H
noncomputable def tC (v : V) : TE := fun _ H Q => Q v H
theorem pe_var {i : Nat} {x : Str} {pos : Pos} (hN : X.N[i]? = some x) (hv : Vis X.env.scope x) (hd : (x == ("__debug__" : Str)) = false := by decide) (hcd : (x == ("__classdict__" : Str)) = false := by decide) : PE X (.Name x pos) (tVar i) := by
  intro pins s σ H Q I h
  obtain ⟨v, e, h⟩ := h
  obtain ⟨m, hn, hl⟩ := I.loc
  obtain ⟨u, r, l⟩ := hl i x v hN e hv
  have fin : EP X pins σ Q u s := ⟨v, H, I, r, h⟩
  rcases l with ⟨hk, hm⟩ | ⟨hk, c, hc, hcell⟩
  · exact wpAny_Name (wpAny_loadName_local I.ok.kind hk hn hm fin) hd
  · rcases hk with hk | hk
    · exact wpAny_Name (wpAny_loadName_cell I.ok.kind hk hc hcell fin) hd
    · exact wpAny_Name (wpAny_loadName_free I.ok.kind hk hc hcell fin hcd) hd
theorem pe_int {i j pos} : PE X (.Constant (.int i) j pos) (tC (.int i)) := fun _ _ _ H _ I h => wpAny_Constant_int ⟨.int i, H, I.tok _, ⟨_, rfl⟩, h⟩
theorem pe_bl {b j pos} : PE X (.Constant (.bool b) j pos) (tC (.bl b)) := fun _ _ _ H _ I h => Constant_bool ⟨.bl b, H, I, rfl, h⟩
theorem pe_str {x j pos} : PE X (.Constant (.str x) j pos) (tC (.str x)) := fun _ _ _ H _ I h => Calls.Constant_str ⟨.str x, H, I.tok _, ⟨_, rfl⟩, h⟩
noncomputable def Gl (X : Cx) (x : Str) : Prop := X.env.kindOf x = some .globalImplicit
theorem ld_glob {E : Value → Shared → Prop} {pins : List (Addr × Obj)} {s : Shared} {σ : St} {H : Hp} {x : Str} {u : Value} {pos : Pos} {Q : Value → Shared → Prop} (I : Inv X pins σ H s) (hg : Gl X x) (hm : X.mg x = some u) (h : Q u s)
    (hd : (x == ("__debug__" : Str)) = false := by decide) : wpAny (model X.prog X.w) X.A (eval (.Name x pos) X.env) Q E s :=
  Calls.Name_function_global I.ok.kind hg (Calls.loadGlobal_global (by rw [I.ok.glob]; exact I.mod.glob.keeps I.bk) hm h) hd
theorem ld_blt {E : Value → Shared → Prop} {pins : List (Addr × Obj)} {s : Shared} {σ : St} {H : Hp} {x : Str} {u : Value} {pos : Pos} {Q : Value → Shared → Prop} (I : Inv X pins σ H s) (hg : Gl X x) (hm : X.mg x = none) (hv : bootBuiltins x = some u) (h : Q u s)
    (hn : x ≠ "__name__" := by decide) (hd : (x == ("__debug__" : Str)) = false := by decide) : wpAny (model X.prog X.w) X.A (eval (.Name x pos) X.env) Q E s := by
  obtain ⟨mb, h1, h2⟩ := I.mod.blt
  exact Calls.Name_function_global I.ok.kind hg (Calls.loadGlobal_builtin (by rw [I.ok.glob]; exact I.mod.glob.keeps I.bk) hm (by rw [I.ok.blt]; exact h1.keeps I.bk) ((h2 x hn).trans hv) h) hd
theorem pe_glob {x : Str} {v : V} {u : Value} {pos : Pos} (hg : Gl X x) (hm : X.mg x = some u) (r : RelV v u) (hd : (x == ("__debug__" : Str)) = false := by decide) : PE X (.Name x pos) (tC v) :=
  fun _ _ _ H _ I h => ld_glob I hg hm ⟨v, H, I, r, h⟩ hd
theorem pe_bltn {x : Str} {v : V} {u : Value} {pos : Pos} (hg : Gl X x) (hm : X.mg x = none) (hv : bootBuiltins x = some u) (r : RelV v u) (hn : x ≠ "__name__" := by decide) (hd : (x == ("__debug__" : Str)) = false := by decide) : PE X (.Name x pos) (tC v) :=
  fun _ _ _ H _ I h => ld_blt I hg hm hv ⟨v, H, I, r, h⟩ hn hd
variable {a b : Expr} {ta tb : TE} {pos : Pos}
noncomputable def tB (t : TE) : TT := fun σ H Q => t σ H fun x H1 => ∃ c, x = .bl c ∧ Q c H1
theorem pt_val {e : Expr} {t : TE} (h : PE X e t) (he : ∀ whole, isTrue e X.env whole = (do let v ← whole; standAt e.pos; holding [v] (truthy v)) := by intro _; rfl) : PT X e (tB t) := by
  intro pins s σ H Q I hw
  refine isTrue_plain (thn (h pins s σ H _ I hw) fun v s1 ⟨x, H1, I1, r1, q1⟩ => ?_) (he _)
  obtain ⟨d, rfl, q⟩ := q1
  cases r1
  exact wpAny_truthy_bool ⟨H1, I1, q⟩
variable {tA tB' : TT} {rest : List Expr}
noncomputable def tOr (t u : TT) : TT := fun σ H Q => t σ H fun c H1 => if c = true then Q true H1 else u σ H1 Q
noncomputable def tNot (t : TT) : TT := fun σ H Q => t σ H fun c H1 => Q (!c) H1
theorem pw_or1 (ha : PT X a tA) : PW X (.BoolOp .Or [a] pos) tA := by
  intro wh pins s σ H Q I h
  refine isTrue_or (thn (ha pins s σ H Q I h) fun c s1 e => ?_)
  cases c with
  | false => exact isTrue_or_nil e
  | true => exact e
theorem pw_or (ha : PT X a tA) (hb : PW X (.BoolOp .Or (b :: rest) pos) tB') : PW X (.BoolOp .Or (a :: b :: rest) pos) (tOr tA tB') := by
  intro wh pins s σ H Q I h
  refine isTrue_or (thn (ha pins s σ H _ I h) fun c s1 ⟨H1, I1, q1⟩ => ?_)
  cases c with
  | true => exact ⟨H1, I1, q1⟩
  | false => exact hb wh pins s1 σ H1 Q I1 q1
theorem pt_not (ha : PT X a tA) : PT X (.UnaryOp .Not a pos) (tNot tA) := by
  intro pins s σ H Q I h
  exact isTrue_not (ha pins s σ H (fun c H1 => Q (!c) H1) I h)
noncomputable def tAndV (ta tb : TE) : TE := fun σ H Q => ta σ H fun x H1 => ∃ c, x = .bl c ∧ if c = true then tb σ H1 Q else Q (.bl false) H1
theorem pe_one {op} {t : TE} (h : PE X a t) : PE X (.BoolOp op [a] pos) t := fun pins s σ H Q I hw => BoolOp_one (h pins s σ H Q I hw)
theorem pe_and (ha : PE X a ta) (hb : PE X (.BoolOp .And (b :: rest) pos) tb) : PE X (.BoolOp .And (a :: b :: rest) pos) (tAndV ta tb) := by
  intro pins s σ H Q I h
  refine BoolOp_and (thn (ha pins s σ H _ I h) fun v s1 ⟨x, H1, I1, r1, q1⟩ => ?_)
  obtain ⟨c, rfl, q1⟩ := q1
  cases r1
  refine wpAny_truthy_bool ?_
  cases c with
  | true => exact hb pins s1 σ H1 Q I1 q1
  | false => exact ⟨.bl false, H1, I1, rfl, q1⟩
end
end L2
namespace L2
open PySem PySem.Spec PyProof.Rows
noncomputable def SqL (K : PySem.W.Frag) (H : Hp) (a : Addr) (xs : List V) : Prop :=
  Rd H a (.lst xs) ∨
    ∃ (o : Obj) (its : Array Value) (n : Nat), K.lookup a = some o ∧ o.cls = .type "list" ∧ o.dict = none ∧ o.data = .seq its n ∧ its.size ≤ sizeLine ∧ Vals xs its.toList
noncomputable def SqT (K : PySem.W.Frag) (H : Hp) (a : Addr) (xs : List V) : Prop :=
  Rd H a (.tup xs) ∨
    ∃ (o : Obj) (its : Array Value) (n : Nat), K.lookup a = some o ∧ o.cls = .type "tuple" ∧ o.data = .seq its n ∧ its.size ≤ sizeLine ∧ Vals xs its.toList
noncomputable def absV : Value → Option V
  | .none => some .non
  | .bool b => some (.bl b)
  | .int i _ => some (.int i)
  | .str x _ => some (.str x)
  | .bytes b _ => some (.byt b)
  | .float b _ => some (.flt b)
  | .ref a => some (.ref a)
  | .type n => some (.ty n)
  | _ => none
theorem RelV.abs {x : V} {u : Value} (r : RelV x u) : absV u = some x := by
  cases x with
  | non => cases r; rfl
  | bl _ => cases r; rfl
  | int _ => obtain ⟨t, rfl⟩ := r; rfl
  | str _ => obtain ⟨t, rfl⟩ := r; rfl
  | byt _ => obtain ⟨t, rfl⟩ := r; rfl
  | flt _ => obtain ⟨t, rfl⟩ := r; rfl
  | ref _ => cases r; rfl
  | ty _ => cases r; rfl
theorem RelV.inj {x y : V} {u : Value} (r : RelV x u) (q : RelV y u) : x = y := Option.some.inj (r.abs.symm.trans q.abs)
theorem Vals.inj : ∀ {xs ys : List V} {us : List Value}, Vals xs us → Vals ys us → xs = ys
  | _, _, _, .nil, .nil => rfl
  | _, _, _, .cons r t, .cons r' t' => by rw [r.inj r', Vals.inj t t']
section
variable {X : Cx} {pins : List (Addr × Obj)} {σ : St} {H : Hp} {s : Shared} {a : Addr} {xs ys : List V}
theorem SqL.of {K : PySem.W.Frag} (h : H a = some (.lst xs)) : SqL K H a xs := .inl (.inl h)
theorem SqT.of {K : PySem.W.Frag} (h : H a = some (.tup xs)) : SqT K H a xs := .inl (.inl h)
theorem Inv.list (I : Inv X pins σ H s) (h : SqL X.K H a xs) : ∃ its : List Value, Vals xs its ∧ PlainL s.heap a its.toArray ∧ xs.length ≤ sizeLine := by
  rcases h with h | ⟨o, its, n, hk, hc, hd, hs, hz, r⟩
  · obtain ⟨z, its, n, r, e⟩ := h.ok I.hok
    exact ⟨its, r, ⟨_, n, e, rfl, rfl, rfl⟩, z⟩
  · refine ⟨its.toList, r, ⟨o, n, I.kIn a o hk, hc, hd, by simpa using hs⟩, ?_⟩
    have e := r.length
    simp only [Array.length_toList] at e
    omega
theorem Inv.tuple (I : Inv X pins σ H s) (h : SqT X.K H a xs) : ∃ its : List Value, Vals xs its ∧ IsTup s.heap a its.toArray ∧ xs.length ≤ sizeLine := by
  rcases h with h | ⟨o, its, n, hk, hc, hs, hz, r⟩
  · obtain ⟨z, its, r, p⟩ := h.ok I.hok
    exact ⟨its, r, p, z⟩
  · refine ⟨its.toList, r, ⟨o, I.kIn a o hk, hc, n, by simpa using hs⟩, ?_⟩
    have e := r.length
    simp only [Array.length_toList] at e
    omega
theorem Inv.list_inj (I : Inv X pins σ H s) (h : SqL X.K H a xs) (h' : SqL X.K H a ys) : xs = ys := by
  obtain ⟨its, r, ⟨o, n, e, _, _, d⟩, _⟩ := I.list h
  obtain ⟨its', r', ⟨o', n', e', _, _, d'⟩, _⟩ := I.list h'
  rw [e] at e'; cases e'
  rw [d] at d'
  injection d' with d1 _
  have : its = its' := by simpa using congrArg Array.toList d1
  subst this
  exact r.inj r'
theorem Inv.tuple_inj (I : Inv X pins σ H s) (h : SqT X.K H a xs) (h' : SqT X.K H a ys) : xs = ys := by
  obtain ⟨its, r, ⟨o, e, _, n, d⟩, _⟩ := I.tuple h
  obtain ⟨its', r', ⟨o', e', _, n', d'⟩, _⟩ := I.tuple h'
  rw [e] at e'; cases e'
  rw [d] at d'
  injection d' with d1 _
  have : its = its' := by simpa using congrArg Array.toList d1
  subst this
  exact r.inj r'
end
noncomputable abbrev Cx.wish (X : Cx) (E : Value → Shared → Prop) : Cx := { X with xe := E }
noncomputable abbrev Cx.nox (X : Cx) : Cx := X.wish fun _ _ => False
theorem Cx.Ok.wish {X : Cx} (ok : X.Ok) (E : Value → Shared → Prop) : (X.wish E).Ok :=
  ⟨ok.mod, ok.kind, ok.glob, ok.blt, ok.above, ok.inj, ok.has, ok.cab, ok.hd, ok.frames, ok.stk, ok.exf, ok.bs, ok.bsz, ok.noex, ok.exfs, ok.funs, ok.frf⟩
theorem Cx.Ok.unwish {X : Cx} {E : Value → Shared → Prop} (ok : (X.wish E).Ok) : X.Ok :=
  ⟨ok.mod, ok.kind, ok.glob, ok.blt, ok.above, ok.inj, ok.has, ok.cab, ok.hd, ok.frames, ok.stk, ok.exf, ok.bs, ok.bsz, ok.noex, ok.exfs, ok.funs, ok.frf⟩
section
variable {X : Cx} {pins : List (Addr × Obj)} {σ : St} {H : Hp} {s : Shared} {E : Value → Shared → Prop}
theorem Inv.wish (I : Inv X pins σ H s) (E : Value → Shared → Prop) : Inv (X.wish E) pins σ H s := ⟨I.ok.wish E, I.os, I.bare, I.base, I.loc, I.cell, I.free, I.freeC, I.pin, I.hok, I.len⟩
theorem Inv.unwish (I : Inv (X.wish E) pins σ H s) : Inv X pins σ H s := ⟨I.ok.unwish, I.os, I.bare, I.base, I.loc, I.cell, I.free, I.freeC, I.pin, I.hok, I.len⟩
theorem SP.unwish {D : Ends} {f : Flow} {s' : Shared} (h : SP (X.wish E) pins D f s') : SP X pins D f s' := by
  cases f with
  | next => obtain ⟨σ', H', I, q⟩ := h; exact ⟨σ', H', I.unwish, q⟩
  | brk => obtain ⟨σ', H', I, q⟩ := h; exact ⟨σ', H', I.unwish, q⟩
  | cont => obtain ⟨σ', H', I, q⟩ := h; exact ⟨σ', H', I.unwish, q⟩
  | ret u => obtain ⟨v, σ', H', I, r, q⟩ := h; exact ⟨v, σ', H', I.unwish, r, q⟩
theorem PSs.nox {st : List Stmt} {t : TS} (h : PSs X.nox st t) : PSs X st t := fun pins s σ H D I hw =>
  wpAny_mono (h pins s σ H D (I.wish _) hw) (fun _ _ q => q.unwish) fun _ _ z => False.elim z
end
section
variable {X : Cx} {st : Stmt} {rest : List Stmt} {t u : TS} {e : Expr} {te : TE} {pos : Pos}
noncomputable def tNext : TS := fun D σ H => D.nx σ H
noncomputable def tSeq (t u : TS) : TS := fun D σ H => t { D with nx := u D } σ H
theorem pss_nil : PSs X [] tNext := fun _ _ σ H _ I h => wpAny_execs_nil ⟨σ, H, I, h⟩
theorem pss_cons (h1 : PS X st t) (h2 : PSs X rest u) : PSs X (st :: rest) (tSeq t u) := by
  intro pins s σ H D I h
  refine wpAny_execs_cons (thn (h1 pins s σ H { D with nx := u D } I h) fun f s1 q => ?_)
  cases f with
  | next =>
    obtain ⟨σ', H', I', q⟩ := q
    exact h2 pins s1 σ' H' D I' q
  | ret v => exact q
  | brk => exact q
  | cont => exact q
theorem pss_one (h1 : PS X st t) : PSs X [st] t := by
  intro pins s σ H D I h
  refine wpAny_execs_cons (thn (h1 pins s σ H D I h) fun f s1 q => ?_)
  cases f with
  | next => exact wpAny_execs_nil q
  | ret v => exact q
  | brk => exact q
  | cont => exact q
theorem Inv.quiet {pins : List (Addr × Obj)} {σ : St} {H : Hp} {s : Shared} (I : Inv X pins σ H s) : interactive X.env = false := by simp [interactive, I.ok.kind]
noncomputable def tDrop (te : TE) : TS := fun D σ H => te σ H fun _ H1 => D.nx σ H1
theorem ps_expr (he : PE X e te) (hs : swapsWith e none pos.line X.env = pure false := by rfl) : PS X (.Expr e pos) (tDrop te) := by
  intro pins s σ H D I h
  exact wpAny_Expr_any (thn (he pins s σ H _ I h) fun v s1 ⟨x, H1, I1, r1, q1⟩ => ⟨σ, H1, I1, q1⟩) I.quiet hs
noncomputable def tRet (te : TE) : TS := fun D σ H => te σ H D.rt
theorem ps_ret (he : PE X e te) : PS X (.Return (some e) pos) (tRet te) := by
  intro pins s σ H D I h
  exact wpAny_Return_some (thn (he pins s σ H _ I h) fun v s1 ⟨x, H1, I1, r1, q1⟩ => ⟨x, σ, H1, I1, r1, q1⟩)
noncomputable def tIfS (c : TT) (t u : TS) : TS := fun D σ H => c σ H fun b H1 => if b = true then t D σ H1 else u D σ H1
theorem ps_if {c : Expr} {a b : List Stmt} {tc : TT} (hc : PT X c tc) (ha : PSs X a t) (hb : PSs X b u) : PS X (.If c a b pos) (tIfS tc t u) := by
  intro pins s σ H D I h
  refine wpAny_If (thn (hc pins s σ H _ I h) fun d s1 ⟨H1, I1, q1⟩ => ?_)
  cases d with
  | true => exact ha pins s1 σ H1 D I1 q1
  | false => exact hb pins s1 σ H1 D I1 q1
end
noncomputable abbrev TG := V → St → Hp → (St → Hp → Prop) → Prop
noncomputable abbrev TGs := List V → St → Hp → (St → Hp → Prop) → Prop
noncomputable def PG (X : Cx) (target : Expr) (t : TG) : Prop :=
  ∀ (pins : List (Addr × Obj)) (s : Shared) (σ : St) (H : Hp) (v : V) (u : Value) (Q : St → Hp → Prop), Inv X pins σ H s → RelV v u → t v σ H Q →
    wpAny (model X.prog X.w) X.A (assign target X.env u) (fun _ s' => ∃ σ' H', Inv X pins σ' H' s' ∧ Q σ' H') X.xe s
noncomputable def PGs (X : Cx) (ts : List Expr) (t : TGs) : Prop :=
  ∀ (pins : List (Addr × Obj)) (s : Shared) (σ : St) (H : Hp) (vs : List V) (us : List Value) (Q : St → Hp → Prop), Inv X pins σ H s → Vals vs us → t vs σ H Q →
    wpAny (model X.prog X.w) X.A (assignInOrder ((assignEach ts X.env).map (·.2)) us) (fun _ s' => ∃ σ' H', Inv X pins σ' H' s' ∧ Q σ' H') X.xe s
section
variable {X : Cx} {pos : Pos}
noncomputable def gName (i : Nat) : TG := fun v σ H Q => Q (σ.set i (some v)) H
theorem pg_name {i : Nat} {x : Str} (hN : X.N.Nodup) (hi : X.N[i]? = some x) (hx : Loc X.env.scope x) (hf : X.fn x = true ∨ X.env.scope.names.lookup x = some .local := by first | exact .inl rfl | exact .inr rfl | assumption) : PG X (.Name x pos) (gName i) := by
  intro pins s σ H v u Q I r h
  exact wpAny_assign_Name (store_ok I hN hi hx r (fun s' I' => ⟨_, H, I', h⟩) hf)
noncomputable def gNil : TGs := fun vs σ H Q => vs = [] ∧ Q σ H
noncomputable def gCons (t : TG) (u : TGs) : TGs := fun vs σ H Q => ∃ v r, vs = v :: r ∧ t v σ H fun σ' H' => u r σ' H' Q
theorem pgs_nil : PGs X [] gNil := by
  intro pins s σ H vs us Q I r h
  obtain ⟨e, h⟩ := h
  subst e
  cases r
  exact assignInOrder_nil ⟨σ, H, I, h⟩
theorem pgs_cons {e : Expr} {es : List Expr} {t : TG} {u : TGs} (h1 : PG X e t) (h2 : PGs X es u)
    (hs : (assignEach (e :: es) X.env).map (·.2) = assign e X.env :: (assignEach es X.env).map (·.2) := by rfl) : PGs X (e :: es) (gCons t u) := by
  intro pins s σ H vs us Q I r h
  obtain ⟨v, vr, e1, h⟩ := h
  subst e1
  cases r with
  | cons r rr =>
    rw [hs]
    refine assignInOrder_cons (thn (h1 pins s σ H _ _ _ I r h) fun _ s1 ⟨σ1, H1, I1, q1⟩ => ?_)
    exact h2 pins s1 σ1 H1 _ _ Q I1 rr q1
noncomputable def gTup (K : PySem.W.Frag) (n : Nat) (t : TGs) : TG := fun v σ H Q => ∃ a xs, v = .ref a ∧ SqT K H a xs ∧ xs.length = n ∧ t xs σ H Q
theorem pg_tup {es : List Expr} {k : Nat} {t : TGs} {n : Nat} (hc : X.calm = true) (h : PGs X es t)
    (hn : (assignEach es X.env).length = n := by rfl) (hst : (assignEach es X.env).findIdx? (·.1) = none := by rfl) : PG X (.Tuple es k pos) (gTup X.K n t) := by
  intro pins s σ H v u Q I r hw
  obtain ⟨a, xs, e1, hq, hl, hw⟩ := hw
  subst e1
  cases r
  obtain ⟨its, rv, ht, hz⟩ := I.tuple hq
  refine assign_Tuple_tuple (I.ok.hd hc) ht (by simp [hn, ← hl, rv.length]) hst fun h' hx => ?_
  have I1 : Inv X pins σ H { s with heap := h' } := I.kept (t' := s.toks) fun b o e => hx b o (Nat.ne_of_lt (Heap.lt_size e)) e
  exact h pins _ σ H xs _ Q I1 (by simpa using rv) hw
noncomputable def tAsg (te : TE) (g : TG) : TS := fun D σ H => te σ H fun x H1 => g x σ H1 D.nx
theorem ps_set {i : Nat} {x : Str} {e : Expr} {te : TE} {pos' : Pos} (hN : X.N.Nodup) (hi : X.N[i]? = some x) (hx : Loc X.env.scope x) (he : PE X e te) (hs : swapsWith e (some (.Name x pos')) pos.line X.env = pure false := by rfl) (hf : X.fn x = true ∨ X.env.scope.names.lookup x = some .local := by first | exact .inl rfl | exact .inr rfl | assumption) :
    PS X (.Assign [.Name x pos'] e pos) (tAsg te (gName i)) := by
  intro pins s σ H D I h
  refine wpAny_Assign_Name (thn (he pins s σ H _ I h) fun v s1 ⟨y, H1, I1, r1, q1⟩ => ?_) hs
  exact store_ok I1 hN hi hx r1 (fun s2 I2 => ⟨_, H1, I2, q1⟩) hf
end
structure It where
  go : Nat → Hp → Prop
  yld : Nat → Hp → V → Hp → Prop
  stop : Nat → Hp → Prop
noncomputable def FpOk (X : Cx) (pins : List (Addr × Obj)) (H : Hp) (b : Addr) : Prop :=
  H b = none ∧ b ≠ X.env.locals ∧ b ∉ X.fs ∧ (b ∈ X.ex ∨ X.s₀.heap.objs.size ≤ b) ∧ (∀ x c, X.env.cells.lookup x = some c → c ≠ b) ∧ ∀ p ∈ X.pn ++ pins, p.1 ≠ b
theorem Inv.fpOk {X : Cx} {pins : List (Addr × Obj)} {σ : St} {H H' : Hp} {s : Shared} {b : Addr} (I : Inv X pins σ H s) (hb : s.heap.objs.size ≤ b) (hn : H' b = none) : FpOk X pins H' b := by
  refine ⟨hn, Nat.ne_of_gt (Nat.lt_of_lt_of_le I.lt hb), I.nofs hb, .inr (Nat.le_trans I.sz hb), fun x c e z => ?_, fun p hp z => ?_⟩
  · obtain ⟨v, q⟩ := I.cell x c e
    exact absurd (Nat.lt_of_lt_of_le q.lt (by rw [z]; exact hb)) (Nat.lt_irrefl _)
  · exact absurd (Nat.lt_of_lt_of_le (Heap.lt_size (I.pin p hp).1) (by rw [z]; exact hb)) (Nat.lt_irrefl _)
structure Turn (P : Program) (w : World) (K : PySem.W.Frag) (tg : Expr) (J : It) (fp : List Addr) (it : Addr) (tn : Nat → Heap → Prop) : Prop where
  mem : it ∈ fp
  obj : ∀ i h, tn i h → ∀ b ∈ fp, ∃ o, h.get? b = some o ∧ ∀ v, o.data ≠ .cell v
  keep : ∀ i h h', tn i h → (∀ b ∈ fp, ∀ o, h.get? b = some o → h'.get? b = some o) → tn i h'
  item : ∀ (X : Cx), X.prog = P → X.w = w → X.K = K → X.calm = true → ∀ (i : Nat) (pins : List (Addr × Obj)) (s : Shared) (σ : St) (H : Hp) (E : Value → Shared → Prop), Inv X pins σ H s → (∀ b ∈ fp, FpOk X pins H b) → tn i s.heap → J.go i H →
    wpAny (model P w) X.A (pyNext (.ref it)) (fun r s1 => ∃ u, r = some u ∧
      wpAny (model P w) X.A (letOwnedTupleGo tg (.ref it) u) (fun _ s2 => ∃ x H', Inv X pins σ H' s2 ∧ RelV x u ∧ J.yld i H x H' ∧ tn (i + 1) s2.heap ∧ ∀ b ∈ fp, H' b = none) E s1) E s
  done : ∀ (X : Cx), X.prog = P → X.w = w → X.K = K → X.calm = true → ∀ (i : Nat) (pins : List (Addr × Obj)) (s : Shared) (σ : St) (H : Hp) (E : Value → Shared → Prop), Inv X pins σ H s → (∀ b ∈ fp, FpOk X pins H b) → tn i s.heap → J.stop i H →
    wpAny (model P w) X.A (pyNext (.ref it)) (fun r s1 => r = none ∧ Inv X pins σ H s1) E s
  self : ∀ (A : Around) (i : Nat) (s : Shared) (Q : Value → Shared → Prop) (E : Value → Shared → Prop), tn i s.heap → Q (.ref it) s → wpAny (model P w) A (pyIter (.ref it)) Q E s
noncomputable abbrev TI := St → Hp → (It → Hp → Prop) → Prop
noncomputable def PIE (X : Cx) (pins : List (Addr × Obj)) (σ : St) (tg : Expr) (R : It → Hp → Prop) (itv : Value) (s2 : Shared) : Prop :=
  ∃ (it : Addr) (fp : List Addr) (tn : Nat → Heap → Prop) (J : It) (H' : Hp), itv = .ref it ∧ Inv X pins σ H' s2 ∧ Turn X.prog X.w X.K tg J fp it tn ∧ tn 0 s2.heap ∧ (∀ b ∈ fp, FpOk X pins H' b) ∧ R J H'
noncomputable def PI (X : Cx) (tg iter : Expr) (wi : TI) : Prop :=
  ∀ (pins : List (Addr × Obj)) (s : Shared) (σ : St) (H : Hp) (R : It → Hp → Prop), Inv X pins σ H s → wi σ H R →
    wpAny (model X.prog X.w) X.A (eval iter X.env) (fun v s1 => wpAny (model X.prog X.w) X.A (pyIter v) (PIE X pins σ tg R) X.xe s1) X.xe s
theorem go_of {M : Model} {A : Around} {E : Value → Shared → Prop} {s : Shared} {tg : Expr} {it : Addr} {u : Value} {o : Obj} {n : String} {vs : Array Value} {Q : Unit → Shared → Prop} (ho : s.heap.get? it = some o) (hc : o.cls = .type n) (hd : o.data = .fields vs)
    (hn : ["enumerate", "zip", "dict_itemiterator", "dict_reverseitemiterator", "odict_iterator", "itertools.zip_longest", "itertools.pairwise"].contains n = false) (hQ : Q () s) : wpAny M A (letOwnedTupleGo tg (.ref it) u) Q E s := by
  unfold letOwnedTupleGo
  cases tg <;> first
    | exact wpAny_pure hQ
    | (cases u <;> first
        | exact wpAny_pure hQ
        | (refine wpAny_bind (wpAny_load ho ?_)
           rw [hc, hd]
           show wpAny M A (if (["enumerate", "zip", "dict_itemiterator", "dict_reverseitemiterator", "odict_iterator", "itertools.zip_longest", "itertools.pairwise"].contains n && vs[0]? == some (rawInt _)) = true then _ else _) Q E s
           rw [if_neg (by intro h; rw [hn, Bool.false_and] at h; cases h)]
           exact wpAny_pure hQ))
noncomputable def Itl (K : PySem.W.Frag) (a : Addr) : It :=
  ⟨fun i H => ∃ xs x, SqL K H a xs ∧ xs[i]? = some x, fun i H x H' => H' = H ∧ ∀ xs, SqL K H a xs → xs[i]? = some x, fun i H => ∃ xs, SqL K H a xs ∧ xs.length ≤ i⟩
noncomputable def Itr (lo : Int) (n : Nat) : It := ⟨fun i _ => i < n, fun i H x H' => H' = H ∧ x = .int (lo + i), fun i _ => n ≤ i⟩
theorem turn_list {P : Program} {w : World} {K : PySem.W.Frag} {tg : Expr} (a it : Addr) : Turn P w K tg (Itl K a) [it] it (fun i h => h.IsListIter it a i) where
  mem := by simp
  obj := fun i h st b hb => by
    have e : b = it := by simpa using hb
    subst e
    obtain ⟨o, e, c, d⟩ := st
    exact ⟨o, e, fun v z => by rw [d] at z; cases z⟩
  keep := fun i h h' st k => st.at fun o e => k it (by simp) o e
  item := by
    intro X hP hw hK hc i pins s σ H E I hf st hg
    subst hP hw hK
    obtain ⟨xs, x, hq, hx⟩ := hg
    obtain ⟨its, rv, p, hz⟩ := I.list hq
    obtain ⟨u, hu, ru⟩ := rv.get hx
    obtain ⟨f0, f1, f2, f3, f4, f5⟩ := hf it (by simp)
    refine wpAny_pyNext_list_item st p.isList (x := u) (by simpa using hu) fun h' st' sb => ?_
    have I1 : Inv X pins σ H { s with heap := h' } := I.turned (t' := s.toks) (fun b o hb e => (sb.2 b hb).trans e) f0 f1 f3 f4 f5
    obtain ⟨o, e, c, d⟩ := id st'
    exact ⟨u, rfl, go_of (s := { s with heap := h' }) e c d (by decide) ⟨x, H, I1, ru, ⟨rfl, fun ys hy => by rw [I.list_inj hy hq]; exact hx⟩, st', fun b hb => (hf b hb).1⟩⟩
  done := by
    intro X hP hw hK hc i pins s σ H E I hf st hg
    subst hP hw hK
    obtain ⟨xs, hq, hx⟩ := hg
    obtain ⟨its, rv, p, hz⟩ := I.list hq
    obtain ⟨f0, f1, f2, f3, f4, f5⟩ := hf it (by simp)
    have hl := rv.length
    exact wpAny_pyNext_list_end (I.ok.hd hc) st p.isList (by simp; omega) fun h' eb => ⟨rfl, I.turned (t' := s.toks) (fun b o hb e => eb b o hb e) f0 f1 f3 f4 f5⟩
  self := fun _ _ _ _ _ st h => wpAny_pyIter_listiter st h
theorem turn_range {P : Program} {w : World} {K : PySem.W.Frag} {tg : Expr} (it : Addr) (lo : Int) (n : Nat) : Turn P w K tg (Itr lo n) [it] it (fun i h => IsRangeIter h it (lo + (i : Nat) * 1) ((n : Int) - (i : Nat)) 1) where
  mem := by simp
  obj := fun i h st b hb => by
    have e : b = it := by simpa using hb
    subst e
    exact ⟨_, st, fun v z => by
      have z' : Data.fields _ = Data.cell v := z
      cases z'⟩
  keep := fun i h h' st k => k it (by simp) _ st
  item := by
    intro X hP hw hK hc i pins s σ H E I hf st hg
    subst hP hw hK
    obtain ⟨f0, f1, f2, f3, f4, f5⟩ := hf it (by simp)
    have W := Walks.range (prog := X.prog) (w := X.w) (I.ok.hd hc) it lo 1 n
    refine W.item i s _ _ hg st fun v h' tk hv st' kk => ?_
    obtain ⟨t, rfl⟩ := hv
    have I1 : Inv X pins σ H { s with heap := h', toks := tk } := I.turned (fun b o hb e => kk b o (by simpa using hb) e) f0 f1 f3 f4 f5
    refine ⟨_, rfl, go_of (s := { s with heap := h', toks := tk }) (n := "range_iterator") st' rfl rfl (by decide) ⟨.int (lo + i), H, I1, ⟨t, ?_⟩, ⟨rfl, rfl⟩, st', fun b hb => (hf b hb).1⟩⟩
    rw [Int.mul_one]
  done := by
    intro X hP hw hK hc i pins s σ H E I hf st hg
    subst hP hw hK
    obtain ⟨f0, f1, f2, f3, f4, f5⟩ := hf it (by simp)
    exact wpAny_pyNext_range_end (I.ok.hd hc) st (by have : n ≤ i := hg; omega) fun h' eb => ⟨rfl, I.turned (t' := s.toks) (fun b o hb e => eb b o hb e) f0 f1 f3 f4 f5⟩
  self := fun _ _ _ _ _ st h => wpAny_pyIter_rangeiter st h
end L2
namespace L2
open PySem PySem.Spec PyProof.Rows
section
variable {X : Cx} {tg : Expr}
noncomputable def iList (K : PySem.W.Frag) (tl : TE) : TI := fun σ H R => tl σ H fun x H1 => ∃ a, x = .ref a ∧ (∃ xs, SqL K H1 a xs) ∧ R (Itl K a) H1
theorem pi_list {l : Expr} {tl : TE} (hl : PE X l tl) : PI X tg l (iList X.K tl) := by
  intro pins s σ H R I h
  refine thn (hl pins s σ H _ I h) fun v s1 ⟨x, H1, I1, r1, q1⟩ => ?_
  obtain ⟨a, e, ⟨xs, hq⟩, q⟩ := q1
  subst e
  cases r1
  obtain ⟨its, rv, p, hz⟩ := I1.list hq
  refine wpAny_pyIter_list p.isList ?_
  refine ⟨s1.heap.objs.size, [s1.heap.objs.size], _, _, H1, rfl, I1.kept (t' := s1.toks) fun b o e => Heap.get?_push_of_some _ e, turn_list a _, ⟨_, Heap.get?_push_size _ rfl, rfl, rfl⟩, fun b hb => ?_, q⟩
  have e : b = s1.heap.objs.size := by simpa using hb
  subst e
  exact I1.fpOk (Nat.le_refl _) (I1.hok.fresh (Nat.le_refl _))
theorem range_it {pins : List (Addr × Obj)} {σ : St} {H : Hp} {s : Shared} {R : It → Hp → Prop} {E : Value → Shared → Prop} {lo hi : Int} {t u v : Tok} {tk : Nat} (I : Inv X pins σ H s) (h1 : -(2 ^ 62) ≤ lo) (h2 : lo < 2 ^ 62) (h3 : -(2 ^ 62) ≤ hi) (h4 : hi < 2 ^ 62)
    (q : R (Itr lo (hi - lo).toNat) H) : wpAny (model X.prog X.w) X.A (pyIter (.ref s.heap.objs.size)) (PIE X pins σ tg R) E { s with heap := s.heap.push { cls := .type "range", data := .fields #[.int lo t, .int hi u, .int 1 v] }, toks := tk } := by
  refine wpAny_pyIter_range (IsRange.new ..) (small_one h1 h2 h3 h4) ?_
  have I1 : Inv X pins σ H { s with heap := s.heap.push { cls := .type "range", data := .fields #[.int lo t, .int hi u, .int 1 v] }, toks := tk } := I.kept fun b o e => Heap.get?_push_of_some _ e
  refine ⟨(s.heap.push { cls := .type "range", data := .fields #[.int lo t, .int hi u, .int 1 v] }).objs.size, [(s.heap.push { cls := .type "range", data := .fields #[.int lo t, .int hi u, .int 1 v] }).objs.size], _, _, H, rfl,
    I1.kept (t' := tk) fun b o e => Heap.get?_push_of_some _ e, turn_range _ lo (hi - lo).toNat, ?_, fun b hb => ?_, q⟩
  · have e1 : lo + ((0 : Nat) : Int) * 1 = lo := by simp
    have e2 : (((hi - lo).toNat : Nat) : Int) - ((0 : Nat) : Int) = Builtin.Range.rangeSize lo hi 1 := by rw [rangeSize_one]; split <;> omega
    show IsRangeIter _ _ (lo + ((0 : Nat) : Int) * 1) ((((hi - lo).toNat : Nat) : Int) - ((0 : Nat) : Int)) 1
    rw [e1, e2]
    exact Heap.get?_push_size _ rfl
  · have e : b = (s.heap.push { cls := .type "range", data := .fields #[.int lo t, .int hi u, .int 1 v] }).objs.size := by simpa using hb
    subst e
    exact I1.fpOk (Nat.le_refl _) (I1.hok.fresh (Nat.le_refl _))
noncomputable def iRng1 (ta : TA) : TI := fun σ H R => ta σ H fun vs H1 => ∃ j : Int, vs = [.int j] ∧ -(2 ^ 62) ≤ j ∧ j < 2 ^ 62 ∧ R (Itr 0 j.toNat) H1
theorem pi_range1 {a : Expr} {ta : TA} {p pos : Pos} (hg : Gl X "range") (hm : X.mg "range" = none) (ha : PA X [a] ta) (hs : starEach [a] X.env = [(false, eval a X.env)] := by rfl) : PI X tg (.Call (.Name "range" p) [a] [] pos) (iRng1 ta) := by
  intro pins s σ H R I h
  refine Call_ (ld_blt I hg hm boot_range (PyProof.Rows.callWith_type1 (thn (ha pos pins s σ H _ I h) fun us s1 ⟨vs, H1, I1, r1, q1⟩ => ?_) hs rfl))
  obtain ⟨j, e, q1, q2, q⟩ := q1
  subst e
  cases r1 with
  | cons r rr =>
    cases rr
    obtain ⟨t, rfl⟩ := r
    exact call_range_1 (range_it I1 (by omega) (by omega) q1 q2 (by simpa using q))
noncomputable def tFor (wi : TI) (g : TG) (tb : TS) : TS := fun D σ H => wi σ H fun J H1 => ∃ W : Nat → Nat → St → Hp → Prop, (∃ m, W 0 m σ H1) ∧ ∀ i m σ H, W i m σ H →
  (J.stop i H ∧ D.nx σ H) ∨ (J.go i H ∧ ∃ N : St → Hp → Prop, (∀ σ' H', N σ' H' → ∃ m', m' < m ∧ W (i + 1) m' σ' H') ∧ ∀ x H', J.yld i H x H' → g x σ H' fun σ2 H2 => tb { D with nx := N, ct := N, bk := D.nx } σ2 H2)
noncomputable def pinsAt (fp : List Addr) (h : Heap) : List (Addr × Obj) := fp.filterMap fun b => (h.get? b).map fun o => (b, o)
theorem mem_pinsAt {fp : List Addr} {h : Heap} {b : Addr} {o : Obj} (hb : b ∈ fp) (e : h.get? b = some o) : (b, o) ∈ pinsAt fp h := List.mem_filterMap.mpr ⟨b, hb, by rw [e]; rfl⟩
theorem of_pinsAt {fp : List Addr} {h : Heap} {p : Addr × Obj} (hp : p ∈ pinsAt fp h) : p.1 ∈ fp ∧ h.get? p.1 = some p.2 := by
  obtain ⟨b, hb, e⟩ := List.mem_filterMap.mp hp
  cases q : h.get? b with
  | none => rw [q] at e; cases e
  | some o =>
    rw [q] at e
    have e' : (b, o) = p := Option.some.inj e
    subst e'
    exact ⟨hb, q⟩
theorem Inv.pinned {pins : List (Addr × Obj)} {σ : St} {H : Hp} {s : Shared} {fp : List Addr} (I : Inv X pins σ H s) (hf : ∀ b ∈ fp, FpOk X pins H b) (ho : ∀ b ∈ fp, ∃ o, s.heap.get? b = some o ∧ ∀ v, o.data ≠ .cell v) : Inv X (pins ++ pinsAt fp s.heap) σ H s :=
  I.pins_of fun p hp => (List.mem_append.mp hp).elim (fun z => I.pin p (List.mem_append_right _ z)) fun z => by
    obtain ⟨hb, e⟩ := of_pinsAt z
    obtain ⟨f0, f1, f2, _⟩ := hf p.1 hb
    obtain ⟨o, e', d⟩ := ho p.1 hb
    rw [e] at e'; cases e'
    exact ⟨e, f0, f1, f2, d⟩
theorem Inv.unpinned {pins pl : List (Addr × Obj)} {σ : St} {H : Hp} {s : Shared} (I : Inv X (pins ++ pl) σ H s) : Inv X pins σ H s := I.pins_of fun p hp => I.pin p (List.mem_append_right _ (List.mem_append_left _ hp))
theorem ps_for {iter : Expr} {body : List Stmt} {wi : TI} {g : TG} {tb : TS} {pos : Pos} (hp : PassesOwn (model X.prog X.w) X.A X.env X.xe) (hc : X.calm = true) (hi : PI X tg iter wi) (hg : PG X tg g) (hb : PSs X body tb)
    (hs : ∀ x, foldedSetIterable iter X.env x = pure x := by intro _; rfl) : PS X (.For tg iter body [] pos) (tFor wi g tb) := by
  intro pins s σ H D I h
  refine wpAny_For (thn (hi pins s σ H _ I h) fun v s1 h1 => thn h1 fun itv s2 h2 => ?_) hs
  obtain ⟨it, fp, tn, J, H2, e, I2, T, st2, f2, W, ⟨m0, w0⟩, turn⟩ := h2
  subst e
  have stat : ∀ {H' : Hp}, (∀ b ∈ fp, H' b = none) → ∀ b ∈ fp, FpOk X pins H' b := fun hn b hb => ⟨hn b hb, (f2 b hb).2⟩
  refine codeAny_forLoop_any (fun n s' => ∃ i σ' H', Inv X pins σ' H' s' ∧ tn i s'.heap ∧ (∀ b ∈ fp, H' b = none) ∧ W i n σ' H') ?_ m0 ⟨0, σ, H2, I2, st2, fun b hb => (f2 b hb).1, w0⟩
  rintro n s3 ⟨i, σ3, H3, I3, st3, fr3, w3⟩
  rcases turn i n σ3 H3 w3 with ⟨stop, qn⟩ | ⟨go, N, hN, step⟩
  · refine wpAny_passesOwn hp (thn (T.done X rfl rfl rfl hc i pins s3 σ3 H3 X.xe I3 (stat fr3) st3 stop) fun r s4 ⟨hr, I4⟩ => ?_)
    subst hr
    exact wpAny_execs_nil ⟨σ3, H3, I4, qn⟩
  · refine wpAny_passesOwn hp (thn (T.item X rfl rfl rfl hc i pins s3 σ3 H3 X.xe I3 (stat fr3) st3 go) fun r s4 ⟨u, hr, h4⟩ => ?_)
    subst hr
    refine wpAny_passesOwn hp (thn h4 fun _ s5 ⟨x, H5, I5, r5, y5, st5, fr5⟩ => ?_)
    have I5' := I5.pinned (stat fr5) (T.obj _ _ st5)
    refine wpAny_passesOwn hp (thn (hg _ s5 σ3 H5 x u _ I5' r5 (step x H5 y5)) fun _ s6 ⟨σ6, H6, I6, q6⟩ => ?_)
    refine wpAny_passesOwn hp (thn (hb _ s6 σ6 H6 _ I6 q6) fun f s7 q7 => ?_)
    have again : ∀ {σ7 : St} {H7 : Hp}, Inv X (pins ++ pinsAt fp s5.heap) σ7 H7 s7 → N σ7 H7 → ∃ m, m < n ∧ ∃ i σ' H', Inv X pins σ' H' s7 ∧ tn i s7.heap ∧ (∀ b ∈ fp, H' b = none) ∧ W i m σ' H' := fun {σ7 H7} I7 n7 => by
      obtain ⟨m', hm, w7⟩ := hN σ7 H7 n7
      refine ⟨m', hm, i + 1, σ7, H7, I7.unpinned, T.keep _ _ _ st5 fun b hb o e => (I7.pin (b, o) (List.mem_append_right _ (List.mem_append_right _ (mem_pinsAt hb e)))).1, fun b hb => ?_, w7⟩
      obtain ⟨o, e, d⟩ := T.obj _ _ st5 b hb
      exact (I7.pin (b, o) (List.mem_append_right _ (List.mem_append_right _ (mem_pinsAt hb e)))).2.1
    cases f with
    | next => obtain ⟨σ7, H7, I7, n7⟩ := q7; exact again I7 n7
    | cont => obtain ⟨σ7, H7, I7, n7⟩ := q7; exact again I7 n7
    | brk => obtain ⟨σ7, H7, I7, q7⟩ := q7; exact ⟨σ7, H7, I7.unpinned, q7⟩
    | ret v => obtain ⟨x7, σ7, H7, I7, r7, q7⟩ := q7; exact ⟨x7, σ7, H7, I7.unpinned, r7, q7⟩
end
theorem for_list {K : PySem.W.Frag} {a : Addr} {xs : List V} {g : TG} {tb : TS} {D : Ends} {σ : St} {H : Hp} (Pv : Nat → St → Hp → Prop) (h0 : Pv 0 σ H) (hl : ∀ i σ H, i ≤ xs.length → Pv i σ H → SqL K H a xs)
    (hs : ∀ i x σ H, xs[i]? = some x → Pv i σ H → g x σ H fun σ2 H2 => tb { D with nx := Pv (i + 1), ct := Pv (i + 1), bk := D.nx } σ2 H2) (hd : ∀ σ H, Pv xs.length σ H → D.nx σ H) :
    ∃ W : Nat → Nat → St → Hp → Prop, (∃ m, W 0 m σ H) ∧ ∀ i m σ H, W i m σ H →
      ((Itl K a).stop i H ∧ D.nx σ H) ∨ ((Itl K a).go i H ∧ ∃ N : St → Hp → Prop, (∀ σ' H', N σ' H' → ∃ m', m' < m ∧ W (i + 1) m' σ' H') ∧ ∀ x H', (Itl K a).yld i H x H' → g x σ H' fun σ2 H2 => tb { D with nx := N, ct := N, bk := D.nx } σ2 H2) := by
  refine ⟨fun i m σ H => m = xs.length - i ∧ i ≤ xs.length ∧ Pv i σ H, ⟨xs.length, by simp, Nat.zero_le _, h0⟩, ?_⟩
  rintro i m σ H ⟨rfl, hi, p⟩
  have q := hl i σ H hi p
  by_cases hlt : i < xs.length
  · refine .inr ⟨⟨xs, xs[i], q, by simp [hlt]⟩, Pv (i + 1), fun σ' H' p' => ⟨xs.length - (i + 1), by omega, rfl, hlt, p'⟩, fun x H' y => ?_⟩
    obtain ⟨e, y⟩ := y
    subst e
    exact hs i x σ _ (y xs q) p
  · have e : i = xs.length := by omega
    subst e
    exact .inl ⟨⟨xs, q, Nat.le_refl _⟩, hd σ H p⟩
end L2
namespace L2
open PySem PySem.Spec PyProof.Rows
noncomputable abbrev R2 := V → V → Hp → VK → Prop
noncomputable def OpR (X : Cx) (f : Value → Value → Sem Value) (r : R2) : Prop :=
  ∀ (pins : List (Addr × Obj)) (s : Shared) (σ : St) (H : Hp) (x y : V) (v u : Value) (Q : VK), Inv X pins σ H s → RelV x v → RelV y u → r x y H Q →
    wpAny (model X.prog X.w) X.A (f v u) (EP X pins σ Q) X.xe s
noncomputable def CallR (X : Cx) (f : Value) (r : List V → Hp → VK → Prop) : Prop :=
  ∀ (pins : List (Addr × Obj)) (s : Shared) (σ : St) (H : Hp) (xs : List V) (us : List Value) (Q : VK), Inv X pins σ H s → Vals xs us → r xs H Q →
    wpAny (model X.prog X.w) X.A (call f us) (EP X pins σ Q) X.xe s
noncomputable def tOp (r : R2) (ta tb : TE) : TE := fun σ H Q => ta σ H fun x H1 => tb σ H1 fun y H2 => r x y H2 Q
noncomputable def rI (C : Int → Int → Prop) (g : Int → Int → V) : R2 := fun x y H Q => ∃ i j, x = .int i ∧ y = .int j ∧ C i j ∧ Q (g i j) H
noncomputable def rI0 (g : Int → Int → V) : R2 := fun x y H Q => ∃ i j, x = .int i ∧ y = .int j ∧ Q (g i j) H
section
variable {X : Cx} {a b c : Expr} {ta tb tc : TE} {pos : Pos}
theorem binT (ha : PE X a ta) (hb : PE X b tb) {pins : List (Addr × Obj)} {s : Shared} {σ : St} {H : Hp} {R : V → V → Hp → Prop} (I : Inv X pins σ H s)
    (h : ta σ H fun x H1 => tb σ H1 fun y H2 => R x y H2) {Q : Value → Shared → Prop} {f : Value → Value → Sem Value}
    (hf : ∀ v u s2 x y H2, Inv X pins σ H2 s2 → RelV x v → RelV y u → R x y H2 → wpAny (model X.prog X.w) X.A (f v u) Q X.xe s2) :
    wpAny (model X.prog X.w) X.A (eval a X.env) (fun v s₁ => wpAny (model X.prog X.w) X.A (eval b X.env) (fun u s₂ => wpAny (model X.prog X.w) X.A (f v u) Q X.xe s₂) X.xe s₁) X.xe s := by
  refine thn (ha pins s σ H _ I h) fun v s1 ⟨x, H1, I1, r1, q1⟩ => ?_
  refine thn (hb pins s1 σ H1 _ I1 q1) fun u s2 ⟨y, H2, I2, r2, q2⟩ => ?_
  exact hf v u s2 x y H2 I2 r1 r2 q2
theorem pe_op {op : Operator} {r : R2} (ho : OpR X (binaryOp op) r) (ha : PE X a ta) (hb : PE X b tb) : PE X (.BinOp a op b pos) (tOp r ta tb) := by
  intro pins s σ H Q I h
  exact wpAny_BinOp (binT ha hb I h fun v u s2 x y H2 I2 rx ry q => ho pins s2 σ H2 x y v u Q I2 rx ry q)
theorem opI {f : Value → Value → Sem Value} {C : Int → Int → Prop} {g : Int → Int → Int}
    (rule : ∀ (i j : Int) (t u : Tok) (s : Shared) (Q : Value → Shared → Prop) (E : Value → Shared → Prop), C i j → Q (.int (g i j) s.toks) { s with toks := s.toks + 1 } → wpAny (model X.prog X.w) X.A (f (.int i t) (.int j u)) Q E s) :
    OpR X f (rI C fun i j => .int (g i j)) := by
  intro pins s σ H x y v u Q I rx ry h
  obtain ⟨i, j, rfl, rfl, hc, q⟩ := h
  obtain ⟨t, rfl⟩ := rx
  obtain ⟨t', rfl⟩ := ry
  exact rule i j t t' s _ _ hc ⟨.int (g i j), H, I.tok _, ⟨_, rfl⟩, q⟩
theorem opI0 {f : Value → Value → Sem Value} {g : Int → Int → Int}
    (rule : ∀ (i j : Int) (t u : Tok) (s : Shared) (Q : Value → Shared → Prop) (E : Value → Shared → Prop), Q (.int (g i j) s.toks) { s with toks := s.toks + 1 } → wpAny (model X.prog X.w) X.A (f (.int i t) (.int j u)) Q E s) :
    OpR X f (rI0 fun i j => .int (g i j)) := by
  intro pins s σ H x y v u Q I rx ry h
  obtain ⟨i, j, rfl, rfl, q⟩ := h
  obtain ⟨t, rfl⟩ := rx
  obtain ⟨t', rfl⟩ := ry
  exact rule i j t t' s _ _ ⟨.int (g i j), H, I.tok _, ⟨_, rfl⟩, q⟩
theorem opB0 {f : Value → Value → Sem Value} {g : Int → Int → Bool}
    (rule : ∀ (i j : Int) (t u : Tok) (s : Shared) (Q : Value → Shared → Prop) (E : Value → Shared → Prop), Q (.bool (g i j)) s → wpAny (model X.prog X.w) X.A (f (.int i t) (.int j u)) Q E s) :
    OpR X f (rI0 fun i j => .bl (g i j)) := by
  intro pins s σ H x y v u Q I rx ry h
  obtain ⟨i, j, rfl, rfl, q⟩ := h
  obtain ⟨t, rfl⟩ := rx
  obtain ⟨t', rfl⟩ := ry
  exact rule i j t t' s _ _ ⟨.bl (g i j), H, I, rfl, q⟩
noncomputable def CDiv (i j : Int) : Prop := 0 < j ∧ j < 1073741824
noncomputable def CDivN (i j : Int) : Prop := j ≠ 0 ∧ j.natAbs < 1073741824
noncomputable def CPow (i j : Int) : Prop := 0 ≤ j ∧ j ≤ 1000000 ∧ i.natAbs < 2 ^ 64
noncomputable def CMul (i j : Int) : Prop := (-(2 ^ 64) < i ∧ i < 2 ^ 64) ∨ (-(2 ^ 64) < j ∧ j < 2 ^ 64)
theorem CMul.ok {i j : Int} (h : CMul i j) : IntMulOk i j := by
  rcases h with ⟨h1, h2⟩ | ⟨h1, h2⟩
  · exact .of_left (intBits_le_64 h1 h2)
  · exact .of_right (intBits_le_64 h1 h2)
theorem op_add : OpR X (binaryOp .Add) (rI0 fun i j => .int (i + j)) := opI0 fun _ _ _ _ _ _ _ q => add_int q
theorem op_mul : OpR X (binaryOp .Mult) (rI CMul fun i j => .int (i * j)) := opI fun _ _ _ _ _ _ _ hc q => mul_int q hc.ok
theorem op_mod : OpR X (binaryOp .Mod) (rI (fun _ j => 0 < j) fun i j => .int (i % j)) := opI fun i j _ _ _ _ _ hc q => by
  have h1 : (0 : Int) < j := hc
  exact mod_int' (by omega) (by rw [Int.fmod_eq_emod_of_nonneg i (by omega)]; exact q)
theorem op_pow : OpR X (binaryOp .Pow) (rI CPow fun i j => .int (i ^ j.toNat)) := opI fun _ _ _ _ _ _ _ hc q => pow_int_small hc.1 hc.2.1 hc.2.2 q
end
noncomputable def scal : V → V → Bool
  | .non, .non => true | .non, .int _ => true | .int _, .non => true | .non, .bl _ => true | .bl _, .non => true | .non, .str _ => true | .str _, .non => true
  | .int _, .int _ => true | .bl _, .bl _ => true | .str _, .str _ => true | .byt _, .byt _ => true
  | .int _, .str _ => true | .str _, .int _ => true | .bl _, .str _ => true | .str _, .bl _ => true
  | _, _ => false
noncomputable def rEq : R2 := fun x y H Q => scal x y = true ∧ Q (.bl (decide (x = y))) H
noncomputable def rNe : R2 := fun x y H Q => scal x y = true ∧ Q (.bl (!decide (x = y))) H
theorem dec_int {i j : Int} : decide (V.int i = V.int j) = (i == j) := by
  rw [Bool.eq_iff_iff]
  simp
theorem dec_bl {i j : Bool} : decide (V.bl i = V.bl j) = (i == j) := by
  rw [Bool.eq_iff_iff]
  simp
theorem dec_str {i j : Str} : decide (V.str i = V.str j) = (i == j) := by
  rw [Bool.eq_iff_iff]
  simp
theorem dec_byt {i j : Array UInt8} : decide (V.byt i = V.byt j) = (i.toList == j.toList) := by
  rw [Bool.eq_iff_iff]
  cases i
  cases j
  simp
section
variable {X : Cx} {a b c : Expr} {ta tb tc : TE} {pos : Pos}
theorem fin_bl {pins : List (Addr × Obj)} {σ : St} {H : Hp} {s : Shared} {Q : VK} {k k' : Bool} (I : Inv X pins σ H s) (q : Q (.bl k) H) (e : k = k') : EP X pins σ Q (.bool k') s := by
  subst e
  exact ⟨.bl k, H, I, rfl, q⟩
theorem op_eq : OpR X (compareOp .Eq) rEq := by
  intro pins s σ H x y v u Q I rx ry h
  obtain ⟨hs, q⟩ := h
  cases x with
  | non =>
    cases rx
    cases y with
    | non => cases ry; exact PySem.EqNone.eq_none_none (fin_bl I q (by simp))
    | bl j => cases ry; exact PySem.EqNone.eq_none_bool (fin_bl I q (by simp))
    | int j => obtain ⟨t', rfl⟩ := ry; exact PySem.EqNone.eq_none_int (fin_bl I q (by simp))
    | str j => obtain ⟨t', rfl⟩ := ry; exact PySem.EqNone.eq_none_str (fin_bl I q (by simp))
    | _ => exact absurd (show false = true from hs) Bool.false_ne_true
  | bl i =>
    cases rx
    cases y with
    | non => cases ry; exact PySem.EqNone.eq_bool_none (fin_bl I q (by simp))
    | bl j => cases ry; exact eq_bool (fin_bl I q dec_bl)
    | str j => obtain ⟨t', rfl⟩ := ry; exact PySem.EqMixed.eq_bool_str (fin_bl I q (by simp))
    | _ => exact absurd (show false = true from hs) Bool.false_ne_true
  | int i =>
    obtain ⟨t, rfl⟩ := rx
    cases y with
    | non => cases ry; exact PySem.EqNone.eq_int_none (fin_bl I q (by simp))
    | int j => obtain ⟨t', rfl⟩ := ry; exact eq_int (fin_bl I q dec_int)
    | str j => obtain ⟨t', rfl⟩ := ry; exact PySem.EqMixed.eq_int_str (fin_bl I q (by simp))
    | _ => exact absurd (show false = true from hs) Bool.false_ne_true
  | str i =>
    obtain ⟨t, rfl⟩ := rx
    cases y with
    | non => cases ry; exact PySem.EqNone.eq_str_none (fin_bl I q (by simp))
    | bl j => cases ry; exact PySem.EqMixed.eq_str_bool (fin_bl I q (by simp))
    | int j => obtain ⟨t', rfl⟩ := ry; exact PySem.EqMixed.eq_str_int (fin_bl I q (by simp))
    | str j => obtain ⟨t', rfl⟩ := ry; exact eq_str (fin_bl I q dec_str)
    | _ => exact absurd (show false = true from hs) Bool.false_ne_true
  | byt i =>
    obtain ⟨t, rfl⟩ := rx
    cases y with
    | byt j => obtain ⟨t', rfl⟩ := ry; exact PySem.W.eq_bytes (fin_bl I q dec_byt)
    | _ => exact absurd (show false = true from hs) Bool.false_ne_true
  | _ => cases y <;> exact absurd (show false = true from hs) Bool.false_ne_true
theorem op_ne : OpR X (compareOp .NotEq) rNe := by
  intro pins s σ H x y v u Q I rx ry h
  obtain ⟨hs, q⟩ := h
  cases x with
  | non =>
    cases rx
    cases y with
    | non => cases ry; exact PySem.EqNone.ne_none_none (fin_bl I q (by simp))
    | bl j => cases ry; exact PySem.EqNone.ne_none_bool (fin_bl I q (by simp))
    | int j => obtain ⟨t', rfl⟩ := ry; exact PySem.EqNone.ne_none_int (fin_bl I q (by simp))
    | str j => obtain ⟨t', rfl⟩ := ry; exact PySem.EqNone.ne_none_str (fin_bl I q (by simp))
    | _ => exact absurd (show false = true from hs) Bool.false_ne_true
  | bl i =>
    cases rx
    cases y with
    | non => cases ry; exact PySem.EqNone.ne_bool_none (fin_bl I q (by simp))
    | bl j => cases ry; exact ne_bool (fin_bl I q (congrArg not dec_bl))
    | str j => obtain ⟨t', rfl⟩ := ry; exact PySem.EqMixed.ne_bool_str (fin_bl I q (by simp))
    | _ => exact absurd (show false = true from hs) Bool.false_ne_true
  | int i =>
    obtain ⟨t, rfl⟩ := rx
    cases y with
    | non => cases ry; exact PySem.EqNone.ne_int_none (fin_bl I q (by simp))
    | int j => obtain ⟨t', rfl⟩ := ry; exact ne_int (fin_bl I q (congrArg not dec_int))
    | str j => obtain ⟨t', rfl⟩ := ry; exact PySem.EqMixed.ne_int_str (fin_bl I q (by simp))
    | _ => exact absurd (show false = true from hs) Bool.false_ne_true
  | str i =>
    obtain ⟨t, rfl⟩ := rx
    cases y with
    | non => cases ry; exact PySem.EqNone.ne_str_none (fin_bl I q (by simp))
    | bl j => cases ry; exact PySem.EqMixed.ne_str_bool (fin_bl I q (by simp))
    | int j => obtain ⟨t', rfl⟩ := ry; exact PySem.EqMixed.ne_str_int (fin_bl I q (by simp))
    | str j => obtain ⟨t', rfl⟩ := ry; exact ne_str (fin_bl I q (congrArg not dec_str))
    | _ => exact absurd (show false = true from hs) Bool.false_ne_true
  | byt i =>
    obtain ⟨t, rfl⟩ := rx
    cases y with
    | byt j => obtain ⟨t', rfl⟩ := ry; exact PySem.W.ne_bytes (fin_bl I q (congrArg not dec_byt))
    | _ => exact absurd (show false = true from hs) Bool.false_ne_true
  | _ => cases y <;> exact absurd (show false = true from hs) Bool.false_ne_true
theorem op_lt : OpR X (compareOp .Lt) (rI0 fun i j => .bl (decide (i < j))) := opB0 fun _ _ _ _ _ _ _ q => lt_int q
theorem nomark (b : Expr) {op : CmpOp} (h : op ≠ .In := by decide) (h2 : op ≠ .NotIn := by decide) : behindInMarks op b = false := by
  have e1 : (op == CmpOp.In) = false := by cases op <;> first | rfl | exact absurd rfl h
  have e2 : (op == CmpOp.NotIn) = false := by cases op <;> first | rfl | exact absurd rfl h2
  cases b <;> simp [behindInMarks, e1, e2]
theorem pe_cmpR {op : CmpOp} {r : R2} (ho : OpR X (compareOp op) r) (ha : PE X a ta) (hb : PE X b tb) (hm : behindInMarks op b = false) : PE X (.Compare a [op] [b] pos) (tOp r ta tb) := by
  intro pins s σ H Q I h
  exact wpAny_Compare1 (binT ha hb I h fun v u s2 x y H2 I2 rx ry q => ho pins s2 σ H2 x y v u Q I2 rx ry q) hm
noncomputable def tTest (t : TE) : TT := fun σ H Q => t σ H fun x H' => ∃ k, x = .bl k ∧ Q k H'
theorem pt_cmpR {op : CmpOp} {r : R2} (ho : OpR X (compareOp op) r) (ha : PE X a ta) (hb : PE X b tb) (hm : behindInMarks op b = false) : PT X (.Compare a [op] [b] pos) (tTest (tOp r ta tb)) := by
  intro pins s σ H Q I h
  refine wpAny_isTrue_Compare1 (thn (ha pins s σ H _ I h) fun v s1 ⟨x, H1, I1, r1, q1⟩ => thn (hb pins s1 σ H1 _ I1 q1) fun u s2 ⟨y, H2, I2, r2, q2⟩ =>
    thn (ho pins s2 σ H2 x y v u _ I2 r1 r2 q2) fun c s3 ⟨z, H3, I3, r3, k, e, q3⟩ => ?_) hm
  subst e
  cases r3
  exact wpAny_truthy_bool ⟨H3, I3, q3⟩
theorem line63 : (sizeLine : Nat) < 2 ^ 63 := by rw [sizeLine_eq]; decide
theorem vals1 {x : V} {us : List Value} (r : Vals [x] us) : ∃ u, us = [u] ∧ RelV x u := by
  cases r with
  | cons r1 r2 => cases r2; exact ⟨_, rfl, r1⟩
theorem vals2 {x y : V} {us : List Value} (r : Vals [x, y] us) : ∃ u w', us = [u, w'] ∧ RelV x u ∧ RelV y w' := by
  cases r with
  | cons r1 r2 =>
    cases r2 with
    | cons r3 r4 => cases r4; exact ⟨_, _, rfl, r1, r3⟩
noncomputable def LenV (K : PySem.W.Frag) (x : V) (H : Hp) (n : Nat) : Prop :=
  match x with
  | .str y => y.length ≤ sizeLine ∧ n = y.length
  | .byt y => y.size ≤ sizeLine ∧ n = y.size
  | .ref p => (∃ xs, SqL K H p xs ∧ n = xs.length) ∨ ∃ xs, SqT K H p xs ∧ n = xs.length
  | _ => False
theorem call_len : CallR X (.builtin "len") (fun xs H Q => ∃ x n, xs = [x] ∧ LenV X.K x H n ∧ Q (.int n) H) := by
  intro pins s σ H xs us Q I r h
  obtain ⟨x, n, rfl, e, q⟩ := h
  obtain ⟨u, rfl, rx⟩ := vals1 r
  have hl := line63
  have hs : sizeLine = 16777216 := sizeLine_eq
  cases x with
  | str y =>
    obtain ⟨t, rfl⟩ := rx
    obtain ⟨hy, e'⟩ : y.length ≤ sizeLine ∧ n = y.length := e
    subst e'
    exact len_str (by omega) ⟨.int _, H, I.tok _, ⟨_, rfl⟩, q⟩
  | byt y =>
    obtain ⟨t, rfl⟩ := rx
    obtain ⟨hy, e'⟩ : y.size ≤ sizeLine ∧ n = y.size := e
    subst e'
    exact PySem.W.len_bytes (by omega) ⟨.int _, H, I.tok _, ⟨_, rfl⟩, q⟩
  | ref p =>
    cases rx
    have e' : (∃ xs, SqL X.K H p xs ∧ n = xs.length) ∨ ∃ xs, SqT X.K H p xs ∧ n = xs.length := e
    rcases e' with ⟨xs, hx, e'⟩ | ⟨xs, hx, e'⟩
    · subst e'
      obtain ⟨its, r', pl, hz⟩ := I.list hx
      have hlen := r'.length
      exact Calls.call_len_list pl.isList (by simp only [List.size_toArray]; omega) ⟨.int xs.length, H, I.tok _, ⟨_, by simp only [List.size_toArray]; rw [hlen]⟩, q⟩
    · subst e'
      obtain ⟨its, r', pl, hz⟩ := I.tuple hx
      have hlen := r'.length
      exact len_tuple pl (by simp only [List.size_toArray]; omega) ⟨.int xs.length, H, I.tok _, ⟨_, by simp only [List.size_toArray]; rw [hlen]⟩, q⟩
  | _ => exact (show False from e).elim
end
end L2
namespace L2
open PySem PySem.Spec PyProof.Rows
structure ObjM (h : Heap) (x dx C : Addr) (mA : Str → Option Value) : Prop where
  obj : h.get? x = some (PySem.W.instObj C dx)
  ns : h.Ns1 dx mA
  ne : dx ≠ x
theorem lookIn_ns {h : Heap} {dx : Addr} {mA : Str → Option Value} (n : h.Ns1 dx mA) : ∃ od, h.get? dx = some od ∧ ∀ name, PySem.W.lookIn name od = some (mA name) := by
  obtain ⟨o, es, ep, ho, hd, hk, _, hm⟩ := n
  refine ⟨o, ho, fun name => ?_⟩
  have e := hm name
  unfold nsFind findBy at e
  rw [← Array.find?_toList] at e
  unfold PySem.W.lookIn
  rw [hd]
  dsimp only
  split
  · rename_i y q
    rw [q] at e
    exact congrArg some e
  · rename_i q
    rw [q] at e
    have a : es.toList.any (·.refKey) = false := by
      rw [List.any_eq_false]
      intro y hy
      obtain ⟨z, t, hkey⟩ := hk y (Array.mem_toList_iff.mp hy)
      simp [DictEntry.refKey, hkey]
    have a' : ¬ es.toList.any (·.refKey) = true := by rw [a]; exact Bool.false_ne_true
    rw [if_neg a']
    exact congrArg some e
section
variable {prog : Program} {w : World} {A : Around} {E : Value → Shared → Prop} {s : Shared} {K : PySem.W.Frag} {x dx C f : Addr} {mA : Str → Option Value} {name : Str} {v : Value}
end
theorem RelO.some_of {v : V} {o : Option Value} (r : RelO (some v) o) : ∃ u, o = some u ∧ RelV v u := by
  cases o with
  | none => exact (show False from r).elim
  | some u => exact ⟨u, rfl, r⟩
theorem handed_of {v : V} {u : Value} (r : RelV v u) : PySem.W.handedIn u = true := by
  cases v with
  | non => cases (show u = Value.none from r); rfl
  | bl b => cases (show u = Value.bool b from r); rfl
  | int i => obtain ⟨t, e⟩ := (show ∃ t, u = Value.int i t from r); cases e; rfl
  | str x => obtain ⟨t, e⟩ := (show ∃ t, u = Value.str x t from r); cases e; rfl
  | byt b => obtain ⟨t, e⟩ := (show ∃ t, u = Value.bytes b t from r); cases e; rfl
  | flt b => obtain ⟨t, e⟩ := (show ∃ t, u = Value.float b t from r); cases e; rfl
  | ref a => cases (show u = Value.ref a from r); rfl
  | ty n => cases (show u = Value.type n from r); rfl
structure Cls (K : PySem.W.Frag) (C : Addr) : Prop where
  pg : PySem.W.plainGet K C Str.empty = true
  hd : PySem.W.hasDictIn K C = true
  po : PySem.W.plainOver K C = true
  sa : PySem.W.findIn K (.ref C) "__setattr__" = some (some (.builtin "object.__setattr__"))
noncomputable def NoAttr (K : PySem.W.Frag) (C : Addr) (f : Str) : Prop := PySem.W.findIn K (.ref C) f = some none
structure Con (K : PySem.W.Frag) (C : Addr) (f : Str) (v : V) (u : Value) : Prop where
  at_ : PySem.W.findIn K (.ref C) f = some (some u)
  rel : RelV v u
  get : PySem.W.specialIn K u "__get__" = some none
  cp : PySem.W.copiedNames.contains f = false
structure Meth (K : PySem.W.Frag) (C : Addr) (m : Str) (f : Addr) : Prop where
  at_ : PySem.W.findIn K (.ref C) m = some (some (.ref f))
  fn : PySem.W.isFn K (.ref f) = true
  kp : PySem.W.keepIn K (.ref f) = true
section
variable {X : Cx} {pins : List (Addr × Obj)} {σ : St} {H : Hp} {s : Shared} {a C dx : Addr} {fs : List (Str × V)} {f : Str} {v : V} {A : Around} {E : Value → Shared → Prop}
theorem attr_of {prog : Program} {w : World} {env : Env} {e : Expr} {f : Str} {pos : Pos} {s : Shared} {Q : Value → Shared → Prop} (hb : attributeBase e f env (eval e env) = eval e env)
    (h : wpAny (model prog w) A (eval e env) (fun o s₁ => wpAny (model prog w) A (getAttr o f true) Q E s₁) E s) : wpAny (model prog w) A (eval (.Attribute e f pos) env) Q E s :=
  Attribute_any_ h (by rw [arm_eval_Attribute, hb])
end
section
variable {X : Cx} {pins : List (Addr × Obj)} {σ : St} {H : Hp} {s : Shared} {A : Around} {E : Value → Shared → Prop} {Q : Value → Shared → Prop} {c : Value} {b : Bool}
inductive TyOf (K : PySem.W.Frag) (H : Hp) : V → Value → Prop where
  | non : TyOf K H .non (.type "NoneType")
  | bl (x : Bool) : TyOf K H (.bl x) (.type "bool")
  | int (i : Int) : TyOf K H (.int i) (.type "int")
  | str (x : Str) : TyOf K H (.str x) (.type "str")
  | flt (x : UInt64) : TyOf K H (.flt x) (.type "float")
  | lst {a : Addr} {xs : List V} (e : H a = some (.lst xs)) : TyOf K H (.ref a) (.type "list")
  | frz {a : Addr} {o : Obj} {xs : List V} (e : H a = some (.frz o (.lst xs))) : TyOf K H (.ref a) (.type "list")
  | tup {a : Addr} {xs : List V} (e : H a = some (.tup xs)) : TyOf K H (.ref a) (.type "tuple")
  | dK {a : Addr} {kvs : List (Key × V)} (e : H a = some (.dK kvs)) : TyOf K H (.ref a) (.type "dict")
  | dT {a : Addr} {kvs : List (List Key × V)} (e : H a = some (.dT kvs)) : TyOf K H (.ref a) (.type "dict")
  | ins {a C dx : Addr} {fs : List (Str × V)} (e : H a = some (.ins C dx fs)) (cl : Cls K C) (ha : PySem.W.findIn K (.ref C) "__class__" = some (some (.builtin "object.__class__")))
      (hn : PySem.W.specialIn K (.builtin "object.__class__") "__get__" = some (some (.builtin "getset_descriptor.__get__"))) (htk : PySem.W.takesIn K (.builtin "object.__class__") = some true)
      (hm : PySem.W.mroIn K C (.type "object") = some true) : TyOf K H (.ref a) (.ref C)
end
end L2
namespace L2
open PySem PySem.Spec PyProof.Rows
structure Room (k : Nat) (A : Around) : Prop where
  hd : A.handled = none
  dp : A.depth + 3 * k + 5 < recursionLimit
  un : A.units + 16 * k + 200 < cLine
theorem Room.mono {j k : Nat} {A : Around} (r : Room k A) (h : j ≤ k) : Room j A := ⟨r.hd, by have := r.dp; omega, by have := r.un; omega⟩
theorem Room.deeper {k : Nat} {A : Around} (r : Room (k + 1) A) (env : Env) : Room k (A.deeper env) :=
  ⟨r.hd, by have := r.dp; show A.depth + 1 + 3 * k + 5 < _; omega, by have := r.un; show A.units + 3 + 16 * k + 200 < _; omega⟩
theorem make_depth {A : Around} {C : Addr} {us : List Value} {kw : List (Str × Value)} : (A.under (.builtin "type.__call__" ⟨.ref C :: us, kw⟩)).depth = A.depth + 1 := by
  first | rfl | simp [Around.under, Code.weight, Code.isCreation, Code.isGuard, Code.isCaller, Code.frames, Code.isFrame, guardIds]
theorem make_units {A : Around} {C : Addr} {us : List Value} {kw : List (Str × Value)} : (A.under (.builtin "type.__call__" ⟨.ref C :: us, kw⟩)).units = A.units + 1 := by
  first | rfl | simp [Around.under, Code.cUnits, Code.frames, Code.isFrame]
theorem Room.make {k : Nat} {A : Around} (r : Room (k + 1) A) (C : Addr) (us : List Value) (kw : List (Str × Value)) : Room k (A.under (.builtin "type.__call__" ⟨.ref C :: us, kw⟩)) :=
  ⟨r.hd, by have := r.dp; rw [make_depth]; omega, by have := r.un; rw [make_units]; omega⟩
theorem Room.depth {k : Nat} {A : Around} (r : Room k A) : A.depth < recursionLimit := by have := r.dp; omega
noncomputable def tNil : TA := fun _ H Q => Q [] H
noncomputable def tCons (ta : TE) (tr : TA) : TA := fun σ H Q => ta σ H fun x H1 => tr σ H1 fun xs H2 => Q (x :: xs) H2
section
variable {X : Cx} {e : Expr} {es : List Expr} {te : TE} {t : TA} {pos : Pos}
theorem pa_nil : PA X [] tNil := fun _ _ _ _ H Q I h => Calls.spliced_nil ⟨[], H, I, .nil, h⟩
theorem pa_cons (ha : PE X e te) (hr : PA X es t) (hs : starEach (e :: es) X.env = (false, eval e X.env) :: starEach es X.env := by rfl) : PA X (e :: es) (tCons te t) := by
  intro pos pins s σ H Q I h
  rw [hs]
  show wpAny _ _ (spliced ((false, eval e X.env) :: backTo pos (starEach es X.env))) _ _ s
  refine Calls.spliced_cons (thn (ha pins s σ H _ I h) fun u s1 ⟨x, H1, I1, r1, q1⟩ => ?_)
  exact thn (hr pos pins s1 σ H1 _ I1 q1) fun us s2 ⟨xs, H2, I2, r2, q2⟩ => ⟨x :: xs, H2, I2, .cons r1 r2, q2⟩
noncomputable def tLst (t : TA) : TE := fun σ H Q => t σ H fun xs H1 => xs.length ≤ sizeLine ∧ ∀ p, H1 p = none → Q (.ref p) (upd H1 p (.lst xs))
theorem pe_lst (h : PA X es t) : PE X (.List es pos) (tLst t) := by
  intro pins s σ H Q I hq
  refine wpAny_List_spliced (thn (h pos pins s σ H _ I hq) fun us s1 ⟨xs, H1, I1, r, z, q⟩ => ⟨by rw [← r.length]; exact z, ?_⟩)
  have hf : H1 s1.heap.objs.size = none := I1.hok.fresh (Nat.le_refl _)
  refine ⟨.ref s1.heap.objs.size, upd H1 s1.heap.objs.size (.lst xs), I1.laid (t' := s1.toks) (fun b u e => Heap.get?_push_of_some _ e) (Nat.le_refl _) ?_, rfl, q _ hf⟩
  exact ⟨z, us, 0, r, Heap.get?_push_size _ rfl⟩
end
noncomputable abbrev Sp := List V → Hp → VK → XK → Prop
noncomputable abbrev CXT := List Env → Hp → Shared → XK → Value → Shared → Prop
structure Env0 (P : Program) (w : World) (K : PySem.W.Frag) (mg : Str → Option Value) (base : Heap) (A : Around) (outer : List Env) (s : Shared) (H : Hp) : Prop where
  frames : A.frames = some outer
  mod : Mod K mg base
  bs : ∀ b o, base.get? b = some o → s.heap.get? b = some o ∧ H b = none
  bsz : base.objs.size ≤ s.heap.objs.size
  funs : s.heap.FunFrames base outer
  frf : ∀ b ∈ frs outer, H b = none
  hok : HOk P w H s.heap
  bare : AllBare s.gens
noncomputable def CE (outer : List Env) (P : Program) (w : World) (H : Hp) (s : Shared) (Q : VK) (u : Value) (s' : Shared) : Prop :=
  ∃ v H', s'.os = s.os ∧ AllBare s'.gens ∧ Un (frs outer) [] H H' s.heap s'.heap ∧ HOk P w H' s'.heap ∧ RelV v u ∧ Q v H'
noncomputable def CR (CX : CXT) (outer : List Env) (P : Program) (w : World) (H : Hp) (s : Shared) (Q : VK) (E : XK) (r : Result) (s' : Shared) : Prop :=
  match r with
  | .ok (.ret u) => CE outer P w H s Q u s'
  | .ok _ => False
  | .error e => CX outer H s E e s'
structure FnOk (P : Program) (w : World) (K : PySem.W.Frag) (mg : Str → Option Value) (base : Heap) (CX : CXT) (k : Nat) (f : Addr) (fd : FuncData) (ps : List Str) (sp : Sp) : Prop where
  len : ∀ vs H Q E, sp vs H Q E → vs.length = ps.length
  run : ∀ (A : Around) (outer : List Env) (s : Shared) (H : Hp) (args : Args) (us : List Value) (vs : List V) (Q : VK) (E : XK), Room k A → Env0 P w K mg base A outer s H → BindsTo s fd args (ps.zip us) → Vals vs us → sp vs H Q E →
    codeAny (model P w) A (.call (.ref f) args) (CR CX outer P w H s Q E) s
theorem Env0.make {P : Program} {w : World} {K : PySem.W.Frag} {mg : Str → Option Value} {base : Heap} {A : Around} {outer : List Env} {s : Shared} {H : Hp} (e : Env0 P w K mg base A outer s H) (C : Addr) (us : List Value) (kw : List (Str × Value)) :
    Env0 P w K mg base (A.under (.builtin "type.__call__" ⟨.ref C :: us, kw⟩)) outer s H := ⟨by first | exact e.frames | (simpa [Around.under, Code.envs, Code.isFrame, pushEnvs] using e.frames), e.mod, e.bs, e.bsz, e.funs, e.frf, e.hok, e.bare⟩
section
variable {X : Cx} {pins : List (Addr × Obj)} {σ : St} {H : Hp} {s s' : Shared}
theorem Inv.env0 (I : Inv X pins σ H s) : Env0 X.prog X.w X.K X.mg X.base X.A X.stack s H :=
  ⟨I.ok.frames, I.ok.mod, I.bs, Nat.le_trans I.ok.bsz I.sz, I.stack, I.stkFree, I.hok, I.bare⟩
theorem Inv.after {Q : VK} {u : Value} (I : Inv X pins σ H s) (h : CE X.stack X.prog X.w H s Q u s') : EP X pins σ Q u s' := by
  obtain ⟨v, H', os, bare, un, hok, r, q⟩ := h
  obtain ⟨hh, g, d, t, os'⟩ := s'
  obtain rfl : os' = s.os := os
  exact ⟨v, H', I.call (h' := hh) (g' := g) (d' := d) (t' := t) (ch := []) un hok bare (fun b z => absurd z (by simp)), r, q⟩
end
noncomputable def tCall (sp : Sp) (dvs : List V) (E : XK) (t : TA) : TE := fun σ H Q => t σ H fun vs H1 => sp (vs ++ dvs) H1 Q E
noncomputable def Binds (K : PySem.W.Frag) (fd : FuncData) (ps : List Str) (ds : List Value) : Prop :=
  ∀ (s : Shared) (us : List Value), K.In s.heap → (us ++ ds).length = ps.length → BindsTo s fd ⟨us, []⟩ (ps.zip (us ++ ds))
theorem Binds.all {K : PySem.W.Frag} {fd : FuncData} {ps : List Str} (h : ∀ us : List Value, us.length = ps.length → bindArgs fd ⟨us, []⟩ = pure (ps.zip us)) : Binds K fd ps [] := fun s us _ hl => by
  rw [List.append_nil] at hl ⊢
  exact .of_eq (h us hl)
noncomputable def Passes (CX : CXT) (X : Cx) (E : XK) : Prop := ∀ (pins : List (Addr × Obj)) (σ : St) (H : Hp) (s : Shared) (e : Value) (s' : Shared), Inv X pins σ H s → CX X.stack H s E e s' → X.xe e s'
section
variable {X : Cx} {CX : CXT} {k : Nat} {f C : Addr} {fd : FuncData} {ps : List Str} {sp : Sp} {dvs : List V} {ds : List Value} {E : XK} {x m : Str} {p pos apos : Pos} {e o : Expr} {es : List Expr} {ta : TE} {t : TA}
theorem run_fn {pins : List (Addr × Obj)} {σ : St} {H : Hp} {s : Shared} {Q : VK} {us : List Value} {vs : List V} (F : FnOk X.prog X.w X.K X.mg X.base CX k f fd ps sp) (hr : Room k X.A) (hb : Binds X.K fd ps ds) (hd : Vals dvs ds) (hx : Passes CX X E)
    (I : Inv X pins σ H s) (r : Vals vs us) (h : sp (vs ++ dvs) H Q E) : wpAny (model X.prog X.w) X.A (call (.ref f) us) (EP X pins σ Q) X.xe s := by
  have r2 : Vals (vs ++ dvs) (us ++ ds) := r.append hd
  have hl : (us ++ ds).length = ps.length := by rw [← r2.length]; exact F.len _ _ _ _ h
  refine wpAny_call (codeAny_mono (F.run X.A X.stack s H ⟨us, []⟩ (us ++ ds) (vs ++ dvs) Q E hr I.env0 (hb s us I.kIn hl) r2 h) fun r s' hq => ?_)
  cases r with
  | error e => exact hx pins σ H s e s' I hq
  | ok fl =>
    cases fl with
    | ret u => exact I.after hq
    | next => exact False.elim hq
    | brk => exact False.elim hq
    | cont => exact False.elim hq
theorem pe_call (F : FnOk X.prog X.w X.K X.mg X.base CX k f fd ps sp) (hr : Room k X.A) (hg : Gl X x) (hm : X.mg x = some (.ref f)) (hk : PySem.W.keepIn X.K (.ref f) = true) (hb : Binds X.K fd ps ds) (hd : Vals dvs ds) (hx : Passes CX X E)
    (ha : PA X (e :: es) t) (hdb : (x == ("__debug__" : Str)) = false := by decide) (he : starEach (e :: es) X.env = (false, eval e X.env) :: starEach es X.env := by rfl) (hpl : (backTo pos (starEach es X.env)).any (·.1) = false := by rfl) :
    PE X (.Call (.Name x p) (e :: es) [] pos) (tCall sp dvs E t) := by
  intro pins s σ H Q I h
  refine wpAny_Call_Name_kw (ld_glob I hg hm ?_ hdb)
  refine PySem.W.callWith_K (h₀ := X.base) I.ok.mod.kin hk (thn (ha pos pins s σ H _ I h) fun us s1 ⟨vs, H1, I1, r, q⟩ => ⟨I1.kIn, ?_⟩) he hpl
  exact run_fn F hr hb hd hx I1 r q
structure Mk (K : PySem.W.Frag) (C f : Addr) : Prop where
  makes : PySem.W.makesIn K C = true
  init : PySem.W.findIn K (.ref C) "__init__" = some (some (.ref f))
  fn : PySem.W.isFn K (.ref f) = true
  kp : PySem.W.keepIn K (.ref C) = true
end
section
variable {X : Cx} {CX : CXT} {k : Nat} {f C : Addr} {fd : FuncData} {ps ks : List Str} {sp : Sp} {E : XK} {x m : Str} {p pos apos kpos : Pos} {e o : Expr} {es : List Expr} {kws : List Keyword} {te ta : TE} {t tk : TA} {nm : Option Str}
structure KBinds (K : PySem.W.Frag) (fd : FuncData) (ps ks : List Str) (g : List Value → List Value → List Value) (gV : List V → List V → List V) : Prop where
  to : ∀ (s : Shared) (us ws : List Value), K.In s.heap → (g us ws).length = ps.length → BindsTo s fd ⟨us, ks.zip ws⟩ (ps.zip (g us ws))
  rel : ∀ {vs : List V} {us : List Value} {zs : List V} {ws : List Value}, Vals vs us → Vals zs ws → Vals (gV vs zs) (g us ws)
variable {g : List Value → List Value → List Value} {gV : List V → List V → List V}
end
structure FnScope (N P : List Str) (sc : Scope) : Prop where
  kind : sc.kind = .function
  co : sc.isCoroutine = false
  gen : sc.isGenerator = false
  nd : N.Nodup
  pre : N.take P.length = P
  par : ∀ x ∈ P, sc.names.lookup x = some .local ∨ sc.names.lookup x = some .cell
  nofree : ∀ y ∈ sc.names, y.2 ≠ .free
theorem bindL_out {kindOf : Str → Option NameKind} {x : Str} : ∀ {binds : List (Str × Value)} {m : Str → Option Value}, (∀ v, (x, v) ∉ binds) → bindL kindOf binds m x = m x
  | [], _, _ => rfl
  | (n, v) :: r, m, h => by
    unfold bindL
    rw [bindL_out fun w hw => h w (List.mem_cons_of_mem _ hw)]
    split
    · have : x ≠ n := by rintro rfl; exact h v List.mem_cons_self
      simp [this]
    · rfl
theorem bindC_out {kindOf : Str → Option NameKind} {x : Str} : ∀ {binds : List (Str × Value)} {m : Str → Option Value}, (∀ v, (x, v) ∉ binds) → bindC kindOf binds m x = m x
  | [], _, _ => rfl
  | (n, v) :: r, m, h => by
    unfold bindC
    rw [bindC_out fun w hw => h w (List.mem_cons_of_mem _ hw)]
    split
    · rfl
    · have : x ≠ n := by rintro rfl; exact h v List.mem_cons_self
      simp [this]
theorem bindL_get {kindOf : Str → Option NameKind} {x : Str} {v : Value} : ∀ {P : List Str} {vs : List Value} {i : Nat} {m : Str → Option Value}, P.Nodup → P[i]? = some x → vs[i]? = some v → kindOf x = some .local →
    bindL kindOf (P.zip vs) m x = some v
  | [], _, _, _, _, h, _, _ => by simp at h
  | _ :: _, [], _, _, _, _, h, _ => by simp at h
  | p :: P, w :: vs, 0, m, nd, h1, h2, hk => by
    simp at h1 h2; subst h1; subst h2
    show bindL kindOf ((p, w) :: P.zip vs) m p = _
    unfold bindL
    rw [bindL_out fun v hv => (List.nodup_cons.mp nd).1 (List.of_mem_zip hv).1, if_pos hk]
    simp
  | p :: P, w :: vs, i + 1, m, nd, h1, h2, hk => by
    show bindL kindOf ((p, w) :: P.zip vs) m x = _
    unfold bindL
    exact bindL_get (i := i) (List.nodup_cons.mp nd).2 (by simpa using h1) (by simpa using h2) hk
theorem bindC_get {kindOf : Str → Option NameKind} {x : Str} {v : Value} : ∀ {P : List Str} {vs : List Value} {i : Nat} {m : Str → Option Value}, P.Nodup → P[i]? = some x → vs[i]? = some v → kindOf x ≠ some .local →
    bindC kindOf (P.zip vs) m x = some v
  | [], _, _, _, _, h, _, _ => by simp at h
  | _ :: _, [], _, _, _, _, h, _ => by simp at h
  | p :: P, w :: vs, 0, m, nd, h1, h2, hk => by
    simp at h1 h2; subst h1; subst h2
    show bindC kindOf ((p, w) :: P.zip vs) m p = _
    unfold bindC
    rw [bindC_out fun v hv => (List.nodup_cons.mp nd).1 (List.of_mem_zip hv).1, if_neg hk]
    simp
  | p :: P, w :: vs, i + 1, m, nd, h1, h2, hk => by
    show bindC kindOf ((p, w) :: P.zip vs) m x = _
    unfold bindC
    exact bindC_get (i := i) (List.nodup_cons.mp nd).2 (by simpa using h1) (by simpa using h2) hk
noncomputable def start (N : List Str) (vs : List V) : St := vs.map some ++ List.replicate (N.length - vs.length) none
noncomputable def cxOf (CX : CXT) (P : Program) (w : World) (K : PySem.W.Frag) (mg : Str → Option Value) (base : Heap) (N : List Str) (qual : Str) (scope : Scope) (f : Addr) (cd : Value) (A : Around) (outer : List Env) (s : Shared) (H : Hp) (E : XK) : Cx where
  prog := P
  w := w
  K := K
  mg := mg
  base := base
  A := A.deeper (envOfC qual scope s.heap.objs.size f cd)
  N := N
  s₀ := s
  H₀ := H
  env := envOfC qual scope s.heap.objs.size f cd
  outer := outer
  stack := envOfC qual scope s.heap.objs.size f cd :: outer
  ex := []
  calm := true
  fn := fun _ => true
  pn := []
  xe := fun e s' => wpAny (model P w) (A.deeper (envOfC qual scope s.heap.objs.size f cd)) (leaving (envOfC qual scope s.heap.objs.size f cd) e) (fun _ s'' => CX outer H s E e s'') (fun e' s'' => CX outer H s E e' s'') s'
theorem cell_has {sc : Scope} {n : Nat} {x : Str} (h : sc.names.lookup x = some .cell) : ∃ c, (cellsFrom n sc.names []).lookup x = some c := by
  have q := PySem.W.cellsFrom_some sc.names n [] (.inl h)
  exact Option.isSome_iff_exists.mp q
theorem inv_start {CX : CXT} {P : Program} {w : World} {K : PySem.W.Frag} {mg : Str → Option Value} {base : Heap} {N ps : List Str} {qual : Str} {scope : Scope} {f : Addr} {cd : Value} {A : Around} {outer : List Env} {s s1 : Shared} {H : Hp} {E : XK} {us : List Value} {vs : List V}
    (S : FnScope N ps scope) (hd : A.handled = none) (e0 : Env0 P w K mg base A outer s H) (hl : vs.length = ps.length) (r : Vals vs us)
    (x : InCallC s s.heap.objs.size (bindL (envOfC qual scope s.heap.objs.size f cd).kindOf (ps.zip us) fun _ => none) (cellsFrom (s.heap.objs.size + 1) scope.names []) (bindC (envOfC qual scope s.heap.objs.size f cd).kindOf (ps.zip us) fun _ => none) s1) :
    Inv (cxOf CX P w K mg base N qual scope f cd A outer s H E) [] (start N vs) H s1 := by
  have hpl : ps.length ≤ N.length := by have := congrArg List.length S.pre; rw [List.length_take] at this; omega
  obtain ⟨h1, tk, rfl, hk⟩ := x.done
  have noA : ∀ b : Addr, b ∉ (cxOf CX P w K mg base N qual scope f cd A outer s H E).ex := fun b z => absurd (show b ∈ ([] : List Addr) from z) (by simp)
  refine ⟨⟨e0.mod, S.kind, rfl, rfl, Nat.le_refl _, fun y z c h1 h2 => ?_, fun y hy => ?_, fun y c _ h => ?_, fun _ => hd, Around.frames_deeper e0.frames, .inr ⟨rfl, rfl⟩, fun b z => absurd z (noA b), e0.bs, e0.bsz, fun b _ _ => noA b, fun b z => absurd z (noA b), e0.funs, e0.frf⟩,
    rfl, e0.bare, Un.kept hk, ⟨_, x.toInCall.ns, fun i y v h1 h2 h3 => ?_⟩, fun y c h => ⟨_, x.cell y c h⟩, e0.hok.fresh (Nat.le_refl _), fun y c h => ?_, fun p hp => absurd (show p ∈ ([] : List (Addr × Obj)) from hp) (by simp), e0.hok.kept hk, ?_⟩
  · exact name_of_addr x.apart (PySem.mem_of_lookup h1) (PySem.mem_of_lookup h2)
  · have hy : scope.names.lookup y = some .cell ∨ scope.names.lookup y = some .free := hy
    rcases hy with hy | hy
    · exact cell_has hy
    · exact absurd rfl (S.nofree _ (PySem.mem_of_lookup hy))
  · exact Nat.le_of_lt (x.above y c (PySem.mem_of_lookup h))
  · have hi : i < vs.length := by
      unfold start at h2
      by_cases hi : i < vs.length
      · exact hi
      · rw [List.getElem?_append_right (by simpa using hi)] at h2
        rw [List.getElem?_replicate] at h2
        split at h2 <;> cases h2
    have ha : vs[i]? = some v := by
      unfold start at h2
      rw [List.getElem?_append_left (by simpa using hi), List.getElem?_map] at h2
      cases e : vs[i]? with
      | none => rw [e] at h2; cases h2
      | some a => rw [e] at h2; cases h2; rfl
    obtain ⟨u, hu, rv⟩ := r.get ha
    have hp : ps[i]? = some y := by
      rw [← S.pre, List.getElem?_take_of_lt (by omega)]; exact h1
    have ndP : ps.Nodup := by rw [← S.pre]; exact S.nd.sublist (List.take_sublist _ _)
    refine ⟨u, rv, ?_⟩
    rcases S.par y (List.mem_of_getElem? hp) with k | k
    · exact .inl ⟨k, bindL_get ndP hp hu k⟩
    · obtain ⟨c, e⟩ := cell_has (n := s.heap.objs.size + 1) k
      refine .inr ⟨.inl k, c, e, ?_⟩
      have q := x.cell y c e
      rw [bindC_get ndP hp hu (by show scope.names.lookup y ≠ _; rw [k]; decide)] at q
      exact q
  · exact e0.hok.fresh (Nat.le_of_lt (x.above y c (PySem.mem_of_lookup h)))
  · unfold start
    show _ = N.length
    rw [List.length_append, List.length_map, List.length_replicate]
    omega
theorem fn_of {CX : CXT} {P : Program} {w : World} {K : PySem.W.Frag} {mg : Str → Option Value} {base : Heap} {k : Nat} {f : Addr} {name qual : Str} {params : Arguments} {body : List Stmt} {scope : Scope} {dV kV doc pm cdv ct oc : Value} {an od : Option Addr}
    {osl : Array (Option Value)} {N ps : List Str} {sp : Sp} (lk : K.lookup f = some ⟨oc, od, .func (PySem.W.fnOf name qual params body scope dV kV doc pm an cdv ct), osl⟩) (hcd : PySem.W.codeIn K cdv qual = true) (S : FnScope N ps scope)
    (len : ∀ vs H Q E, sp vs H Q E → vs.length = ps.length)
    (hbody : ∀ (A : Around) (outer : List Env) (s : Shared) (H : Hp) (vs : List V) (Q : VK) (E : XK), Room k (A.deeper (envOfC qual scope s.heap.objs.size f cdv)) → sp vs H Q E →
      ∃ t, PSs (cxOf CX P w K mg base N qual scope f cdv A outer s H E) body t ∧ t { nx := fun _ H' => Q .non H', rt := Q } (start N vs) H) :
    FnOk P w K mg base CX (k + 1) f (PySem.W.fnOf name qual params body scope dV kV doc pm an cdv ct) ps sp := by
  refine ⟨len, fun A outer s H args us vs Q E hr e0 hb r hsp => ?_⟩
  have hl := len _ _ _ _ hsp
  have KX : K.In s.heap := e0.mod.kin.keeps fun b o e => (e0.bs b o e).1
  have lim : s.heap.NoLimit := e0.mod.nolimit.keeps fun b o e => (e0.bs b o e).1
  have hkind : ∀ y ∈ ps.zip us, scope.names.lookup y.1 = some .local ∨ (scope.names.lookup y.1 = some .cell ∧ ((cellsFrom (s.heap.objs.size + 1) scope.names []).lookup y.1).isSome = true) := fun ⟨n, v⟩ hy => by
    rcases S.par n (List.of_mem_zip hy).1 with q | q
    · exact .inl q
    · exact .inr ⟨q, PySem.W.cellsFrom_some _ _ _ (.inl q)⟩
  refine codeAny_call_function hr.depth (KX _ _ lk) rfl S.co S.gen rfl (PySem.W.codeRec_of KX hcd) (hb _ _ _ _ ?_)
  refine wpAny_newFunctionEnv_cells S.kind hkind fun env he s1 x => ?_
  subst he
  refine ⟨lim.keeps x.toInCall.keep, codeAny_func ?_⟩
  obtain ⟨t, ht, hq⟩ := hbody A outer s H vs Q E (hr.deeper _) hsp
  have I : Inv (cxOf CX P w K mg base N qual scope f cdv A outer s H E) [] (start N vs) H s1 := inv_start S hr.hd e0 hl r x
  refine wpAny_mono (ht [] s1 (start N vs) H _ I hq) (fun fl s' hs => ?_) fun e s' hs => hs
  have fin : ∀ {σ' : St} {H' : Hp} {v : V} {u : Value}, Inv (cxOf CX P w K mg base N qual scope f cdv A outer s H E) [] σ' H' s' → RelV v u → Q v H' → CE outer P w H s Q u s' :=
    fun {σ' H' v u} J rv q => ⟨v, H', J.os, J.bare, J.base, J.hok, rv, q⟩
  cases fl with
  | ret u =>
    obtain ⟨v, σ', H', J, rv, q⟩ := hs
    exact fin J rv q
  | next =>
    obtain ⟨σ', H', J, q⟩ := hs
    exact fin (v := V.non) (u := Value.none) J rfl q
  | brk =>
    obtain ⟨_, _, _, q⟩ := hs
    exact False.elim q
  | cont =>
    obtain ⟨_, _, _, q⟩ := hs
    exact False.elim q
end L2
namespace L2
open PySem PySem.Spec PyProof.Rows
section
variable {X : Cx} {x : Str} {p pos : Pos} {e : Expr} {es : List Expr} {t : TA} {id T : String} {r : List V → Hp → VK → Prop}
noncomputable def tCB (r : List V → Hp → VK → Prop) (t : TA) : TE := fun σ H Q => t σ H fun vs H1 => r vs H1 Q
theorem pe_callB (hc : CallR X (.builtin id) r) (hg : Gl X x) (hm : X.mg x = none) (hv : bootBuiltins x = some (.builtin id)) (ha : PA X (e :: es) t) (hn : x ≠ "__name__" := by decide) (hdb : (x == ("__debug__" : Str)) = false := by decide)
    (he : starEach (e :: es) X.env = (false, eval e X.env) :: starEach es X.env := by rfl) (hpl : (backTo pos (starEach es X.env)).any (·.1) = false := by rfl) : PE X (.Call (.Name x p) (e :: es) [] pos) (tCB r t) := by
  intro pins s σ H Q I h
  refine wpAny_Call_Name_kw (ld_blt I hg hm hv ?_ hn hdb)
  exact PyProof.Rows.callWith_builtin1 (thn (ha pos pins s σ H _ I h) fun us s1 ⟨vs, H1, I1, r1, q1⟩ => hc pins s1 σ H1 vs us Q I1 r1 q1) he hpl
theorem pe_callTy (hc : CallR X (.type T) r) (hg : Gl X x) (hm : X.mg x = none) (hv : bootBuiltins x = some (.type T)) (ha : PA X (e :: es) t) (hn : x ≠ "__name__" := by decide) (hdb : (x == ("__debug__" : Str)) = false := by decide)
    (he : starEach (e :: es) X.env = (false, eval e X.env) :: starEach es X.env := by rfl) (hpl : (backTo pos (starEach es X.env)).any (·.1) = false := by rfl) : PE X (.Call (.Name x p) (e :: es) [] pos) (tCB r t) := by
  intro pins s σ H Q I h
  refine wpAny_Call_Name_kw (ld_blt I hg hm hv ?_ hn hdb)
  exact PyProof.Rows.callWith_type1 (thn (ha pos pins s σ H _ I h) fun us s1 ⟨vs, H1, I1, r1, q1⟩ => hc pins s1 σ H1 vs us Q I1 r1 q1) he hpl
end
end L2
namespace HT
open PySem PyProof.Rows
section
variable {prog : Program} {w : World} {A : Around} {E : Value → Shared → Prop} {s : Shared}
noncomputable def sIx (n d : Nat) : Option Int → Nat
  | none => d
  | some v => if v < 0 then (v + (n : Int)).toNat else min v.toNat n
end
end HT
namespace L2
open PySem PySem.Spec PyProof.Rows
noncomputable abbrev TO := St → Hp → (Option Int → Hp → Prop) → Prop
noncomputable def PO (X : Cx) (e : Option Expr) (t : TO) : Prop :=
  ∀ (pins : List (Addr × Obj)) (s : Shared) (σ : St) (H : Hp) (Q : Option Int → Hp → Prop), Inv X pins σ H s → t σ H Q →
    wpAny (model X.prog X.w) X.A (evalPart e X.env) (fun u s' => ∃ o H', Inv X pins σ H' s' ∧ IsPart u o ∧ Q o H') X.xe s
noncomputable def tPart (t : TE) : TO := fun σ H Q => t σ H fun x H1 => ∃ i, x = .int i ∧ Q (some i) H1
section
variable {X : Cx} {e : Expr} {te : TE} {lo hi : Option Expr} {tl th : TO} {pos p2 : Pos}
theorem po_some (h : PE X e te) : PO X (some e) (tPart te) := by
  intro pins s σ H Q I hw
  rw [evalPart_some]
  refine thn (h pins s σ H _ I hw) fun u s1 ⟨x, H1, I1, r1, q1⟩ => ?_
  obtain ⟨i, rfl, q⟩ := q1
  obtain ⟨t, rfl⟩ := r1
  exact ⟨some i, H1, I1, .int i t, q⟩
noncomputable def SlR (X : Cx) (r : V → Option Int → Option Int → Hp → VK → Prop) : Prop :=
  ∀ (pins : List (Addr × Obj)) (s : Shared) (σ : St) (H : Hp) (x : V) (v vl vu : Value) (lo hi : Option Int) (sl : Addr) (Q : VK), Inv X pins σ H s → RelV x v → s.heap.IsSliceOf sl vl vu .none → IsPart vl lo → IsPart vu hi → r x lo hi H Q →
    ∃ T id, typeLookup (.type T) "__getitem__" = pure (some (.builtin id)) ∧ s.TypeIs v T ∧ wpAny (model X.prog X.w) X.A (getItem v (.ref sl)) (EP X pins σ Q) X.xe s
noncomputable def tSl (r : V → Option Int → Option Int → Hp → VK → Prop) (te : TE) (tl th : TO) : TE := fun σ H Q => te σ H fun x H1 => tl σ H1 fun l H2 => th σ H2 fun u H3 => r x l u H3 Q
theorem pe_slice {r : V → Option Int → Option Int → Hp → VK → Prop} (hr : SlR X r) (he : PE X e te) (hl : PO X lo tl) (hu : PO X hi th) : PE X (.Subscript e (.Slice lo hi none p2) pos) (tSl r te tl th) := by
  intro pins s σ H Q I h
  refine Subscript_ (thn (he pins s σ H _ I h) fun v s1 ⟨x, H1, I1, r1, q1⟩ => ?_)
  refine wpAny_Slice (thn (hl pins s1 σ H1 _ I1 q1) fun vl s2 ⟨l, H2, I2, pl, q2⟩ => thn (hu pins s2 σ H2 _ I2 q2) fun vu s3 ⟨u, H3, I3, pu, q3⟩ => ?_)
  rw [evalPart_none]
  refine wpAny_pure ?_
  have I4 : Inv X pins σ H3 { s3 with heap := s3.heap.push { cls := .type "slice", data := .fields #[vl, vu, .none] } } := I3.kept (t' := s3.toks) fun b ob q => Heap.get?_push_of_some _ q
  obtain ⟨T, id, hT, ht, hg⟩ := hr pins { s3 with heap := s3.heap.push { cls := .type "slice", data := .fields #[vl, vu, .none] } } σ H3 x v vl vu l u s3.heap.objs.size Q I4 r1 (Heap.IsSliceOf.new ..) pl pu q3
  show wpAny (model X.prog X.w) X.A (subscriptTail e (.Slice lo hi none p2) v (.ref s3.heap.objs.size)) (EP X pins σ Q) X.xe { s3 with heap := s3.heap.push { cls := .type "slice", data := .fields #[vl, vu, .none] } }
  exact tail_any (ops := [.ref s3.heap.objs.size, v]) ht hT hg (by with_unfolding_all rfl)
noncomputable def cutV (xs : List V) (lo hi : Option Int) : List V := (xs.drop (HT.sIx xs.length 0 lo)).take (HT.sIx xs.length xs.length hi - HT.sIx xs.length 0 lo)
theorem cutV_length (xs : List V) (lo hi : Option Int) : (cutV xs lo hi).length ≤ xs.length := by
  unfold cutV
  rw [List.length_take, List.length_drop]
  omega
end
end L2
namespace L2
open PySem PySem.Spec PyProof.Rows
noncomputable def ixN (n : Nat) (i : Int) : Option Nat := if 0 ≤ i then (if i < n then some i.toNat else none) else if -(n : Int) ≤ i then some (i + n).toNat else none
noncomputable def atI {α : Type} (xs : List α) (i : Int) : Option α := (ixN xs.length i).bind fun j => xs[j]?
theorem ixN_seq {n : Nat} {i : Int} {j : Nat} (h : ixN n i = some j) : seqIndex? i n = some j ∧ j < n ∧ -(n : Int) ≤ i ∧ i < n := by
  unfold ixN at h
  by_cases h0 : 0 ≤ i
  · rw [if_pos h0] at h
    by_cases h1 : i < n
    · rw [if_pos h1] at h
      have e : i.toNat = j := Option.some.inj h
      exact ⟨by rw [seqIndex_of h0 h1, e], by omega, by omega, h1⟩
    · rw [if_neg h1] at h; cases h
  · rw [if_neg h0] at h
    by_cases h1 : -(n : Int) ≤ i
    · rw [if_pos h1] at h
      have e : (i + n).toNat = j := Option.some.inj h
      exact ⟨by rw [seqIndex_neg (by omega) h1, e], by omega, h1, by omega⟩
    · rw [if_neg h1] at h; cases h
theorem atI_get {α : Type} {xs : List α} {i : Int} {v : α} (h : atI xs i = some v) : ∃ j, seqIndex? i xs.length = some j ∧ xs[j]? = some v ∧ j < xs.length ∧ -(xs.length : Int) ≤ i ∧ i < xs.length := by
  unfold atI at h
  cases e : ixN xs.length i with
  | none => rw [e] at h; cases h
  | some j =>
    rw [e] at h
    obtain ⟨h1, h2, h3, h4⟩ := ixN_seq e
    exact ⟨j, h1, h, h2, h3, h4⟩
theorem atI_nat {α : Type} {xs : List α} {j : Nat} {v : α} (h : xs[j]? = some v) : atI xs (j : Int) = some v := by
  have hj : j < xs.length := (List.getElem?_eq_some_iff.mp h).1
  have e : ixN xs.length (j : Int) = some j := by
    unfold ixN
    rw [if_pos (by omega), if_pos (by omega)]; simp
  unfold atI; rw [e]; exact h
noncomputable def PlainIx (b : Expr) : Prop := ∀ o i, subscripted b false o i = operate [o, i] (getItem o i)
noncomputable def IxR (X : Cx) (r : R2) : Prop :=
  ∀ (value slice : Expr) (pins : List (Addr × Obj)) (s : Shared) (σ : St) (H : Hp) (x y : V) (v u : Value) (Q : VK), Inv X pins σ H s → RelV x v → RelV y u → r x y H Q →
    subscripted slice false v u = operate [v, u] (getItem v u) → wpAny (model X.prog X.w) X.A (subscriptTail value slice v u) (EP X pins σ Q) X.xe s
noncomputable def MtR (X : Cx) (id : String) (r : V → List V → Hp → VK → Prop) : Prop :=
  ∀ (pins : List (Addr × Obj)) (s : Shared) (σ : St) (H : Hp) (x : V) (xs : List V) (v : Value) (us : List Value) (Q : VK), Inv X pins σ H s → RelV x v → Vals xs us → r x xs H Q →
    wpAny (model X.prog X.w) X.A (call (.builtin id) (v :: us)) (EP X pins σ Q) X.xe s
section
variable {X : Cx} {a b : Expr} {ta tb : TE} {pos : Pos}
theorem pe_ix {r : R2} (hr : IxR X r) (ha : PE X a ta) (hb : PE X b tb) (hs : PlainIx b) : PE X (.Subscript a b pos) (tOp r ta tb) := by
  intro pins s σ H Q I h
  exact Subscript_ (binT ha hb I h fun v u s2 x y H2 I2 rx ry q => hr a b pins s2 σ H2 x y v u Q I2 rx ry q (hs _ _))
noncomputable def rIxL (K : PySem.W.Frag) : R2 := fun x y H Q => ∃ p xs i v, x = .ref p ∧ y = .int i ∧ SqL K H p xs ∧ atI xs i = some v ∧ Q v H
noncomputable def rIxS : R2 := fun x y H Q => ∃ z i c, x = .str z ∧ y = .int i ∧ z.length ≤ sizeLine ∧ atI z.cps.toList i = some c ∧ Q (.str ⟨#[c]⟩) H
theorem ix_list : IxR X (rIxL X.K) := by
  intro value slice pins s σ H x y v u Q I rx ry h hs
  obtain ⟨p, xs, i, z, rfl, rfl, hq, he, q⟩ := h
  cases rx
  obtain ⟨t, rfl⟩ := ry
  obtain ⟨its, r, pl, hz⟩ := I.list hq
  obtain ⟨j, h1, h2, h3, h4, h5⟩ := atI_get he
  obtain ⟨w, ew, rw'⟩ := r.get h2
  have hl := r.length
  have hn := line63
  have fin : EP X pins σ Q w s := ⟨z, H, I, rw', q⟩
  by_cases h0 : 0 ≤ i
  · have hj : i.toNat = j := by
      rw [seqIndex_of h0 h5] at h1
      exact Option.some.inj h1
    exact item_listR pl.isList h0 (by omega) (by rw [hj]; simpa using ew) fin hs
  · have hj : (i + (its.toArray.size : Int)).toNat = j := by
      rw [seqIndex_neg (by omega) h4] at h1
      rw [List.size_toArray, ← hl]
      exact Option.some.inj h1
    exact subscriptTail_builtinR (x := w) pl.isList.typeIs slot_list_getitem.lookup
      (wpAny_getItem_list_neg (Q := fun r s' => r = w ∧ EP X pins σ Q r s') pl.isList (by omega) (by rw [List.size_toArray] <;> omega) (by omega) (by rw [hj]; simpa using ew) ⟨rfl, fin⟩) hs
theorem ix_str : IxR X rIxS := by
  intro value slice pins s σ H x y v u Q I rx ry h hs
  obtain ⟨z, i, c, rfl, rfl, hz, he, q⟩ := h
  obtain ⟨t, rfl⟩ := rx
  obtain ⟨t', rfl⟩ := ry
  obtain ⟨j, h1, h2, h3, h4, h5⟩ := atI_get he
  have hl : z.cps.toList.length = z.length := by simp [Str.length]
  rw [hl] at h1 h4 h5
  have hn := line63
  exact tail_any (typeIs_str s z t) slot_str_getitem.lookup (getItem_str (c := c) (by
    have e1 : decide (i < -(2 ^ 63 : Int)) = false := decide_eq_false (by omega)
    have e2 : decide (i ≥ 2 ^ 63) = false := decide_eq_false (by omega)
    rw [e1, e2, Bool.or_false]) (by rw [h1]; simpa using h2) ⟨.str ⟨#[c]⟩, H, I.tok _, ⟨_, rfl⟩, q⟩) hs
theorem slice_bounds (lo hi : Option Int) (n : Nat) : (sliceBounds lo hi none n).1 = ((HT.sIx n 0 lo : Nat) : Int) ∧ (sliceBounds lo hi none n).2.1 = ((HT.sIx n n hi : Nat) : Int) ∧ (sliceBounds lo hi none n).2.2 = 1 := by
  refine ⟨?_, ?_, rfl⟩
  · cases lo with
    | none => simp [sliceBounds, HT.sIx]
    | some i =>
      simp only [sliceBounds, HT.sIx, Option.getD_none, show (1 : Int) > 0 by decide, if_true]
      by_cases h : i < 0
      · simp only [h, if_true] <;> omega
      · simp only [h, if_false] <;> omega
  · cases hi with
    | none => simp [sliceBounds, HT.sIx]
    | some i =>
      simp only [sliceBounds, HT.sIx, Option.getD_none, show (1 : Int) > 0 by decide, if_true]
      by_cases h : i < 0
      · simp only [h, if_true] <;> omega
      · simp only [h, if_false] <;> omega
theorem slicePick_cut (its : List Value) (lo hi : Option Int) : slicePick its.toArray lo hi none = ((its.drop (HT.sIx its.length 0 lo)).take (HT.sIx its.length its.length hi - HT.sIx its.length 0 lo)).toArray := by
  obtain ⟨h1, h2, h3⟩ := slice_bounds lo hi its.toArray.size
  unfold slicePick
  rw [h1, h2, h3]
  simp only [sliceRange_one, pick_run, List.size_toArray] <;> rfl
noncomputable def rSlL (K : PySem.W.Frag) : V → Option Int → Option Int → Hp → VK → Prop := fun x lo hi H Q => ∃ a xs, x = .ref a ∧ SqL K H a xs ∧ ∀ p, H p = none → Q (.ref p) (upd H p (.lst (cutV xs lo hi)))
theorem sl_list : SlR X (rSlL X.K) := by
  intro pins s σ H x v vl vu lo hi sl Q I rx hs pl pu h
  obtain ⟨a, xs, rfl, hx, q⟩ := h
  cases rx
  obtain ⟨its, r, ht, hz⟩ := I.list hx
  have hlen := r.length
  refine ⟨"list", _, slot_list_getitem.lookup, ht.isList.typeIs, ?_⟩
  refine wpAny_getItem_list_slice ht.isList hs pl pu .none (by simp) ?_ (by rw [List.size_toArray] <;> omega)
  rw [slicePick_cut, ← hlen]
  refine ⟨.ref s.heap.objs.size, _, I.laid (t' := s.toks) (o := .lst (cutV xs lo hi)) (fun b ob q => Heap.get?_push_of_some _ q) (Nat.le_refl _) ?_, rfl, q _ (I.hok.fresh (Nat.le_refl _))⟩
  exact ⟨Nat.le_trans (cutV_length xs lo hi) hz, _, 0, (r.drop (HT.sIx xs.length 0 lo)).take (HT.sIx xs.length xs.length hi - HT.sIx xs.length 0 lo), Heap.get?_push_size _ rfl⟩
theorem call_list_of : CallR X (.type "list") (fun xs H Q => ∃ p ys, xs = [.ref p] ∧ (SqL X.K H p ys ∨ SqT X.K H p ys) ∧ ∀ l, H l = none → Q (.ref l) (upd H l (.lst ys))) := by
  intro pins s σ H xs us Q I r h
  obtain ⟨p, ys, rfl, hq, q⟩ := h
  obtain ⟨u, rfl, rx⟩ := vals1 r
  cases rx
  have fin : ∀ (its : List Value), Vals ys its → ys.length ≤ sizeLine → ∀ (h' : Heap) (c' : Nat), (∀ b o', s.heap.get? b = some o' → h'.get? b = some o') →
      h'.get? s.heap.objs.size = some { cls := .type "list", dict := none, data := .seq its.toArray c', slots := #[] } → EP X pins σ Q (.ref s.heap.objs.size) { s with heap := h' } := fun its r' hz h' c' kp e =>
    ⟨.ref s.heap.objs.size, _, I.laid (t' := s.toks) kp (Nat.le_refl _) (show ObjOk X.prog X.w _ h' _ (.lst ys) from ⟨hz, its, c', r', e⟩), rfl, q _ (I.hok.fresh (Nat.le_refl _))⟩
  rcases hq with hq | hq
  · obtain ⟨its, r', pl, hz⟩ := I.list hq
    have hlen := r'.length
    obtain ⟨o, ho, hc, n, hd⟩ := pl.isList
    exact call_list_seq p (.inl rfl) ho hc hd (fun h' c' kp e => fin its r' hz h' c' kp e) (by simp only [List.size_toArray] <;> omega)
  · obtain ⟨its, r', pl, hz⟩ := I.tuple hq
    have hlen := r'.length
    obtain ⟨o, ho, hc, n, hd⟩ := pl
    exact call_list_seq p (.inr rfl) ho hc hd (fun h' c' kp e => fin its r' hz h' c' kp e) (by simp only [List.size_toArray] <;> omega)
noncomputable def tyV (K : PySem.W.Frag) (T : String) (x : V) (H : Hp) : Prop := match x with
  | .str _ => T = "str"
  | .int _ => T = "int"
  | .ref p => (T = "list" ∧ ∃ xs, SqL K H p xs) ∨ (T = "tuple" ∧ ∃ o, K.lookup p = some o ∧ o.cls = .type "tuple" ∧ o.dict = none) ∨
      (T = "dict" ∧ ((∃ kvs, H p = some (.dK kvs)) ∨ ∃ kvs, H p = some (.dT kvs))) ∨ (T = "set" ∧ ∃ S n, H p = some (.set S n))
  | _ => False
theorem tyV_is {pins : List (Addr × Obj)} {σ : St} {H : Hp} {s : Shared} {T : String} {x : V} {v : Value} (I : Inv X pins σ H s) (r : RelV x v) (ty : tyV X.K T x H) :
    s.TypeIs v T ∧ ∀ a, v = .ref a → ∃ ob, s.heap.get? a = some ob ∧ ob.dict = none := by
  cases x with
  | str z =>
    obtain ⟨t, rfl⟩ := r
    cases (show T = "str" from ty)
    exact ⟨typeIs_str s z t, fun _ e => nomatch e⟩
  | int i =>
    obtain ⟨t, rfl⟩ := r
    cases (show T = "int" from ty)
    exact ⟨typeIs_int s i t, fun _ e => nomatch e⟩
  | ref p =>
    cases r
    rcases ty with ⟨rfl, xs, hq⟩ | ⟨rfl, o, hk, hc, hd⟩ | ⟨rfl, hk⟩ | ⟨rfl, S, n, hk⟩
    · obtain ⟨its, _, pl, _⟩ := I.list hq
      refine ⟨pl.isList.typeIs, fun a e => ?_⟩
      cases e
      obtain ⟨o, n, e, c, hd, _⟩ := pl
      exact ⟨o, e, hd⟩
    · refine ⟨⟨o, I.kIn p o hk, hc⟩, fun a e => ?_⟩
      cases e
      exact ⟨o, I.kIn _ o hk, hd⟩
    · have z : ∃ o, s.heap.get? p = some o ∧ o.ExactDict := by
        rcases hk with ⟨kvs, hk⟩ | ⟨kvs, hk⟩
        · obtain ⟨_, _, _, _, o, _, _, e, ex, _⟩ := I.hok p _ hk
          exact ⟨o, e, ex⟩
        · obtain ⟨_, _, _, _, o, _, _, e, ex, _⟩ := I.hok p _ hk
          exact ⟨o, e, ex⟩
      obtain ⟨o, e, ex⟩ := z
      refine ⟨⟨o, e, ex.1⟩, fun a e2 => ?_⟩
      cases e2
      exact ⟨o, e, ex.2.1⟩
    · obtain ⟨o, _, _, _, e, ex, _⟩ := I.hok p _ hk
      refine ⟨⟨o, e, ex.1⟩, fun a e2 => ?_⟩
      cases e2
      exact ⟨o, e, ex.2.1⟩
  | _ => exact False.elim ty
noncomputable def tBM (K : PySem.W.Frag) (T : String) (r : V → List V → Hp → VK → Prop) (to : TE) (t : TA) : TE := fun σ H Q => to σ H fun x H1 => tyV K T x H1 ∧ t σ H1 fun xs H2 => r x xs H2 Q
variable {o e : Expr} {es : List Expr} {to : TE} {t : TA} {name : Str} {apos cpos : Pos} {T id : String} {r : V → List V → Hp → VK → Prop}
theorem pe_bm (pa : PlainAttrs T) (slot : Slot T name id) (hty : typeOf (.builtin id) = pure (.type "method_descriptor")) (hm : MtR X id r) (ho : PE X o to) (ha : PA X (e :: es) t)
    (hbase : attributeBase o name X.env (eval o X.env) = eval o X.env := by rfl)
    (hfew : ((backTo cpos (starEach (e :: es) X.env)).all (fun x => !x.1) && (backToKw cpos (keywordEach [] X.env)).all (fun x => x.1.isSome)
      && decide ((e :: es).length + ([] : List Keyword).length + (if ([] : List Keyword).isEmpty then 0 else 1) < 30)) = true := by rfl)
    (hline : (apos.endLine == cpos.line) = true := by rfl) (hs : starEach (e :: es) X.env = (false, eval e X.env) :: starEach es X.env := by rfl) (hplain : (backTo cpos (starEach es X.env)).any (·.1) = false := by rfl) :
    PE X (.Call (.Attribute o name apos) (e :: es) [] cpos) (tBM X.K T r to t) := by
  intro pins s σ H Q I h
  refine wpAny_Call_method_late hbase hfew hline rfl (thn (ho pins s σ H _ I h) fun v s1 ⟨x, H1, I1, r1, ty, q1⟩ => ?_)
  obtain ⟨h1, h2⟩ := tyV_is I1 r1 ty
  refine ⟨T, id, pa, slot, hty, h1, h2, ?_⟩
  have hA := ha cpos pins s1 σ H1 _ I1 q1
  rw [hs] at hA ⊢
  refine Calls.callWith_builtin (by show (false || (backTo cpos (starEach es X.env)).any (·.1)) = false; rw [hplain] <;> rfl) (Calls.evalArgs_plain ?_)
  exact thn hA fun us s2 ⟨vs, H2, I2, r2, q2⟩ => hm pins s2 σ H2 x vs v us Q I2 r1 r2 q2
end
end L2
namespace L2
open PySem PySem.Spec PyProof.Rows
noncomputable def MtM (X : Cx) (id : String) (r : V → List V → Hp → VK → Prop) : Prop :=
  ∀ (pins : List (Addr × Obj)) (s : Shared) (σ : St) (H : Hp) (x : V) (xs : List V) (v : Value) (us : List Value) (Q : VK), Inv X pins σ H s → RelV x v → Vals xs us → r x xs H Q →
    wpAny (model X.prog X.w) X.A (call (.builtin id) (v :: us)) (EP X pins σ Q) X.xe s
theorem Vals.one : ∀ {x : V} {us : List Value}, Vals [x] us → ∃ u, us = [u] ∧ RelV x u
  | _, _, .cons r .nil => ⟨_, rfl, r⟩
section
variable {X : Cx} {pins : List (Addr × Obj)} {σ : St} {H : Hp} {s : Shared} {l b : Addr} {xs ys zs : List V}
theorem Inv.lset {its its' : List Value} {n : Nat} {f : Array Value → Array Value} {t' : Nat} (I : Inv X pins σ H s) (hH : H l = some (.lst xs))
    (e : s.heap.get? l = some { cls := .type "list", data := .seq its.toArray n }) (hf : f its.toArray = its'.toArray) (hv : Vals ys its') (hz : ys.length ≤ sizeLine) :
    Inv X pins σ (upd H l (.lst ys)) { s with heap := s.heap.update l (Obj.mapSeq f), toks := t' } := by
  have q := PySem.IsL.update e f
  rw [hf] at q
  refine I.write (x := l) (e := l) (by rw [hH]; exact trivial) (.inl rfl) (fun b' u hb hu => (Heap.get?_update_other s.heap (Obj.mapSeq f) (Ne.symm hb)).trans hu) ⟨_, q⟩ ?_
  exact ⟨hz, its', _, hv, q⟩
theorem Inv.lnew {its : List Value} {t' : Nat} (I : Inv X pins σ H s) (hv : Vals ys its) (hz : ys.length ≤ sizeLine) :
    Inv X pins σ (upd H s.heap.objs.size (.lst ys)) { s with heap := s.heap.push { cls := .type "list", data := .seq its.toArray }, toks := t' } :=
  I.laid (fun _ _ q => Heap.get?_push_of_some _ q) (Nat.le_refl _) ⟨hz, its, 0, hv, Heap.get?_push_size _ rfl⟩
theorem Inv.fresh (I : Inv X pins σ H s) : H s.heap.objs.size = none := I.hok.fresh (Nat.le_refl _)
theorem Inv.lstM (I : Inv X pins σ H s) (hH : H l = some (.lst xs)) : xs.length ≤ sizeLine ∧ ∃ (its : List Value) (n : Nat), Vals xs its ∧ xs.length = its.length ∧ s.heap.get? l = some { cls := .type "list", data := .seq its.toArray n } := by
  obtain ⟨z, its, n, r, e⟩ := I.hok l _ hH
  exact ⟨z, its, n, r, r.length, e⟩
end
section
variable {X : Cx}
noncomputable def rAppend : V → List V → Hp → VK → Prop := fun x vs H Q => ∃ l xs y, x = .ref l ∧ vs = [y] ∧ H l = some (.lst xs) ∧ xs.length < sizeLine ∧ Q .non (upd H l (.lst (xs ++ [y])))
theorem mt_append : MtM X "list.append" rAppend := by
  intro pins s σ H x vs v us Q I rx rv h
  obtain ⟨l, xs, y, rfl, rfl, hH, hz, q⟩ := h
  cases rx
  obtain ⟨u, rfl, ru⟩ := rv.one
  obtain ⟨z, its, n, r, hl, e⟩ := I.lstM hH
  refine call_meets F.slot_list_append ⟨_, e, rfl⟩ F.entry_list_append (F.args_list_append_2 _ _) (PySem.list_append l its.toArray n u (by rw [List.size_toArray]; omega)) ⟨e, ?_⟩
  refine ⟨.non, _, I.lset (its' := its ++ [u]) hH e (by simp) (r.append (.cons ru .nil)) ?_, rfl, q⟩
  rw [List.length_append, List.length_singleton]
  omega
noncomputable def rCat : R2 := fun x y H Q => ∃ l b xs zs, x = .ref l ∧ y = .ref b ∧ H l = some (.lst xs) ∧ H b = some (.lst zs) ∧ xs.length + zs.length ≤ sizeLine ∧ ∀ p, H p = none → Q (.ref p) (upd H p (.lst (xs ++ zs)))
theorem op_cat : OpR X (binaryOp .Add) rCat := by
  intro pins s σ H x y v u Q I rx ry h
  obtain ⟨l, b, xs, zs, rfl, rfl, hH, hB, hz, q⟩ := h
  cases rx
  cases ry
  obtain ⟨z, its, n, r, hl, e⟩ := I.lstM hH
  obtain ⟨z2, its2, n2, r2, hl2, e2⟩ := I.lstM hB
  refine PySem.P.add_list e e2 ?_ (by rw [List.size_toArray, List.size_toArray]; omega)
  have ea : its.toArray ++ its2.toArray = (its ++ its2).toArray := by simp
  rw [ea]
  exact ⟨.ref _, _, I.lnew (t' := s.toks) (r.append r2) (by rw [List.length_append]; omega), rfl, q _ I.fresh⟩
end
end L2
namespace Att
open PySem PySem.W PySem.Calls PyProof.Rows
theorem ints_of_wellAll {P : Params} {h : Heap} : ∀ (ns : List Int) (vs : List Value), WellAll P h vs (ns.map WData.int) → IntsAre vs ns := by
  intro ns
  induction ns with
  | nil =>
    intro vs w
    rw [List.map_nil] at w
    cases w
    exact .nil
  | cons n ns ih =>
    intro vs w
    rw [List.map_cons] at w
    cases w with
    | cons a b =>
      cases a
      exact .cons _ _ (ih _ b)
theorem script_of {l : OpenLaw} {n : Nat} (hn : l.most = some n) {P : Params} {h : Heap} {args : List WData} {vals : List Value}
    (hpre : l.row.toRowW.claim.pre args = true) (hwl : WellAll P h vals args) :
    ∃ a vs ns, vals = [Value.ref a] ∧ args = [WData.list (ns.map WData.int)] ∧ h.get? a = some { cls := .type "list", data := .seq vs.toArray } ∧ IntsAre vs ns ∧ ns.length ≤ n := by
  have hsh : WShape.hasAll [] args [.list .int] = true := (pre_splitW hpre).1
  have hc : l.pre.holds [] { args := args } = true := (pre_splitW hpre).2
  obtain ⟨d, r, rfl, h1, h2⟩ := hasAllW_cons hsh
  obtain rfl := hasAllW_nil h2
  obtain ⟨xs, rfl, h3⟩ := hasW_list h1
  obtain ⟨ns, rfl⟩ := items_int h3
  have hlen : ns.length ≤ n := by
    unfold OpenLaw.pre at hc
    have h4 : (WTm.not (.lt (.lit (.int (n : Int))) (.len (.arg 0)))).holds [] { args := [.list (ns.map .int)] } = true := by
      have h4 := (holds_andW hc).1
      rw [hn] at h4
      exact h4
    have h5 := condW_of h4 (w_not (w_lt w_lit (w_len_list (w_arg rfl))))
    rw [List.length_map] at h5
    refine Nat.le_of_not_lt fun q => ?_
    have q' : (n : Int) < ((ns.length : Nat) : Int) := by omega
    first
      | (rw [decide_eq_true q'] at h5; exact absurd h5 (by decide))
      | (simp at h5; omega)
  cases hwl with
  | cons w1 w2 =>
    cases w2
    cases w1 with
    | list ho hall => exact ⟨_, _, ns, rfl, rfl, ho, ints_of_wellAll ns _ hall, hlen⟩
theorem post_true (l : OpenLaw) (args : List WData) : l.row.toRowW.claim.post args (.bool true) args = true :=
  postW_of (r := l.row.toRowW) (X := (true == true))
    (show WShape.has [] (.bool true) .bool = true by first | rfl | decide | simp [WShape.has, WShape.arms, WShape.armsAll])
    (show (WTm.eq .res (.lit (.bool true))).value [] { args := args, res := some (.bool true), after := args } = some (.bool (true == true)) from w_eq_bool (w_res rfl) w_lit) rfl
theorem attach_call {l : OpenLaw} {n : Nat} {q : Program} {loose : List Str} {XP : (Str → Option Value) → Heap → Prop} {YP : World → Heap → Prop} {d : DefRec}
    (hn : l.most = some n) (hdf : d.params.defaults = [])
    (call : ∀ (w : World) (s₀ s₁ : Shared) (mg mb : Str → Option Value) (fa : Addr) (o : Obj) (pm cd doc : Value) (a : Addr) (vs : List Value) (ns : List Int),
      Ground q loose [] XP w s₀ mg mb s₁.heap → YP w s₁.heap →
      s₁.heap.get? fa = some o → o.data = .func (docDef d.name d.params d.body d.scope pm cd doc) → s₁.heap.CodeRec cd d.name → mg d.name = some (.ref fa) →
      s₁.heap.get? a = some { cls := .type "list", data := .seq vs.toArray } → IntsAre vs ns → ns.length ≤ n → s₁.gens = #[] →
      codeAny (model l.prog w) callerA (.call (.ref fa) ⟨[.ref a], []⟩) (fun r s' => r = .ok (.ret (.bool true)) ∧ OldK s₁.heap s'.heap ∧ s'.os = s₁.os ∧ AllBare s'.gens) s₁) :
    WalkO q loose XP YP l.row.toRowW d [] (fun f vs => PySem.call f vs) := by
  intro w s₀ s₁ mg mb G Y fa o pm cd doc dV kV ho hd hcd hD hmg hg args vals as hpre hlay hrd hwl hlo
  obtain rfl : dV = .none := Dflts.none hD hdf
  obtain rfl : kV = .none := Dflts.noKw hD
  obtain ⟨a, vs, ns, rfl, rfl, hobj, hints, hlen⟩ := script_of hn hpre hwl
  refine enter_call (codeAny_mono (call w s₀ s₁ mg mb fa o pm cd doc a vs ns G Y ho (fd_plain hd) hcd hmg hobj hints hlen hg) fun r s' hq => ?_)
  obtain ⟨rfl, h2, h3, h4⟩ := hq
  exact ⟨.inl ⟨.bool true, .bool true, [], rfl, fun _ => rfl, .bool true, post_true l _, fun _ => ⟨List.Pairwise.nil, fun _ hm => (nomatch hm)⟩⟩, h2, h3, h4⟩
end Att
namespace L2
open PySem PySem.Spec PyProof.Rows
theorem vals_ints : ∀ {vs : List Value} {ns : List Int}, IntsAre vs ns → Vals (ns.map V.int) vs
  | _, _, .nil => .nil
  | _, _, .cons n t h => .cons ⟨t, rfl⟩ (vals_ints h)
noncomputable def Only (H : Hp) : Prop := ∀ b, H b = none ∨ ∃ o xs, H b = some (.frz o (.lst xs))
theorem law_call {P : Program} {w : World} {K : PySem.W.Frag} {mg mb : Str → Option Value} {CX : CXT} {k : Nat} {fa a : Addr} {fd : FuncData} {x : Str} {sp : Sp} {s₁ : Shared} {vs : List Value} {ns : List Int}
    (KX : K.In s₁.heap) (hns : s₁.heap.Ns mainGlobals mg) (hb : s₁.heap.Ns builtinsNs mb) (hbb : ∀ x : Str, x ≠ "__name__" → mb x = bootBuiltins x) (hlim : s₁.heap.NoLimit) (hg : s₁.gens = #[])
    (ha : s₁.heap.get? a = some { cls := .type "list", data := .seq vs.toArray }) (hi : IntsAre vs ns) (hl : ns.length ≤ sizeLine) (hr : Room k callerA)
    (F : ∀ base : Heap, K.In base → base.Ns mainGlobals mg → FnOk P w K mg base CX k fa fd [x] sp) (hbind : ∀ (s : Shared) (u : Value), BindsTo s fd ⟨[u], []⟩ [(x, u)])
    (hsp : ∀ H : Hp, Only H → SqL K H a (ns.map V.int) → sp [.ref a] H (fun v _ => v = .bl true) fun _ _ _ => False)
    (hCX : ∀ H e s', CX [] H s₁ (fun _ _ _ => False) e s' → False) :
    codeAny (model P w) callerA (.call (.ref fa) ⟨[.ref a], []⟩) (fun r s' => r = .ok (.ret (.bool true)) ∧ OldK s₁.heap s'.heap ∧ s'.os = s₁.os ∧ AllBare s'.gens) s₁ := by
  have rv := vals_ints hi
  have lenV := hi.length
  have core : ∀ H : Hp, Only H → SqL K H a (ns.map V.int) → HOk P w H s₁.heap → (∀ b, H b ≠ none → b = a) → (H a ≠ none → K.lookup a = none) →
      codeAny (model P w) callerA (.call (.ref fa) ⟨[.ref a], []⟩) (fun r s' => r = .ok (.ret (.bool true)) ∧ OldK s₁.heap s'.heap ∧ s'.os = s₁.os ∧ AllBare s'.gens) s₁ := by
    intro H hO hS hok hA hK
    have base_of : ∀ {b : Addr} {o : Obj}, s₁.heap.get? b = some o → H b = none → (hidT s₁.heap H).get? b = some o := fun e n => hidT_get e n
    have noA : ∀ {b : Addr} {o : Obj} {es : Array DictEntry} {ep : Nat}, s₁.heap.get? b = some o → o.data = .dict es ep → H b = none := fun {b o es ep} e d => by
      cases q : H b with
      | none => rfl
      | some u =>
        have e' : b = a := hA b (by rw [q]; simp)
        subst e'
        rw [ha] at e; cases e
        have d' : Data.seq vs.toArray _ = Data.dict es ep := d
        cases d'
    have nsK : ∀ {b : Addr} {m : Str → Option Value}, s₁.heap.Ns b m → (hidT s₁.heap H).Ns b m := fun {b m} ⟨o, es, ep, e, d, r⟩ => ⟨o, es, ep, base_of e (noA e d), d, r⟩
    have hKb : K.In (hidT s₁.heap H) := fun b o e => base_of (KX b o e) (by
      cases q : H b with
      | none => rfl
      | some u =>
        have e' : b = a := hA b (by rw [q]; simp)
        subst e'
        rw [hK (by rw [q]; simp)] at e; cases e)
    have hM : Mod K mg (hidT s₁.heap H) := ⟨hKb, nsK hns, ⟨mb, nsK hb, hbb⟩, let ⟨mc, h1, h2⟩ := hlim; ⟨mc, nsK h1, h2⟩⟩
    have e0 : Env0 P w K mg (hidT s₁.heap H) callerA [] s₁ H := ⟨rfl, hM, fun b o e => of_hidT e, Nat.le_of_eq (hidT_size _ _), trivial, fun b hb => absurd (show b ∈ ([] : List Addr) from hb) (by simp), hok, .of_eq hg⟩
    refine codeAny_mono ((F _ hKb (nsK hns)).run callerA [] s₁ H ⟨[.ref a], []⟩ [.ref a] [.ref a] _ _ hr e0 (hbind s₁ (.ref a)) (.cons rfl .nil) (hsp H hO hS)) fun r s' h => ?_
    cases r with
    | error e => exact (hCX H e s' h).elim
    | ok fl =>
      cases fl with
      | next => exact False.elim h
      | brk => exact False.elim h
      | cont => exact False.elim h
      | ret u =>
        obtain ⟨v, H', os, bare, un, hok', r', q⟩ := h
        have q' : v = .bl true := q
        subst q'
        obtain rfl : u = Value.bool true := r'
        refine ⟨rfl, OldK.of_keep fun b o e => ?_, os, bare⟩
        cases q : H b with
        | none => exact un.keep b o e q (by intro z; exact absurd (show b ∈ ([] : List Addr) from z) (by simp)) (by simp)
        | some u =>
          rcases hO b with z | ⟨ob, xs, z⟩
          · rw [q] at z; cases z
          · have z2 := un.frzs b ob _ z
            obtain ⟨e1, _⟩ := hok b _ z
            obtain ⟨e2, _⟩ := hok' b _ z2
            rw [e] at e1; cases e1
            exact e2
  cases hk : K.lookup a with
  | some o =>
    have e := KX a o hk
    rw [ha] at e
    cases e
    refine core (fun _ => none) (fun _ => .inl rfl) (.inr ⟨_, vs.toArray, _, hk, rfl, rfl, rfl, by rw [List.size_toArray, lenV]; exact hl, by simpa using rv⟩) (fun b u z => by have z' : (none : Option HO) = some u := z; cases z') (fun b z => absurd rfl z) fun z => absurd rfl z
  | none =>
    refine core (fun b => if b = a then some (.frz { cls := .type "list", data := .seq vs.toArray } (.lst (ns.map V.int))) else none) (fun b => ?_) (.inl (.inr ⟨{ cls := .type "list", data := .seq vs.toArray }, if_pos rfl⟩)) (fun b u z => ?_) (fun b z => ?_) fun _ => hk
    · by_cases hb : b = a
      · exact .inr ⟨_, _, if_pos hb⟩
      · exact .inl (if_neg hb)
    · by_cases hb : b = a
      · have z' := (if_pos hb).symm.trans z
        cases z'
        subst hb
        exact ⟨ha, by rw [List.length_map]; exact hl, vs, _, rv, ha⟩
      · have z' := (if_neg hb).symm.trans z
        cases z'
    · by_cases hb : b = a
      · exact hb
      · exact absurd (if_neg hb) z
end L2
namespace L2
open PySem PySem.Spec PyProof.Rows
theorem walk_of {l : PySem.W.OpenLaw} {n k : Nat} {q : Program} {loose : List Str} {XP : (Str → Option Value) → Heap → Prop} {YP : World → Heap → Prop} {d : DefRec} {K : Params → PySem.W.Frag} {CX : World → CXT} {sp : World → Sp} {x : Str}
    (hn : l.most = some n) (hn2 : n ≤ sizeLine) (hdf : d.params.defaults = []) (hr : Room k callerA)
    (hY : ∀ (w : World) (h : Heap), YP w h → (K w.params).In h)
    (F : ∀ (w : World) (mg : Str → Option Value) (fa : Addr) (h : Heap), (K w.params).In h → h.Ns mainGlobals mg → mg d.name = some (.ref fa) →
      ∃ fd : FuncData, (∀ (s : Shared) (u : Value), BindsTo s fd ⟨[u], []⟩ [(x, u)]) ∧
        ∀ base : Heap, (K w.params).In base → base.Ns mainGlobals mg → FnOk l.prog w (K w.params) mg base (CX w) k fa fd [x] (sp w))
    (hsp : ∀ (w : World) (H : Hp) (a : Addr) (ns : List Int), ns.length ≤ n → Only H → SqL (K w.params) H a (ns.map V.int) → sp w [.ref a] H (fun v _ => v = .bl true) fun _ _ _ => False)
    (hCX : ∀ (w : World) (H : Hp) (s : Shared) (e : Value) (s' : Shared), CX w [] H s (fun _ _ _ => False) e s' → False) :
    PySem.W.WalkO q loose XP YP l.row.toRowW d [] (fun f vs => PySem.call f vs) := by
  refine Att.attach_call hn hdf fun w s₀ s₁ mg mb fa o pm cd doc a vs ns G Y ho hd hcd hmg hobj hints hlen hg => ?_
  have KX := hY w _ Y
  obtain ⟨fd, hb, hF⟩ := F w mg fa _ KX G.T.g hmg
  exact law_call KX G.T.g G.T.b G.T.builtins G.T.nolimit hg hobj hints (Nat.le_trans hlen hn2) hr hF hb (fun H hO hS => hsp w H a ns hlen hO hS) fun H e s' => hCX w H s₁ e s'
end L2
namespace L2
open PySem PySem.Spec PyProof.Rows
noncomputable def inClass (s : Stmt) (j : Nat) : Stmt := match s with
  | .ClassDef _ _ _ body _ _ _ _ _ _ _ => body.getD j (.Pass ⟨0, 0, 0, 0⟩)
  | _ => .Pass ⟨0, 0, 0, 0⟩
noncomputable def defArgs (s : Stmt) : Arguments := match s with
  | .FunctionDef _ a _ _ _ _ _ _ _ _ => a
  | _ => { posonlyargs := [], args := [], vararg := none, kwonlyargs := [], kw_defaults := [], kwarg := none, defaults := [] }
noncomputable def defBody (s : Stmt) : List Stmt := match s with
  | .FunctionDef _ _ b _ _ _ _ _ _ _ => b
  | _ => []
noncomputable def defScope (s : Stmt) : Scope := match s with
  | .FunctionDef _ _ _ _ _ _ sc _ _ _ => sc
  | _ => { kind := .function, names := [], isGenerator := false, isCoroutine := false }
noncomputable abbrev CX0 : CXT := fun _ _ _ _ _ _ => False
noncomputable abbrev E0 : XK := fun _ _ _ => False
theorem pass0 {X : Cx} : Passes CX0 X E0 := fun _ _ _ _ _ _ _ h => h.elim
structure Fun (K : PySem.W.Frag) (x qual : Str) (st : Stmt) (f : Addr) (fd : FuncData) : Prop where
  ex : ∃ (oc : Value) (od : Option Addr) (kV doc pm : Value) (an : Option Addr) (cdv ct : Value) (osl : Array (Option Value)),
    fd = PySem.W.fnOf x qual (defArgs st) (defBody st) (defScope st) .none kV doc pm an cdv ct ∧ K.lookup f = some ⟨oc, od, .func fd, osl⟩ ∧ PySem.W.codeIn K cdv qual = true
  kp : PySem.W.keepIn K (.ref f) = true
section
variable {P : Program} {w : World} {K : PySem.W.Frag} {mg : Str → Option Value} {base : Heap}
theorem Fun.ok {x qual : Str} {st : Stmt} {f : Addr} {fd : FuncData} {N ps : List Str} {k : Nat} {sp : Sp} (F : Fun K x qual st f fd) (S : FnScope N ps (defScope st)) (len : ∀ vs H Q E, sp vs H Q E → vs.length = ps.length)
    (hbody : ∀ (cdv : Value) (A : Around) (outer : List Env) (s : Shared) (H : Hp) (vs : List V) (Q : VK) (E : XK), Room k (A.deeper (envOfC qual (defScope st) s.heap.objs.size f cdv)) → sp vs H Q E →
      ∃ t, PSs (cxOf CX0 P w K mg base N qual (defScope st) f cdv A outer s H E).nox (defBody st) t ∧ t { nx := fun _ H' => Q .non H', rt := Q } (start N vs) H) : FnOk P w K mg base CX0 (k + 1) f fd ps sp := by
  obtain ⟨oc, od, kV, doc, pm, an, cdv, ct, osl, rfl, lk, hcd⟩ := F.ex
  refine fn_of lk hcd S len fun A outer s H vs Q E hr hsp => ?_
  obtain ⟨t, h, q⟩ := hbody cdv A outer s H vs Q E hr hsp
  exact ⟨t, h.nox, q⟩
theorem Fun.binds {x qual : Str} {st : Stmt} {f : Addr} {fd : FuncData} {ps : List Str} (F : Fun K x qual st f fd)
    (h : ∀ (kV doc pm : Value) (an : Option Addr) (cdv ct : Value) (us : List Value), us.length = ps.length → bindArgs (PySem.W.fnOf x qual (defArgs st) (defBody st) (defScope st) .none kV doc pm an cdv ct) ⟨us, []⟩ = pure (ps.zip us)) : Binds K fd ps [] := by
  obtain ⟨oc, od, kV, doc, pm, an, cdv, ct, osl, rfl, lk, hcd⟩ := F.ex
  exact .all (h kV doc pm an cdv ct)
theorem fun_mk {x qual : Str} {st : Stmt} {f : Addr} {oc : Value} {od an : Option Addr} {osl : Array (Option Value)} {kV doc pm cdv ct : Value} (l : K.lookup f = some ⟨oc, od, .func (PySem.W.fnOf x qual (defArgs st) (defBody st) (defScope st) .none kV doc pm an cdv ct), osl⟩)
    (c : PySem.W.codeIn K cdv qual = true) (k : PySem.W.keepIn K (.ref f) = true) : Fun K x qual st f (PySem.W.fnOf x qual (defArgs st) (defBody st) (defScope st) .none kV doc pm an cdv ct) := ⟨⟨oc, od, kV, doc, pm, an, cdv, ct, osl, rfl, l, c⟩, k⟩
end
theorem small1000 {n : Nat} (h : n ≤ 1000) : n < sizeLine := Nat.lt_of_le_of_lt h (by decide)
section
variable {X : Cx}
theorem pv (i : Nat) {x : Str} {pos : Pos} (hN : X.N[i]? = some x := by rfl) (hv : Vis X.env.scope x := by first | exact Or.inl rfl | exact Or.inr (Or.inl rfl) | exact Or.inr (Or.inr rfl)) (hd : (x == ("__debug__" : Str)) = false := by decide)
    (hcd : (x == ("__classdict__" : Str)) = false := by decide) : PE X (.Name x pos) (tVar i) := pe_var hN hv hd hcd
end
theorem ite2 {c A B : Prop} [Decidable c] (h1 : c → A) (h2 : ¬ c → B) : if c then A else B := by
  by_cases h : c
  · rw [if_pos h]
    exact h1 h
  · rw [if_neg h]
    exact h2 h
noncomputable def Same (H H' : Hp) : Prop := ∀ b o, H b = some o → H' b = some o
theorem Same.refl (H : Hp) : Same H H := fun _ _ h => h
theorem Same.trans {H H1 H2 : Hp} (a : Same H H1) (b : Same H1 H2) : Same H H2 := fun c o h => b c o (a c o h)
theorem Same.seq {K : PySem.W.Frag} {H H' : Hp} {a : Addr} {xs : List V} (e : Same H H') (h : SqL K H a xs) : SqL K H' a xs := by
  rcases h with (h | ⟨o, h⟩) | h
  · exact .inl (.inl (e _ _ h))
  · exact .inl (.inr ⟨o, e _ _ h⟩)
  · exact .inr h
end L2
namespace L2
open PySem PySem.Spec PyProof.Rows
structure M1 (X : Cx) (o : Expr) (m : Str) (apos : Pos) (e : Expr) (cpos : Pos) : Prop where
  base : attributeBase o m X.env (eval o X.env) = eval o X.env
  few : ((backTo cpos (starEach [e] X.env)).all (fun x => !x.1) && (backToKw cpos (keywordEach [] X.env)).all (fun x => x.1.isSome)
    && decide (([e] : List Expr).length + ([] : List Keyword).length + (if ([] : List Keyword).isEmpty then 0 else 1) < 30)) = true
  line : (apos.endLine == cpos.line) = true
  trees : backTo cpos (starEach [e] X.env) = [(false, eval e X.env)]
structure M2 (X : Cx) (o : Expr) (m : Str) (apos : Pos) (e f : Expr) (cpos : Pos) : Prop where
  base : attributeBase o m X.env (eval o X.env) = eval o X.env
  few : ((backTo cpos (starEach [e, f] X.env)).all (fun x => !x.1) && (backToKw cpos (keywordEach [] X.env)).all (fun x => x.1.isSome)
    && decide (([e, f] : List Expr).length + ([] : List Keyword).length + (if ([] : List Keyword).isEmpty then 0 else 1) < 30)) = true
  line : (apos.endLine == cpos.line) = true
  trees : backTo cpos (starEach [e, f] X.env) = [(false, eval e X.env), (false, eval f X.env)]
end L2
namespace L2
open PySem PySem.Spec PyProof.Rows
end L2
set_option Elab.async false
set_option linter.all false
set_option maxRecDepth 100000
set_option maxHeartbeats 4000000
namespace L2
open PySem PySem.Spec PyProof.Rows
section
variable {P0 : Program} {w0 : World} {A0 : Around} {R0 : Result → Shared → Prop} {t0 : Shared}
theorem comp_turns {elt tg iter : Expr} {ifs : List Expr} {sc : Scope} {pos : Pos} {it acc : Value} {ce : Env} (J : Nat → Shared → Prop)
    (turn : ∀ n s, J n s → wpAny (model P0 w0) A0 (pyNext it) (fun r s₁ => match r with
      | none => R0 (.ok .next) s₁
      | some v => wpAny (model P0 w0) A0 (letOwnedTupleGo tg it v) (fun _ s₂ => wpAny (model P0 w0) A0 (assign tg ce v) (fun _ s₃ =>
          wpAny (model P0 w0) A0 (forIn ifs true fun c r => if r = true then do let ok ← isTrue c ce (eval c ce); pure (ForInStep.yield ok) else pure (ForInStep.yield r)) (fun ok s₄ =>
            if ok = true then wpAny (model P0 w0) A0 (eval elt ce) (fun x s₅ =>
              wpAny (model P0 w0) A0 (call (.builtin "list.append") [acc, x]) (fun _ s₆ => ∃ m, m < n ∧ J m s₆) (fun _ _ => False) s₅) (fun _ _ => False) s₄
            else ∃ m, m < n ∧ J m s₄) (fun _ _ => False) s₃) (fun _ _ => False) s₂) (fun _ _ => False) s₁) (fun _ _ => False) s)
    (n : Nat) (h : J n t0) :
    codeAny (model P0 w0) A0 (.compLoop (.ListComp elt [⟨tg, iter, ifs, 0⟩] sc pos) 0 it acc ce) R0 t0 := by
  have no : ∀ {α : Type} {t : Sem α} {Q : α → Shared → Prop} {E : Value → Shared → Prop} {s : Shared}, wpAny (model P0 w0) A0 t Q (fun _ _ => False) s → wpAny (model P0 w0) A0 t Q E s :=
    fun h => wpAny_mono h (fun _ _ q => q) fun _ _ z => z.elim
  refine codeAny_loop rfl J (fun n s hJ => ?_) n h
  show wpAny _ A0 ((compTurn (.ListComp elt [⟨tg, iter, ifs, 0⟩] sc pos) 0 it acc ce).onRaise (fun x => do noteFrame x ce; theTreesLotGoes x)) _ _ s
  refine wpAny_noted ?_
  rw [compTurn_list]
  refine wpAny_bind (wpAny_standAt (wpAny_bind (thn (no (turn n s hJ)) fun r s₁ h₁ => ?_)))
  cases r with
  | none => exact wpAny_pure h₁
  | some v =>
    refine wpAny_bind (thn (no h₁) fun _ s₂ h₂ => ?_)
    refine wpAny_bind (thn (no h₂) fun _ s₃ h₃ => wpAny_bind (thn (no h₃) fun ok s₄ h₄ => ?_))
    cases ok with
    | false => exact wpAny_pure ⟨rfl, h₄⟩
    | true =>
      rw [if_pos rfl] at h₄
      refine wpAny_bind (wpAny_bind (thn (no h₄) fun x s₅ h₅ => ?_))
      refine wpAny_bind (thn (no h₅) fun _ s₆ h₆ => ?_)
      exact wpAny_pure (wpAny_pure ⟨rfl, h₆⟩)
end
theorem closure_go (env : Env) : ∀ (l : List (Str × NameKind)) (cs : List (Str × Addr)), (∀ y ∈ l, y.2 = .free → ∃ c, env.cells.lookup y.1 = some c) →
    ∃ r : List (Str × Addr), (forIn l cs (fun (x : Str × NameKind) (r : List (Str × Addr)) => if x.2 == NameKind.free then (do let c ← cellOf env x.1; pure (ForInStep.yield ((x.1, c) :: r))) else pure (ForInStep.yield r)) : Sem (List (Str × Addr))) = pure r ∧
      (∀ p ∈ r, p ∈ cs ∨ env.cells.lookup p.1 = some p.2) ∧ (∀ p ∈ cs, p ∈ r) ∧ (∀ y ∈ l, y.2 = .free → ∃ c, (y.1, c) ∈ r)
  | [], cs, _ => ⟨cs, rfl, fun p hp => .inl hp, fun p hp => hp, fun y hy => nomatch hy⟩
  | (x, k) :: l, cs, h => by
    by_cases hk : k = .free
    · subst hk
      obtain ⟨c, hc⟩ := h (x, .free) List.mem_cons_self rfl
      obtain ⟨r, e, h1, h2, h3⟩ := closure_go env l ((x, c) :: cs) fun y hy => h y (List.mem_cons_of_mem _ hy)
      refine ⟨r, ?_, fun p hp => ?_, fun p hp => h2 p (List.mem_cons_of_mem _ hp), fun y hy hf => ?_⟩
      · rw [List.forIn_cons]
        have e2 : cellOf env x = pure c := by unfold cellOf; rw [hc]
        simp only [beq_self_eq_true, if_true, e2, pure_bind]
        exact e
      · rcases h1 p hp with q | q
        · rcases List.mem_cons.mp q with z | z
          · subst z; exact .inr hc
          · exact .inl z
        · exact .inr q
      · rcases List.mem_cons.mp hy with z | z
        · subst z; exact ⟨c, h2 _ List.mem_cons_self⟩
        · exact h3 y z hf
    · obtain ⟨r, e, h1, h2, h3⟩ := closure_go env l cs fun y hy => h y (List.mem_cons_of_mem _ hy)
      refine ⟨r, ?_, h1, h2, fun y hy hf => ?_⟩
      · rw [List.forIn_cons]
        have hb : (k == NameKind.free) = false := by cases k <;> first | rfl | exact absurd rfl hk
        simp only [hb, Bool.false_eq_true, if_false, pure_bind]
        exact e
      · rcases List.mem_cons.mp hy with z | z
        · subst z; exact absurd hf hk
        · exact h3 y z hf
theorem closure_is (sc : Scope) (env : Env) (h : ∀ y ∈ sc.names, y.2 = .free → ∃ c, env.cells.lookup y.1 = some c) :
    ∃ cl, closureFor sc env = pure cl ∧ (∀ p ∈ cl, env.cells.lookup p.1 = some p.2) ∧ ∀ y ∈ sc.names, y.2 = .free → ∃ c, (y.1, c) ∈ cl := by
  obtain ⟨r, e, h1, h2, h3⟩ := closure_go env sc.names [] h
  refine ⟨r, ?_, fun p hp => (h1 p hp).resolve_left (fun z => nomatch z), h3⟩
  unfold closureFor
  have := e
  simp only [bind_pure] at *
  exact e
theorem mem_look {κ β : Type} [BEq κ] [LawfulBEq κ] : ∀ {l : List (κ × β)} {x : κ} {c : β}, (x, c) ∈ l → ∃ c', l.lookup x = some c'
  | [], _, _, h => nomatch h
  | (y, d) :: l, x, c, h => by
    by_cases e : x = y
    · subst e; exact ⟨d, by simp [List.lookup_cons]⟩
    · have hb : (x == y) = false := beq_eq_false_iff_ne.mpr e
      rcases List.mem_cons.mp h with z | z
      · exact absurd (congrArg Prod.fst z) e
      · obtain ⟨c', q⟩ := mem_look z
        exact ⟨c', by rw [List.lookup_cons, hb]; exact q⟩
theorem relabel_cases {env : Env} : ∀ {names : List (Str × NameKind)} {x : Str} {k' : NameKind},
    (names.map fun (n, k) => if (k == NameKind.free && env.scope.kind == .function && env.kindOf n == some .cell) then (n, NameKind.cell) else (n, k)).lookup x = some k' → ∃ k, (x, k) ∈ names ∧ (k' = k ∨ k = .free)
  | [], _, _, h => by cases h
  | (y, k) :: l, x, k', h => by
    rw [List.map_cons, List.lookup_cons] at h
    by_cases e : x = y
    · subst e
      by_cases hc : (k == NameKind.free && env.scope.kind == .function && env.kindOf x == some .cell) = true
      · refine ⟨k, List.mem_cons_self, .inr ?_⟩
        rw [Bool.and_eq_true, Bool.and_eq_true] at hc
        exact eq_of_beq hc.1.1
      · refine ⟨k, List.mem_cons_self, .inl ?_⟩
        simp only [if_neg hc, beq_self_eq_true] at h
        exact (Option.some.inj h).symm
    · have hb : (x == y) = false := beq_eq_false_iff_ne.mpr e
      have h' : (l.map fun (n, k) => if (k == NameKind.free && env.scope.kind == .function && env.kindOf n == some .cell) then (n, NameKind.cell) else (n, k)).lookup x = some k' := by
        by_cases hc : (k == NameKind.free && env.scope.kind == .function && env.kindOf y == some .cell) = true
        · simp only [if_pos hc, hb] at h; exact h
        · simp only [if_neg hc, hb] at h; exact h
      obtain ⟨q, hm, z⟩ := relabel_cases h'
      exact ⟨q, List.mem_cons_of_mem _ hm, z⟩
theorem relabel_free {env : Env} : ∀ {names : List (Str × NameKind)} {x : Str}, names.lookup x = some .free →
    (names.map fun (n, k) => if (k == NameKind.free && env.scope.kind == .function && env.kindOf n == some .cell) then (n, NameKind.cell) else (n, k)).lookup x = some .cell ∨
    (names.map fun (n, k) => if (k == NameKind.free && env.scope.kind == .function && env.kindOf n == some .cell) then (n, NameKind.cell) else (n, k)).lookup x = some .free
  | [], _, h => by cases h
  | (y, k) :: l, x, h => by
    rw [List.lookup_cons] at h
    rw [List.map_cons, List.lookup_cons]
    by_cases e : x = y
    · subst e
      simp only [beq_self_eq_true] at h
      cases h
      by_cases hc : (NameKind.free == NameKind.free && env.scope.kind == .function && env.kindOf x == some .cell) = true
      · refine .inl ?_
        rw [if_pos hc]
        simp only [beq_self_eq_true]
      · refine .inr ?_
        rw [if_neg hc]
        simp only [beq_self_eq_true]
    · have hb : (x == y) = false := beq_eq_false_iff_ne.mpr e
      simp only [hb] at h
      have q := relabel_free (env := env) h
      by_cases hc : (k == NameKind.free && env.scope.kind == .function && env.kindOf y == some .cell) = true
      · simp only [if_pos hc, hb]; exact q
      · simp only [if_neg hc, hb]; exact q
structure CompScope (osc : Scope) (ON N : List Str) (n : Nat) (fx : List Nat) (sc : Scope) : Prop where
  kind : sc.kind = .function
  noc : ∀ y ∈ sc.names, y.2 ≠ .cell
  own : ∀ y ∈ sc.names, y.2 = .local → sc.names.lookup y.1 = some .local
  fre : ∀ y ∈ sc.names, y.2 = .free → osc.names.lookup y.1 = some .cell ∨ osc.names.lookup y.1 = some .free
  len : N.length = n + fx.length
  frn : ∀ k, k < fx.length → ∃ x j, N[n + k]? = some x ∧ fx[k]? = some j ∧ ON[j]? = some x ∧ sc.names.lookup x = some .free
noncomputable def frnOk (ON : List Str) (sc : Scope) : List Str → List Nat → Bool
  | [], [] => true
  | x :: xs, j :: js => decide (ON[j]? = some x) && decide (sc.names.lookup x = some .free) && frnOk ON sc xs js
  | _, _ => false
theorem frnOk_get {ON : List Str} {sc : Scope} : ∀ {xs : List Str} {js : List Nat}, frnOk ON sc xs js = true → xs.length = js.length ∧ ∀ k, k < js.length → ∃ x j, xs[k]? = some x ∧ js[k]? = some j ∧ ON[j]? = some x ∧ sc.names.lookup x = some .free
  | [], [], _ => ⟨rfl, fun k h => absurd h (Nat.not_lt_zero k)⟩
  | [], _ :: _, h => by cases h
  | _ :: _, [], h => by cases h
  | x :: xs, j :: js, h => by
    simp only [frnOk, Bool.and_eq_true, decide_eq_true_eq] at h
    obtain ⟨l, q⟩ := frnOk_get h.2
    refine ⟨congrArg Nat.succ l, fun k hk => ?_⟩
    cases k with
    | zero => exact ⟨x, j, rfl, rfl, h.1.1, h.1.2⟩
    | succ k =>
      obtain ⟨x', j', a, b, c⟩ := q k (Nat.lt_of_succ_lt_succ hk)
      exact ⟨x', j', by simpa using a, by simpa using b, c⟩
noncomputable def compOk (osc : Scope) (ON N : List Str) (n : Nat) (fx : List Nat) (sc : Scope) : Bool :=
  decide (sc.kind = .function) && decide (∀ y ∈ sc.names, y.2 ≠ .cell) && decide (∀ y ∈ sc.names, y.2 = .local → sc.names.lookup y.1 = some .local) &&
  decide (∀ y ∈ sc.names, y.2 = .free → osc.names.lookup y.1 = some .cell ∨ osc.names.lookup y.1 = some .free) && decide (n ≤ N.length) && frnOk ON sc (N.drop n) fx
theorem CompScope.of {osc : Scope} {ON N : List Str} {n : Nat} {fx : List Nat} {sc : Scope} (h : compOk osc ON N n fx sc = true) : CompScope osc ON N n fx sc := by
  simp only [compOk, Bool.and_eq_true, decide_eq_true_eq] at h
  obtain ⟨⟨⟨⟨⟨h1, h2⟩, h3⟩, h4⟩, h5⟩, h6⟩ := h
  obtain ⟨l, q⟩ := frnOk_get h6
  refine ⟨h1, h2, h3, h4, ?_, fun k hk => ?_⟩
  · rw [List.length_drop] at l; omega
  · obtain ⟨x, j, a, b⟩ := q k hk
    exact ⟨x, j, by rw [List.getElem?_drop] at a; exact a, b⟩
noncomputable def cxComp (X : Cx) (N : List Str) (sc : Scope) (cl : List (Str × Addr)) (C : Addr) (fp : List Addr) (s : Shared) (H : Hp) : Cx where
  prog := X.prog
  w := X.w
  K := X.K
  mg := X.mg
  base := X.base
  A := X.A
  N := N
  s₀ := s
  H₀ := H
  env := compEnvC sc cl C X.env
  outer := X.stack
  stack := X.stack
  ex := fp
  fn := fun _ => false
  calm := X.calm
  pn := []
  xe := fun _ _ => False
noncomputable def compSt (n : Nat) (fx : List Nat) (σ : St) : St := List.replicate n none ++ fx.map fun j => (σ[j]?).join
noncomputable def GKeep (n : Nat) (g : TG) : Prop := ∀ v σ H (Q Q' : St → Hp → Prop), (∀ σ' H', Q σ' H' → σ'.drop n = σ.drop n → σ'.length = σ.length → Q' σ' H') → g v σ H Q → g v σ H Q'
theorem gk_name {n i : Nat} (h : i < n) : GKeep n (gName i) := fun v σ H Q Q' k q => k _ _ q (by rw [List.drop_set_of_lt h]) (by rw [List.length_set])
noncomputable def PTs (X : Cx) (ifs : List Expr) (t : TT) : Prop :=
  ∀ (pins : List (Addr × Obj)) (s : Shared) (σ : St) (H : Hp) (Q : Bool → Hp → Prop), Inv X pins σ H s → t σ H Q →
    wpAny (model X.prog X.w) X.A (forIn ifs true fun c r => if r = true then do let ok ← isTrue c X.env (eval c X.env); pure (ForInStep.yield ok) else pure (ForInStep.yield r)) (TP X pins σ Q) X.xe s
noncomputable def tYes : TT := fun _ H Q => Q true H
theorem pts_nil {X : Cx} : PTs X [] tYes := fun _ _ _ H _ I h => wpAny_tests_nil ⟨H, I, h⟩
theorem pts_one {X : Cx} {c : Expr} {t : TT} (h : PT X c t) : PTs X [c] t := fun pins s σ H Q I q => wpAny_tests_one (h pins s σ H Q I q)
noncomputable def tComp (n : Nat) (fx : List Nat) (wi : TI) (g : TG) (tc : TT) (te : TE) : TE := fun σ H Q => wi σ H fun J H1 => ∀ D, H1 D = none →
  ∃ W : Nat → Nat → List V → Hp → Prop, (∃ m, W 0 m [] (upd H1 D (.lst []))) ∧ ∀ i m ys H2, W i m ys H2 → (J.stop i H2 ∧ Q (.ref D) H2) ∨
    (J.go i H2 ∧ ∃ N : List V → Hp → Prop, (∀ ys' H', N ys' H' → ∃ m', m' < m ∧ W (i + 1) m' ys' H') ∧ ∀ x H3, J.yld i H2 x H3 → g x (compSt n fx σ) H3 fun σ4 H4 => tc σ4 H4 fun b H5 =>
      if b = true then te σ4 H5 fun v H6 => H6 D = some (.lst ys) ∧ ys.length < sizeLine ∧ N (ys ++ [v]) (upd H6 D (.lst (ys ++ [v]))) else N ys H5)
section
variable {X : Cx} {pins : List (Addr × Obj)} {σ : St} {H : Hp} {s : Shared}
theorem compSt_len {n : Nat} {fx : List Nat} : (compSt n fx σ).length = n + fx.length := by unfold compSt; simp
theorem compSt_get {n : Nat} {fx : List Nat} {i : Nat} {v : V} (e : (compSt n fx σ)[i]? = some (some v)) : ∃ k j, i = n + k ∧ fx[k]? = some j ∧ σ[j]? = some (some v) := by
  unfold compSt at e
  by_cases h : i < n
  · rw [List.getElem?_append_left (by simpa using h), List.getElem?_replicate, if_pos h] at e
    cases e
  · rw [List.getElem?_append_right (by simpa using h), List.length_replicate, List.getElem?_map] at e
    cases q : fx[i - n]? with
    | none => rw [q] at e; cases e
    | some j =>
      rw [q] at e
      have e' : (σ[j]?).join = some v := Option.some.inj e
      refine ⟨i - n, j, by omega, q, ?_⟩
      cases z : σ[j]? with
      | none => rw [z] at e'; cases e'
      | some o => rw [z] at e'; have : o = some v := e'; rw [this]
theorem comp_inv {osc : Scope} {ON N : List Str} {n : Nat} {fx : List Nat} {sc : Scope} {cl : List (Str × Addr)} {fp : List Addr} {h4 : Heap} {tk : Nat}
    (ho : X.env.scope = osc) (hN : X.N = ON) (S : CompScope osc ON N n fx sc)
    (hcl1 : ∀ p ∈ cl, X.env.cells.lookup p.1 = some p.2) (hcl2 : ∀ y ∈ sc.names, y.2 = .free → ∃ c, (y.1, c) ∈ cl)
    (I : Inv X pins σ H s) (hf : ∀ b ∈ fp, FpOk X pins H b) (hfo : ∀ b ∈ fp, b < s.heap.objs.size)
    (hns : ∃ m, h4.Ns s.heap.objs.size m) (old : ∀ b o, s.heap.get? b = some o → h4.get? b = some o) :
    Inv (cxComp X N sc cl s.heap.objs.size fp s H) [] (compSt n fx σ) H { s with heap := h4, toks := tk } := by
  have look : ∀ {x : Str} {c : Addr}, cl.lookup x = some c → X.env.cells.lookup x = some c := fun {x c} e => hcl1 (x, c) (PySem.mem_of_lookup e)
  have ok : (cxComp X N sc cl s.heap.objs.size fp s H).Ok := by
    refine ⟨I.ok.mod, S.kind, I.ok.glob, I.ok.blt, Nat.le_refl _, fun x y c h1 h2 => I.ok.inj x y c (look h1) (look h2), fun x hx => ?_, fun x c z => (by cases z), I.ok.hd, I.ok.frames, .inl rfl, fun b hb => ⟨Nat.ne_of_lt (hfo b hb), fun x c e => (hf b hb).2.2.2.2.1 x c (look e)⟩,
      I.bs, Nat.le_trans I.ok.bsz I.sz, fun b o e hb => ?_, fun b hb z => ?_, I.stack, I.stkFree⟩
    · have hx' : ∃ k', (k' = NameKind.cell ∨ k' = NameKind.free) ∧ (sc.names.map fun (n, k) => if (k == NameKind.free && X.env.scope.kind == .function && X.env.kindOf n == some .cell) then (n, NameKind.cell) else (n, k)).lookup x = some k' := by
        rcases hx with hx | hx
        · exact ⟨_, .inl rfl, hx⟩
        · exact ⟨_, .inr rfl, hx⟩
      obtain ⟨k', hk, e⟩ := hx'
      obtain ⟨k, hm, z⟩ := relabel_cases e
      have kf : k = .free := by
        rcases z with z | z
        · subst z
          rcases hk with q | q
          · exact absurd q (S.noc _ hm)
          · exact q
        · exact z
      subst kf
      obtain ⟨c, hc⟩ := hcl2 _ hm rfl
      exact mem_look hc
    · rcases (hf b hb).2.2.2.1 with z | z
      · exact I.ok.noex b o e z
      · exact absurd (Nat.lt_of_lt_of_le (Heap.lt_size (I.ok.bs b o e).1) z) (Nat.lt_irrefl _)
    · rcases List.mem_cons.mp (I.stkSub b z) with q | q
      · exact (hf b hb).2.1 q
      · exact (hf b hb).2.2.1 q
  obtain ⟨m, hns⟩ := hns
  refine ⟨ok, rfl, I.bare, Un.kept old, ⟨m, hns, fun i x v e1 e2 e3 => ?_⟩, fun x c e => ?_, I.hok.fresh (Nat.le_refl _), fun x c e => I.freeC x c (look e), fun p hp => absurd (show p ∈ ([] : List (Addr × Obj)) from hp) (by simp), I.hok.kept old, ?_⟩
  · obtain ⟨k, j, rfl, hj, hv⟩ := compSt_get e2
    obtain ⟨x', j', a1, a2, a3, a4⟩ := S.frn k (List.getElem?_eq_some_iff.mp hj).1
    have ex : x' = x := Option.some.inj (a1.symm.trans e1)
    have ej : j' = j := Option.some.inj (a2.symm.trans hj)
    subst ex; subst ej
    obtain ⟨m', _, hl⟩ := I.loc
    have hk : X.env.scope.names.lookup x' = some .cell ∨ X.env.scope.names.lookup x' = some .free := by rw [ho]; exact S.fre _ (PySem.mem_of_lookup a4) rfl
    have vis : Vis X.env.scope x' := by rcases hk with z | z; exact .inr (.inl z); exact .inr (.inr z)
    obtain ⟨u, r, q⟩ := hl j' x' v (by rw [hN]; exact a3) hv vis
    rcases q with ⟨z, _⟩ | ⟨_, c, ec, ic⟩
    · have z' : X.env.scope.names.lookup x' = some .local := z
      rcases hk with q | q <;> (rw [q] at z'; cases z')
    · refine ⟨u, r, .inr ⟨relabel_free a4, c, ?_, ic.keeps old⟩⟩
      obtain ⟨c0, hc0⟩ := hcl2 _ (PySem.mem_of_lookup a4) rfl
      obtain ⟨c1, hc1⟩ := mem_look hc0
      have := look hc1
      rw [ec] at this
      cases this
      exact hc1
  · obtain ⟨v, q⟩ := I.cell x c (look e)
    exact ⟨v, q.keeps old⟩
  · show _ = N.length
    rw [compSt_len, S.len]
theorem comp_core {osc : Scope} {ON N : List Str} {n : Nat} {fx : List Nat} {sc : Scope} {cl : List (Str × Addr)} {elt tg iter : Expr} {ifs : List Expr} {pos : Pos} {wi : TI} {g : TG} {tc : TT} {te : TE} {Q : VK} {RR : Value → Addr → Result → Shared → Prop}
    (hcalm : X.calm = true) (ho : X.env.scope = osc) (hN : X.N = ON) (S : CompScope osc ON N n fx sc)
    (hcl1 : ∀ p ∈ cl, X.env.cells.lookup p.1 = some p.2) (hcl2 : ∀ y ∈ sc.names, y.2 = .free → ∃ c, (y.1, c) ∈ cl)
    (hi : PI X tg iter wi) (gk : GKeep n g) (hb : ∀ cl C fp s H, PG (cxComp X N sc cl C fp s H) tg g ∧ PTs (cxComp X N sc cl C fp s H) ifs tc ∧ PE (cxComp X N sc cl C fp s H) elt te)
    (I : Inv X pins σ H s) (h : tComp n fx wi g tc te σ H Q)
    (hRR : ∀ D C H' s', Inv X pins σ H' s' → (∃ m, s'.heap.Ns C m) → FpOk X pins H' C → Q (.ref D) H' → RR (.ref D) C (.ok .next) s') :
    wpAny (model X.prog X.w) X.A (eval iter X.env) (fun x s₁ => wpAny (model X.prog X.w) X.A (pyIter x) (fun it s₂ => wpAny (model X.prog X.w) X.A (newList []) (fun acc s₃ =>
      wpAny (model X.prog X.w) X.A (newFunctionEnv sc X.env.globals cl [] X.env.qual none .none (some X.env)) (fun cenv s₄ =>
        codeAny (model X.prog X.w) X.A (.compStart (.ListComp elt [⟨tg, iter, ifs, 0⟩] sc pos) 0 it acc { cenv with scope := relabel sc X.env }) (RR acc cenv.locals) s₄) X.xe s₃) X.xe s₂) X.xe s₁) X.xe s := by
  refine thn (hi pins s σ H _ I h) fun v s1 h1 => thn h1 fun itv s2 h2 => ?_
  obtain ⟨it, fp, tn, J, H2, e2, I2, T, st2, f2, hW⟩ := h2
  subst e2
  obtain ⟨W, ⟨m0, w0⟩, hturn⟩ := hW s2.heap.objs.size I2.fresh
  refine wpAny_newObj_type ?_
  have I3 : Inv X pins σ (upd H2 s2.heap.objs.size (.lst [])) { s2 with heap := s2.heap.push { cls := .type "list", data := .seq ([] : List Value).toArray } } := I2.lnew (t' := s2.toks) (its := []) .nil (Nat.zero_le _)
  have f3 : ∀ b ∈ fp, FpOk X pins (upd H2 s2.heap.objs.size (.lst [])) b ∧ b < s2.heap.objs.size := fun b hb => by
    obtain ⟨o, e, _⟩ := T.obj _ _ st2 b hb
    have l := Heap.lt_size e
    obtain ⟨a1, a2⟩ := f2 b hb
    exact ⟨⟨by rw [upd_ne (Nat.ne_of_lt l)]; exact a1, a2⟩, l⟩
  have sz : ({ s2 with heap := s2.heap.push { cls := .type "list", data := .seq ([] : List Value).toArray } } : Shared).heap.objs.size = s2.heap.objs.size + 1 := Heap.size_push ..
  generalize hs3 : ({ s2 with heap := s2.heap.push { cls := .type "list", data := .seq ([] : List Value).toArray } } : Shared) = s3 at I3 sz ⊢
  generalize hH3 : upd H2 s2.heap.objs.size (.lst []) = H3 at I3 f3 w0
  have old3 : ∀ b o, s2.heap.get? b = some o → s3.heap.get? b = some o := fun b o e => by rw [← hs3]; exact Heap.get?_push_of_some _ e
  refine wpAny_newFunctionEnv (fun y hy => S.noc y hy) (fun y hy => nomatch hy) (fun h4 hns hsb => ?_) S.kind
  have old4 : ∀ b o, s3.heap.get? b = some o → h4.get? b = some o := fun b o e => hsb.extBut b o (Nat.ne_of_lt (Heap.lt_size e)) (Heap.get?_push_of_some _ e)
  have I4 := comp_inv (tk := s3.toks + ([] : List (Str × Value)).length) ho hN S hcl1 hcl2 I3 (fun b hb => (f3 b hb).1) (fun b hb => by rw [sz]; exact Nat.lt_succ_of_lt (f3 b hb).2) ⟨_, hns⟩ old4
  have hb' := hb cl s3.heap.objs.size fp s3 H3
  generalize hY : cxComp X N sc cl s3.heap.objs.size fp s3 H3 = Y at I4 hb'
  have stat : ∀ {H' : Hp}, (∀ b ∈ fp, H' b = none) → ∀ b ∈ fp, FpOk Y [] H' b := fun {H'} hn b hb => by
    subst hY
    obtain ⟨⟨a1, a2, a3, a4, a5, a6⟩, l⟩ := f3 b hb
    refine ⟨hn b hb, Nat.ne_of_lt (show b < s3.heap.objs.size by rw [sz]; exact Nat.lt_succ_of_lt l), fun z => ?_, .inl hb, fun x c e => a5 x c (hcl1 (x, c) (PySem.mem_of_lookup e)), fun p hp => absurd (show p ∈ ([] : List (Addr × Obj)) from hp) (by simp)⟩
    rcases List.mem_cons.mp (I3.stkSub b z) with q | q
    · exact a2 q
    · exact a3 q
  have fin : ∀ {σ6 : St} {H6 : Hp} {s6 : Shared}, Inv Y [] σ6 H6 s6 → Q (.ref s2.heap.objs.size) H6 → RR (.ref s2.heap.objs.size) s3.heap.objs.size (.ok .next) s6 := fun {σ6 H6 s6} I6 q => by
    subst hY
    refine hRR _ _ H6 s6 ?_ (let ⟨m, hm, _⟩ := I6.loc; ⟨m, hm⟩) (I3.fpOk (Nat.le_refl _) I6.free) q
    obtain ⟨hh, gg, dd, tt, os'⟩ := s6
    obtain rfl : os' = s3.os := I6.os
    exact I3.call (h' := hh) (g' := gg) (d' := dd) (t' := tt) (ch := fp) I6.base I6.hok I6.bare fun b hb => by
      obtain ⟨⟨a1, a2, a3, a4, a5, a6⟩, l⟩ := f3 b hb
      exact ⟨a4, a2, a5, a6⟩
  have pY : Y.prog = X.prog := by subst hY; rfl
  have wY : Y.w = X.w := by subst hY; rfl
  have kY : Y.K = X.K := by subst hY; rfl
  have aY : Y.A = X.A := by subst hY; rfl
  have cY : Y.calm = true := by subst hY; exact hcalm
  have eY : Y.env = compEnvC sc cl s3.heap.objs.size X.env := by subst hY; rfl
  have xY : Y.xe = fun _ _ => False := by subst hY; rfl
  have T' : Turn Y.prog Y.w Y.K tg J fp it tn := by rw [pY, wY, kY]; exact T
  have tn4 : tn 0 h4 := T.keep _ _ _ st2 fun b hb o e => old4 b o (old3 b o e)
  have loop : codeAny (model X.prog X.w) X.A (.compLoop (.ListComp elt [⟨tg, iter, ifs, 0⟩] sc pos) 0 (.ref it) (.ref s2.heap.objs.size) (compEnvC sc cl s3.heap.objs.size X.env)) (RR (.ref s2.heap.objs.size) s3.heap.objs.size)
      { s3 with heap := h4, toks := s3.toks + ([] : List (Str × Value)).length } := by
    rw [← pY, ← wY, ← aY, ← eY]
    refine comp_turns (fun k s' => ∃ i ys σ' H', Inv Y [] σ' H' s' ∧ σ'.drop n = (compSt n fx σ).drop n ∧ σ'.length = (compSt n fx σ).length ∧ tn i s'.heap ∧ (∀ b ∈ fp, H' b = none) ∧ W i k ys H') ?_ m0 ⟨0, [], _, H3, I4, rfl, rfl, tn4, fun b hb => (f3 b hb).1.1, w0⟩
    rintro k s5 ⟨i, ys, σ5, H5, I5, ed, el, st5, fr5, w5⟩
    have I5 : Inv Y [] (compSt n fx σ) H5 s5 := I5.weak el.symm fun j v e => by
      obtain ⟨k', j', rfl, _, _⟩ := compSt_get e
      have q := congrArg (fun l => l[k']?) ed
      simp only [List.getElem?_drop] at q
      rw [q]; exact e
    rcases hturn i k ys H5 w5 with ⟨stop, q⟩ | ⟨go, N', hN', step⟩
    · refine wpAny_mono (T'.done Y rfl rfl rfl cY i [] s5 _ H5 (fun _ _ => False) I5 (stat fr5) st5 stop) (fun r s6 ⟨hr, I6⟩ => ?_) fun _ _ z => z
      subst hr
      exact fin I6 q
    · rw [← xY]
      refine thn (T'.item Y rfl rfl rfl cY i [] s5 _ H5 Y.xe I5 (stat fr5) st5 go) fun r s6 ⟨u, hr, h6⟩ => ?_
      subst hr
      show wpAny _ _ _ _ _ _
      refine thn h6 fun _ s7 ⟨x, H7, I7, r7, y7, st7, fr7⟩ => ?_
      have I7' := I7.pinned (stat fr7) (T.obj _ _ st7)
      refine thn (hb'.1 _ s7 _ H7 x u _ I7' r7 (gk _ _ _ _ _ (fun σ' H' q e l => (⟨q, e, l⟩ : _ ∧ _ ∧ _)) (step x H7 y7))) fun _ s8 ⟨σ8, H8, I8, q8, ed8, el8⟩ => ?_
      refine thn (hb'.2.1 _ s8 σ8 H8 _ I8 q8) fun ok s9 ⟨H9, I9, q9⟩ => ?_
      have again : ∀ {H10 : Hp} {s10 : Shared} {zs : List V}, Inv Y ([] ++ pinsAt fp s7.heap) σ8 H10 s10 → N' zs H10 →
          ∃ m, m < k ∧ ∃ i ys σ' H', Inv Y [] σ' H' s10 ∧ σ'.drop n = (compSt n fx σ).drop n ∧ σ'.length = (compSt n fx σ).length ∧ tn i s10.heap ∧ (∀ b ∈ fp, H' b = none) ∧ W i m ys H' := fun {H10 s10 zs} I10 n10 => by
        obtain ⟨m', hm, w10⟩ := hN' _ _ n10
        refine ⟨m', hm, i + 1, zs, σ8, H10, I10.unpinned, ed8, el8, T.keep _ _ _ st7 fun b hb o e => (I10.pin (b, o) (List.mem_append_right _ (List.mem_append_right _ (mem_pinsAt hb e)))).1, fun b hb => ?_, w10⟩
        obtain ⟨o, e, d⟩ := T.obj _ _ st7 b hb
        exact (I10.pin (b, o) (List.mem_append_right _ (List.mem_append_right _ (mem_pinsAt hb e)))).2.1
      cases ok with
      | false => exact again I9 q9
      | true =>
        rw [if_pos rfl]
        refine thn (hb'.2.2 _ s9 σ8 H9 _ I9 q9) fun y s10 ⟨v', H10, I10, r10, hD10, hl10, n10⟩ => ?_
        refine thn (mt_append (X := Y) _ s10 σ8 H10 (.ref s2.heap.objs.size) [v'] (.ref s2.heap.objs.size) [y] (fun _ H' => H' = upd H10 s2.heap.objs.size (.lst (ys ++ [v']))) I10 rfl (.cons r10 .nil) ⟨_, ys, v', rfl, rfl, hD10, hl10, rfl⟩) fun _ s11 ⟨_, H11, I11, _, e11⟩ => ?_
        subst e11
        exact again I11 n10
  exact codeAny_compStart_list loop (T.self X.A 0 _ _ _ tn4 loop)
theorem pe_comp {osc : Scope} {ON N : List Str} {n : Nat} {fx : List Nat} {sc : Scope} {elt tg iter : Expr} {ifs : List Expr} {pos : Pos} {wi : TI} {g : TG} {tc : TT} {te : TE}
    (hcalm : X.calm = true) (ho : X.env.scope = osc) (hN : X.N = ON) (S : compOk osc ON N n fx sc = true) (hi : PI X tg iter wi) (gk : GKeep n g)
    (hb : ∀ cl C fp s H, PG (cxComp X N sc cl C fp s H) tg g ∧ PTs (cxComp X N sc cl C fp s H) ifs tc ∧ PE (cxComp X N sc cl C fp s H) elt te)
    (hs : ∀ x, foldedSetIterable iter X.env x = pure x := by intro _; rfl) : PE X (.ListComp elt [⟨tg, iter, ifs, 0⟩] sc pos) (tComp n fx wi g tc te) := by
  intro pins s σ H Q I h
  have S := CompScope.of S
  obtain ⟨cl, hcl, hcl1, hcl2⟩ := closure_is sc X.env fun y hy hf => I.ok.has y.1 (by show X.env.scope.names.lookup y.1 = some .cell ∨ X.env.scope.names.lookup y.1 = some .free; rw [ho]; exact S.fre y hy hf)
  rw [eval_ListComp]
  refine wpAny_comprehension_free (use := none) rfl hs hcl S.kind S.own (comp_core (RR := fun acc C => compPost (model X.prog X.w) X.A X.xe none (EP X pins σ Q) acc C) hcalm ho hN S hcl1 hcl2 hi gk hb I h ?_)
  intro D C H' s' I' hm hf q
  obtain ⟨m, hm⟩ := hm
  obtain ⟨f0, f1, f2, f3, f4, f5⟩ := hf
  exact ⟨m, hm, fun h' hsb => ⟨.ref D, H', I'.turned (t' := s'.toks) (fun b o hb e => (hsb.2 b hb).trans e) f0 f1 f3 f4 f5, rfl, q⟩⟩
theorem ps_comp {i : Nat} {x : Str} {px : Pos} {spos : Pos} {osc : Scope} {ON N : List Str} {n : Nat} {fx : List Nat} {sc : Scope} {elt tg iter : Expr} {ifs : List Expr} {pos : Pos} {wi : TI} {g : TG} {tc : TT} {te : TE}
    (hnd : X.N.Nodup) (hx : X.N[i]? = some x) (hl : X.env.scope.names.lookup x = some .local) (hsw : swapsWith (.ListComp elt [⟨tg, iter, ifs, 0⟩] sc pos) (some (.Name x px)) spos.line X.env = pure true)
    (hcalm : X.calm = true) (ho : X.env.scope = osc) (hN : X.N = ON) (S : compOk osc ON N n fx sc = true) (hi : PI X tg iter wi) (gk : GKeep n g)
    (hb : ∀ cl C fp s H, PG (cxComp X N sc cl C fp s H) tg g ∧ PTs (cxComp X N sc cl C fp s H) ifs tc ∧ PE (cxComp X N sc cl C fp s H) elt te)
    (hs : ∀ x, foldedSetIterable iter X.env x = pure x := by intro _; rfl) : PS X (.Assign [.Name x px] (.ListComp elt [⟨tg, iter, ifs, 0⟩] sc pos) spos) (tAsg (tComp n fx wi g tc te) (gName i)) := by
  intro pins s σ H D I h
  have S := CompScope.of S
  obtain ⟨cl, hcl, hcl1, hcl2⟩ := closure_is sc X.env fun y hy hf => I.ok.has y.1 (by show X.env.scope.names.lookup y.1 = some .cell ∨ X.env.scope.names.lookup y.1 = some .free; rw [ho]; exact S.fre y hy hf)
  rw [exec_Assign_Name_used _ _ _ _ hsw]
  refine wpAny_bind (wpAny_standAt (wpAny_bind ?_))
  show wpAny _ X.A (do let _ ← comprehension (.ListComp elt [⟨tg, iter, ifs, 0⟩] sc pos) sc X.env _ (newList []) false (eval iter X.env) (some (assign (.Name x px) X.env))) _ _ s
  refine wpAny_bind (thn (wpAny_comprehension_free (use := some (assign (.Name x px) X.env)) (Q := fun _ s' => SP X pins D .next s') rfl hs hcl S.kind S.own
    (comp_core (RR := fun acc C => compPost (model X.prog X.w) X.A X.xe (some (assign (.Name x px) X.env)) (fun _ s' => SP X pins D .next s') acc C) hcalm ho hN S hcl1 hcl2 hi gk hb I h ?_)) fun _ s' q => wpAny_pure (wpAny_pure q))
  intro D' C H' s' I' hm hf q
  obtain ⟨m, hm⟩ := hm
  obtain ⟨f0, f1, f2, f3, f4, f5⟩ := hf
  show wpAny _ X.A (assign (.Name x px) X.env (.ref D')) _ _ _
  refine wpAny_assign_Name (store_ok2 I' hnd hx (.inl hl) (v := .ref D') rfl (fun s2 I2 hch => ?_) (.inr hl))
  obtain ⟨a, hsb, ha⟩ := hch
  have hCa : C ≠ a := by
    rcases ha with z | z
    · rw [z]; exact f1
    · exact fun e => f4 _ _ z e.symm
  exact ⟨m, hm.sameBut hsb hCa, fun h' hsb' => ⟨_, H', I2.turned (t' := s2.toks) (fun b o hb e => (hsb'.2 b hb).trans e) f0 f1 f3 f4 f5, q⟩⟩
end
section
variable {K : PySem.W.Frag} {n : Nat} {fx : List Nat} {g : TG} {tc : TT} {te : TE} {σ : St} {H1 : Hp} {D : Addr} {Q : Hp → Prop}
theorem comp_range {lo : Int} {k : Nat} (Pv : Nat → List V → Hp → Prop) (h0 : Pv 0 [] (upd H1 D (.lst [])))
    (hs : ∀ i ys H, i < k → Pv i ys H → g (.int (lo + i)) (compSt n fx σ) H fun σ4 H4 => tc σ4 H4 fun b H5 => if b = true then te σ4 H5 fun v H6 => H6 D = some (.lst ys) ∧ ys.length < sizeLine ∧ Pv (i + 1) (ys ++ [v]) (upd H6 D (.lst (ys ++ [v]))) else Pv (i + 1) ys H5)
    (hd : ∀ ys H, Pv k ys H → Q H) :
    ∃ W : Nat → Nat → List V → Hp → Prop, (∃ m, W 0 m [] (upd H1 D (.lst []))) ∧ ∀ i m ys H2, W i m ys H2 → ((Itr lo k).stop i H2 ∧ Q H2) ∨
      ((Itr lo k).go i H2 ∧ ∃ N : List V → Hp → Prop, (∀ ys' H', N ys' H' → ∃ m', m' < m ∧ W (i + 1) m' ys' H') ∧ ∀ x H3, (Itr lo k).yld i H2 x H3 → g x (compSt n fx σ) H3 fun σ4 H4 => tc σ4 H4 fun b H5 =>
        if b = true then te σ4 H5 fun v H6 => H6 D = some (.lst ys) ∧ ys.length < sizeLine ∧ N (ys ++ [v]) (upd H6 D (.lst (ys ++ [v]))) else N ys H5) := by
  refine ⟨fun i m ys H => m = k - i ∧ i ≤ k ∧ Pv i ys H, ⟨k, by simp, Nat.zero_le _, h0⟩, ?_⟩
  rintro i m ys H ⟨rfl, hi, p⟩
  by_cases hlt : i < k
  · refine .inr ⟨hlt, Pv (i + 1), fun ys' H' p' => ⟨k - (i + 1), by omega, rfl, hlt, p'⟩, fun x H' y => ?_⟩
    obtain ⟨e, y⟩ := y
    subst e; subst y
    exact hs i ys _ hlt p
  · have e : i = k := by omega
    subst e
    exact .inl ⟨Nat.le_refl _, hd ys H p⟩
theorem comp_list {a : Addr} {xs : List V} (Pv : Nat → List V → Hp → Prop) (h0 : Pv 0 [] (upd H1 D (.lst []))) (hl : ∀ i ys H, i ≤ xs.length → Pv i ys H → SqL K H a xs)
    (hs : ∀ i x ys H, xs[i]? = some x → Pv i ys H → g x (compSt n fx σ) H fun σ4 H4 => tc σ4 H4 fun b H5 => if b = true then te σ4 H5 fun v H6 => H6 D = some (.lst ys) ∧ ys.length < sizeLine ∧ Pv (i + 1) (ys ++ [v]) (upd H6 D (.lst (ys ++ [v]))) else Pv (i + 1) ys H5)
    (hd : ∀ ys H, Pv xs.length ys H → Q H) :
    ∃ W : Nat → Nat → List V → Hp → Prop, (∃ m, W 0 m [] (upd H1 D (.lst []))) ∧ ∀ i m ys H2, W i m ys H2 → ((Itl K a).stop i H2 ∧ Q H2) ∨
      ((Itl K a).go i H2 ∧ ∃ N : List V → Hp → Prop, (∀ ys' H', N ys' H' → ∃ m', m' < m ∧ W (i + 1) m' ys' H') ∧ ∀ x H3, (Itl K a).yld i H2 x H3 → g x (compSt n fx σ) H3 fun σ4 H4 => tc σ4 H4 fun b H5 =>
        if b = true then te σ4 H5 fun v H6 => H6 D = some (.lst ys) ∧ ys.length < sizeLine ∧ N (ys ++ [v]) (upd H6 D (.lst (ys ++ [v]))) else N ys H5) := by
  refine ⟨fun i m ys H => m = xs.length - i ∧ i ≤ xs.length ∧ Pv i ys H, ⟨xs.length, by simp, Nat.zero_le _, h0⟩, ?_⟩
  rintro i m ys H ⟨rfl, hi, p⟩
  have q := hl i ys H hi p
  by_cases hlt : i < xs.length
  · refine .inr ⟨⟨xs, xs[i], q, by simp [hlt]⟩, Pv (i + 1), fun ys' H' p' => ⟨xs.length - (i + 1), by omega, rfl, hlt, p'⟩, fun x H' y => ?_⟩
    obtain ⟨e, y⟩ := y
    subst e
    exact hs i x ys _ (y xs q) p
  · have e : i = xs.length := by omega
    subst e
    exact .inl ⟨⟨xs, q, Nat.le_refl _⟩, hd ys H p⟩
end
end L2
set_option Elab.async false
set_option linter.all false
set_option maxRecDepth 100000
set_option maxHeartbeats 4000000
namespace L2
open PySem PySem.Spec PyProof.Rows
noncomputable def kindV (K : PySem.W.Frag) (H : Hp) (x : V) (k : String) : Prop := match x with
  | .non => k = "NoneType"
  | .bl _ => k = "bool"
  | .int _ => k = "int"
  | .str _ => k = "str"
  | .ref p => (k = "list" ∧ ∃ xs, SqL K H p xs) ∨ (k = "tuple" ∧ ∃ xs, SqT K H p xs) ∨ (k = "dict" ∧ ∃ kvs, Rd H p (.dK kvs))
  | _ => False
noncomputable def subB (k T : String) : Bool := k == T || (k == "bool" && T == "int")
noncomputable def rIsi (K : PySem.W.Frag) : List V → Hp → VK → Prop := fun xs H Q => ∃ x k T, xs = [x, .ty T] ∧ kindV K H x k ∧ T ∈ ["int", "bool", "str", "list", "tuple", "dict"] ∧ Q (.bl (subB k T)) H
section
variable {X : Cx}
theorem call_isi : CallR X (.builtin "isinstance") (rIsi X.K) := by
  intro pins s σ H xs us Q I r h
  obtain ⟨x, k, T, rfl, hk, hT, q⟩ := h
  obtain ⟨u, v, rfl, rx, rt⟩ := vals2 r
  cases rt
  have f0 : ∀ b, b = subB k T → EP X pins σ Q (.bool b) s := fun b e => ⟨.bl b, H, I, rfl, by rw [e]; exact q⟩
  have f1 : ∀ b, b = subB k T → EP X pins σ Q (.bool b) { s with toks := s.toks + 1 } := fun b e => ⟨.bl b, H, I.tok _, rfl, by rw [e]; exact q⟩
  simp only [List.mem_cons, List.not_mem_nil, or_false] at hT
  cases x with
  | non =>
    cases rx; cases hk
    rcases hT with rfl | rfl | rfl | rfl | rfl | rfl
    · exact IsiPair.NoneType_int (f1 _ (by decide))
    · exact IsiPair.NoneType_bool (f1 _ (by decide))
    · exact IsiPair.NoneType_str (f1 _ (by decide))
    · exact IsiPair.NoneType_list (f1 _ (by decide))
    · exact IsiPair.NoneType_tuple (f1 _ (by decide))
    · exact IsiPair.NoneType_dict (f1 _ (by decide))
  | bl b =>
    cases rx; cases hk
    rcases hT with rfl | rfl | rfl | rfl | rfl | rfl
    · exact IsiPair.bool_int (f0 _ (by decide))
    · exact IsiPair.bool_bool (f0 _ (by decide))
    · exact IsiPair.bool_str (f1 _ (by decide))
    · exact IsiPair.bool_list (f1 _ (by decide))
    · exact IsiPair.bool_tuple (f1 _ (by decide))
    · exact IsiPair.bool_dict (f1 _ (by decide))
  | int i =>
    obtain ⟨t, rfl⟩ := rx; cases hk
    rcases hT with rfl | rfl | rfl | rfl | rfl | rfl
    · exact IsiPair.int_int (f0 _ (by decide))
    · exact IsiPair.int_bool (f1 _ (by decide))
    · exact IsiPair.int_str (f1 _ (by decide))
    · exact IsiPair.int_list (f1 _ (by decide))
    · exact IsiPair.int_tuple (f1 _ (by decide))
    · exact IsiPair.int_dict (f1 _ (by decide))
  | str z =>
    obtain ⟨t, rfl⟩ := rx; cases hk
    rcases hT with rfl | rfl | rfl | rfl | rfl | rfl
    · exact IsiPair.str_int (f1 _ (by decide))
    · exact IsiPair.str_bool (f1 _ (by decide))
    · exact IsiPair.str_str (f0 _ (by decide))
    · exact IsiPair.str_list (f1 _ (by decide))
    · exact IsiPair.str_tuple (f1 _ (by decide))
    · exact IsiPair.str_dict (f1 _ (by decide))
  | ref p =>
    cases rx
    rcases hk with ⟨rfl, xs, hq⟩ | ⟨rfl, xs, hq⟩ | ⟨rfl, kvs, hq⟩
    · obtain ⟨its, _, pl, _⟩ := I.list hq
      obtain ⟨o, ho, hc, _⟩ := pl.isList
      rcases hT with rfl | rfl | rfl | rfl | rfl | rfl
      · exact IsiPair.list_int ho hc (f1 _ (by decide))
      · exact IsiPair.list_bool ho hc (f1 _ (by decide))
      · exact IsiPair.list_str ho hc (f1 _ (by decide))
      · exact IsiPair.list_list ho hc (f0 _ (by decide))
      · exact IsiPair.list_tuple ho hc (f1 _ (by decide))
      · exact IsiPair.list_dict ho hc (f1 _ (by decide))
    · obtain ⟨its, _, pl, _⟩ := I.tuple hq
      obtain ⟨o, ho, hc, _⟩ := pl
      rcases hT with rfl | rfl | rfl | rfl | rfl | rfl
      · exact IsiPair.tuple_int ho hc (f1 _ (by decide))
      · exact IsiPair.tuple_bool ho hc (f1 _ (by decide))
      · exact IsiPair.tuple_str ho hc (f1 _ (by decide))
      · exact IsiPair.tuple_list ho hc (f1 _ (by decide))
      · exact IsiPair.tuple_tuple ho hc (f0 _ (by decide))
      · exact IsiPair.tuple_dict ho hc (f1 _ (by decide))
    · obtain ⟨_, _, _, _, o, _, _, ho, ex, _⟩ := hq.ok I.hok
      have hc : o.cls = .type "dict" := ex.1
      rcases hT with rfl | rfl | rfl | rfl | rfl | rfl
      · exact IsiPair.dict_int ho hc (f1 _ (by decide))
      · exact IsiPair.dict_bool ho hc (f1 _ (by decide))
      · exact IsiPair.dict_str ho hc (f1 _ (by decide))
      · exact IsiPair.dict_list ho hc (f1 _ (by decide))
      · exact IsiPair.dict_tuple ho hc (f1 _ (by decide))
      · exact IsiPair.dict_dict ho hc (f0 _ (by decide))
  | _ => exact False.elim hk
theorem vals_at {xs : List V} {us : List Value} (r : Vals xs us) {j : Nat} (h : j < us.toArray.size) : RelV (xs.getD j .non) (us.toArray[j]) := by
  have hl := r.length
  have h' : j < us.length := by simpa using h
  obtain ⟨u, e, ru⟩ := r.get (i := j) (x := xs.getD j .non) (by rw [List.getD_eq_getElem?_getD, List.getElem?_eq_getElem (by omega)]; rfl)
  have e2 : us.toArray[j] = u := by
    rw [List.getElem?_eq_getElem h'] at e
    have := Option.some.inj e
    simpa using this
  rw [e2]; exact ru
end
end L2
set_option Elab.async false
set_option linter.all false
set_option maxRecDepth 100000
set_option maxHeartbeats 4000000
namespace L2
open PySem PySem.Spec PyProof.Rows
end L2
set_option Elab.async false
set_option linter.all false
set_option maxRecDepth 100000
set_option maxHeartbeats 4000000
namespace L2
open PySem PySem.Spec PyProof.Rows
section
variable {X : Cx} {K : PySem.W.Frag}
theorem ix_listK (h : X.K = K) : IxR X (rIxL K) := by subst h; exact ix_list
theorem sl_listK (h : X.K = K) : SlR X (rSlL K) := by subst h; exact sl_list
theorem call_isiK (h : X.K = K) : CallR X (.builtin "isinstance") (rIsi K) := by subst h; exact call_isi
noncomputable def rLen (K : PySem.W.Frag) : List V → Hp → VK → Prop := fun xs H Q => ∃ x n, xs = [x] ∧ LenV K x H n ∧ Q (.int n) H
theorem call_lenK (h : X.K = K) : CallR X (.builtin "len") (rLen K) := by subst h; exact call_len
noncomputable def rListOf (K : PySem.W.Frag) : List V → Hp → VK → Prop := fun xs H Q => ∃ p ys, xs = [.ref p] ∧ (SqL K H p ys ∨ SqT K H p ys) ∧ ∀ l, H l = none → Q (.ref l) (upd H l (.lst ys))
theorem call_listK (h : X.K = K) : CallR X (.type "list") (rListOf K) := by subst h; exact call_list_of
theorem pi_listK {tg l : Expr} {tl : TE} (h : X.K = K) (hl : PE X l tl) : PI X tg l (iList K tl) := by subst h; exact pi_list hl
theorem pe_bmK {o e : Expr} {es : List Expr} {to : TE} {t : TA} {name : Str} {apos cpos : Pos} {T id : String} {r : V → List V → Hp → VK → Prop} (h : X.K = K) (pa : PlainAttrs T) (slot : Slot T name id) (hty : typeOf (.builtin id) = pure (.type "method_descriptor")) (hm : MtR X id r) (ho : PE X o to) (ha : PA X (e :: es) t)
    (hbase : attributeBase o name X.env (eval o X.env) = eval o X.env := by rfl)
    (hfew : ((backTo cpos (starEach (e :: es) X.env)).all (fun x => !x.1) && (backToKw cpos (keywordEach [] X.env)).all (fun x => x.1.isSome)
      && decide ((e :: es).length + ([] : List Keyword).length + (if ([] : List Keyword).isEmpty then 0 else 1) < 30)) = true := by rfl)
    (hline : (apos.endLine == cpos.line) = true := by rfl) (hs : starEach (e :: es) X.env = (false, eval e X.env) :: starEach es X.env := by rfl) (hplain : (backTo cpos (starEach es X.env)).any (·.1) = false := by rfl) :
    PE X (.Call (.Attribute o name apos) (e :: es) [] cpos) (tBM K T r to t) := by subst h; exact pe_bm pa slot hty hm ho ha hbase hfew hline hs hplain
end
end L2
set_option Elab.async false
set_option linter.all false
set_option maxRecDepth 100000
set_option maxHeartbeats 4000000
namespace L2
open PySem PySem.Spec PyProof.Rows
theorem strsAre_of {ns : List Str} : ∀ {us : List Value}, Vals (ns.map V.str) us → StrsAre us ns := by
  induction ns with
  | nil => intro us r; rw [List.map_nil] at r; cases r; exact .nil
  | cons n ns ih =>
    intro us r
    rw [List.map_cons] at r
    cases r with
    | cons r1 r2 =>
      obtain ⟨t, e⟩ := r1
      subst e
      exact .cons n t (ih r2)
noncomputable def rJoin (K : PySem.W.Frag) : V → List V → Hp → VK → Prop := fun x xs H Q => ∃ z D ys, x = .str z ∧ xs = [.ref D] ∧ SqL K H D (ys.map V.str) ∧ (ys.map (·.length)).sum + ys.length * z.length ≤ 16777216 ∧ Q (.str (Txt.join z ys)) H
section
variable {X : Cx} {K : PySem.W.Frag}
theorem mt_joinK (h : X.K = K) : MtR X "str.join" (rJoin K) := by
  subst h
  intro pins s σ H x xs v us Q I rx rs h
  obtain ⟨z, D, ys, rfl, rfl, hq, hz, q⟩ := h
  obtain ⟨t, rfl⟩ := rx
  obtain ⟨u, rfl, ru⟩ := vals1 rs
  cases ru
  obtain ⟨its, rv, pl, _⟩ := I.list hq
  exact join_list pl.isList (strsAre_of (by simpa using rv)) hz fun t' k => ⟨.str (Txt.join z ys), H, I.tok k, ⟨t', rfl⟩, q⟩
end
inductive Dt where
  | non | bl (b : Bool) | int (i : Int) | str (x : Str) | lst (xs : List Dt) | tup (xs : List Dt)
inductive Rep (K : PySem.W.Frag) (H : Hp) : V → Dt → Prop where
  | non : Rep K H .non .non
  | bl (b : Bool) : Rep K H (.bl b) (.bl b)
  | int (i : Int) : Rep K H (.int i) (.int i)
  | str (x : Str) : Rep K H (.str x) (.str x)
  | lst {p : Addr} {xs : List V} {ds : List Dt} (h : SqL K H p xs) (l : xs.length = ds.length) (r : ∀ (i : Nat) x d, xs[i]? = some x → ds[i]? = some d → Rep K H x d) : Rep K H (.ref p) (.lst ds)
  | tup {p : Addr} {xs : List V} {ds : List Dt} (h : SqT K H p xs) (l : xs.length = ds.length) (r : ∀ (i : Nat) x d, xs[i]? = some x → ds[i]? = some d → Rep K H x d) : Rep K H (.ref p) (.tup ds)
mutual
noncomputable def eqD : Dt → Dt → Bool
  | .non, .non => true
  | .bl a, .bl b => a == b
  | .bl a, .int b => (if a then 1 else 0) == b
  | .int a, .bl b => a == (if b then 1 else 0)
  | .int a, .int b => a == b
  | .str a, .str b => a == b
  | .lst xs, .lst ys => eqDs xs ys
  | .tup xs, .tup ys => eqDs xs ys
  | _, _ => false
noncomputable def eqDs : List Dt → List Dt → Bool
  | [], [] => true
  | x :: xs, y :: ys => eqD x y && eqDs xs ys
  | _, _ => false
end
mutual
noncomputable def depD : Dt → Nat
  | .lst xs => depDs xs + 1
  | .tup xs => depDs xs + 1
  | _ => 0
noncomputable def depDs : List Dt → Nat
  | [] => 0
  | x :: xs => max (depD x) (depDs xs)
end
theorem dep_mem {ds : List Dt} {d : Dt} (h : d ∈ ds) : depD d ≤ depDs ds := by
  induction ds with
  | nil => cases h
  | cons x xs ih =>
    rw [depDs]
    rcases List.mem_cons.mp h with rfl | h
    · omega
    · have := ih h; omega
theorem eqDs_len : ∀ {xs ys : List Dt}, xs.length ≠ ys.length → eqDs xs ys = false
  | [], [], h => absurd rfl h
  | [], _ :: _, _ => rfl
  | _ :: _, [], _ => rfl
  | x :: xs, y :: ys, h => by rw [eqDs, eqDs_len (fun z => h (by simp [z])), Bool.and_false]
theorem eqDs_all : ∀ {xs ys : List Dt}, xs.length = ys.length → eqDs xs ys = (List.range xs.length).all fun i => eqD (xs.getD i .non) (ys.getD i .non)
  | [], [], _ => rfl
  | [], _ :: _, h => by cases h
  | _ :: _, [], h => by cases h
  | x :: xs, y :: ys, h => by
    rw [eqDs, eqDs_all (by simpa using h), List.length_cons, List.range_succ_eq_map, List.all_cons, List.all_map]
    rfl
theorem eqD_refl : ∀ d : Dt, eqD d d = true := by
  intro d
  refine Dt.rec (motive_1 := fun d => eqD d d = true) (motive_2 := fun ds => eqDs ds ds = true) ?_ ?_ ?_ ?_ ?_ ?_ ?_ ?_ d
  · rfl
  · intro b; simp [eqD]
  · intro b; simp [eqD]
  · intro b; simp [eqD]
  · intro xs h; rw [eqD]; exact h
  · intro xs h; rw [eqD]; exact h
  · rfl
  · intro x xs h1 h2; rw [eqDs, h1, h2]; rfl
theorem eqD_eq : ∀ {d e : Dt}, d = e → eqD d e = true := fun h => by subst h; exact eqD_refl _
section
variable {X : Cx} {pins : List (Addr × Obj)} {σ : St} {H : Hp} {s : Shared}
theorem Inv.notBoth (I : Inv X pins σ H s) {p : Addr} {xs ys : List V} (h1 : SqL X.K H p xs) (h2 : SqT X.K H p ys) : False := by
  obtain ⟨_, _, pl, _⟩ := I.list h1
  obtain ⟨_, _, ⟨o, ho, hc, _⟩, _⟩ := I.tuple h2
  obtain ⟨o', n, ho', hc', _⟩ := pl
  rw [ho] at ho'; cases ho'
  rw [hc] at hc'
  exact absurd hc' (by decide)
theorem Rep.fun (I : Inv X pins σ H s) {x : V} {d : Dt} (r : Rep X.K H x d) : ∀ {e : Dt}, Rep X.K H x e → d = e := by
  induction r with
  | non => intro e q; cases q; rfl
  | bl b => intro e q; cases q; rfl
  | int i => intro e q; cases q; rfl
  | str z => intro e q; cases q; rfl
  | lst h l r ih =>
    intro e q
    cases q with
    | lst h' l' r' =>
      have ex := I.list_inj h h'
      subst ex
      congr 1
      refine List.ext_getElem? fun i => ?_
      rename_i xs ds ds'
      by_cases hi : i < ds.length
      · rw [List.getElem?_eq_getElem hi, List.getElem?_eq_getElem (by omega)]
        have hx : i < xs.length := by omega
        rw [ih i _ _ (List.getElem?_eq_getElem hx) (List.getElem?_eq_getElem hi) (r' i _ _ (List.getElem?_eq_getElem hx) (List.getElem?_eq_getElem (by omega)))]
      · rw [List.getElem?_eq_none (by omega), List.getElem?_eq_none (by omega)]
    | tup h' l' r' => exact (I.notBoth h h').elim
  | tup h l r ih =>
    intro e q
    cases q with
    | tup h' l' r' =>
      have ex := I.tuple_inj h h'
      subst ex
      congr 1
      refine List.ext_getElem? fun i => ?_
      rename_i xs ds ds'
      by_cases hi : i < ds.length
      · rw [List.getElem?_eq_getElem hi, List.getElem?_eq_getElem (by omega)]
        have hx : i < xs.length := by omega
        rw [ih i _ _ (List.getElem?_eq_getElem hx) (List.getElem?_eq_getElem hi) (r' i _ _ (List.getElem?_eq_getElem hx) (List.getElem?_eq_getElem (by omega)))]
      · rw [List.getElem?_eq_none (by omega), List.getElem?_eq_none (by omega)]
    | lst h' l' r' => exact (I.notBoth h' h).elim
open SeqAt in
theorem rc_D (I : Inv X pins σ H s) {x : V} {d : Dt} (r : Rep X.K H x d) : ∀ {A : Around} {e : Dt} {y : V} {u v : Value} (n : Nat), Rep X.K H y e → RelV x u → RelV y v → depD d ≤ n → A.units + n < cLine →
    EqAt A s u v (eqD d e) ∧ RcAt A s u v (eqD d e) ∧ RcNeAt A s u v (!eqD d e) := by
  induction r with
  | non =>
    intro A e y u v n q ru rv hd hu
    cases ru
    cases q with
    | non => cases rv; exact ⟨EqAt.same _, RcAt.none_none, RcNeAt.none_none⟩
    | bl b => cases rv; exact ⟨EqAt.none_bool b, RcAt.none_bool b, RcNeAt.none_bool b⟩
    | int b => obtain ⟨t, rfl⟩ := rv; exact ⟨EqAt.none_int b t, RcAt.none_int b t, RcNeAt.none_int b t⟩
    | str b => obtain ⟨t, rfl⟩ := rv; exact ⟨EqAt.none_str b t, RcAt.none_str b t, RcNeAt.none_str b t⟩
    | lst h l r => cases rv; obtain ⟨_, _, pl, _⟩ := I.list h; exact ⟨EqAt.none_list pl.isList (by omega), RcAt.none_list pl.isList (by omega), RcNeAt.none_list pl.isList (by omega)⟩
    | tup h l r => cases rv; obtain ⟨_, _, pl, _⟩ := I.tuple h; exact ⟨EqAt.none_tuple pl (by omega), RcAt.none_tuple pl (by omega), RcNeAt.none_tuple pl (by omega)⟩
  | bl a =>
    intro A e y u v n q ru rv hd hu
    cases ru
    cases q with
    | non => cases rv; exact ⟨EqAt.bool_none a, RcAt.bool_none a, RcNeAt.bool_none a⟩
    | bl b => cases rv; exact ⟨EqAt.bool_bool a b, RcAt.bool_bool a b, RcNeAt.bool_bool a b⟩
    | int b => obtain ⟨t, rfl⟩ := rv; exact ⟨EqAt.bool_int a b t, RcAt.bool_int a b t, RcNeAt.bool_int a b t⟩
    | str b => obtain ⟨t, rfl⟩ := rv; exact ⟨EqAt.bool_str a b t, RcAt.bool_str a b t, RcNeAt.bool_str a b t⟩
    | lst h l r => cases rv; obtain ⟨_, _, pl, _⟩ := I.list h; exact ⟨EqAt.bool_list a pl.isList (by omega), RcAt.bool_list a pl.isList (by omega), RcNeAt.bool_list a pl.isList (by omega)⟩
    | tup h l r => cases rv; obtain ⟨_, _, pl, _⟩ := I.tuple h; exact ⟨EqAt.bool_tuple a pl (by omega), RcAt.bool_tuple a pl (by omega), RcNeAt.bool_tuple a pl (by omega)⟩
  | int a =>
    intro A e y u v n q ru rv hd hu
    obtain ⟨t', rfl⟩ := ru
    cases q with
    | non => cases rv; exact ⟨EqAt.int_none a t', RcAt.int_none a t', RcNeAt.int_none a t'⟩
    | bl b => cases rv; exact ⟨EqAt.int_bool a t' b, RcAt.int_bool a t' b, RcNeAt.int_bool a t' b⟩
    | int b => obtain ⟨t, rfl⟩ := rv; exact ⟨EqAt.int_int a t' b t, RcAt.int_int a t' b t, RcNeAt.int_int a t' b t⟩
    | str b => obtain ⟨t, rfl⟩ := rv; exact ⟨EqAt.int_str a t' b t, RcAt.int_str a t' b t, RcNeAt.int_str a t' b t⟩
    | lst h l r => cases rv; obtain ⟨_, _, pl, _⟩ := I.list h; exact ⟨EqAt.int_list a t' pl.isList (by omega), RcAt.int_list a t' pl.isList (by omega), RcNeAt.int_list a t' pl.isList (by omega)⟩
    | tup h l r => cases rv; obtain ⟨_, _, pl, _⟩ := I.tuple h; exact ⟨EqAt.int_tuple a t' pl (by omega), RcAt.int_tuple a t' pl (by omega), RcNeAt.int_tuple a t' pl (by omega)⟩
  | str a =>
    intro A e y u v n q ru rv hd hu
    obtain ⟨t', rfl⟩ := ru
    cases q with
    | non => cases rv; exact ⟨EqAt.str_none a t', RcAt.str_none a t', RcNeAt.str_none a t'⟩
    | bl b => cases rv; exact ⟨EqAt.str_bool a t' b, RcAt.str_bool a t' b, RcNeAt.str_bool a t' b⟩
    | int b => obtain ⟨t, rfl⟩ := rv; exact ⟨EqAt.str_int a t' b t, RcAt.str_int a t' b t, RcNeAt.str_int a t' b t⟩
    | str b => obtain ⟨t, rfl⟩ := rv; exact ⟨EqAt.str_str a t' b t, RcAt.str_str a t' b t, RcNeAt.str_str a t' b t⟩
    | lst h l r => cases rv; obtain ⟨_, _, pl, _⟩ := I.list h; exact ⟨EqAt.str_list a t' pl.isList (by omega), RcAt.str_list a t' pl.isList (by omega), RcNeAt.str_list a t' pl.isList (by omega)⟩
    | tup h l r => cases rv; obtain ⟨_, _, pl, _⟩ := I.tuple h; exact ⟨EqAt.str_tuple a t' pl (by omega), RcAt.str_tuple a t' pl (by omega), RcNeAt.str_tuple a t' pl (by omega)⟩
  | @lst p xs ds h l r ih =>
    intro A e y u v n q ru rv hd hu
    cases ru
    obtain ⟨its, rw1, pl, _⟩ := I.list h
    rw [depD] at hd
    cases q with
    | non => cases rv; exact ⟨EqAt.list_none pl.isList (by omega), RcAt.list_none pl.isList (by omega), RcNeAt.list_none pl.isList (by omega)⟩
    | bl b => cases rv; exact ⟨EqAt.list_bool b pl.isList (by omega), RcAt.list_bool b pl.isList (by omega), RcNeAt.list_bool b pl.isList (by omega)⟩
    | int b => obtain ⟨t, rfl⟩ := rv; exact ⟨EqAt.list_int b t pl.isList (by omega), RcAt.list_int b t pl.isList (by omega), RcNeAt.list_int b t pl.isList (by omega)⟩
    | str b => obtain ⟨t, rfl⟩ := rv; exact ⟨EqAt.list_str b t pl.isList (by omega), RcAt.list_str b t pl.isList (by omega), RcNeAt.list_str b t pl.isList (by omega)⟩
    | tup h' l' r' =>
      cases rv; obtain ⟨_, _, pl', _⟩ := I.tuple h'
      exact ⟨EqAt.list_tuple pl.isList pl' (by omega), RcAt.list_tuple pl.isList pl' (by omega), RcNeAt.list_tuple pl.isList pl' (by omega)⟩
    | @lst p' xs' ds' h' l' r' =>
      cases rv
      obtain ⟨its', rw2, pl', _⟩ := I.list h'
      have n1 := rw1.length
      have n2 := rw2.length
      have core : RcAt A s (.ref p) (.ref p') (eqDs ds ds') ∧ RcNeAt A s (.ref p) (.ref p') (!eqDs ds ds') := by
        by_cases hl : ds.length = ds'.length
        · have e : eqDs ds ds' = (List.range its.toArray.size).all fun i => eqD (ds.getD i .non) (ds'.getD i .non) := by
            rw [eqDs_all hl, List.size_toArray, ← n1, l]
          rw [e]
          have hz : its.toArray.size = its'.toArray.size := by simp; omega
          have he : ∀ j (h1 : j < its.toArray.size) (h2 : j < its'.toArray.size), EqAt A.in1 s its.toArray[j] its'.toArray[j] (eqD (ds.getD j .non) (ds'.getD j .non)) := fun j h1 h2 => by
            have h1' : j < its.length := by simpa using h1
            have h2' : j < its'.length := by simpa using h2
            have hx : j < xs.length := by omega
            have hx' : j < xs'.length := by omega
            have hds : j < ds.length := by omega
            have hds' : j < ds'.length := by omega
            have g1 : xs[j]? = some (xs.getD j .non) := by rw [List.getD_eq_getElem?_getD, List.getElem?_eq_getElem hx]; rfl
            have g2 : ds[j]? = some (ds.getD j .non) := by rw [List.getD_eq_getElem?_getD, List.getElem?_eq_getElem hds]; rfl
            have g3 : xs'[j]? = some (xs'.getD j .non) := by rw [List.getD_eq_getElem?_getD, List.getElem?_eq_getElem hx']; rfl
            have g4 : ds'[j]? = some (ds'.getD j .non) := by rw [List.getD_eq_getElem?_getD, List.getElem?_eq_getElem hds']; rfl
            have hn : n ≠ 0 := by omega
            exact (ih j _ _ g1 g2 (n - 1) (r' j _ _ g3 g4) (vals_at rw1 h1) (vals_at rw2 h2) (by have := dep_mem (List.mem_of_getElem? g2); omega) (by show A.units + 1 + (n - 1) < cLine; omega)).1
          exact ⟨RcAt.lists pl.isList pl'.isList hz (by omega) he, RcNeAt.lists pl.isList pl'.isList hz (by omega) he⟩
        · rw [eqDs_len hl]
          have hz : (its.toArray.size != its'.toArray.size) = true := by simp; omega
          exact ⟨RcAt.lists_lengths pl.isList pl'.isList hz (by omega), RcNeAt.lists_lengths pl.isList pl'.isList hz (by omega)⟩
      rw [eqD]
      refine ⟨?_, core⟩
      by_cases hp : p = p'
      · subst hp
        have e : Dt.lst ds = Dt.lst ds' := (Rep.lst h l r).fun I (.lst h' l' r')
        have e2 : eqDs ds ds' = true := by have := eqD_eq e; rw [eqD] at this; exact this
        rw [e2]
        exact EqAt.same _
      · exact EqAt.of_refs hp core.1
  | @tup p xs ds h l r ih =>
    intro A e y u v n q ru rv hd hu
    cases ru
    obtain ⟨its, rw1, pl, _⟩ := I.tuple h
    rw [depD] at hd
    cases q with
    | non => cases rv; exact ⟨EqAt.tuple_none pl (by omega), RcAt.tuple_none pl (by omega), RcNeAt.tuple_none pl (by omega)⟩
    | bl b => cases rv; exact ⟨EqAt.tuple_bool b pl (by omega), RcAt.tuple_bool b pl (by omega), RcNeAt.tuple_bool b pl (by omega)⟩
    | int b => obtain ⟨t, rfl⟩ := rv; exact ⟨EqAt.tuple_int b t pl (by omega), RcAt.tuple_int b t pl (by omega), RcNeAt.tuple_int b t pl (by omega)⟩
    | str b => obtain ⟨t, rfl⟩ := rv; exact ⟨EqAt.tuple_str b t pl (by omega), RcAt.tuple_str b t pl (by omega), RcNeAt.tuple_str b t pl (by omega)⟩
    | lst h' l' r' =>
      cases rv; obtain ⟨_, _, pl', _⟩ := I.list h'
      exact ⟨EqAt.tuple_list pl pl'.isList (by omega), RcAt.tuple_list pl pl'.isList (by omega), RcNeAt.tuple_list pl pl'.isList (by omega)⟩
    | @tup p' xs' ds' h' l' r' =>
      cases rv
      obtain ⟨its', rw2, pl', _⟩ := I.tuple h'
      have n1 := rw1.length
      have n2 := rw2.length
      have core : RcAt A s (.ref p) (.ref p') (eqDs ds ds') ∧ RcNeAt A s (.ref p) (.ref p') (!eqDs ds ds') := by
        have e : eqDs ds ds' = ((List.range (min its.toArray.size its'.toArray.size)).all (fun i => eqD (ds.getD i .non) (ds'.getD i .non)) && its.toArray.size == its'.toArray.size) := by
          by_cases hl : ds.length = ds'.length
          · have z1 : its.toArray.size = ds.length := by simp; omega
            have z2 : its'.toArray.size = ds.length := by simp; omega
            rw [eqDs_all hl, z1, z2, Nat.min_self, beq_self_eq_true, Bool.and_true]
          · have z : (its.toArray.size == its'.toArray.size) = false := by rw [beq_eq_false_iff_ne]; simp; omega
            rw [eqDs_len hl, z, Bool.and_false]
        rw [e]
        have he : ∀ j (h1 : j < its.toArray.size) (h2 : j < its'.toArray.size), EqAt A.in1 s its.toArray[j] its'.toArray[j] (eqD (ds.getD j .non) (ds'.getD j .non)) := fun j h1 h2 => by
          have h1' : j < its.length := by simpa using h1
          have h2' : j < its'.length := by simpa using h2
          have hx : j < xs.length := by omega
          have hx' : j < xs'.length := by omega
          have hds : j < ds.length := by omega
          have hds' : j < ds'.length := by omega
          have g1 : xs[j]? = some (xs.getD j .non) := by rw [List.getD_eq_getElem?_getD, List.getElem?_eq_getElem hx]; rfl
          have g2 : ds[j]? = some (ds.getD j .non) := by rw [List.getD_eq_getElem?_getD, List.getElem?_eq_getElem hds]; rfl
          have g3 : xs'[j]? = some (xs'.getD j .non) := by rw [List.getD_eq_getElem?_getD, List.getElem?_eq_getElem hx']; rfl
          have g4 : ds'[j]? = some (ds'.getD j .non) := by rw [List.getD_eq_getElem?_getD, List.getElem?_eq_getElem hds']; rfl
          have hn : n ≠ 0 := by omega
          exact (ih j _ _ g1 g2 (n - 1) (r' j _ _ g3 g4) (vals_at rw1 h1) (vals_at rw2 h2) (by have := dep_mem (List.mem_of_getElem? g2); omega) (by show A.units + 1 + (n - 1) < cLine; omega)).1
        exact ⟨RcAt.tuples pl pl' (by omega) he, RcNeAt.tuples pl pl' (by omega) he⟩
      rw [eqD]
      refine ⟨?_, core⟩
      by_cases hp : p = p'
      · subst hp
        have e : Dt.tup ds = Dt.tup ds' := (Rep.tup h l r).fun I (.tup h' l' r')
        have e2 : eqDs ds ds' = true := by have := eqD_eq e; rw [eqD] at this; exact this
        rw [e2]
        exact EqAt.same _
      · exact EqAt.of_refs hp core.1
end
noncomputable def rEqD (K : PySem.W.Frag) (neg : Bool) : R2 := fun x y H Q => ∃ d e, Rep K H x d ∧ Rep K H y e ∧ depD d ≤ 100 ∧ Q (.bl (if neg then !eqD d e else eqD d e)) H
section
variable {X : Cx} {K : PySem.W.Frag}
theorem op_eqDK (h : X.K = K) (hu : X.A.units + 100 < cLine) : OpR X (compareOp .Eq) (rEqD K false) := by
  subst h
  intro pins s σ H x y v u Q I rx ry h
  obtain ⟨d, e, r1, r2, hd, q⟩ := h
  exact (rc_D I r1 100 r2 rx ry hd hu).2.1 X.prog X.w X.xe _ ⟨.bl _, H, I, rfl, q⟩
theorem op_neDK (h : X.K = K) (hu : X.A.units + 100 < cLine) : OpR X (compareOp .NotEq) (rEqD K true) := by
  subst h
  intro pins s σ H x y v u Q I rx ry h
  obtain ⟨d, e, r1, r2, hd, q⟩ := h
  exact (rc_D I r1 100 r2 rx ry hd hu).2.2 X.prog X.w X.xe _ ⟨.bl _, H, I, rfl, q⟩
end
end L2
set_option Elab.async false
set_option linter.all false
set_option maxRecDepth 100000
set_option maxHeartbeats 4000000
namespace L2
open PySem PySem.Spec PyProof.Rows
inductive SetTo : St → Nat → Option V → St → Prop where
  | z {a v : Option V} {l : St} : SetTo (a :: l) 0 v (v :: l)
  | s {a v : Option V} {l l' : St} {i : Nat} : SetTo l i v l' → SetTo (a :: l) (i + 1) v (a :: l')
theorem SetTo.eq {l l' : St} {i : Nat} {v : Option V} (h : SetTo l i v l') : l.set i v = l' := by
  induction h with
  | z => rfl
  | s _ ih => rw [List.set_cons_succ, ih]
inductive GetTo : St → Nat → V → Prop where
  | z {v : V} {l : St} : GetTo (some v :: l) 0 v
  | s {a : Option V} {v : V} {l : St} {i : Nat} : GetTo l i v → GetTo (a :: l) (i + 1) v
theorem GetTo.eq {l : St} {i : Nat} {v : V} (h : GetTo l i v) : l[i]? = some (some v) := by
  induction h with
  | z => rfl
  | s _ ih => rw [List.getElem?_cons_succ]; exact ih
section
variable {σ σ' : St} {H : Hp} {Q : VK} {D : Ends} {ta tb tc te : TE} {t u : TS} {tt tt' : TT} {r r' : R2} {x y v : V}
theorem s_start {N : List Str} {vs : List V} {t : TS} (e : start N vs = σ') (h : t D σ' H) : t D (start N vs) H := by rw [e]; exact h
theorem s_var {i : Nat} (e : GetTo σ i v) (h : Q v H) : tVar i σ H Q := ⟨v, e.eq, h⟩
theorem s_c (h : Q v H) : tC v σ H Q := h
theorem s_op (h : ta σ H fun x H1 => tb σ H1 fun y H2 => r x y H2 Q) : tOp r ta tb σ H Q := h
theorem s_rI {C : Int → Int → Prop} {g : Int → Int → V} {i j : Int} (c : C i j) (h : Q (g i j) H) : rI C g (.int i) (.int j) H Q := ⟨i, j, rfl, rfl, c, h⟩
theorem s_rI0 {g : Int → Int → V} {i j : Int} (h : Q (g i j) H) : rI0 g (.int i) (.int j) H Q := ⟨i, j, rfl, rfl, h⟩
theorem s_rEq (e : scal x y = true) (h : Q (.bl (decide (x = y))) H) : rEq x y H Q := ⟨e, h⟩
theorem s_rNe (e : scal x y = true) (h : Q (.bl (!decide (x = y))) H) : rNe x y H Q := ⟨e, h⟩
theorem s_test {Q : Bool → Hp → Prop} (h : te σ H fun x H' => ∃ k, x = .bl k ∧ Q k H') : tTest te σ H Q := h
theorem s_tB {Q : Bool → Hp → Prop} (h : te σ H fun x H' => ∃ k, x = .bl k ∧ Q k H') : tB te σ H Q := h
theorem s_or {Q : Bool → Hp → Prop} (h : tt σ H fun c H1 => if c = true then Q true H1 else tt' σ H1 Q) : tOr tt tt' σ H Q := h
theorem s_not {Q : Bool → Hp → Prop} (h : tt σ H fun c H1 => Q (!c) H1) : tNot tt σ H Q := h
theorem s_andV (h : ta σ H fun x H1 => ∃ c, x = .bl c ∧ if c = true then tb σ H1 Q else Q (.bl false) H1) : tAndV ta tb σ H Q := h
theorem s_next (h : D.nx σ H) : tNext D σ H := h
theorem s_seq (h : t { D with nx := u D } σ H) : tSeq t u D σ H := h
theorem s_drop (h : te σ H fun _ H1 => D.nx σ H1) : tDrop te D σ H := h
theorem s_ret (h : te σ H D.rt) : tRet te D σ H := h
theorem s_if (h : tt σ H fun b H1 => if b = true then t D σ H1 else u D σ H1) : tIfS tt t u D σ H := h
theorem s_asg {g : TG} (h : te σ H fun x H1 => g x σ H1 D.nx) : tAsg te g D σ H := h
theorem s_gname {i : Nat} {Q : St → Hp → Prop} (e : SetTo σ i (some v) σ') (h : Q σ' H) : gName i v σ H Q := by show Q (σ.set i (some v)) H; rw [e.eq]; exact h
theorem s_gnil {Q : St → Hp → Prop} (h : Q σ H) : gNil [] σ H Q := ⟨rfl, h⟩
theorem s_gcons {g : TG} {gs : TGs} {vs : List V} {Q : St → Hp → Prop} (h : g v σ H fun σ' H' => gs vs σ' H' Q) : gCons g gs (v :: vs) σ H Q := ⟨v, vs, rfl, h⟩
theorem s_gtup {K : PySem.W.Frag} {n : Nat} {gs : TGs} {p : Addr} {xs : List V} {Q : St → Hp → Prop} (e : SqT K H p xs) (l : xs.length = n) (h : gs xs σ H Q) : gTup K n gs (.ref p) σ H Q := ⟨p, xs, rfl, e, l, h⟩
theorem s_nil {Q : List V → Hp → Prop} (h : Q [] H) : tNil σ H Q := h
theorem s_cons {tr : TA} {Q : List V → Hp → Prop} (h : ta σ H fun x H1 => tr σ H1 fun xs H2 => Q (x :: xs) H2) : tCons ta tr σ H Q := h
noncomputable def NewL (Q : VK) (xs : List V) (H : Hp) : Prop := xs.length ≤ sizeLine ∧ ∀ p, H p = none → Q (.ref p) (upd H p (.lst xs))
theorem s_lst {tr : TA} (h : tr σ H (NewL Q)) : tLst tr σ H Q := h
theorem same_new {H : Hp} {D : Addr} {o : HO} (h : H D = none) : Same H (upd H D o) := fun b u e => by rw [upd_ne (ne_of_none e h)]; exact e
theorem s_alloc {o : HO} (h : ∀ p H2, H p = none → Same H H2 → H2 p = some o → Q (.ref p) H2) : ∀ p, H p = none → Q (.ref p) (upd H p o) := fun p hp => h p _ hp (same_new hp) upd_same
theorem Same.get {H H' : Hp} (e : Same H H') {b : Addr} {o : HO} (h : H b = some o) : H' b = some o := e b o h
theorem s_newL {xs : List V} (l : xs.length ≤ sizeLine) (h : ∀ p H2, H p = none → Same H H2 → H2 p = some (.lst xs) → Q (.ref p) H2) : NewL Q xs H := ⟨l, s_alloc h⟩
theorem s_call0 {sp : Sp} {E : XK} {tr : TA} (h : tr σ H fun vs H1 => sp vs H1 Q E) : tCall sp [] E tr σ H Q := by unfold tCall; simp only [List.append_nil]; exact h
theorem s_cb {r : List V → Hp → VK → Prop} {tr : TA} (h : tr σ H fun vs H1 => r vs H1 Q) : tCB r tr σ H Q := h
theorem s_part {Q : Option Int → Hp → Prop} (h : te σ H fun x H1 => ∃ i, x = .int i ∧ Q (some i) H1) : tPart te σ H Q := h
theorem s_sl {r : V → Option Int → Option Int → Hp → VK → Prop} {tl th : TO} (h : te σ H fun x H1 => tl σ H1 fun l H2 => th σ H2 fun u H3 => r x l u H3 Q) : tSl r te tl th σ H Q := h
theorem s_slL {K : PySem.W.Frag} {p : Addr} {xs : List V} {lo hi : Option Int} (e : SqL K H p xs) (h : ∀ q H2, H q = none → Same H H2 → H2 q = some (.lst (cutV xs lo hi)) → Q (.ref q) H2) : rSlL K (.ref p) lo hi H Q := ⟨p, xs, rfl, e, s_alloc h⟩
theorem s_ixL {K : PySem.W.Frag} {p : Addr} {xs : List V} {i : Int} (e : SqL K H p xs) (a : atI xs i = some v) (h : Q v H) : rIxL K (.ref p) (.int i) H Q := ⟨p, xs, i, v, rfl, rfl, e, a, h⟩
theorem s_ixS {z : Str} {i : Int} {c : Nat} (e : z.length ≤ sizeLine) (a : atI z.cps.toList i = some c) (h : Q (.str ⟨#[c]⟩) H) : rIxS (.str z) (.int i) H Q := ⟨z, i, c, rfl, rfl, e, a, h⟩
theorem s_bm {K : PySem.W.Frag} {T : String} {r : V → List V → Hp → VK → Prop} {tr : TA} (h : te σ H fun x H1 => tyV K T x H1 ∧ tr σ H1 fun xs H2 => r x xs H2 Q) : tBM K T r te tr σ H Q := h
theorem le_line {n : Nat} (h : n ≤ 1000) : n ≤ sizeLine := Nat.le_of_lt (small1000 h)
theorem s_eqD {K : PySem.W.Frag} {neg : Bool} {d e : Dt} (r1 : Rep K H x d) (r2 : Rep K H y e) (hd : depD d ≤ 100) (h : Q (.bl (if neg then !eqD d e else eqD d e)) H) : rEqD K neg x y H Q := ⟨d, e, r1, r2, hd, h⟩
theorem s_ty {K : PySem.W.Frag} {T : String} {A : Prop} (e : tyV K T x H) (h : A) : tyV K T x H ∧ A := ⟨e, h⟩
theorem s_join {K : PySem.W.Frag} {z : Str} {p : Addr} {ys : List Str} (e : SqL K H p (ys.map V.str)) (l : (ys.map (·.length)).sum + ys.length * z.length ≤ 16777216) (h : Q (.str (Txt.join z ys)) H) : rJoin K (.str z) [.ref p] H Q := ⟨z, p, ys, rfl, rfl, e, l, h⟩
theorem s_lenL {K : PySem.W.Frag} {p : Addr} {xs : List V} (e : SqL K H p xs) (h : Q (.int xs.length) H) : rLen K [.ref p] H Q := ⟨_, _, rfl, .inl ⟨xs, e, rfl⟩, h⟩
theorem s_isi {K : PySem.W.Frag} {T k : String} (e : kindV K H x k) (m : T ∈ ["int", "bool", "str", "list", "tuple", "dict"]) (h : Q (.bl (subB k T)) H) : rIsi K [x, .ty T] H Q := ⟨x, k, T, rfl, e, m, h⟩
theorem s_for {wi : TI} {g : TG} {tb : TS} (h : wi σ H fun J H1 => ∃ W : Nat → Nat → St → Hp → Prop, (∃ m, W 0 m σ H1) ∧ ∀ i m σ H, W i m σ H → (J.stop i H ∧ D.nx σ H) ∨ (J.go i H ∧ ∃ N : St → Hp → Prop, (∀ σ' H', N σ' H' → ∃ m', m' < m ∧ W (i + 1) m' σ' H') ∧ ∀ x H', J.yld i H x H' → g x σ H' fun σ2 H2 => tb { D with nx := N, ct := N, bk := D.nx } σ2 H2)) : tFor wi g tb D σ H := h
theorem s_iList {K : PySem.W.Frag} {R : It → Hp → Prop} (h : te σ H fun x H1 => ∃ a, x = .ref a ∧ (∃ xs, SqL K H1 a xs) ∧ R (Itl K a) H1) : iList K te σ H R := h
theorem s_rng1 {tr : TA} {R : It → Hp → Prop} (h : tr σ H fun vs H1 => ∃ j : Int, vs = [.int j] ∧ -(2 ^ 62) ≤ j ∧ j < 2 ^ 62 ∧ R (Itr 0 j.toNat) H1) : iRng1 tr σ H R := h
theorem s_yes {Q : Bool → Hp → Prop} (h : Q true H) : tYes σ H Q := h
theorem s_true {A B : Prop} (h : A) : if true = true then A else B := by rw [if_pos rfl]; exact h
theorem s_ifF {c : Bool} {A B : Prop} (e : c = false) (h : B) : if c = true then A else B := by rw [e, if_neg Bool.false_ne_true]; exact h
theorem s_comp {n : Nat} {fx : List Nat} {wi : TI} {g : TG} (h : wi σ H fun J H1 => ∀ D, H1 D = none →
  ∃ W : Nat → Nat → List V → Hp → Prop, (∃ m, W 0 m [] (upd H1 D (.lst []))) ∧ ∀ i m ys H2, W i m ys H2 → (J.stop i H2 ∧ Q (.ref D) H2) ∨
    (J.go i H2 ∧ ∃ N : List V → Hp → Prop, (∀ ys' H', N ys' H' → ∃ m', m' < m ∧ W (i + 1) m' ys' H') ∧ ∀ x H3, J.yld i H2 x H3 → g x (compSt n fx σ) H3 fun σ4 H4 => tt σ4 H4 fun b H5 =>
      if b = true then te σ4 H5 fun v H6 => H6 D = some (.lst ys) ∧ ys.length < sizeLine ∧ N (ys ++ [v]) (upd H6 D (.lst (ys ++ [v]))) else N ys H5)) : tComp n fx wi g tt te σ H Q := h
theorem s_bounds {j : Int} {A : Prop} (h1 : -(2 ^ 62) ≤ j) (h2 : j < 2 ^ 62) (h : A) : -(2 ^ 62) ≤ j ∧ j < 2 ^ 62 ∧ A := ⟨h1, h2, h⟩
end
section
variable {K : PySem.W.Frag} {n : Nat} {fx : List Nat} {g : TG} {tc : TT} {te : TE} {σ : St} {H1 : Hp} {D : Addr} {Q : Hp → Prop}
structure Cs (Pv : Nat → List V → Prop) (H1 : Hp) (D : Addr) (i : Nat) (ys : List V) (H : Hp) : Prop where
  pv : Pv i ys
  same : Same H1 H
  at' : H D = some (.lst ys)
  len : ys.length ≤ i
theorem Cs.put {Pv : Nat → List V → Prop} {i : Nat} {ys : List V} {v : V} {H6 : Hp} (f : H1 D = none) (s : Same H1 H6) (e : H6 D = some (.lst ys)) (l : ys.length ≤ i) (hi : i < 16777216) (p : Pv (i + 1) (ys ++ [v])) :
    H6 D = some (.lst ys) ∧ ys.length < sizeLine ∧ Cs Pv H1 D (i + 1) (ys ++ [v]) (upd H6 D (.lst (ys ++ [v]))) :=
  ⟨e, by rw [sizeLine_eq]; omega, p, fun b o h => by rw [upd_ne (ne_of_none h f)]; exact s b o h, upd_same, by rw [List.length_append]; simpa using l⟩
theorem Cs.skip {Pv : Nat → List V → Prop} {i : Nat} {ys : List V} {H6 : Hp} (s : Same H1 H6) (e : H6 D = some (.lst ys)) (l : ys.length ≤ i) (p : Pv (i + 1) ys) : Cs Pv H1 D (i + 1) ys H6 := ⟨p, s, e, by omega⟩
theorem Cs.zero {Pv : Nat → List V → Prop} (f : H1 D = none) (p : Pv 0 []) : Cs Pv H1 D 0 [] (upd H1 D (.lst [])) := ⟨p, same_new f, upd_same, Nat.le_refl _⟩
end
end L2
set_option Elab.async false
set_option linter.all false
set_option maxRecDepth 100000
set_option maxHeartbeats 4000000
namespace L2
open PySem PySem.Spec PyProof.Rows
structure ClsDef (K : PySem.W.Frag) (C : Addr) (m : Str) (f : Addr) : Prop where
  ga : PySem.W.specialIn K (.ref C) "__getattribute__" = some (some (.builtin "type.__getattribute__"))
  rd : PySem.W.readsIn K C (.type "type") = true
  fd : PySem.W.findCls K (.ref C) (.type "type") m = some (.val (.ref f))
  hd : PySem.W.handedIn (.ref f) = true
  kp : PySem.W.keepIn K (.ref f) = true
structure IsiOk (K : PySem.W.Frag) (D : Addr) : Prop where
  cls : Cls K D
  ha : PySem.W.findIn K (.ref D) "__class__" = some (some (.builtin "object.__class__"))
  hn : PySem.W.specialIn K (.builtin "object.__class__") "__get__" = some (some (.builtin "getset_descriptor.__get__"))
  tk : PySem.W.takesIn K (.builtin "object.__class__") = some true
  hm : PySem.W.mroIn K D (.type "object") = some true
theorem kit_mk {K : PySem.W.Frag} {C D : Addr} {b : Bool} (h1 : PySem.W.isClsIn K D = true) (h2 : PySem.W.typeIn K (.ref D) = some (.type "type")) (h3 : PySem.W.mroIn K C (.ref D) = some b) (h4 : PySem.W.mroIn K D (.ref D) = some true) : PySem.W.kitOne K (.ref C) (.ref D) = some b := by
  unfold PySem.W.kitOne
  by_cases e : C = D
  · subst e
    rw [h4] at h3
    cases h3
    rw [if_pos (beq_self_eq_true _)]
  · rw [if_neg (fun z => e (by have := eq_of_beq z; injection this))]
    unfold PySem.W.kitCls
    dsimp only
    rw [if_pos (by unfold PySem.W.isClsIn at h1; rw [h1, h2]; rfl)]
    exact h3
section
variable {σ : St} {H : Hp} {Q : VK} {D : Ends} {te tv ta : TE} {x y v : V}
structure Upd (H H' : Hp) (p : Addr) (o : HO) : Prop where
  at' : H' p = some o
  oth : ∀ b u, b ≠ p → H b = some u → H' b = some u
  non : ∀ b, b ≠ p → H b = none → H' b = none
theorem Upd.of {H : Hp} {p : Addr} {o : HO} : Upd H (upd H p o) p o := ⟨upd_same, fun b u n h => by rw [upd_ne n]; exact h, fun b n h => by rw [upd_ne n]; exact h⟩
end
end L2
set_option Elab.async false
set_option linter.all false
set_option maxRecDepth 100000
set_option maxHeartbeats 4000000
namespace L2
open PySem PySem.Spec PyProof.Rows
theorem Inv.laidCh {X : Cx} {pins : List (Addr × Obj)} {σ : St} {H : Hp} {s : Shared} {h' : Heap} {a : Addr} {o : HO} {t' : Nat} {ch : List Addr} (I : Inv X pins σ H s) (k : ∀ b u, b ∉ ch → s.heap.get? b = some u → h'.get? b = some u) (hp : s.heap.objs.size ≤ a)
    (new : ObjOk X.prog X.w (upd H a o) h' a o) (fp : ∀ b ∈ ch, FpOk X pins H b) : Inv X pins σ (upd H a o) { s with heap := h', toks := t' } := by
  have fr : H a = none := I.hok.fresh hp
  have nit : ∀ b u, H b = some u → b ∉ ch := fun b u e z => by rw [(fp b z).1] at e; cases e
  refine I.step (g' := s.gens) (d' := s.drawn) (ch := ch) (fun b hb => ?_) (fun b ob _ _ hc e _ => k b ob hc e) (fun b ob _ _ hc e _ => ⟨ob.slots, k b ob hc e⟩) (fun b ob _ e n => ?_) (fun b ob hc e => ⟨ob, k b ob hc e⟩)
    (fun b xs e => by rw [upd_ne (ne_of_none e fr)]; exact e) (fun b ob u e => by rw [upd_ne (ne_of_none e fr)]; exact e) (fun b ps e => ⟨#[], by rw [upd_ne (ne_of_none e fr), e]; simp⟩) (fun m hm => ?_) (fun b u e => ?_) I.bare
  · obtain ⟨f0, f1, f2, f3, f4, f5⟩ := fp b hb
    exact ⟨f3, f1, f4, f5⟩
  · rw [upd_ne (Nat.ne_of_lt (Nat.lt_of_lt_of_le (Heap.lt_size e) hp))]; exact n
  · obtain ⟨ob, es, ep, ho, r⟩ := hm
    exact ⟨ob, es, ep, k _ ob (fun z => (fp _ z).2.1 rfl) ho, r⟩
  · by_cases hb : b = a
    · subst hb; rw [upd_same] at e; cases e; exact new
    · rw [upd_ne hb] at e
      refine (I.hok b u e).stay (fun c v hc q => k c v ?_ q) (fun c q => by rw [upd_ne (ne_of_none q fr)]; exact q) fun c xs q => by rw [upd_ne (ne_of_none q fr)]; exact q
      rcases hc with z | z
      · rw [z]; exact nit b u e
      · exact nit c _ z
theorem Inv.turnedCh {X : Cx} {pins : List (Addr × Obj)} {σ : St} {H : Hp} {s : Shared} {h' : Heap} {t' : Nat} {ch : List Addr} (I : Inv X pins σ H s) (k : ∀ b u, b ∉ ch → s.heap.get? b = some u → h'.get? b = some u)
    (fp : ∀ b ∈ ch, FpOk X pins H b) : Inv X pins σ H { s with heap := h', toks := t' } := by
  have nit : ∀ b u, H b = some u → b ∉ ch := fun b u e z => by rw [(fp b z).1] at e; cases e
  refine I.step (g' := s.gens) (d' := s.drawn) (ch := ch) (fun b hb => ?_) (fun b ob _ _ hc e _ => k b ob hc e) (fun b ob _ _ hc e _ => ⟨ob.slots, k b ob hc e⟩) (fun b ob _ e n => n) (fun b ob hc e => ⟨ob, k b ob hc e⟩)
    (fun b xs e => e) (fun b ob u e => e) (fun b ps e => ⟨#[], by rw [e]; simp⟩) (fun m hm => ?_) (fun b u e => ?_) I.bare
  · obtain ⟨f0, f1, f2, f3, f4, f5⟩ := fp b hb
    exact ⟨f3, f1, f4, f5⟩
  · obtain ⟨ob, es, ep, ho, r⟩ := hm
    exact ⟨ob, es, ep, k _ ob (fun z => (fp _ z).2.1 rfl) ho, r⟩
  · refine (I.hok b u e).stay (fun c v hc q => k c v ?_ q) (fun c q => q) fun c xs q => q
    rcases hc with z | z
    · rw [z]; exact nit b u e
    · exact nit c _ z
noncomputable def Ite (K : PySem.W.Frag) (a : Addr) : It :=
  ⟨fun i H => ∃ xs x, SqL K H a xs ∧ xs[i]? = some x, fun i H x H' => ∃ p v, H p = none ∧ x = .ref p ∧ H' = upd H p (.tup [.int i, v]) ∧ ∀ xs, SqL K H a xs → xs[i]? = some v, fun i H => ∃ xs, SqL K H a xs ∧ xs.length = i⟩
noncomputable def Itz (x : Str) : It := ⟨fun i _ => i < x.cps.size, fun i H v H' => ∃ p c, H p = none ∧ v = .ref p ∧ H' = upd H p (.tup [.int i, .str ⟨#[c]⟩]) ∧ x.cps[i]? = some c, fun i _ => i = x.cps.size⟩
theorem two_le : (2 : Nat) ≤ sizeLine := by rw [sizeLine_eq]; decide
theorem turn_enumL {P : Program} {w : World} {K : PySem.W.Frag} {elts : List Expr} {k : Nat} {pos : Pos} (a e it : Addr) (hei : e ≠ it) :
    Turn P w K (.Tuple elts k pos) (Ite K a) [e, it] e (fun i h => (∃ old, IsEnum h e it i old) ∧ h.IsListIter it a i) where
  mem := by simp
  obj := fun i h st b hb => by
    obtain ⟨⟨old, he⟩, ⟨o, ho, hc, hd⟩⟩ := st
    rcases List.mem_cons.mp hb with z | z
    · subst z; exact ⟨_, he, fun v z => by cases z⟩
    · rw [List.mem_singleton.mp z]; exact ⟨o, ho, fun v z => by rw [hd] at z; cases z⟩
  keep := fun i h h' st k => ⟨let ⟨old, he⟩ := st.1; ⟨old, k e (by simp) _ he⟩, st.2.at fun o z => k it (by simp) o z⟩
  item := by
    intro X hP hw hK hc i pins s σ H E I hf st hg
    subst hP hw hK
    obtain ⟨xs, x, hq, hx⟩ := hg
    obtain ⟨its, rv, p, hz⟩ := I.list hq
    obtain ⟨⟨old, he⟩, hl⟩ := st
    have hai : a ≠ it := fun z => by
      obtain ⟨o, ho, hcl, _⟩ := hl
      obtain ⟨o', n, ho', hcl', _⟩ := p
      rw [z, ho] at ho'; cases ho'; rw [hcl] at hcl'; exact absurd hcl' (by decide)
    have hae : a ≠ e := fun z => by
      obtain ⟨o', n, ho', hcl', _⟩ := p
      rw [z, he] at ho'; cases ho'; exact absurd (show Value.type "enumerate" = .type "list" from hcl') (by decide)
    have W := WalksT.enumerateD (prog := X.prog) (w := X.w) (A := X.A) (Draws.list (A := X.A.in1) (I.ok.hd hc) it a hai its.toArray) e hei (by simp [hei, Ne.symm hae]) (by simp)
    have hi : i < its.toArray.size := by have := rv.length; have := (List.getElem?_eq_some_iff.mp hx).1; simp; omega
    refine W.item i s _ _ hi ⟨⟨old, he⟩, hl, p.isList⟩ fun T vals h' tk hPt hT htup hmid hk => ⟨_, rfl, W.go elts k pos i T _ _ _ hmid fun h'' hst hk2 => ?_⟩
    obtain ⟨t, x', hx', rfl⟩ := hPt
    have hap := W.apart i T h' hmid
    have ru : RelV x x' := by
      obtain ⟨u, hu, r⟩ := rv.get hx
      have hx'' : its[i]? = some x' := by simpa using hx'
      rw [hu] at hx''; cases hx''; exact r
    have kk : ∀ b u, b ∉ [e, it] → s.heap.get? b = some u → h''.get? b = some u := fun b u hb q => hk2 b u hb (hk b u hb q)
    have fr : H T = none := I.hok.fresh hT
    refine ⟨.ref T, upd H T (.tup [.int i, x]), I.laidCh (t' := tk) kk hT ⟨two_le, [.int i t, x'], .cons ⟨t, rfl⟩ (.cons ru .nil), ?_⟩ hf, rfl, ⟨T, x, fr, rfl, rfl, fun ys hy => by rw [I.list_inj hy hq]; exact hx⟩, ⟨hst.1, hst.2.1⟩, fun b hb => ?_⟩
    · obtain ⟨o, ho, r⟩ := htup
      exact ⟨o, hk2 T o hap ho, r⟩
    · have fb := (hf b hb)
      rw [upd_ne (fun z => ?_)]
      · exact fb.1
      · have lt : b < s.heap.objs.size := by
          rcases List.mem_cons.mp hb with z | z
          · subst z; exact Heap.lt_size he
          · rw [List.mem_singleton.mp z]; obtain ⟨o, ho, _⟩ := hl; exact Heap.lt_size ho
        rw [z] at lt
        exact absurd (Nat.lt_of_lt_of_le lt hT) (Nat.lt_irrefl _)
  done := by
    intro X hP hw hK hc i pins s σ H E I hf st hg
    subst hP hw hK
    obtain ⟨xs, hq, hx⟩ := hg
    obtain ⟨its, rv, p, hz⟩ := I.list hq
    obtain ⟨⟨old, he⟩, hl⟩ := st
    have hai : a ≠ it := fun z => by
      obtain ⟨o, ho, hcl, _⟩ := hl
      obtain ⟨o', n, ho', hcl', _⟩ := p
      rw [z, ho] at ho'; cases ho'; rw [hcl] at hcl'; exact absurd hcl' (by decide)
    have hae : a ≠ e := fun z => by
      obtain ⟨o', n, ho', hcl', _⟩ := p
      rw [z, he] at ho'; cases ho'; exact absurd (show Value.type "enumerate" = .type "list" from hcl') (by decide)
    have W := WalksT.enumerateD (prog := X.prog) (w := X.w) (A := X.A) (Draws.list (A := X.A.in1) (I.ok.hd hc) it a hai its.toArray) e hei (by simp [hei, Ne.symm hae]) (by simp)
    have hn : its.toArray.size = i := by have := rv.length; simp; omega
    subst hn
    exact W.done s _ _ ⟨⟨old, he⟩, hl, p.isList⟩ fun h' tk hk => ⟨rfl, I.turnedCh hk hf⟩
  self := fun _ _ _ _ _ st h => let ⟨_, he⟩ := st.1; wpAny_pyIter_enum he h
theorem turn_enumS {P : Program} {w : World} {K : PySem.W.Frag} {elts : List Expr} {k : Nat} {pos : Pos} {x : Str} {t : Tok} {n : String} (e it : Addr) (hei : e ≠ it)
    (D : ∀ A : Around, A.handled = none → Draws P w A it [it] x.cps.size (fun i v => ∃ c u, x.cps[i]? = some c ∧ v = .str ⟨#[c]⟩ u) (fun i h => h.IsStrIter it n x t i)) :
    Turn P w K (.Tuple elts k pos) (Itz x) [e, it] e (fun i h => (∃ old, IsEnum h e it i old) ∧ h.IsStrIter it n x t i) where
  mem := by simp
  obj := fun i h st b hb => by
    obtain ⟨⟨old, he⟩, ⟨o, ho, hc, hd⟩⟩ := st
    rcases List.mem_cons.mp hb with z | z
    · subst z; exact ⟨_, he, fun v z => by cases z⟩
    · rw [List.mem_singleton.mp z]; exact ⟨o, ho, fun v z => by rw [hd] at z; cases z⟩
  keep := fun i h h' st k => ⟨let ⟨old, he⟩ := st.1; ⟨old, k e (by simp) _ he⟩, let ⟨o, ho, r⟩ := st.2; ⟨o, k it (by simp) o ho, r⟩⟩
  item := by
    intro X hP hw hK hc i pins s σ H E I hf st hg
    subst hP hw hK
    obtain ⟨⟨old, he⟩, hl⟩ := st
    have W := WalksT.enumerateD (prog := X.prog) (w := X.w) (A := X.A) (D X.A.in1 (I.ok.hd hc)) e hei (by simp [hei]) (by simp)
    refine W.item i s _ _ hg ⟨⟨old, he⟩, hl⟩ fun T vals h' tk hPt hT htup hmid hk => ⟨_, rfl, W.go elts k pos i T _ _ _ hmid fun h'' hst hk2 => ?_⟩
    obtain ⟨t1, x', ⟨c, u, hx', rfl⟩, rfl⟩ := hPt
    have hap := W.apart i T h' hmid
    have kk : ∀ b u, b ∉ [e, it] → s.heap.get? b = some u → h''.get? b = some u := fun b u hb q => hk2 b u hb (hk b u hb q)
    have fr : H T = none := I.hok.fresh hT
    refine ⟨.ref T, upd H T (.tup [.int i, .str ⟨#[c]⟩]), I.laidCh (t' := tk) kk hT ⟨two_le, [.int i t1, .str ⟨#[c]⟩ u], .cons ⟨t1, rfl⟩ (.cons ⟨u, rfl⟩ .nil), ?_⟩ hf, rfl, ⟨T, c, fr, rfl, rfl, hx'⟩, ⟨hst.1, hst.2⟩, fun b hb => ?_⟩
    · obtain ⟨o, ho, r⟩ := htup
      exact ⟨o, hk2 T o hap ho, r⟩
    · have fb := (hf b hb)
      rw [upd_ne (fun z => ?_)]
      · exact fb.1
      · have lt : b < s.heap.objs.size := by
          rcases List.mem_cons.mp hb with z | z
          · subst z; exact Heap.lt_size he
          · rw [List.mem_singleton.mp z]; obtain ⟨o, ho, _⟩ := hl; exact Heap.lt_size ho
        rw [z] at lt
        exact absurd (Nat.lt_of_lt_of_le lt hT) (Nat.lt_irrefl _)
  done := by
    intro X hP hw hK hc i pins s σ H E I hf st hg
    subst hP hw hK
    obtain ⟨⟨old, he⟩, hl⟩ := st
    have W := WalksT.enumerateD (prog := X.prog) (w := X.w) (A := X.A) (D X.A.in1 (I.ok.hd hc)) e hei (by simp [hei]) (by simp)
    have hg : i = x.cps.size := hg
    subst hg
    exact W.done s _ _ ⟨⟨old, he⟩, hl⟩ fun h' tk hk => ⟨rfl, I.turnedCh hk hf⟩
  self := fun _ _ _ _ _ st h => let ⟨_, he⟩ := st.1; wpAny_pyIter_enum he h
noncomputable def iEnum (K : PySem.W.Frag) (tl : TE) : TI := fun σ H R => tl σ H fun x H1 => (∃ a, x = .ref a ∧ (∃ xs, SqL K H1 a xs) ∧ R (Ite K a) H1) ∨ ∃ z, x = .str z ∧ R (Itz z) H1
section
variable {X : Cx} {K : PySem.W.Frag}
theorem pi_enum {l : Expr} {tl : TE} {elts : List Expr} {k : Nat} {tpos p pos : Pos} (h : X.K = K) (hg : Gl X "enumerate") (hm : X.mg "enumerate" = none) (hl : PE X l tl) (hs : starEach [l] X.env = [(false, eval l X.env)] := by rfl) :
    PI X (.Tuple elts k tpos) (.Call (.Name "enumerate" p) [l] [] pos) (iEnum K tl) := by
  subst h
  intro pins s σ H R I h
  refine Call_ (ld_blt I hg hm boot_enumerate (PyProof.Rows.callWith_type1 (thn (pa_cons hl pa_nil hs pos pins s σ H (fun vs H1 => match vs with | [x] => (∃ a, x = .ref a ∧ (∃ xs, SqL X.K H1 a xs) ∧ R (Ite X.K a) H1) ∨ ∃ z, x = .str z ∧ R (Itz z) H1 | _ => False) I h) fun us s1 ⟨vs, H1, I1, r1, q1⟩ => ?_) hs rfl))
  match vs, r1, q1 with
  | [x], r1, q1 =>
  obtain ⟨u, rfl, ru⟩ := r1.one
  rcases q1 with ⟨a, rfl, ⟨xs, hq⟩, q⟩ | ⟨z, rfl, q⟩
  · cases ru
    obtain ⟨its, rv, pl, hz⟩ := I1.list hq
    refine call_enumerate_list pl.isList fun h' he hit hsz hk => wpAny_pyIter_enum he ?_
    refine ⟨s1.heap.objs.size + 1, [s1.heap.objs.size + 1, s1.heap.objs.size], _, _, H1, rfl, I1.kept (t' := s1.toks) hk, turn_enumL a _ _ (Nat.ne_of_gt (Nat.lt_succ_self _)), ⟨⟨_, he⟩, hit⟩, fun b hb => ?_, q⟩
    have hb' : s1.heap.objs.size ≤ b := (List.mem_cons.mp hb).elim (fun z => by rw [z]; exact Nat.le_succ _) (fun z => by rw [List.mem_singleton.mp z]; exact Nat.le_refl _)
    exact I1.fpOk hb' (I1.hok.fresh hb')
  · obtain ⟨t, rfl⟩ := ru
    refine call_enumerate_str fun h' he hit hsz hk => wpAny_pyIter_enum he ?_
    have fin : ∀ n, (h'.IsStrIter s1.heap.objs.size n z t 0) → (∀ A : Around, A.handled = none → Draws X.prog X.w A s1.heap.objs.size [s1.heap.objs.size] z.cps.size (fun i v => ∃ c u, z.cps[i]? = some c ∧ v = .str ⟨#[c]⟩ u) (fun i h => h.IsStrIter s1.heap.objs.size n z t i)) →
        PIE X pins σ (.Tuple elts k tpos) R (.ref (s1.heap.objs.size + 1)) { s1 with heap := h' } := fun n hn D => by
      refine ⟨s1.heap.objs.size + 1, [s1.heap.objs.size + 1, s1.heap.objs.size], _, _, H1, rfl, I1.kept (t' := s1.toks) hk, turn_enumS _ _ (Nat.ne_of_gt (Nat.lt_succ_self _)) D, ⟨⟨_, he⟩, hn⟩, fun b hb => ?_, q⟩
      have hb' : s1.heap.objs.size ≤ b := (List.mem_cons.mp hb).elim (fun z => by rw [z]; exact Nat.le_succ _) (fun z => by rw [List.mem_singleton.mp z]; exact Nat.le_refl _)
      exact I1.fpOk hb' (I1.hok.fresh hb')
    unfold strIterType at hit
    split at hit
    · exact fin _ hit fun A hA => Draws.strAscii hA _ z t
    · exact fin _ hit fun A hA => Draws.strWide hA _ z t
end
theorem for_enum {K : PySem.W.Frag} {a : Addr} {xs : List V} {g : TG} {tb : TS} {D : Ends} {σ : St} {H : Hp} (Pv : Nat → St → Hp → Prop) (h0 : Pv 0 σ H) (hl : ∀ i σ H, i ≤ xs.length → Pv i σ H → SqL K H a xs)
    (hs : ∀ i x σ H p H', xs[i]? = some x → Pv i σ H → H p = none → Same H H' → H' p = some (.tup [.int i, x]) → g (.ref p) σ H' fun σ2 H2 => tb { D with nx := Pv (i + 1), ct := Pv (i + 1), bk := D.nx } σ2 H2) (hd : ∀ σ H, Pv xs.length σ H → D.nx σ H) :
    ∃ W : Nat → Nat → St → Hp → Prop, (∃ m, W 0 m σ H) ∧ ∀ i m σ H, W i m σ H →
      ((Ite K a).stop i H ∧ D.nx σ H) ∨ ((Ite K a).go i H ∧ ∃ N : St → Hp → Prop, (∀ σ' H', N σ' H' → ∃ m', m' < m ∧ W (i + 1) m' σ' H') ∧ ∀ x H', (Ite K a).yld i H x H' → g x σ H' fun σ2 H2 => tb { D with nx := N, ct := N, bk := D.nx } σ2 H2) := by
  refine ⟨fun i m σ H => m = xs.length - i ∧ i ≤ xs.length ∧ Pv i σ H, ⟨xs.length, by simp, Nat.zero_le _, h0⟩, ?_⟩
  rintro i m σ H ⟨rfl, hi, p⟩
  have q := hl i σ H hi p
  by_cases hlt : i < xs.length
  · refine .inr ⟨⟨xs, xs[i], q, by simp [hlt]⟩, Pv (i + 1), fun σ' H' p' => ⟨xs.length - (i + 1), by omega, rfl, hlt, p'⟩, fun x H' y => ?_⟩
    obtain ⟨r, v, f, e1, e2, y⟩ := y
    subst e1 e2
    exact hs i v σ H r _ (y xs q) p f (same_new f) upd_same
  · have e : i = xs.length := by omega
    subst e
    exact .inl ⟨⟨xs, q, rfl⟩, hd σ H p⟩
section
variable {σ : St} {H : Hp} {te : TE} {R : It → Hp → Prop}
theorem s_iEnum {K : PySem.W.Frag} (h : te σ H fun x H1 => (∃ a, x = .ref a ∧ (∃ xs, SqL K H1 a xs) ∧ R (Ite K a) H1) ∨ ∃ z, x = .str z ∧ R (Itz z) H1) : iEnum K te σ H R := h
end
end L2
set_option Elab.async false
set_option linter.all false
set_option maxRecDepth 100000
set_option maxHeartbeats 4000000
namespace L2
open PySem PySem.Spec PyProof.Rows
section
variable {σ : St} {H : Hp} {Q : VK} {D : Ends} {te ty tv td : TE} {x y v : V}
theorem s_append {l : Addr} {xs : List V} (e : H l = some (.lst xs)) (hz : xs.length < sizeLine) (h : ∀ H2, Upd H H2 l (.lst (xs ++ [y])) → Q .non H2) : rAppend (.ref l) [y] H Q := ⟨l, xs, y, rfl, rfl, e, hz, h _ Upd.of⟩
theorem s_listL {K : PySem.W.Frag} {p : Addr} {xs : List V} (e : SqL K H p xs) (h : ∀ q H2, H q = none → Same H H2 → H2 q = some (.lst xs) → Q (.ref q) H2) : rListOf K [.ref p] H Q := ⟨p, xs, rfl, .inl e, s_alloc h⟩
end
end L2
set_option Elab.async false
set_option linter.all false
set_option maxRecDepth 100000
set_option maxHeartbeats 4000000
namespace L2
open PySem PySem.Spec PyProof.Rows
noncomputable def Mv (ch fr : List Addr) (h h' : Heap) : Prop := (∀ b o, b ∉ ch → b ∉ fr → h.get? b = some o → h'.get? b = some o) ∧ ∀ b o, b ∉ ch → b ∈ fr → h.get? b = some o → ∃ sl, h'.get? b = some { o with slots := sl }
theorem Mv.trans {ch fr : List Addr} {h h1 h2 : Heap} (a : Mv ch fr h h1) (b : Mv ch fr h1 h2) : Mv ch fr h h2 :=
  ⟨fun c o n m e => b.1 c o n m (a.1 c o n m e), fun c o n m e => let ⟨_, e1⟩ := a.2 c o n m e; let ⟨sl, e2⟩ := b.2 c _ n m e1; ⟨sl, e2⟩⟩
noncomputable def ExcAt (h : Heap) (e : Addr) (C : Value) (dx : Option Addr) (T : Option (Addr × Value)) : Prop :=
  ∃ oe vs, h.get? e = some oe ∧ oe.cls = C ∧ oe.dict = dx ∧ oe.data = .fields vs ∧ 1 < vs.size ∧
    match T with
    | none => vs[1]? = some .none
    | some (t, fl) => vs[1]? = some (.ref t) ∧ t ≠ e ∧ ∃ oT ts, h.get? t = some oT ∧ oT.data = .fields ts ∧ ts[3]? = some fl
section
variable {X : Cx} {pins : List (Addr × Obj)} {σ : St} {H : Hp} {s : Shared}
theorem Inv.mv {h' : Heap} {ch : List Addr} (I : Inv X pins σ H s) (m : Mv ch (frs X.stack) s.heap h') (fp : ∀ b ∈ ch, FpOk X pins H b) : Inv X pins σ H { s with heap := h' } := by
  have nit : ∀ b u, H b = some u → b ∉ ch := fun b u e z => by rw [(fp b z).1] at e; cases e
  have nfr : ∀ b u, H b = some u → b ∉ frs X.stack := fun b u e z => by rw [I.stkFree b z] at e; cases e
  have any : ∀ b o, b ∉ ch → s.heap.get? b = some o → ∃ sl, h'.get? b = some { o with slots := sl } := fun b o n e => by
    by_cases z : b ∈ frs X.stack
    · exact m.2 b o n z e
    · exact ⟨o.slots, m.1 b o n z e⟩
  refine I.step (g' := s.gens) (d' := s.drawn) (t' := s.toks) (ch := ch) (fun b hb => ?_) (fun b ob hL hb hc e _ => m.1 b ob hc (fun z => (List.mem_cons.mp (I.stkSub b z)).elim hL hb) e) (fun b ob _ _ hc e _ => any b ob hc e) (fun b ob _ e n => n) (fun b ob hc e => let ⟨sl, q⟩ := any b ob hc e; ⟨_, q⟩)
    (fun b xs e => e) (fun b ob u e => e) (fun b ps e => ⟨#[], by rw [e]; simp⟩) (fun m' hm => ?_) (fun b u e => ?_) I.bare
  · obtain ⟨f0, f1, f2, f3, f4, f5⟩ := fp b hb
    exact ⟨f3, f1, f4, f5⟩
  · obtain ⟨ob, es, ep, ho, r⟩ := hm
    obtain ⟨sl, q⟩ := any _ ob (fun z => (fp _ z).2.1 rfl) ho
    exact ⟨_, es, ep, q, r⟩
  · refine (I.hok b u e).stay (fun c v hc q => m.1 c v ?_ ?_ q) (fun c q => q) fun c xs q => q
    · rcases hc with z | z
      · rw [z]; exact nit b u e
      · exact nit c _ z
    · rcases hc with z | z
      · rw [z]; exact nfr b u e
      · exact nfr c _ z
theorem ObjOk.there {P : Program} {w : World} {h : Heap} {a : Addr} {o : HO} (x : ObjOk P w H h a o) : ∃ o', h.get? a = some o' := by
  cases o with
  | lst xs => obtain ⟨_, _, _, _, e⟩ := x; exact ⟨_, e⟩
  | tup xs => obtain ⟨_, _, _, _, e, _⟩ := x; exact ⟨_, e⟩
  | dK kvs => obtain ⟨_, _, _, _, o, _, _, e, _⟩ := x; exact ⟨_, e⟩
  | dT kvs => obtain ⟨_, _, _, _, o, _, _, e, _⟩ := x; exact ⟨_, e⟩
  | set S n => obtain ⟨o, _, _, _, e, _⟩ := x; exact ⟨_, e⟩
  | ins C dx fs => obtain ⟨_, _, _, e, _⟩ := x; exact ⟨_, e⟩
  | own y => obtain ⟨_, e⟩ := x; exact ⟨_, e⟩
  | xd fs => obtain ⟨_, ⟨_, _, _, e, _⟩, _⟩ := x; exact ⟨_, e⟩
  | rng lo hi => obtain ⟨_, _, _, e⟩ := x; exact ⟨_, e⟩
  | frz ob u => obtain ⟨e, _⟩ := x; exact ⟨_, e⟩
  | tbl ps => exact ⟨_, (show h.get? a = some _ from x)⟩
  | met f y => exact ⟨_, (show h.get? a = some _ from x)⟩
  | ext φ => obtain ⟨_, ⟨_, e⟩, _⟩ := x; exact ⟨_, e⟩
theorem HOk.none_ {P : Program} {w : World} {h : Heap} {a : Addr} (x : HOk P w H h) (e : h.get? a = none) : H a = none := by
  cases q : H a with
  | none => rfl
  | some u => obtain ⟨o, z⟩ := (x a u q).there; rw [e] at z; cases z
noncomputable def FpN (X : Cx) (pins : List (Addr × Obj)) (H : Hp) (b : Addr) : Prop :=
  H b = none ∧ b ≠ X.env.locals ∧ b ∉ X.fs ∧ (b ∈ X.ex ∨ X.s₀.heap.get? b = none) ∧ (∀ x c, X.env.cells.lookup x = some c → c ≠ b) ∧ ∀ p ∈ X.pn ++ pins, p.1 ≠ b
theorem Inv.fpN {H' : Hp} {b : Addr} (I : Inv X pins σ H s) (hb : s.heap.get? b = none) (hn : H' b = none) : FpN X pins H' b := by
  refine ⟨hn, fun z => ?_, fun z => ?_, ?_, fun x c e z => ?_, fun p hp z => ?_⟩
  · obtain ⟨m, ⟨o, es, ep, ho, r⟩, _⟩ := I.loc
    rw [← z, hb] at ho; cases ho
  · obtain ⟨_, o, ho, _⟩ := I.ok.funs.mem z
    obtain ⟨o', e'⟩ := I.base.there b o ho fun y => I.ok.exfs b y z
    rw [hb] at e'; cases e'
  · by_cases z : b ∈ X.ex
    · exact .inl z
    · cases q : X.s₀.heap.get? b with
      | none => exact .inr rfl
      | some o => obtain ⟨o', e'⟩ := I.base.there b o q z; rw [hb] at e'; cases e'
  · obtain ⟨v, o, q, _⟩ := I.cell x c e
    rw [z, hb] at q; cases q
  · have := (I.pin p hp).1
    rw [z, hb] at this; cases this
theorem Inv.mvN {h' : Heap} {ch : List Addr} (I : Inv X pins σ H s) (m : Mv ch (frs X.stack) s.heap h') (fp : ∀ b ∈ ch, FpN X pins H b) : Inv X pins σ H { s with heap := h' } := by
  have out : ∀ b o, X.s₀.heap.get? b = some o → b ∉ X.ex → b ∉ ch ++ X.ex := fun b o e n z => by
    rcases List.mem_append.mp z with z | z
    · rcases (fp b z).2.2.2.1 with y | y
      · exact n y
      · rw [e] at y; cases y
    · exact n z
  have sub : ∀ b, b ∉ ch ++ X.ex → b ∉ X.ex := fun b n z => n (List.mem_append_right _ z)
  have ok : Cx.Ok { X with ex := ch ++ X.ex } := ⟨I.ok.mod, I.ok.kind, I.ok.glob, I.ok.blt, I.ok.above, I.ok.inj, I.ok.has, I.ok.cab, I.ok.hd, I.ok.frames, I.ok.stk,
    fun b hb => (List.mem_append.mp hb).elim (fun z => ⟨(fp b z).2.1, (fp b z).2.2.2.2.1⟩) (I.ok.exf b), I.ok.bs, I.ok.bsz, fun b o e => out b o (I.ok.bs b o e).1 (I.ok.noex b o e),
    fun b hb => (List.mem_append.mp hb).elim (fun z => (fp b z).2.2.1) (I.ok.exfs b), I.ok.funs, I.ok.frf⟩
  have U := I.base
  have J : Inv { X with ex := ch ++ X.ex } pins σ H s := ⟨ok, I.os, I.bare, ⟨fun b o e n f z => U.keep b o e n f (sub b z), fun b o e n f z => U.slot b o e n f (sub b z), fun b o e n z => U.free b o e n (sub b z), fun b o e z => U.there b o e (sub b z), U.tups, U.frzs, U.tbls⟩,
    I.loc, I.cell, I.free, I.freeC, I.pin, I.hok, I.len⟩
  have J' := J.mv (h' := h') (ch := ch) m fun b hb => ⟨(fp b hb).1, (fp b hb).2.1, (fp b hb).2.2.1, .inl (List.mem_append_left _ hb), (fp b hb).2.2.2.2⟩
  have V := J'.base
  exact ⟨I.ok, J'.os, J'.bare, ⟨fun b o e n f z => V.keep b o e n f (out b o e z), fun b o e n f z => V.slot b o e n f (out b o e z), fun b o e n z => V.free b o e n (out b o e z), fun b o e z => V.there b o e (out b o e z), V.tups, V.frzs, V.tbls⟩,
    J'.loc, J'.cell, J'.free, J'.freeC, J'.pin, J'.hok, J'.len⟩
structure Fly (X : Cx) (pins : List (Addr × Obj)) (H : Hp) (e : Addr) (C : Value) (dx : Option Addr) (T : Option (Addr × Value)) (h : Heap) : Prop where
  at_ : ExcAt h e C dx T
  fe : FpN X pins H e
  ft : ∀ t fl, T = some (t, fl) → FpN X pins H t
end
end L2
set_option Elab.async false
set_option linter.all false
set_option maxRecDepth 100000
set_option maxHeartbeats 4000000
namespace L2
open PySem PySem.Spec PyProof.Rows
noncomputable abbrev XW := St → XK
end L2
set_option Elab.async false
set_option linter.all false
set_option maxRecDepth 100000
set_option maxHeartbeats 4000000
namespace L2
open PySem PySem.Spec PyProof.Rows
structure XCls (h : Heap) (C : Addr) (bmB : List Value) (newId : String) : Prop where
  obj : ∃ bm N nm q bs hdct sn sub ab col dd k0 k1 k2 k3 k5 mN, h.get? C = some (excClassObj nm q C N bs bm hdct sn sub ab col dd k0 k1 k2 k3 k5 newId) ∧ h.Ns N mN ∧ mN "__init__" = none ∧ OwnTail h bmB bm
theorem xcls_of {K : PySem.W.Frag} {h : Heap} {C : Addr} {bmB : List Value} {newId : String} (X : K.In h) (q : PySem.W.excIn K C bmB newId = true) : XCls h C bmB newId := by
  refine ⟨?_⟩
  unfold PySem.W.excIn at q
  split at q
  next dd cd sl ho =>
    split at q
    next C' bm k0 k1 k2 k3 n k5 hm hs =>
      simp only [Bool.and_eq_true, beq_iff_eq, Bool.not_eq_true'] at q
      obtain ⟨⟨⟨⟨⟨e1, e2⟩, hdel⟩, ht⟩, hok⟩, hni⟩ := q
      subst e1 e2
      cases cd with
      | mk nm bs mro ns qn hd sn sub ab col del =>
      have hm : mro = _ := hm
      have hdel : del = false := hdel
      subst hm hdel
      have hsl : sl = #[k0, k1, k2, k3, some (.builtin n), k5] := by rw [← hs]
      subst hsl
      exact ⟨bm, ns, nm, qn, bs, hd, sn, sub, ab, col, dd, k0, k1, k2, k3, k5, _, X _ _ ho, .of_isNs (PySem.W.isNs_of_in X hok), PySem.W.nsMap_none_of_in X hok hni, PySem.W.tail_of_in X ht⟩
    next => cases q
  next => cases q
section
variable {X : Cx} {W : XW} {C : Addr} {x : Str} {np cpos pos : Pos} {e : Expr} {es : List Expr} {t : TA} {B newId initId : String} {bmB : List Value}
theorem made_ok {pins : List (Addr × Obj)} {σ : St} {H : Hp} {s : Shared} {h' : Heap} {a : Addr} {vs : List Value} (I : Inv X pins σ H s) (m : Heap.MadeExcOf s.heap h' a (.ref C) vs) :
    Inv X pins σ H { s with heap := h' } ∧ Fly X pins H a (.ref C) none none h' := by
  obtain ⟨tt, q1, q2, q3⟩ := m.there
  exact ⟨I.mvN (ch := []) ⟨fun b o _ _ e => m.keeps b o e, fun b o _ _ e => ⟨o.slots, m.keeps b o e⟩⟩ fun b z => absurd z (by simp), ⟨⟨_, _, q1, rfl, rfl, rfl, by simp, by simp⟩, I.fpN m.new (I.hok.none_ m.new), fun t fl z => by cases z⟩⟩
end
end L2
set_option Elab.async false
set_option linter.all false
set_option maxRecDepth 100000
set_option maxHeartbeats 4000000
namespace L2
open PySem PySem.Spec PyProof.Rows
structure CatchOk (K : PySem.W.Frag) (G : Addr) : Prop where
  ty : PySem.W.typeIn K (.ref G) = some (.type "type")
  cls : PySem.W.isClsIn K G = true
  base : PySem.W.mroIn K G (.type "BaseException") = some true
theorem looks_isType {K : PySem.W.Frag} {M : Model} {h : Heap} {G : Addr} (X : K.In h) (c : PySem.W.isClsIn K G = true) : PySem.W.Looks M h (isType (.ref G)) true := by
  unfold PySem.W.isClsIn PySem.W.clsIn at c
  split at c
  next c' d' cd' sl' ho =>
    intro A' Q' E' s' k q
    unfold isType loadHead
    exact wpAny_bind (wpAny_loadPart (k _ _ (X _ _ ho)) (wpAny_pure q))
  next => cases c
section
variable {X : Cx} {pins : List (Addr × Obj)} {σ : St} {H : Hp} {s : Shared}
theorem Inv.track {x : Addr} {o : HO} (I : Inv X pins σ H s) (f : FpN X pins H x) (new : ObjOk X.prog X.w (upd H x o) s.heap x o) : Inv X pins σ (upd H x o) s := by
  obtain ⟨f0, f1, f2, f3, f4, f5⟩ := f
  have ne : ∀ b u, H b = some u → b ≠ x := fun b u e z => by rw [z, f0] at e; cases e
  have old : ∀ b u, H b = some u → upd H x o b = some u := fun b u e => by rw [upd_ne (ne b u e)]; exact e
  have U := I.base
  refine ⟨I.ok, I.os, I.bare, ⟨U.keep, U.slot, fun b ob e n hx => ?_, U.there, fun b xs e => old b _ (U.tups b xs e), fun b ob u e => old b _ (U.frzs b ob u e), fun b ps e => ?_⟩, I.loc, I.cell, ?_, fun y c e => ?_, fun p hp => ?_, fun b ob e => ?_, I.len⟩
  · rw [upd_ne (fun z => ?_)]
    · exact U.free b ob e n hx
    · subst z
      rcases f3 with y | y
      · exact hx y
      · rw [e] at y; cases y
  · obtain ⟨m, q⟩ := U.tbls b ps e
    exact ⟨m, old b _ q⟩
  · rw [upd_ne (Ne.symm f1)]; exact I.free
  · rw [upd_ne (f4 y c e)]; exact I.freeC y c e
  · obtain ⟨e, n, r⟩ := I.pin p hp
    exact ⟨e, by rw [upd_ne (f5 p hp)]; exact n, r⟩
  · by_cases z : b = x
    · subst z
      rw [upd_same] at e
      cases e
      exact new
    · rw [upd_ne z] at e
      exact (I.hok b ob e).stay (fun _ _ _ q => q) (fun c q => old c _ q) fun c xs q => old c _ q
end
noncomputable abbrev Cx.pin (X : Cx) (pins : List (Addr × Obj)) : Cx := { X with pn := X.pn ++ pins }
end L2
set_option Elab.async false
set_option linter.all false
set_option maxRecDepth 100000
set_option maxHeartbeats 400000
namespace L2
open PySem PySem.Spec PyProof.Rows
structure XIsi (K : PySem.W.Frag) (D : Addr) : Prop where
  cls : PySem.W.isClsIn K D = true
  ga : PySem.W.findIn K (.ref D) "__getattribute__" = some (some (.builtin "BaseException.__getattribute__"))
  gr : PySem.W.findIn K (.ref D) "__getattr__" = some none
  ha : PySem.W.findIn K (.ref D) "__class__" = some (some (.builtin "object.__class__"))
  hn : PySem.W.specialIn K (.builtin "object.__class__") "__get__" = some (some (.builtin "getset_descriptor.__get__"))
  tk : PySem.W.takesIn K (.builtin "object.__class__") = some true
  hm : PySem.W.mroIn K D (.type "object") = some true
  base : PySem.W.mroIn K D (.type "BaseException") = some true
section
variable {prog : Program} {w : World} {A : Around} {E : Value → Shared → Prop} {s : Shared} {K : PySem.W.Frag} {x D : Addr} {ox : Obj} {odo : Option Obj} {name : Str}
theorem xdata {a g : Value} {od : Option Obj} (hc : (PySem.W.clsIn K D).isSome = true) (ha : PySem.W.findIn K (.ref D) name = some (some a)) (hg : PySem.W.specialIn K a "__get__" = some (some g)) (ht : PySem.W.takesIn K a = some true) : PySem.W.findObj K D od name = some (.bind g a) := by
  obtain ⟨cd, hc⟩ := Option.isSome_iff_exists.mp hc
  unfold PySem.W.findObj
  rw [hc, Option.bind_some, ha, Option.bind_some]
  simp [hg, ht]
theorem xget {g a : Value} {Q : Option Value → Shared → Prop} (X : K.In s.heap) (c : XIsi K D) (I : PySem.W.InstAt s.heap x ox D odo) (hf : PySem.W.findObj K D odo name = some (.bind g a)) (hgn : ∀ id, g = .builtin id → True)
    (h : ∀ A' : Around, wpAny (model prog w) A' (call g [a, .ref x, .ref D]) (fun v s' => handedOut v = pure v ∧ Q (some v) s') (fun _ _ => False) { s with toks := s.toks + 1 }) :
    wpAny (model prog w) A (getAttr? (.ref x) name) Q E s := by
  obtain ⟨hh, gg, d, t, os⟩ := s
  have L0 := I.type (M := model prog w)
  have L1 := PySem.W.looks_findIn (M := model prog w) X c.ga
  have L2 := PySem.W.looks_findIn (M := model prog w) X c.gr
  have L3 := PySem.W.looks_find (M := model prog w) X I hf
  have LI : PySem.W.Looks (model prog w) hh (isInstance (.ref x) (.type "BaseException")) true := L0.andThen (PySem.W.looks_mroIn X c.base)
  unfold getAttr? getAttrBy? getAttrBy
  refine wpAny_bind (wpAny_mkText (wpAny_bind (wpAny_attempt (wpAny_holding (wpAny_bind (L0.at (wpAny_bind (L1.at ?_))))))))
  dsimp only
  have hx2 : (Value.builtin "BaseException.__getattribute__" == Value.builtin "object.__getattribute__") = false := by decide +kernel
  rw [if_neg (by rw [hx2, Bool.and_false]; exact Bool.false_ne_true)]
  unfold getAttrByItsOwn hookBefore
  rw [if_pos (by rfl)]
  refine wpAny_bind (L2.at (wpAny_bind (wpAny_attempt (wpAny_holding ?_))))
  unfold callGetattribute
  rw [if_neg (by simp)]
  unfold boundAndCalled
  refine wpAny_bind (wpAny_of_eq (F.attr_ValueError.ga.bind _) ?_)
  have hk : builtinKind "BaseException.__getattribute__" = some .slot := by decide +kernel
  have hsplit : splitId "BaseException.__getattribute__" = some ("BaseException", "__getattribute__") := by decide +kernel
  have pl := F.attr_ValueError.ga.plain
  have en := F.entry_bexc_ga
  show wpAny _ _ (call (.builtin "BaseException.__getattribute__") [.ref x, .str name t]) _ _ _
  refine wpAny_call (codeAny_call_builtin pl en ?_)
  have ag := F.args_bexc_ga (.ref x) (.str name t)
  generalize hgid : "BaseException.__getattribute__" = id0 at hk hsplit ag ⊢
  refine PySem.W.check_slot (self := .ref x) (rest := [.str name t]) (kw := []) hk hsplit LI ag ?_
  unfold Builtin.«object.__getattribute__»
  refine wpAny_bind (wpAny_of_eq (a := (Value.ref x, [Value.str name t])) rfl ?_)
  dsimp only
  refine wpAny_bind (wpAny_of_eq (a := name) rfl ?_)
  refine wpAny_bind (L0.at (wpAny_bind (L3.at ?_)))
  show wpAny _ _ (holding [a] (call g [a, .ref x, .ref D]) >>= ret) _ _ _
  refine wpAny_bind (wpAny_holding (wpAny_mono (h _) (fun v s' ⟨z, q⟩ => wpAny_pure ?_) fun _ _ z => z.elim))
  show wpAny _ _ (handedOut v) _ _ _
  rw [z]
  exact wpAny_pure (wpAny_pure q)
end
noncomputable def dV : V → Value
  | .ref a => .ref a
  | .ty n => .type n
  | _ => .none
theorem dV_fun {u : V} {v : Value} (a : RelV u v) (b : RelV u (dV u)) : v = dV u := by
  cases u with
  | ref x => exact a
  | ty n => exact a
  | non => exact a
  | bl x => exact absurd b (fun z => by cases z)
  | int i => exact absurd b (fun ⟨_, z⟩ => by cases z)
  | str i => exact absurd b (fun ⟨_, z⟩ => by cases z)
  | byt i => exact absurd b (fun ⟨_, z⟩ => by cases z)
  | flt i => exact absurd b (fun ⟨_, z⟩ => by cases z)
end L2
namespace L2
open PySem PySem.Spec PyProof.Rows
theorem boot_ValueError : bootBuiltins "ValueError" = some (.type "ValueError") := by decide +kernel
theorem kit_mkT {K : PySem.W.Frag} {C : Addr} {b : Bool} (h : PySem.W.mroIn K C (.type "ValueError") = some b) : PySem.W.kitOne K (.ref C) (.type "ValueError") = some b := by
  unfold PySem.W.kitOne
  rw [if_neg (fun z => by cases beq_iff_eq.mp z)]
  unfold PySem.W.kitCls
  dsimp only
  rw [if_pos (by decide +kernel)]
  exact h
end L2
set_option Elab.async false
set_option linter.all false
set_option maxRecDepth 100000
set_option maxHeartbeats 4000000
namespace L2
open PySem PySem.Spec PyProof.Rows
section
variable {σ : St} {H : Hp} {Q : VK} {D : Ends} {te ty tv td : TE} {x y v : V}
theorem s_cat {l b : Addr} {xs zs : List V} (e : H l = some (.lst xs)) (e' : H b = some (.lst zs)) (hz : xs.length + zs.length ≤ sizeLine) (h : ∀ p H2, H p = none → Same H H2 → H2 p = some (.lst (xs ++ zs)) → Q (.ref p) H2) : rCat (.ref l) (.ref b) H Q := ⟨l, b, xs, zs, rfl, rfl, e, e', hz, s_alloc h⟩
end
end L2
set_option Elab.async false
set_option linter.all false
set_option maxRecDepth 100000
set_option maxHeartbeats 4000000
namespace L2
open PySem PySem.Spec PyProof.Rows
end L2
namespace L2
open PySem PySem.Spec PyProof.Rows
end L2
set_option Elab.async false
set_option linter.all false
set_option maxRecDepth 100000
set_option maxHeartbeats 4000000
namespace L2
open PySem PySem.Spec PyProof.Rows
end L2
set_option Elab.async false
set_option linter.all false
set_option maxRecDepth 100000
set_option maxHeartbeats 4000000
namespace L2
open PySem PySem.Spec PyProof.Rows
open AutoSeq1 (wpAny_loadPart')
end L2
set_option Elab.async false
set_option linter.all false
set_option maxRecDepth 100000
set_option maxHeartbeats 4000000
namespace L2
open PySem PySem.Spec PyProof.Rows
namespace ZP
noncomputable abbrev Busy (h : Heap) (z TI TO T : Addr) (fl : Bool) : Prop := h.get? z = some { cls := .type "zip", data := .fields #[rawInt T, .bool fl, .bool false, .ref TI, .ref TO] }
section
variable {prog : Program} {w : World} {A : Around} {E : Value → Shared → Prop} {s : Shared}
structure ZGot (h : Heap) (lo : Nat) (xs ys : Array Value) (as : List Addr) : Prop where
  rise : as.Pairwise (· < ·)
  above : ∀ a ∈ as, lo ≤ a ∧ a < h.objs.size
  pairs : ∀ (j : Nat) (a : Addr), as[j]? = some a → ∃ x y, xs[j]? = some x ∧ ys[j]? = some y ∧ h.IsTuple a #[x, y]
structure ZSt (h : Heap) (z TI TO i1 i2 l1 l2 : Addr) (lo : Nat) (xs ys : Array Value) (i : Nat) (as : List Addr) : Prop where
  zp : (i = 0 ∧ IsZip h z TI TO .none) ∨ ∃ T fl, Busy h z TI TO T fl ∧ as[0]? = some T
  hI : IsPair h TI (.ref i1) (.ref i2)
  hO : ∃ a b, IsPair h TO a b
  h1 : h.IsListIter i1 l1 i
  h2 : h.IsListIter i2 l2 i
  hl1 : h.IsList l1 xs
  hl2 : h.IsList l2 ys
  len : as.length = i
  got : ZGot h lo xs ys as
structure Und (z TI TO i1 i2 l1 l2 S : Addr) (lo : Nat) : Prop where
  ap : ZipApart z TI TO i1 i2 l1 l2
  Sz : S ≠ z
  STI : S ≠ TI
  STO : S ≠ TO
  Si1 : S ≠ i1
  Si2 : S ≠ i2
  Sl1 : S ≠ l1
  Sl2 : S ≠ l2
  z : z < lo
  TO : TO < lo
  i1 : i1 < lo
  i2 : i2 < lo
  S : S < lo
structure New (h : Heap) (z TI TO i1 i2 l1 l2 : Addr) (xs ys : Array Value) : Prop where
  ap : ZipApart z TI TO i1 i2 l1 l2
  hz : IsZip h z TI TO .none
  hI : IsPair h TI (.ref i1) (.ref i2)
  hO : ∃ a b, IsPair h TO a b
  h1 : h.IsListIter i1 l1 0
  h2 : h.IsListIter i2 l2 0
  hl1 : h.IsList l1 xs
  hl2 : h.IsList l2 ys
end
end ZP
end L2
set_option Elab.async false
set_option linter.all false
set_option maxRecDepth 100000
set_option maxHeartbeats 1000000
namespace L2
open PySem PySem.Spec PyProof.Rows
end L2
set_option Elab.async false
set_option linter.all false
set_option maxRecDepth 100000
set_option maxHeartbeats 1000000
namespace L2
open PySem PySem.Spec PyProof.Rows
structure FunD (K : PySem.W.Frag) (x qual : Str) (st : Stmt) (f : Addr) (fd : FuncData) (dv : Value) : Prop where
  ex : ∃ (oc : Value) (od : Option Addr) (T : Addr) (kV doc pm : Value) (an : Option Addr) (cdv ct : Value) (osl : Array (Option Value)) (tc : Value) (td : Option Addr) (n : Nat) (tsl : Array (Option Value)),
    fd = PySem.W.fnOf x qual (defArgs st) (defBody st) (defScope st) (.ref T) kV doc pm an cdv ct ∧ K.lookup f = some ⟨oc, od, .func fd, osl⟩ ∧ PySem.W.codeIn K cdv qual = true ∧ K.lookup T = some ⟨tc, td, .seq #[dv] n, tsl⟩
  kp : PySem.W.keepIn K (.ref f) = true
end L2
set_option Elab.async false
set_option linter.all false
set_option maxRecDepth 100000
set_option maxHeartbeats 4000000
namespace L2
open PySem PySem.Spec PyProof.Rows
end L2
set_option Elab.async false
set_option linter.all false
set_option maxRecDepth 100000
set_option maxHeartbeats 4000000
namespace L2
open PySem PySem.Spec PyProof.Rows
end L2
set_option Elab.async false
set_option linter.all false
set_option maxRecDepth 100000
set_option maxHeartbeats 4000000
namespace L2
open PySem PySem.Spec PyProof.Rows
noncomputable abbrev xBM : List Value := [.type "ValueError", .type "Exception", .type "BaseException", .type "object"]
noncomputable abbrev xRec (C : Addr) (dx : Option Addr) (t : Addr) : Obj := { cls := .ref C, dict := dx, data := .fields #[.ref t, .none, .none, .none, .bool false, .none] }
noncomputable def ExcF (p C : Addr) (dx : Option Addr) : HO := .ext fun h => ∃ t, h.get? p = some (xRec C dx t)
theorem excF_ok {P : Program} {w : World} {H : Hp} {h : Heap} {p C t : Addr} {dx : Option Addr} (e : h.get? p = some (xRec C dx t)) : ObjOk P w H h p (ExcF p C dx) :=
  ⟨⟨t, e⟩, ⟨_, e⟩, fun _ _ ⟨t, e⟩ k => ⟨t, k _ e⟩⟩
noncomputable def ExcV (H : Hp) (p C : Addr) (fs : List (Str × V)) : Prop := ∃ dx, H p = some (ExcF p C dx) ∧ match dx with | none => fs = [] | some d => H d = some (.xd fs)
theorem ExcV.same {H H' : Hp} {p C : Addr} {fs : List (Str × V)} (e : ExcV H p C fs) (s : Same H H') : ExcV H' p C fs := by
  obtain ⟨dx, a, b⟩ := e
  refine ⟨dx, s _ _ a, ?_⟩
  cases dx with
  | none => exact b
  | some d => exact s _ _ b
structure XOwn (K : PySem.W.Frag) (C W f : Addr) : Prop where
  lk : ∃ nm q N bs sn sub ab col dd k0 k1 k2 k3 k5, K.lookup C = some (excClassObj nm q C N bs (.ref W :: xBM) true sn sub ab col dd k0 k1 k2 k3 k5 "ValueError.__new__")
  up : PySem.W.excIn K W xBM "ValueError.__new__" = true
  init : PySem.W.findIn K (.ref C) "__init__" = some (some (.ref f))
  fn : PySem.W.isFn K (.ref f) = true
  kp : PySem.W.keepIn K (.ref C) = true
  sa : PySem.W.findIn K (.ref C) "__setattr__" = some (some (.builtin "object.__setattr__"))
  mo : PySem.W.mroIn K C (.type "object") = some true
  mv : PySem.W.mroIn K C (.type "ValueError") = some true
theorem tail_up {K : PySem.W.Frag} {W : Addr} (q : PySem.W.excIn K W xBM "ValueError.__new__" = true) : PySem.W.tailIn K xBM (.ref W :: xBM) = true := by
  unfold PySem.W.excIn at q
  unfold PySem.W.tailIn
  split at q
  next dd cd sl ho =>
    split at q
    next C' bm k0 k1 k2 k3 n k5 hm hs =>
      simp only [Bool.and_eq_true, beq_iff_eq, Bool.not_eq_true'] at q
      obtain ⟨⟨⟨⟨⟨e1, e2⟩, hdel⟩, ht⟩, hok⟩, hni⟩ := q
      rw [Bool.or_eq_true]
      refine .inr ?_
      dsimp only
      rw [ho]
      dsimp only
      rw [hok, hni]
      unfold PySem.W.tailIn
      simp
    next => cases q
  next => cases q
section
variable {prog : Program} {w : World} {A : Around} {E : Value → Shared → Prop} {h : Heap} {g : Array GenState} {d : Drawn} {t : Nat} {os : OsState}
variable {nm q : Str} {C N : Addr} {bs bm bmB : List Value} {hdct : Bool} {sn : List Str} {sub : List Value} {ab : Bool} {col : Option Bool} {dd : Option Addr} {k0 k1 k2 k3 k5 : Option Value} {B newId initId : String}
theorem type_call_init (F : ExcBaseFacts B newId initId bmB) (T : OwnTail h bmB bm) {K : PySem.W.Frag} (X : K.In h) {rest : List Value} {fI : Addr} {Q : Fin → Shared → Prop}
    (hC : h.get? C = some (excClassObj nm q C N bs bm hdct sn sub ab col dd k0 k1 k2 k3 k5 newId)) (hi : PySem.W.findIn K (.ref C) "__init__" = some (some (.ref fI))) (hf : PySem.W.typeIn K (.ref fI) = some (.type "function"))
    (hq : ∀ h' e, Heap.MadeExcOf h h' e (.ref C) rest →
      wpAny (model prog w) A (call (.ref fI) (.ref e :: rest)) (fun r s' => r = .none ∧ Q (.done (.ret (.ref e))) s') E ⟨h', g, d, t, os⟩) (hrest : rest.length ≤ sizeLine) :
    wpAny (model prog w) A (Builtin.«type.__call__» ⟨.ref C :: rest, []⟩) Q E ⟨h, g, d, t, os⟩ := by
  repeat (first | with_reducible refine wpAny_loadPart_at hC ?_ | with_reducible refine wpAny_madeBy_exc hC ?_ | wp_step)
  refine codeAny_call_builtin_code (Code.quiet_builtin _ F.quiet) (wpAny_check_new_subT F T hC ?_)
  refine codeAny_exc_new_subT F T hC ?_ hrest
  show wpAny _ _ _ _ _ _
  have hC₁ := Heap.get?_push_of_some { cls := .ref C, data := .fields #[.ref h.objs.size, .none, .none, .none, .bool false, .none] }
    (Heap.get?_push_of_some { cls := .type "tuple", data := .seq rest.toArray } hC)
  have X₁ : K.In ((h.push { cls := .type "tuple", data := .seq rest.toArray }).push { cls := .ref C, data := .fields #[.ref h.objs.size, .none, .none, .none, .bool false, .none] }) :=
    X.keeps fun b o e => Heap.get?_push_of_some _ (Heap.get?_push_of_some _ e)
  have hget : ((h.push { cls := .type "tuple", data := .seq rest.toArray }).push
      { cls := .ref C, data := .fields #[.ref h.objs.size, .none, .none, .none, .bool false, .none] }).get? (h.objs.size + 1) = some
      { cls := .ref C, data := .fields #[.ref h.objs.size, .none, .none, .none, .bool false, .none] } := by heap_get
  have hcC : (Value.ref C :: bm).contains (.ref C) = true := by simp
  unfold isInstance
  repeat (first | with_reducible refine wpAny_loadPart_at hget ?_ | (with_reducible refine wpAny_isSubtype_exc hC₁ ?_; rw [hcC]) | wp_step)
  show wpAny _ _ (typeLookup (.ref C) _) _ _ _
  refine (PySem.W.looks_findIn X₁ hi).at ?_
  refine wpAny_holding (wpAny_bind ?_)
  unfold bindSpecial
  refine wpAny_bind ((PySem.W.looks_typeIn X₁ hf).at ?_)
  rw [if_pos (by decide)]
  refine wpAny_pure (wpAny_bind (wpAny_mono (hq _ (h.objs.size + 1) ⟨fun b o hb => Heap.get?_push_of_some _ (Heap.get?_push_of_some _ hb), Heap.get?_none_of_le (Nat.le_succ _), h.objs.size, hget, Heap.get?_none_of_le (Nat.le_refl _), ?_⟩) (fun r s' hr => ?_) fun _ _ x => x))
  · exact Heap.get?_push_of_some _ (Heap.get?_push_at rfl rfl)
  · obtain ⟨rfl, hQ⟩ := hr
    wp_walk
    exact hQ
theorem call_init (F : ExcBaseFacts B newId initId bmB) (T : OwnTail h bmB bm) {K : PySem.W.Frag} (X : K.In h) {rest : List Value} {fI : Addr} {Q : Value → Shared → Prop}
    (hC : h.get? C = some (excClassObj nm q C N bs bm hdct sn sub ab col dd k0 k1 k2 k3 k5 newId)) (hi : PySem.W.findIn K (.ref C) "__init__" = some (some (.ref fI))) (hf : PySem.W.typeIn K (.ref fI) = some (.type "function"))
    (hq : ∀ h' e, Heap.MadeExcOf h h' e (.ref C) rest →
      wpAny (model prog w) (A.under (.builtin "type.__call__" ⟨.ref C :: rest, []⟩)) (call (.ref fI) (.ref e :: rest)) (fun r s' => r = .none ∧ Q (.ref e) s') E ⟨h', g, d, t, os⟩) (hrest : rest.length ≤ sizeLine) :
    wpAny (model prog w) A (call (.ref C) rest) Q E ⟨h, g, d, t, os⟩ := by
  have f1 := tc_lookup
  have f2 := tc_bind (.ref C)
  have hT : (⟨h, g, d, t, os⟩ : Shared).TypeIs (.ref C) "type" := ⟨_, hC, rfl⟩
  refine wpAny_call (codeAny_of_tree ?_)
  show wpAny _ _ (callAny (.ref C) _) _ _ _
  repeat (any_goals (first | assumption | with_reducible refine wpAny_loadPart_at hC ?_ | wp_step))
  refine ⟨rfl, ?_⟩
  refine codeAny_call_builtin_at (Code.quiet_builtin _ (by decide +kernel)) entry_typeCall (wpAny_check_type_call_sub hC (type_call_init F T X hC hi hf (fun h' e hm => ?_) hrest))
  exact hq h' e hm
end
section
variable {prog : Program} {w : World} {A : Around} {E : Value → Shared → Prop} {s : Shared} {K : PySem.W.Frag} {x C W f : Addr} {name : Str} {v : Value}
theorem XOwn.cls {h : Heap} (c : XOwn K C W f) : ∃ cd, PySem.W.clsIn K C = some cd ∧ cd.hasDict = true ∧ cd.mro = .ref C :: .ref W :: xBM := by
  obtain ⟨nm, q, N, bs, sn, sub, ab, col, dd, k0, k1, k2, k3, k5, e⟩ := c.lk
  refine ⟨{ name := nm, bases := bs, mro := .ref C :: .ref W :: xBM, ns := N, qualname := q, hasDict := true, slotNames := sn, subclasses := sub, abstract := ab, collection := col, hasDel := false }, ?_, rfl, rfl⟩
  unfold PySem.W.clsIn
  rw [e]
open Builtin.ObjectAttr in
theorem osa_openX {ox : Obj} {od : Option Obj} {tk : Tok} {R : Result → Shared → Prop} (X : K.In s.heap) (I : PySem.W.InstAt s.heap x ox C od) (c : XOwn K C W f) (n : NoAttr K C name)
    (h : ∀ b, wpAny (model prog w) A.in1 (storeInOwnDict (.ref x) (.ref C) (.str name tk) name v b)
      (fun fin s' => match fin with | .done f => R (.ok f) s' | .again c' => c'.quiet = true ∧ codeAny (model prog w) A c' R s') (fun e s' => R (.error e) s') s) :
    codeAny (model prog w) A (.call (.builtin "object.__setattr__") ⟨[.ref x, .str name tk, v], []⟩) R s := by
  have SF := PySem.F.store_object
  obtain ⟨cd, hc, hd, hm⟩ := c.cls (h := s.heap)
  have sub : PySem.W.Looks (model prog w) s.heap (isInstance (.ref x) (.type "object")) true := I.type.andThen (PySem.W.looks_mroIn X c.mo)
  refine codeAny_call_builtin SF.slot.plain SF.entry (@PySem.W.check_slot (model prog w) _ _ s "object.__setattr__" "object" "__setattr__" (.ref x) [.str name tk, v] [] _ SF.kind SF.split sub (SF.args (.ref x) (.str name tk) v) ?_)
  have L1 : PySem.W.Looks (model prog w) s.heap (mroOf (.ref C)) (.ref C :: .ref W :: xBM) := hm ▸ (PySem.W.looks_clsIn X hc).andThen .now
  have ha : PySem.W.findIn K (.ref C) name = some none := n
  have L3 : PySem.W.Looks (model prog w) s.heap (storeTaker? none) none := .now
  rw [PySem.W.osa_eq, refuse_eq]
  refine wpAny_bind (wpAny_bind (I.type.here (wpAny_bind (L1.here ?_))))
  rw [refuseLoop_ref, refuseLoop_ref, PySem.F.store_ValueError.passes]
  refine wpAny_pure (wpAny_bind (I.type.here (wpAny_bind ((PySem.W.looks_findIn X ha).here (wpAny_bind (L3.here ?_))))))
  exact h _
open Builtin.ObjectAttr in
theorem set_exc {t : Addr} {Q : Unit → Shared → Prop} (X : K.In s.heap) (c : XOwn K C W f) (n : NoAttr K C name) (e : s.heap.get? x = some (xRec C none t))
    (h : ∀ h', h'.Ns1 s.heap.objs.size (fun y => if y = name then some v else none) → h'.get? x = some (xRec C (some s.heap.objs.size) t) → (∀ b o, b ≠ x → s.heap.get? b = some o → h'.get? b = some o) → Q () { s with heap := h', toks := s.toks + 2 }) :
    wpAny (model prog w) A (setAttr (.ref x) name v) Q E s := by
  have J : PySem.W.InstAt s.heap x (xRec C none t) C none := ⟨e, rfl, rfl, trivial⟩
  refine PySem.W.set_plain X J c.sa (osa_openX (s := { s with toks := s.toks + 1 }) X J c n fun b => ?_)
  obtain ⟨cd, hc, hd, hm⟩ := c.cls (h := s.heap)
  refine wpAny_bind (wpAny_pure (wpAny_bind (wpAny_bind (wpAny_loadPart e (wpAny_bind (PySem.W.Looks.here (s := { s with toks := s.toks + 1 }) (PySem.W.looks_clsIn X hc) ?_))))))
  rw [hd]
  have hx₁ : (s.heap.push { cls := .type "dict", data := .dict #[] }).get? x = some (xRec C none t) := Heap.get?_push_of_some _ e
  have hxs : x ≠ s.heap.objs.size := Nat.ne_of_lt (Heap.lt_size e)
  refine wpAny_bind (wpAny_alloc' ?_)
  refine wpAny_bind (wpAny_update' hx₁ ?_)
  refine wpAny_pure ?_
  have hgd : ((s.heap.push { cls := .type "dict", data := .dict #[] }).update x fun o => { cls := o.cls, dict := some s.heap.objs.size, data := o.data, slots := o.slots }).get? s.heap.objs.size
      = some { cls := .type "dict", data := .dict #[] } := (Heap.get?_update_ne _ _ _ _ hxs.symm).trans (Heap.get?_push_at rfl rfl)
  have hnd : ((s.heap.push { cls := .type "dict", data := .dict #[] }).update x fun o => { cls := o.cls, dict := some s.heap.objs.size, data := o.data, slots := o.slots }).Ns s.heap.objs.size (fun _ => none) :=
    ⟨_, #[], _, hgd, rfl, fun e he => absurd he (by simp), fun _ => rfl⟩
  have hgx : ((s.heap.push { cls := .type "dict", data := .dict #[] }).update x fun o => { cls := o.cls, dict := some s.heap.objs.size, data := o.data, slots := o.slots }).get? x = some (xRec C (some s.heap.objs.size) t) :=
    Heap.get?_update_self _ hx₁ rfl
  show wpAny _ _ (storeInDict s.heap.objs.size (.str name _) name v) _ _ _
  unfold storeInDict newKeyGuard
  refine wpAny_bind (wpAny_pure (wpAny_bind (wpAny_nsSet1 (Heap.Ns1.of_empty hnd) fun h' hn' hs => ?_)))
  obtain ⟨oD, esD, epD, hoD, hdD, hcD⟩ := hn'.count (Within.cons name v Within.nil)
  refine wpAny_bind (wpAny_lookBehind hoD (by rw [hdD]; exact pastItsLine_dict (Nat.le_trans hcD (by rw [List.length_cons, List.length_nil, sizeLine_eq]; omega))) ?_)
  exact wpAny_pure (h h' hn' ((hs.2 x hxs).trans hgx) fun b o hb q => (hs.2 b (Nat.ne_of_lt (Heap.lt_size q))).trans ((Heap.get?_update_ne _ _ _ _ hb).trans (Heap.get?_push_of_some _ q)))
theorem get_exc {ox : Obj} {odo : Option Obj} {expr : Bool} {Q : Value → Shared → Prop} (X : K.In s.heap) (c : XIsi K C) (I : PySem.W.InstAt s.heap x ox C odo) (hf : PySem.W.findObj K C odo name = some (.value v)) (hv : PySem.W.handedIn v = true)
    (h : Q v { s with toks := s.toks + 1 }) : wpAny (model prog w) A (getAttr (.ref x) name expr) Q E s := by
  obtain ⟨hh, gg, d, t, os⟩ := s
  have L0 := I.type (M := model prog w)
  have L1 := PySem.W.looks_findIn (M := model prog w) X c.ga
  have L2 := PySem.W.looks_findIn (M := model prog w) X c.gr
  have L3 := PySem.W.looks_find (M := model prog w) X I hf
  have LI : PySem.W.Looks (model prog w) hh (isInstance (.ref x) (.type "BaseException")) true := L0.andThen (PySem.W.looks_mroIn X c.base)
  unfold getAttr getAttrBy
  refine wpAny_bind (wpAny_mkText (wpAny_holding (wpAny_bind (L0.at (wpAny_bind (L1.at ?_))))))
  dsimp only
  have hx2 : (Value.builtin "BaseException.__getattribute__" == Value.builtin "object.__getattribute__") = false := by decide +kernel
  rw [if_neg (by rw [hx2, Bool.and_false]; exact Bool.false_ne_true)]
  unfold getAttrByItsOwn hookBefore
  rw [if_pos (by rfl)]
  refine wpAny_bind (L2.at (wpAny_bind (wpAny_attempt (wpAny_holding ?_))))
  unfold callGetattribute
  rw [show (expr && onTheHeap (Value.builtin "BaseException.__getattribute__")) = false from Bool.and_false _, if_neg (by simp)]
  unfold boundAndCalled
  refine wpAny_bind (wpAny_of_eq (F.attr_ValueError.ga.bind _) ?_)
  have hk : builtinKind "BaseException.__getattribute__" = some .slot := by decide +kernel
  have hsplit : splitId "BaseException.__getattribute__" = some ("BaseException", "__getattribute__") := by decide +kernel
  have pl := F.attr_ValueError.ga.plain
  have en := F.entry_bexc_ga
  show wpAny _ _ (call (.builtin "BaseException.__getattribute__") [.ref x, .str name t]) _ _ _
  refine wpAny_call (codeAny_call_builtin pl en ?_)
  have ag := F.args_bexc_ga (.ref x) (.str name t)
  generalize hgid : "BaseException.__getattribute__" = id0 at hk hsplit ag ⊢
  refine PySem.W.check_slot (self := .ref x) (rest := [.str name t]) (kw := []) hk hsplit LI ag ?_
  unfold Builtin.«object.__getattribute__»
  refine wpAny_bind (wpAny_of_eq (a := (Value.ref x, [Value.str name t])) rfl ?_)
  dsimp only
  refine wpAny_bind (wpAny_of_eq (a := name) rfl ?_)
  refine wpAny_bind (L0.at (wpAny_bind (L3.at ?_)))
  refine wpAny_pure ?_
  show wpAny _ _ (handedOut v) _ _ _
  rw [PySem.W.handedOut_of hv]
  exact wpAny_pure h
theorem xkitF {od : Option Obj} (c : XIsi K C) : PySem.W.KitX K (.ref x) (.ref C) (fun h => ∃ ox od vs, PySem.W.InstAt h x ox C od ∧ ox.data = .fields vs) where
  ty := fun _ _ _ ⟨ox, od, vs, I, _⟩ => I.type
  it := fun _ _ X _ => looks_isType X c.cls
  ne := fun h tp dd its n sl X htp => by
    refine Bool.eq_false_iff.mpr fun q => ?_
    have e : C = tp := Value.ref.inj (beq_iff_eq.mp q)
    subst e
    have z := c.cls
    unfold PySem.W.isClsIn PySem.W.clsIn at z
    split at z
    next ho => have y := (X _ _ ho).symm.trans htp; cases y
    next => cases z
  ca := fun {prog w A E Q s} X ⟨ox, od, vs, I, h4⟩ k => by
    refine xget X c I (xdata c.cls c.ha c.hn c.tk) (fun _ _ => trivial) fun A' => ?_
    exact wpAny_call (PySem.W.class_get (s := { s with toks := s.toks + 1 }) (ox := ox) (od := od) X I c.hm ⟨rfl, k⟩)
end
theorem le_line1 {α : Type} {x : α} : [x].length ≤ sizeLine := by show 1 ≤ _; rw [sizeLine_eq]; decide
section
variable {X : Cx} {pins : List (Addr × Obj)} {σ : St} {H : Hp} {s : Shared} {p C W f : Addr} {fs : List (Str × V)}
theorem ExcV.inst (I : Inv X pins σ H s) (e : ExcV H p C fs) : ∃ ox od vs, PySem.W.InstAt s.heap p ox C od ∧ ox.data = .fields vs ∧ (fs ≠ [] → ∃ (o : Obj) (mA : Str → Option Value), od = some o ∧ (∀ n, PySem.W.lookIn n o = some (mA n)) ∧ ∀ n, RelO (fs.lookup n) (mA n)) := by
  obtain ⟨dx, a, b⟩ := e
  obtain ⟨⟨t, e0⟩, _⟩ := I.hok p _ a
  cases dx with
  | none => exact ⟨_, none, _, ⟨e0, rfl, rfl, trivial⟩, rfl, fun z => absurd b z⟩
  | some d =>
    obtain ⟨mA, ns, r⟩ := I.hok d _ b
    obtain ⟨od, ho, hl⟩ := lookIn_ns ns
    exact ⟨_, some od, _, ⟨e0, rfl, rfl, ho⟩, rfl, fun _ => ⟨od, mA, rfl, hl, r⟩⟩
noncomputable def rIsiF (K : PySem.W.Frag) : List V → Hp → VK → Prop := fun xs H Q => ∃ p C fs u b, xs = [.ref p, u] ∧ RelV u (dV u) ∧ ExcV H p C fs ∧ XIsi K C ∧ PySem.W.kitOne K (.ref C) (dV u) = some b ∧ Q (.bl b) H
theorem s_isiF {K : PySem.W.Frag} {u : V} {b : Bool} {Q : VK} (e : ExcV H p C fs) (c : XIsi K C) (r : RelV u (dV u)) (k : PySem.W.kitOne K (.ref C) (dV u) = some b) (h : Q (.bl b) H) : rIsiF K [.ref p, u] H Q := ⟨p, C, fs, u, b, rfl, r, e, c, k, h⟩
theorem call_isiF {K : PySem.W.Frag} (h : X.K = K) : CallR X (.builtin "isinstance") (rIsiF K) := by
  subst h
  intro pins s σ H xs us Q I r h
  obtain ⟨p, C, fs, u', b, rfl, rD, hp, c, hk, q⟩ := h
  obtain ⟨u, v, rfl, rx, rt⟩ := vals2 r
  cases rx
  obtain ⟨ox, od, vs, J, hd, _⟩ := hp.inst I
  have e := dV_fun rt rD
  subst e
  exact PySem.W.kia_one (xkitF (od := none) c) I.kIn ⟨ox, od, vs, J, hd⟩ hk (fun z => nomatch z) fun tk => ⟨.bl b, H, I.tok tk, rfl, q⟩
noncomputable def tFldF (K : PySem.W.Frag) (ta : TE) (f : Str) : TE := fun σ H Q => ta σ H fun x H1 => ∃ p C fs v, x = .ref p ∧ ExcV H1 p C fs ∧ XIsi K C ∧ PySem.W.hasDictIn K C = true ∧ NoAttr K C f ∧ fs.lookup f = some v ∧ Q v H1
noncomputable def FldFAt (K : PySem.W.Frag) (f : Str) (Q : VK) (x : V) (H : Hp) : Prop := ∃ p C fs v, x = .ref p ∧ ExcV H p C fs ∧ XIsi K C ∧ PySem.W.hasDictIn K C = true ∧ NoAttr K C f ∧ fs.lookup f = some v ∧ Q v H
theorem s_fldF {K : PySem.W.Frag} {f : Str} {te : TE} {Q : VK} (h : te σ H (FldFAt K f Q)) : tFldF K te f σ H Q := h
theorem s_fldFAt {K : PySem.W.Frag} {f : Str} {v : V} {Q : VK} (e : ExcV H p C fs) (c : XIsi K C) (d : PySem.W.hasDictIn K C = true) (n : NoAttr K C f) (l : fs.lookup f = some v) (h : Q v H) : FldFAt K f Q (.ref p) H := ⟨p, C, fs, v, rfl, e, c, d, n, l, h⟩
theorem pe_fldF {K : PySem.W.Frag} {e : Expr} {ta : TE} {f : Str} {pos : Pos} (h : X.K = K) (he : PE X e ta) (hb : attributeBase e f X.env (eval e X.env) = eval e X.env) : PE X (.Attribute e f pos) (tFldF K ta f) := by
  subst h
  intro pins s σ H Q I h
  refine attr_of hb (thn (he pins s σ H _ I h) fun u s1 ⟨x, H1, I1, rx, p, C, fs, v, ex, ea, c, d, n, l, q⟩ => ?_)
  subst ex
  obtain rfl : u = Value.ref p := rx
  obtain ⟨ox, od, vs, J, hd, k⟩ := ea.inst I1
  obtain ⟨o, mA, rfl, hl, r⟩ := k (fun z => by subst z; cases l)
  obtain ⟨u', hu, ru⟩ := RelO.some_of (v := v) (o := mA f) (by rw [← l]; exact r f)
  exact get_exc I1.kIn c J (PySem.W.findObj_own (attr := none) d n rfl (by rw [hl, hu])) (handed_of ru) ⟨v, H1, I1.tok _, ru, q⟩
noncomputable def sFldF (K : PySem.W.Frag) (ta tv : TE) (f : Str) : TS := fun D σ H => tv σ H fun y H1 => ta σ H1 fun x H2 => ∃ p C W g, x = .ref p ∧ H2 p = some (ExcF p C none) ∧ XOwn K C W g ∧ NoAttr K C f ∧
  ∀ d, H2 d = none → d ≠ p → D.nx σ (upd (upd H2 d (.xd [(f, y)])) p (ExcF p C (some d)))
noncomputable def SetFAt (K : PySem.W.Frag) (f : Str) (y : V) (D : Ends) (σ : St) (x : V) (H : Hp) : Prop := ∃ p C W g, x = .ref p ∧ H p = some (ExcF p C none) ∧ XOwn K C W g ∧ NoAttr K C f ∧
  ∀ d, H d = none → d ≠ p → D.nx σ (upd (upd H d (.xd [(f, y)])) p (ExcF p C (some d)))
theorem s_setF {K : PySem.W.Frag} {f : Str} {te tv : TE} {D : Ends} (h : tv σ H fun y H1 => te σ H1 (SetFAt K f y D σ)) : sFldF K te tv f D σ H := h
theorem s_setFAt {K : PySem.W.Frag} {f : Str} {y : V} {D : Ends} {g : Addr} (e : H p = some (ExcF p C none)) (c : XOwn K C W g) (n : NoAttr K C f)
    (h : ∀ H2, ExcV H2 p C [(f, y)] → (∀ b u, b ≠ p → H b = some u → H2 b = some u) → D.nx σ H2) : SetFAt K f y D σ (.ref p) H :=
  ⟨p, C, W, g, rfl, e, c, n, fun d hd ne => h _ ⟨some d, upd_same, by show upd _ p _ d = _; rw [upd_ne ne, upd_same]⟩ fun b u hb q => by rw [upd_ne hb, upd_ne (ne_of_none q hd)]; exact q⟩
theorem ps_fldF {K : PySem.W.Frag} {o value : Expr} {ta tv : TE} {f : Str} {pos pos' : Pos} (h : X.K = K) (ha : PE X o ta) (hv : PE X value tv) (hs : swapsWith value (some (.Attribute o f pos')) pos.line X.env = pure false) : PS X (.Assign [.Attribute o f pos'] value pos) (sFldF K ta tv f) := by
  subst h
  intro pins s σ H D I h
  refine plainObj_wpAny_Assign_Attribute (thn (hv pins s σ H _ I h) fun u s1 ⟨y, H1, I1, ry, q⟩ => thn (ha pins s1 σ H1 _ I1 q) fun ov s2 ⟨x, H2, I2, rx, p, C, W, g, ex, ea, c, n, q2⟩ => ?_) hs
  subst ex
  obtain rfl : ov = Value.ref p := rx
  obtain ⟨⟨t, e0⟩, _⟩ := I2.hok p _ ea
  refine set_exc I2.kIn c n e0 fun h' ns hx keep => ?_
  have hf := I2.hok.fresh (Nat.le_refl s2.heap.objs.size)
  have hne : s2.heap.objs.size ≠ p := Nat.ne_of_gt (Heap.lt_size e0)
  obtain ⟨oD, es, ep, hoD, hrest⟩ := id ns
  have hfr := (Heap.get?_some_iff.mp hoD).2
  have hD : (s2.heap.push oD).get? s2.heap.objs.size = some oD := Heap.get?_push_size s2.heap hfr
  have I3 := I2.laid (a := s2.heap.objs.size) (o := .xd [(f, y)]) (h' := s2.heap.push oD) (t' := s2.toks) (fun b u q => Heap.get?_push_of_some _ q) (Nat.le_refl _)
    ⟨_, ⟨oD, es, ep, hD, hrest⟩, fun k => by
      by_cases hk : k = f
      · subst hk
        simp only [if_true, List.lookup, beq_self_eq_true]
        exact ry
      · have hb : (k == f) = false := beq_eq_false_iff_ne.mpr hk
        simp only [if_neg hk, List.lookup, hb]
        exact trivial⟩
  have I4 := I3.write (x := p) (e := p) (o := ExcF p C (some s2.heap.objs.size)) (h' := h') (t' := s2.toks + 2) (by rw [upd_ne hne.symm, ea]; exact True.intro) (.inl rfl) (fun b u hb q => ?_) ⟨_, hx⟩ (excF_ok hx)
  · exact ⟨σ, _, I4, q2 _ hf hne⟩
  · by_cases hz : b = s2.heap.objs.size
    · subst hz
      have q : (s2.heap.push oD).get? s2.heap.objs.size = some u := q
      rw [hD] at q
      cases q
      exact hoD
    · refine keep b u hb ?_
      have q : (s2.heap.push oD).get? b = some u := q
      rw [Heap.get?_push_ne _ _ _ hz] at q
      exact q
noncomputable def tMakeF (C : Addr) (t : TA) : TE := fun σ H Q => t σ H fun vs H1 => ∃ v, vs = [v] ∧ ∀ x, H1 x = none → Q (.ref x) (upd H1 x (ExcF x C none))
noncomputable def MakeFAt (C : Addr) (Q : VK) (vs : List V) (H : Hp) : Prop := ∃ v, vs = [v] ∧ ∀ x, H x = none → Q (.ref x) (upd H x (ExcF x C none))
theorem s_makeF {C : Addr} {t : TA} {Q : VK} (h : t σ H (MakeFAt C Q)) : tMakeF C t σ H Q := h
theorem s_makeFAt {C : Addr} {v : V} {Q : VK} (h : ∀ x H2, H x = none → Same H H2 → ExcV H2 x C [] → Q (.ref x) H2) : MakeFAt C Q [v] H :=
  ⟨v, rfl, fun x f => h x _ f (fun b o e => by rw [upd_ne (ne_of_none e f)]; exact e) ⟨none, upd_same, rfl⟩⟩
theorem pe_makeF {x : Str} {np pos : Pos} {e : Expr} {es : List Expr} {t : TA} (q : PySem.W.excIn X.K C xBM "ValueError.__new__" = true) (hk : PySem.W.keepIn X.K (.ref C) = true) (hg : Gl X x) (hm : X.mg x = some (.ref C)) (ha : PA X (e :: es) t)
    (hdb : (x == ("__debug__" : Str)) = false := by decide) (he : starEach (e :: es) X.env = (false, eval e X.env) :: starEach es X.env := by rfl) (hpl : (backTo pos (starEach es X.env)).any (·.1) = false := by rfl) :
    PE X (.Call (.Name x np) (e :: es) [] pos) (tMakeF C t) := by
  intro pins s σ H Q I h
  obtain ⟨tl, N, nm, qn, bs, hdct, sn, sub, ab, col, dd, k0, k1, k2, k3, k5, mN, hC, hN, hni, T⟩ := (xcls_of I.ok.mod.kin q).obj
  refine wpAny_Call_Name_kw (ld_glob I hg hm ?_ hdb)
  refine PySem.W.callWith_K (h₀ := X.base) I.ok.mod.kin hk (thn (ha pos pins s σ H _ I h) fun us s1 ⟨vs, H1, I1, r, v, ev, q⟩ => ⟨I1.kIn, ?_⟩) he hpl
  subst ev
  obtain ⟨hh, g, d, tk, os⟩ := s1
  refine wpAny_call_exc_subT PySem.F.excBase_ValueError (T.keeps I1.bk) (I1.bk _ _ hC) (hN.keeps I1.bk) hni (fun h' e m => ?_) (by show us.length ≤ _; rw [← r.length]; exact le_line1)
  obtain ⟨tt, q1, q2, q3⟩ := m.there
  obtain ⟨I2, f2⟩ := made_ok I1 m
  exact ⟨.ref e, _, I2.track f2.fe (excF_ok q1), rfl, q e f2.fe.1⟩
noncomputable def tMakeI (C : Addr) (sp : Sp) (E : XK) (t : TA) : TE := fun σ H Q => t σ H fun vs H1 => ∃ v, vs = [v] ∧ ∀ x, H1 x = none → sp [.ref x, v] (upd H1 x (ExcF x C none)) (fun v H2 => v = .non ∧ Q (.ref x) H2) E
noncomputable def MakeIAt (C : Addr) (sp : Sp) (E : XK) (Q : VK) (vs : List V) (H : Hp) : Prop := ∃ v, vs = [v] ∧ ∀ x, H x = none → sp [.ref x, v] (upd H x (ExcF x C none)) (fun v H2 => v = .non ∧ Q (.ref x) H2) E
theorem s_makeI {C : Addr} {sp : Sp} {E : XK} {t : TA} {Q : VK} (h : t σ H (MakeIAt C sp E Q)) : tMakeI C sp E t σ H Q := h
theorem s_makeIAt {C : Addr} {sp : Sp} {E : XK} {v : V} {Q : VK} (h : ∀ x H2, H x = none → Same H H2 → H2 x = some (ExcF x C none) → sp [.ref x, v] H2 (fun v H2 => v = .non ∧ Q (.ref x) H2) E) : MakeIAt C sp E Q [v] H :=
  ⟨v, rfl, fun x f => h x _ f (fun b o e => by rw [upd_ne (ne_of_none e f)]; exact e) upd_same⟩
theorem pe_makeI {CX : CXT} {k : Nat} {fd : FuncData} {ps : List Str} {sp : Sp} {E : XK} {x : Str} {np pos : Pos} {e : Expr} {es : List Expr} {t : TA} (M : XOwn X.K C W f) (F : FnOk X.prog X.w X.K X.mg X.base CX k f fd ps sp) (hr : Room (k + 1) X.A) (hg : Gl X x) (hm : X.mg x = some (.ref C))
    (hb : Binds X.K fd ps []) (hx : Passes CX X E) (ha : PA X (e :: es) t)
    (hdb : (x == ("__debug__" : Str)) = false := by decide) (he : starEach (e :: es) X.env = (false, eval e X.env) :: starEach es X.env := by rfl) (hpl : (backTo pos (starEach es X.env)).any (·.1) = false := by rfl) :
    PE X (.Call (.Name x np) (e :: es) [] pos) (tMakeI C sp E t) := by
  intro pins s σ H Q I h
  refine wpAny_Call_Name_kw (ld_glob I hg hm ?_ hdb)
  refine PySem.W.callWith_K (h₀ := X.base) I.ok.mod.kin M.kp (thn (ha pos pins s σ H _ I h) fun us s1 ⟨vs, H1, I1, r, v, ev, q⟩ => ⟨I1.kIn, ?_⟩) he hpl
  subst ev
  obtain ⟨nm, qn, N, bs, sn, sub, ab, col, dd, k0, k1, k2, k3, k5, lk⟩ := M.lk
  have hC := I1.kIn _ _ lk
  have T : OwnTail s1.heap xBM (.ref W :: xBM) := PySem.W.tail_of_in I1.kIn (tail_up M.up)
  have KI := I1.kIn
  obtain ⟨hh, g, d, tk, os⟩ := s1
  refine call_init PySem.F.excBase_ValueError T KI hC M.init (beq_iff_eq.mp M.fn) (fun h' e m => ?_) (by show us.length ≤ _; rw [← r.length]; exact le_line1)
  obtain ⟨tt, q1, q2, q3⟩ := m.there
  obtain ⟨I2, f2⟩ := made_ok I1 m
  have I3 := I2.track f2.fe (excF_ok q1)
  have hq := q e f2.fe.1
  have r2 : Vals [V.ref e, v] (Value.ref e :: us) := .cons rfl r
  have hl : (Value.ref e :: us ++ []).length = ps.length := by
    have z := r2.length
    rw [F.len _ _ _ _ hq] at z
    rw [List.append_nil]
    exact z.symm
  have bd := hb _ (Value.ref e :: us) I3.kIn hl
  rw [List.append_nil] at bd
  refine wpAny_call (codeAny_mono (F.run _ X.stack _ _ ⟨Value.ref e :: us, []⟩ (Value.ref e :: us) _ _ E (hr.make C us []) (I3.env0.make C us []) bd r2 hq) fun r s' hq' => ?_)
  cases r with
  | error e => exact hx pins σ _ _ e s' I3 hq'
  | ok fl =>
    cases fl with
    | ret u =>
      obtain ⟨v, H', I4, rv, ev, q3⟩ := I3.after hq'
      subst ev
      exact ⟨rv, ⟨V.ref e, H', I4, rfl, q3⟩⟩
    | next => exact False.elim hq'
    | brk => exact False.elim hq'
    | cont => exact False.elim hq'
structure XInit (K : PySem.W.Frag) (W : Addr) : Prop where
  ga : PySem.W.specialIn K (.ref W) "__getattribute__" = some (some (.builtin "type.__getattribute__"))
  rd : PySem.W.readsIn K W (.type "type") = true
  fd : PySem.W.findCls K (.ref W) (.type "type") "__init__" = some (.val (.builtin "ValueError.__init__"))
noncomputable def tXInit (K : PySem.W.Frag) (t : TA) : TE := fun σ H Q => t σ H fun vs H1 => ∃ p C W g dx u, vs = [.ref p, u] ∧ H1 p = some (ExcF p C dx) ∧ XOwn K C W g ∧ Q .non H1
noncomputable def XInitAt (K : PySem.W.Frag) (Q : VK) (vs : List V) (H : Hp) : Prop := ∃ p C W g dx u, vs = [.ref p, u] ∧ H p = some (ExcF p C dx) ∧ XOwn K C W g ∧ Q .non H
theorem s_xinit {K : PySem.W.Frag} {t : TA} {Q : VK} (h : t σ H (XInitAt K Q)) : tXInit K t σ H Q := h
theorem s_xinitAt {K : PySem.W.Frag} {dx : Option Addr} {u : V} {Q : VK} (e : H p = some (ExcF p C dx)) (m : XOwn K C W f) (h : Q .non H) : XInitAt K Q [.ref p, u] H := ⟨p, C, W, f, dx, u, rfl, e, m, h⟩
theorem xinit_ok {a : Value} {dx : Option Addr} {Q : VK} (I : Inv X pins σ H s) (e : H p = some (ExcF p C dx)) (m : XOwn X.K C W f) (h : Q .non H) :
    wpAny (model X.prog X.w) X.A (call (.builtin "ValueError.__init__") [.ref p, a]) (EP X pins σ Q) X.xe s := by
  obtain ⟨⟨t, e0⟩, _⟩ := I.hok p _ e
  have FB := PySem.F.excBase_ValueError
  obtain ⟨nm, qn, N, bs, sn, sub, ab, col, dd, k0, k1, k2, k3, k5, lk⟩ := m.lk
  have hC := I.kIn _ _ lk
  have T : OwnTail s.heap xBM (.ref W :: xBM) := PySem.W.tail_of_in I.kIn (tail_up m.up)
  obtain ⟨hh, g, d, tk, os⟩ := s
  refine wpAny_call (codeAny_call_builtin FB.init.plain FB.initEntry (wpAny_check_init_subT FB T hC e0 rfl ?_))
  unfold Builtin.«BaseException.__init__»
  show wpAny _ _ (newTuple [a] >>= fun tv => Builtin.BaseException.bexcPut (.ref p) 0 tv >>= fun _ => ret .none) _ _ _
  refine wpAny_bind (wpAny_newTuple ?_ le_line1)
  have e1 : (hh.push { cls := .type "tuple", data := .seq [a].toArray }).get? p = some (xRec C dx t) := Heap.get?_push_of_some _ e0
  unfold Builtin.BaseException.bexcPut
  refine wpAny_bind (wpAny_bind (wpAny_field e1 rfl rfl (wpAny_bind (wpAny_setField e1 rfl (Nat.succ_pos 5) ?_))))
  have e2 := Heap.get?_update_self (Obj.mapFields (·.setIfInBounds 0 (.ref hh.objs.size))) e1 rfl
  have I1 := (I.kept (t' := tk) (h' := hh.push { cls := .type "tuple", data := .seq [a].toArray }) (fun b u q => Heap.get?_push_of_some _ q)).write (x := p) (e := p) (o := ExcF p C dx)
    (h' := (hh.push { cls := .type "tuple", data := .seq [a].toArray }).update p (Obj.mapFields (·.setIfInBounds 0 (.ref hh.objs.size)))) (t' := tk) (by rw [e]; exact True.intro) (.inl rfl) (fun b u hb q => (Heap.get?_update_ne _ _ _ _ hb).trans q) ⟨_, e2⟩ (excF_ok (t := hh.objs.size) e2)
  have eH : upd H p (ExcF p C dx) = H := by
    funext b
    by_cases hb : b = p
    · subst hb; rw [upd_same, e]
    · rw [upd_ne hb]
  rw [eH] at I1
  unfold letGo letGo
  refine wpAny_bind (wpAny_holding (wpAny_point ?_))
  exact wpAny_pure (wpAny_pure ⟨.non, H, I1, rfl, h⟩)
theorem pe_xinit {x : Str} {np apos pos : Pos} {e : Expr} {es : List Expr} {t : TA} {K : PySem.W.Frag} {pl : Sem Bool} (hK : X.K = K) (hg : Gl X x) (hx : X.mg x = some (.ref W)) (c : XInit K W) (ha : PA X (e :: es) t)
    (hdb : (x == ("__debug__" : Str)) = false := by decide) (hst : starEach (e :: es) X.env = (false, eval e X.env) :: starEach es X.env := by rfl) (hpl : (backTo pos (starEach es X.env)).any (·.1) = false := by rfl)
    (ht : eval (.Call (.Attribute (.Name x np) "__init__" apos) (e :: es) [] pos) X.env = (do
      let ov ← eval (.Name x np) X.env
      standAt apos.atName
      let (f, first) ← holding [ov] (getMethod ov "__init__" pl)
      callWith pos f first (backTo pos (starEach (e :: es) X.env)) (backToKw pos (keywordEach [] X.env))) := by rfl) :
    PE X (.Call (.Attribute (.Name x np) "__init__" apos) (e :: es) [] pos) (tXInit K t) := by
  subst hK
  intro pins s σ H Q I h
  refine PySem.W.methodCall_KW (pl := pl) (ld_glob I hg hx ?_ hdb) ht
  refine PySem.W.method_cls I.kIn c.ga (PySem.W.cls_value I.kIn c.rd c.fd rfl ?_)
  have I1 := I.tok (s.toks + 1)
  refine PyProof.Rows.callWith_builtin1 (thn (ha pos pins _ σ H _ I1 h) fun us s1 ⟨vs, H1, I2, r, p, C, W2, g2, dx, u, ev, hp, hm, q2⟩ => ?_) hst hpl
  subst ev
  obtain ⟨a1, a2, rfl, ra, rb⟩ := vals2 r
  obtain rfl : a1 = .ref p := ra
  exact xinit_ok I2 hp hm q2
theorem ps_dead {st : Stmt} : PS X st (fun _ _ _ => False) := fun _ _ _ _ _ _ h => h.elim
end
end L2
set_option autoImplicit false
namespace M
noncomputable def pb : Nat → Nat → Bool
  | 0, _ => false
  | w + 1, m => (m.testBit w) ^^ (pb w m)
noncomputable def pl (w m : Nat) : List Nat := (List.range w).filter m.testBit
end M
set_option autoImplicit false
namespace M
noncomputable def Span : List Nat → Nat → Prop
  | [], x => x = 0
  | r :: rs, x => Span rs x ∨ Span rs (x ^^^ r)
noncomputable def sm : List Nat → Nat → Nat
  | [], _ => 0
  | r :: rs, p => (if p.testBit 0 then r else 0) ^^^ sm rs (p / 2)
noncomputable def Fre (rows : List Nat) (i : Nat) : Prop := i < rows.length ∧ ¬ Span (rows.take i) (rows.getD i 0)
noncomputable def Frs (rows : List Nat) (q : Nat) : Prop := ∀ i, q.testBit i = true → Fre rows i
structure Ech (es : List (Nat × Nat)) (rows : List Nat) : Prop where
  nz : ∀ e ∈ es, e.1 ≠ 0
  lt : ∀ e ∈ es, e.2 < 2 ^ rows.length
  sm : ∀ e ∈ es, sm rows e.2 = e.1
  nd : (es.map fun e => e.1.log2).Nodup
  all : ∀ y, Span rows y → y ≠ 0 → ∃ e ∈ es, e.1.log2 = y.log2
  sub : ∀ e ∈ es, Frs rows e.2
noncomputable def tt (p : Prop) : Bool := @decide p (Classical.propDecidable p)
noncomputable def fr (rows : List Nat) : List Nat := (List.range rows.length).filter fun i => !tt (Span (rows.take i) (rows.getD i 0))
structure Nul (nms rows : List Nat) : Prop where
  lt : ∀ x ∈ nms, x < 2 ^ rows.length
  nz : ∀ x ∈ nms, x ≠ 0
  sm : ∀ x ∈ nms, sm rows x = 0
  pw : nms.Pairwise fun a b => a.log2 < b.log2
  len : nms.length + (fr rows).length = rows.length
noncomputable def Inj (ws : List Nat) : Prop := ∀ p, p < 2 ^ ws.length → sm ws p = 0 → p = 0
structure Sums (ks rows : List Nat) : Prop where
  nd : ks.Nodup
  all : ∀ x, x ∈ ks ↔ Span rows x
end M
set_option autoImplicit false
namespace M
noncomputable def xs (rows ps : List Nat) : Nat := ps.foldl (fun a k => a ^^^ rows.getD k 0) 0
end M
set_option autoImplicit false
namespace M
noncomputable abbrev od (m : Nat) : Bool := pb 1000 m
structure Bar (rows : List Nat) (b m : Nat) : Prop where
  ev : ∀ y, Span rows y → od (m &&& y) = false
  bit : m.testBit b = true
  low : ∀ k, k < b → m.testBit k = false
  oth : ∀ k, k ≠ b → (∀ y, Span rows y → y ≠ 0 → y.log2 ≠ k) → m.testBit k = false
  lt : ∀ W, (∀ r ∈ rows, r < 2 ^ W) → b < W → m < 2 ^ W
structure BarI (es : List (Nat × Nat)) (ts : List Nat) (b m : Nat) : Prop where
  ev : ∀ e ∈ es, e.1.log2 ∈ ts → od (m &&& e.1) = false
  bit : m.testBit b = true
  low : ∀ k, k < b → m.testBit k = false
  oth : ∀ k, k ≠ b → (∀ e ∈ es, e.1.log2 ≠ k) → m.testBit k = false
  lt : ∀ W, (∀ e ∈ es, e.1 < 2 ^ W) → b < W → m < 2 ^ W
end M
set_option autoImplicit false
namespace M
end M
set_option Elab.async false
set_option linter.all false
set_option maxRecDepth 100000
set_option maxHeartbeats 4000000
namespace Sx
open PySem L2
noncomputable abbrev nat (k : Nat) : V := .int (k : Int)
theorem room100 {k : Nat} {A : Around} (r : Room k A) : A.units + 100 < cLine := by have := r.un; omega
structure En where
  a : Addr
  m : Nat
  p : Nat
noncomputable def kvsOf (es : List En) : List (Key × V) := es.map fun e => (Sum.inl ((e.m.log2 : Nat) : Int), V.ref e.a)
structure StA (H : Hp) (C p d f n : Addr) (rows : List Nat) : Prop where
  ho : ∃ dx, H p = some (.ins C dx [("by_top", .ref d), ("free_places", .ref f), ("null_masks", .ref n)])
  he : ∃ es : List En, H d = some (.dK (kvsOf es)) ∧ (∀ e ∈ es, H e.a = some (.tup [nat e.m, nat e.p])) ∧ M.Ech (es.map fun e => (e.m, e.p)) rows ∧ es.length = (M.fr rows).length
  hf : H f = some (.lst ((M.fr rows).map nat))
  hn : ∃ nms, H n = some (.lst (nms.map nat)) ∧ M.Nul nms rows
  ne : f ≠ n
theorem get_map {α : Type} {f : α → V} {ws : List α} {i : Nat} {x : V} (h : (ws.map f)[i]? = some x) : ∃ k, ws[i]? = some k ∧ x = f k := by
  rw [List.getElem?_map] at h
  cases e : ws[i]? with
  | none => rw [e] at h; cases h
  | some k => rw [e] at h; exact ⟨k, rfl, (Option.some.inj h).symm⟩
theorem cut_ints (ns : List Int) (lo hi : Option Int) : ∃ cs : List Int, cutV (ns.map V.int) lo hi = cs.map V.int ∧ cs.length ≤ ns.length := by
  refine ⟨(ns.drop (HT.sIx (ns.map V.int).length 0 lo)).take (HT.sIx (ns.map V.int).length (ns.map V.int).length hi - HT.sIx (ns.map V.int).length 0 lo), ?_, ?_⟩
  · unfold cutV
    rw [List.map_take, List.map_drop]
  · rw [List.length_take, List.length_drop]; omega
noncomputable def sp_mix : Sp := fun vs H Q _ => ∃ c k, vs = [.int c, .int k] ∧ 0 ≤ k ∧ k < 100000 ∧ ∀ r : Nat, r < 2147483587 → Q (nat r) H
noncomputable def sp_law (K : PySem.W.Frag) : Sp := fun vs H Q _ => ∃ (a : Addr) (ns : List Int), vs = [.ref a] ∧ SqL K H a (ns.map V.int) ∧ ns.length ≤ 63 ∧ ∀ H', Q (.bl true) H'
theorem c_mix {H : Hp} {Q : VK} {E : XK} {c k : Int} (h0 : 0 ≤ k) (h1 : k < 100000) (q : ∀ r : Nat, r < 2147483587 → Q (nat r) H) : sp_mix [.int c, .int k] H Q E := ⟨c, k, rfl, h0, h1, q⟩
structure Prs (H : Hp) (ws : List Nat) (D : Addr) (ps : List (Addr × Nat)) : Prop where
  l : H D = some (.lst (ps.map fun q => V.ref q.1))
  t : ∀ q ∈ ps, H q.1 = some (.tup [nat q.2, nat (M.sm ws q.2)])
  b : ∀ q ∈ ps, q.2 < 2 ^ ws.length
end Sx
set_option Elab.async false
set_option linter.all false
set_option maxRecDepth 100000
set_option maxHeartbeats 4000000
namespace Sx
open PySem L2
end Sx
set_option Elab.async false
set_option linter.all false
set_option maxRecDepth 100000
set_option maxHeartbeats 4000000
namespace Sx
open PySem L2
noncomputable def cell (ns : List Int) (k : Int) : Int := if k < ns.length then ns.getD k.toNat 0 else 41 * k + 3
noncomputable def sp_cell2 (K : PySem.W.Frag) : Sp := fun vs H Q _ => ∃ (p : Addr) (ns : List Int) (k : Int), vs = [.ref p, .int k] ∧ SqL K H p (ns.map V.int) ∧ 0 ≤ k ∧ Q (.int (cell ns k)) H
theorem c_cell2 {K : PySem.W.Frag} {H : Hp} {Q : VK} {E : XK} {p : Addr} {ns : List Int} {k : Int} (e : SqL K H p (ns.map V.int)) (h0 : 0 ≤ k) (q : Q (.int (cell ns k)) H) : sp_cell2 K [.ref p, .int k] H Q E := ⟨p, ns, k, rfl, e, h0, q⟩
structure Acr (rows : List Nat) (wd : Nat) (ms : List Nat) : Prop where
  len : ms.length + (M.fr rows).length = wd
  inj : M.Inj ms
  lt : ∀ m ∈ ms, m < 2 ^ wd
  ev : ∀ m ∈ ms, ∀ y, M.Span rows y → M.od (m &&& y) = false
  all : ∀ z, z < 2 ^ wd → (∀ y, M.Span rows y → M.od (z &&& y) = false) → M.Span ms z
end Sx
set_option Elab.async false
set_option linter.all false
set_option maxRecDepth 100000
set_option maxHeartbeats 4000000
namespace Sx
open PySem L2
noncomputable def sp_kept : Sp := fun vs H Q _ => ∃ x : Str, vs = [.str x, .int 12] ∧ Q (.str x) H
noncomputable def sp_xname (C : Addr) : Sp := fun vs H Q _ => ∃ (p : Addr) (x : Str), vs = [.ref p, .str x] ∧ H p = some (ExcF p C none) ∧ ∀ H2, ExcV H2 p C [("name", .str x)] → (∀ b u, b ≠ p → H b = some u → H2 b = some u) → Q .non H2
noncomputable def sp_xline (C : Addr) : Sp := fun vs H Q _ => ∃ (p : Addr) (v : V), vs = [.ref p, v] ∧ H p = some (ExcF p C none) ∧ ∀ H2, ExcV H2 p C [("line", v)] → (∀ b u, b ≠ p → H b = some u → H2 b = some u) → Q .non H2
noncomputable def sp_xring (K : PySem.W.Frag) (C : Addr) : Sp := fun vs H Q _ => ∃ (p l : Addr) (xs : List V), vs = [.ref p, .ref l] ∧ SqL K H l xs ∧ H p = some (ExcF p C none) ∧ ∀ H2 r, H r = none → ExcV H2 p C [("ring", .ref r)] → H2 r = some (.lst xs) → (∀ b u, b ≠ p → H b = some u → H2 b = some u) → Q .non H2
noncomputable def sp_word : Sp := fun vs H Q _ => ∃ c : Int, vs = [.int c] ∧ ∀ (x : Str) H2, Same H H2 → Q (.str x) H2
noncomputable def sp_lkinds (cs : List Addr) : Sp := fun vs H Q _ => ∃ (p C : Addr) (fs : List (Str × V)) (k : Nat), vs = [.ref p] ∧ ExcV H p C fs ∧ cs[k]? = some C ∧ ∀ r H2, Same H H2 → H2 r = some (.lst [nat k]) → Q (.ref r) H2
theorem c_word {H : Hp} {Q : VK} {E : XK} {c : Int} (h : ∀ (x : Str) H2, Same H H2 → Q (.str x) H2) : sp_word [.int c] H Q E := ⟨c, rfl, h⟩
theorem c_xname {C p : Addr} {x : Str} {H : Hp} {Q : VK} {E : XK} (e : H p = some (ExcF p C none)) (h : ∀ H2, ExcV H2 p C [("name", .str x)] → (∀ b u, b ≠ p → H b = some u → H2 b = some u) → Q .non H2) : sp_xname C [.ref p, .str x] H Q E := ⟨p, x, rfl, e, h⟩
theorem c_xline {C p : Addr} {v : V} {H : Hp} {Q : VK} {E : XK} (e : H p = some (ExcF p C none)) (h : ∀ H2, ExcV H2 p C [("line", v)] → (∀ b u, b ≠ p → H b = some u → H2 b = some u) → Q .non H2) : sp_xline C [.ref p, v] H Q E := ⟨p, v, rfl, e, h⟩
theorem same_init {H H2 H3 : Hp} {p : Addr} (f : H p = none) (s : Same H H2) (k : ∀ b u, b ≠ p → H2 b = some u → H3 b = some u) : Same H H3 := fun b u e => k b u (ne_of_none e f) (s b u e)
end Sx
namespace L2
open PySem
theorem ExcV.upd {H H2 : Hp} {p C l : Addr} {fs : List (Str × V)} {xs ys : List V} (e : ExcV H p C fs) (hl : H l = some (.lst xs)) (u : Upd H H2 l (.lst ys)) : ExcV H2 p C fs := by
  obtain ⟨dx, a, b⟩ := e
  refine ⟨dx, u.oth _ _ (fun z => by subst z; rw [a] at hl; cases hl) a, ?_⟩
  cases dx with
  | none => exact b
  | some d => exact u.oth _ _ (fun z => by subst z; rw [b] at hl; cases hl) b
end L2
namespace Sx
open PySem L2
noncomputable def XAll (H : Hp) (cs : List Addr) (xs : List V) : Prop := ∀ (k : Nat) (C : Addr), cs[k]? = some C → ∃ p fs, xs[k]? = some (V.ref p) ∧ ExcV H p C fs
theorem XAll.nil {H : Hp} : XAll H [] [] := fun k C e => by simp at e
theorem XAll.cons {H : Hp} {cs : List Addr} {xs : List V} {p C : Addr} {fs : List (Str × V)} (e : ExcV H p C fs) (h : XAll H cs xs) : XAll H (C :: cs) (V.ref p :: xs) := fun k D q => by
  cases k with
  | zero => cases q; exact ⟨p, fs, rfl, e⟩
  | succ k => exact h k D (by simpa using q)
theorem rep_l1 {K : PySem.W.Frag} {H : Hp} {D : Addr} {v : V} {d : Dt} (h : H D = some (.lst [v])) (r : Rep K H v d) : Rep K H (.ref D) (.lst [d]) := .lst (SqL.of h) rfl fun i x e h1 h2 => by
  cases i with
  | zero => cases h1; cases h2; exact r
  | succ i => simp at h1
theorem dep_strs : ∀ ws : List Str, depDs (ws.map Dt.str) = 0
  | [] => rfl
  | n :: ns => by rw [List.map_cons, depDs, dep_strs ns]; rfl
theorem rep_strL {K : PySem.W.Frag} {H : Hp} {D : Addr} {ws : List Str} (h : H D = some (.lst (ws.map V.str))) : Rep K H (.ref D) (.lst (ws.map Dt.str)) := .lst (SqL.of h) (by rw [List.length_map, List.length_map]) fun i x d h1 h2 => by
  rw [List.getElem?_map] at h1 h2
  cases e : ws[i]? with
  | none => rw [e] at h1; cases h1
  | some y => rw [e] at h1 h2; cases h1; cases h2; exact .str y
end Sx
set_option Elab.async false
set_option linter.all false
set_option maxRecDepth 100000
set_option maxHeartbeats 4000000
namespace My
open PySem L2 Sx
local macro_rules | `(tactic| walk_at "l2side") => `(tactic| first | assumption | rfl | omega | decide | ((try dsimp only [CDiv, CDivN, CPow, CMul]); first | omega | decide | (refine ⟨?_, ?_⟩ <;> first | omega | decide) | (refine ⟨?_, ?_, ?_⟩ <;> first | omega | decide) | (left; refine ⟨?_, ?_⟩ <;> first | omega | decide) | (right; refine ⟨?_, ?_⟩ <;> first | omega | decide)))
local macro_rules | `(tactic| walk_at "l2len") => `(tactic| ((with_reducible show _ + _ ≤ sizeLine); first | assumption | (rw [sizeLine_eq]; omega) | omega))
local macro_rules | `(tactic| walk_at "l2at") => `(tactic| first | assumption | exact upd_same | (refine' Same.get (by assumption) ?h; (case h => walk_at "l2at")))
local macro_rules | `(tactic| walk_at "l2hp") => `(tactic| first | assumption | (refine' SqL.of ?h; (case h => walk_at "l2at")) | (refine' SqT.of ?h; (case h => walk_at "l2at")) | (refine' Same.seq (by assumption) ?h; (case h => walk_at "l2hp")) | (refine' Same.tup (by assumption) ?h; (case h => walk_at "l2hp")) | (refine' Rep.same (by assumption) ?h; (case h => walk_at "l2hp")) | walk_at "l2at")
local macro_rules | `(tactic| walk_at "l2kind") => `(tactic| first | assumption | exact rfl | (refine' Or.inl ⟨rfl, _, ?e⟩; (case e => walk_at "l2hp")) | (refine' Or.inr (Or.inl ⟨rfl, _, ?e⟩); (case e => walk_at "l2hp")) | (refine' Or.inr (Or.inr ⟨rfl, _, Or.inl ?e⟩); (case e => walk_at "l2hp")))
local macro_rules | `(tactic| walk_at "l2step") => `(tactic| first
  | (with_reducible refine s_seq ?_) | (with_reducible refine s_asg ?_) | (with_reducible refine s_if ?_) | (with_reducible refine s_ret ?_) | (with_reducible refine s_retN ?_) | (with_reducible refine s_drop ?_) | (with_reducible refine s_next ?_)
  | ((with_reducible refine' s_var ?e ?_); (case e => repeat constructor)) | (with_reducible refine s_c ?_) | (with_reducible refine s_op ?_) | (with_reducible refine s_un ?_)
  | (with_reducible refine s_cons ?_) | (with_reducible refine s_nil ?_) | (with_reducible refine s_call0 ?_) | (with_reducible refine s_cb ?_)
  | (with_reducible refine s_rI0 ?_) | ((with_reducible refine' s_rI ?e ?_); (case e => walk_at "l2side")) | (with_reducible refine s_rU ?_)
  | ((with_reducible refine' s_rEq ?e ?_); (case e => rfl)) | ((with_reducible refine' s_rNe ?e ?_); (case e => rfl)) | (with_reducible refine s_leS ?_)
  | (with_reducible refine s_test ?_) | (with_reducible refine s_tB ?_) | (with_reducible refine s_chain ?_) | (with_reducible refine s_and ?_) | (with_reducible refine s_or ?_) | (with_reducible refine s_not ?_)
  | (with_reducible refine s_andV ?_) | (with_reducible refine s_orV ?_) | (with_reducible refine s_notV ?_) | (with_reducible refine s_ifE ?_)
  | ((with_reducible refine' s_gname ?e ?_); (case e => repeat constructor)) | (with_reducible refine s_gcons ?_) | (with_reducible refine s_gnil ?_) | ((with_reducible refine' s_gtup ?e ?l ?_); (case e => walk_at "l2hp"); (case l => rfl))
  | (with_reducible refine s_tup ?_) | (with_reducible refine s_lst ?_) | ((with_reducible refine' s_newL ?l ?_); (case l => exact le_line (Nat.le_of_ble_eq_true rfl))) | ((with_reducible refine' s_newT ?l ?_); (case l => exact le_line (Nat.le_of_ble_eq_true rfl)))
  | (with_reducible refine s_sl ?_) | (with_reducible refine s_noPart ?_) | (with_reducible refine s_part ?_)
  | ((with_reducible refine' s_slL ?e ?_); (case e => walk_at "l2hp")) | ((with_reducible refine' s_slS ?e ?_); (case e => walk_at "l2side"))
  | ((with_reducible refine' s_ixL ?e ?a ?_); (case e => walk_at "l2hp"); (case a => first | assumption | rfl)) | ((with_reducible refine' s_ixT ?e ?a ?_); (case e => walk_at "l2hp"); (case a => first | assumption | rfl))
  | ((with_reducible refine' s_ty ?e ?_); (case e => first | exact rfl | (refine' Or.inl ⟨rfl, _, ?f⟩; (case f => walk_at "l2hp")) | (refine' Or.inr (Or.inr (Or.inl ⟨rfl, Or.inl ⟨_, ?f⟩⟩)); (case f => walk_at "l2hp"))))
  | (with_reducible refine s_bm0 ?_) | (with_reducible refine s_bm ?_) | (with_reducible refine s_bits ?_)
  | ((with_reducible refine' s_lenL ?e ?_); (case e => walk_at "l2hp")) | ((with_reducible refine' s_lenT ?e ?_); (case e => walk_at "l2hp")) | ((with_reducible refine' s_lenS ?e ?_); (case e => walk_at "l2side"))
  | ((with_reducible refine' s_isi ?e ?m ?_); (case e => walk_at "l2kind"); (case m => decide))
  | (with_reducible refine s_dnew ?_) | (with_reducible refine s_for ?_) | (with_reducible refine s_iList ?_) | (with_reducible refine s_iTup ?_) | (with_reducible refine s_iStr ?_) | (with_reducible refine s_rng1 ?_) | (with_reducible refine s_rng2 ?_)
  | (with_reducible refine s_yes ?_) | (with_reducible refine s_true ?_) | (with_reducible refine s_false ?_) | (with_reducible refine s_intB ?_) | (with_reducible refine s_inS ?_) | ((with_reducible refine' s_addS ?e ?_); (case e => walk_at "l2side"))
  | (with_reducible refine s_comp ?_) | ((with_reducible refine' s_ifT ?e ?_); (case e => first | rfl | decide | assumption)) | ((with_reducible refine' s_ifF ?e ?_); (case e => first | rfl | decide | assumption)) | ((with_reducible refine' s_bounds ?a ?b ?_); (case a => omega); (case b => omega))
  | (with_reducible refine ⟨_, _, rfl, rfl, ?_⟩; (with_reducible refine ⟨?l, ?_⟩); (case l => walk_at "l2len")) | (with_reducible refine ⟨_, _, rfl, rfl, ?_⟩) | (with_reducible refine Or.inl ⟨_, rfl, ?_⟩) | (with_reducible refine Or.inr ⟨_, rfl, ?_⟩)
  | (with_reducible refine ⟨_, rfl, ?_⟩) | (with_reducible refine ⟨rfl, ?_⟩) | ((with_reducible refine' ⟨⟨_, ?e⟩, ?_⟩); (case e => walk_at "l2hp")))
local macro_rules | `(tactic| walk_at "l2") => `(tactic| repeat walk_at "l2step")
local macro_rules | `(tactic| walk_at "l2step") => `(tactic| first
  | (with_reducible refine s_setfld ?_) | (with_reducible refine s_fld ?_) | (with_reducible refine s_make ?_) | (with_reducible refine s_makeAt ?_) | (with_reducible refine s_meth ?_) | (with_reducible refine s_dput ?_) | (with_reducible refine s_dget ?_) | (with_reducible refine s_iEnum ?_)
  | ((with_reducible refine' s_listL ?e ?_); (case e => walk_at "l2hp")) | ((with_reducible refine' s_listT ?e ?_); (case e => walk_at "l2hp")) | ((with_reducible refine' s_tupL ?e ?_); (case e => walk_at "l2hp")) | ((with_reducible refine' s_tupT ?e ?_); (case e => walk_at "l2hp")))
local macro_rules | `(tactic| walk_at "l2step") => `(tactic| first
  | (with_reducible refine s_din ?_) | (with_reducible refine s_dnot ?_) | (with_reducible refine s_disp1I ?_) | ((with_reducible refine' s_listD ?e ?_); (case e => walk_at "l2at")))
local macro_rules | `(tactic| walk_at "l2step") => `(tactic| first | (with_reducible refine s_raise ?_) | (with_reducible refine s_try0 ?_) | (with_reducible refine s_callX ?_))
noncomputable def top (i : Nat) : Stmt := PySem.Challenge.pw_sumwires_k04_refusals_apart.main.body.getD i (.Pass ⟨0, 0, 0, 0⟩)
noncomputable abbrev s_kept : Stmt := top 2
theorem sc_kept : FnScope ["thing", "depth"] ["thing", "depth"] (defScope s_kept) := ⟨rfl, rfl, rfl, by decide +kernel, rfl, by decide +kernel, by decide +kernel⟩
noncomputable abbrev s_BadName___init__ : Stmt := inClass (top 9) 0
theorem sc_BadName___init__ : FnScope ["self", "name"] ["self", "name"] (defScope s_BadName___init__) := ⟨rfl, rfl, rfl, by decide +kernel, rfl, by decide +kernel, by decide +kernel⟩
noncomputable abbrev s_Doubled___init__ : Stmt := inClass (top 10) 0
theorem sc_Doubled___init__ : FnScope ["self", "name"] ["self", "name"] (defScope s_Doubled___init__) := ⟨rfl, rfl, rfl, by decide +kernel, rfl, by decide +kernel, by decide +kernel⟩
noncomputable abbrev s_NoWire___init__ : Stmt := inClass (top 11) 0
theorem sc_NoWire___init__ : FnScope ["self", "name"] ["self", "name"] (defScope s_NoWire___init__) := ⟨rfl, rfl, rfl, by decide +kernel, rfl, by decide +kernel, by decide +kernel⟩
noncomputable abbrev s_BadLine___init__ : Stmt := inClass (top 12) 0
theorem sc_BadLine___init__ : FnScope ["self", "line"] ["self", "line"] (defScope s_BadLine___init__) := ⟨rfl, rfl, rfl, by decide +kernel, rfl, by decide +kernel, by decide +kernel⟩
noncomputable abbrev s_Ring___init__ : Stmt := inClass (top 13) 0
theorem sc_Ring___init__ : FnScope ["self", "ring"] ["self", "ring"] (defScope s_Ring___init__) := ⟨rfl, rfl, rfl, by decide +kernel, rfl, by decide +kernel, by decide +kernel⟩
noncomputable abbrev s__law_cell : Stmt := top 15
theorem sc__law_cell : FnScope ["_law_script", "_law_k"] ["_law_script", "_law_k"] (defScope s__law_cell) := ⟨rfl, rfl, rfl, by decide +kernel, rfl, by decide +kernel, by decide +kernel⟩
noncomputable abbrev s__law_mix : Stmt := top 16
theorem sc__law_mix : FnScope ["_law_cell_here", "_law_k", "_law_number"] ["_law_cell_here", "_law_k"] (defScope s__law_mix) := ⟨rfl, rfl, rfl, by decide +kernel, rfl, by decide +kernel, by decide +kernel⟩
noncomputable abbrev s__law_word : Stmt := top 17
theorem sc__law_word : FnScope ["_law_cell_here", "_law_letters"] ["_law_cell_here"] (defScope s__law_word) := ⟨rfl, rfl, rfl, by decide +kernel, rfl, by decide +kernel, by decide +kernel⟩
noncomputable abbrev s__law_kinds : Stmt := top 18
theorem sc__law_kinds : FnScope ["_law_e", "_law_some"] ["_law_e"] (defScope s__law_kinds) := ⟨rfl, rfl, rfl, by decide +kernel, rfl, by decide +kernel, by decide +kernel⟩
noncomputable abbrev s_law : Stmt := top 19
theorem sc_law : FnScope ["_law_script", "_law_word_here", "_law_number", "_law_ring", "_law_handed", "_law_made", "_law_k", "_law_e"] ["_law_script"] (defScope s_law) := ⟨rfl, rfl, rfl, by decide +kernel, rfl, by decide +kernel, by decide +kernel⟩
structure Ad where
  f_kept : Addr
  d_kept : FuncData
  f_BadName___init__ : Addr
  d_BadName___init__ : FuncData
  f_Doubled___init__ : Addr
  d_Doubled___init__ : FuncData
  f_NoWire___init__ : Addr
  d_NoWire___init__ : FuncData
  f_BadLine___init__ : Addr
  d_BadLine___init__ : FuncData
  f_Ring___init__ : Addr
  d_Ring___init__ : FuncData
  f__law_cell : Addr
  d__law_cell : FuncData
  f__law_mix : Addr
  d__law_mix : FuncData
  f__law_word : Addr
  d__law_word : FuncData
  f__law_kinds : Addr
  d__law_kinds : FuncData
  f_law : Addr
  d_law : FuncData
  c_WireError : Addr
  c_BadSizes : Addr
  c_TooMany : Addr
  c_BadMask : Addr
  c_BadTable : Addr
  c_BadRow : Addr
  c_BadName : Addr
  c_Doubled : Addr
  c_NoWire : Addr
  c_BadLine : Addr
  c_Ring : Addr
  t_KEPT_DEPTH : Tok
structure Tx (K : PySem.W.Frag) (mg : Str → Option Value) (a : Ad) : Prop where
  F_kept : Fun K "kept" "kept" s_kept a.f_kept a.d_kept
  k_kept : PySem.W.keepIn K (.ref a.f_kept) = true
  b_kept : Binds K a.d_kept ["thing", "depth"] []
  g_kept : mg "kept" = some (.ref a.f_kept)
  F_BadName___init__ : Fun K "__init__" "BadName.__init__" s_BadName___init__ a.f_BadName___init__ a.d_BadName___init__
  k_BadName___init__ : PySem.W.keepIn K (.ref a.f_BadName___init__) = true
  b_BadName___init__ : Binds K a.d_BadName___init__ ["self", "name"] []
  F_Doubled___init__ : Fun K "__init__" "Doubled.__init__" s_Doubled___init__ a.f_Doubled___init__ a.d_Doubled___init__
  k_Doubled___init__ : PySem.W.keepIn K (.ref a.f_Doubled___init__) = true
  b_Doubled___init__ : Binds K a.d_Doubled___init__ ["self", "name"] []
  F_NoWire___init__ : Fun K "__init__" "NoWire.__init__" s_NoWire___init__ a.f_NoWire___init__ a.d_NoWire___init__
  k_NoWire___init__ : PySem.W.keepIn K (.ref a.f_NoWire___init__) = true
  b_NoWire___init__ : Binds K a.d_NoWire___init__ ["self", "name"] []
  F_BadLine___init__ : Fun K "__init__" "BadLine.__init__" s_BadLine___init__ a.f_BadLine___init__ a.d_BadLine___init__
  k_BadLine___init__ : PySem.W.keepIn K (.ref a.f_BadLine___init__) = true
  b_BadLine___init__ : Binds K a.d_BadLine___init__ ["self", "line"] []
  F_Ring___init__ : Fun K "__init__" "Ring.__init__" s_Ring___init__ a.f_Ring___init__ a.d_Ring___init__
  k_Ring___init__ : PySem.W.keepIn K (.ref a.f_Ring___init__) = true
  b_Ring___init__ : Binds K a.d_Ring___init__ ["self", "ring"] []
  F__law_cell : Fun K "_law_cell" "_law_cell" s__law_cell a.f__law_cell a.d__law_cell
  k__law_cell : PySem.W.keepIn K (.ref a.f__law_cell) = true
  b__law_cell : Binds K a.d__law_cell ["_law_script", "_law_k"] []
  g__law_cell : mg "_law_cell" = some (.ref a.f__law_cell)
  F__law_mix : Fun K "_law_mix" "_law_mix" s__law_mix a.f__law_mix a.d__law_mix
  k__law_mix : PySem.W.keepIn K (.ref a.f__law_mix) = true
  b__law_mix : Binds K a.d__law_mix ["_law_cell_here", "_law_k"] []
  g__law_mix : mg "_law_mix" = some (.ref a.f__law_mix)
  F__law_word : Fun K "_law_word" "_law_word" s__law_word a.f__law_word a.d__law_word
  k__law_word : PySem.W.keepIn K (.ref a.f__law_word) = true
  b__law_word : Binds K a.d__law_word ["_law_cell_here"] []
  g__law_word : mg "_law_word" = some (.ref a.f__law_word)
  F__law_kinds : Fun K "_law_kinds" "_law_kinds" s__law_kinds a.f__law_kinds a.d__law_kinds
  k__law_kinds : PySem.W.keepIn K (.ref a.f__law_kinds) = true
  b__law_kinds : Binds K a.d__law_kinds ["_law_e"] []
  g__law_kinds : mg "_law_kinds" = some (.ref a.f__law_kinds)
  F_law : Fun K "law" "law" s_law a.f_law a.d_law
  k_law : PySem.W.keepIn K (.ref a.f_law) = true
  b_law : Binds K a.d_law ["_law_script"] []
  g_law : mg "law" = some (.ref a.f_law)
  g_WireError : mg "WireError" = some (.ref a.c_WireError)
  y_WireError : XInit K a.c_WireError
  g_BadSizes : mg "BadSizes" = some (.ref a.c_BadSizes)
  x_BadSizes : PySem.W.excIn K a.c_BadSizes [.type "ValueError", .type "Exception", .type "BaseException", .type "object"] "ValueError.__new__" = true
  I_BadSizes : XIsi K a.c_BadSizes
  k_BadSizes : PySem.W.keepIn K (.ref a.c_BadSizes) = true
  i_BadSizes_WireError : PySem.W.kitOne K (.ref a.c_BadSizes) (.ref a.c_WireError) = some true
  i_BadSizes_BadSizes : PySem.W.kitOne K (.ref a.c_BadSizes) (.ref a.c_BadSizes) = some true
  i_BadSizes_TooMany : PySem.W.kitOne K (.ref a.c_BadSizes) (.ref a.c_TooMany) = some false
  i_BadSizes_BadMask : PySem.W.kitOne K (.ref a.c_BadSizes) (.ref a.c_BadMask) = some false
  i_BadSizes_BadTable : PySem.W.kitOne K (.ref a.c_BadSizes) (.ref a.c_BadTable) = some false
  i_BadSizes_BadRow : PySem.W.kitOne K (.ref a.c_BadSizes) (.ref a.c_BadRow) = some false
  i_BadSizes_BadName : PySem.W.kitOne K (.ref a.c_BadSizes) (.ref a.c_BadName) = some false
  i_BadSizes_Doubled : PySem.W.kitOne K (.ref a.c_BadSizes) (.ref a.c_Doubled) = some false
  i_BadSizes_NoWire : PySem.W.kitOne K (.ref a.c_BadSizes) (.ref a.c_NoWire) = some false
  i_BadSizes_BadLine : PySem.W.kitOne K (.ref a.c_BadSizes) (.ref a.c_BadLine) = some false
  i_BadSizes_Ring : PySem.W.kitOne K (.ref a.c_BadSizes) (.ref a.c_Ring) = some false
  i_BadSizes_ValueError : PySem.W.kitOne K (.ref a.c_BadSizes) (.type "ValueError") = some true
  g_TooMany : mg "TooMany" = some (.ref a.c_TooMany)
  x_TooMany : PySem.W.excIn K a.c_TooMany [.type "ValueError", .type "Exception", .type "BaseException", .type "object"] "ValueError.__new__" = true
  I_TooMany : XIsi K a.c_TooMany
  k_TooMany : PySem.W.keepIn K (.ref a.c_TooMany) = true
  i_TooMany_WireError : PySem.W.kitOne K (.ref a.c_TooMany) (.ref a.c_WireError) = some true
  i_TooMany_BadSizes : PySem.W.kitOne K (.ref a.c_TooMany) (.ref a.c_BadSizes) = some false
  i_TooMany_TooMany : PySem.W.kitOne K (.ref a.c_TooMany) (.ref a.c_TooMany) = some true
  i_TooMany_BadMask : PySem.W.kitOne K (.ref a.c_TooMany) (.ref a.c_BadMask) = some false
  i_TooMany_BadTable : PySem.W.kitOne K (.ref a.c_TooMany) (.ref a.c_BadTable) = some false
  i_TooMany_BadRow : PySem.W.kitOne K (.ref a.c_TooMany) (.ref a.c_BadRow) = some false
  i_TooMany_BadName : PySem.W.kitOne K (.ref a.c_TooMany) (.ref a.c_BadName) = some false
  i_TooMany_Doubled : PySem.W.kitOne K (.ref a.c_TooMany) (.ref a.c_Doubled) = some false
  i_TooMany_NoWire : PySem.W.kitOne K (.ref a.c_TooMany) (.ref a.c_NoWire) = some false
  i_TooMany_BadLine : PySem.W.kitOne K (.ref a.c_TooMany) (.ref a.c_BadLine) = some false
  i_TooMany_Ring : PySem.W.kitOne K (.ref a.c_TooMany) (.ref a.c_Ring) = some false
  i_TooMany_ValueError : PySem.W.kitOne K (.ref a.c_TooMany) (.type "ValueError") = some true
  g_BadMask : mg "BadMask" = some (.ref a.c_BadMask)
  x_BadMask : PySem.W.excIn K a.c_BadMask [.type "ValueError", .type "Exception", .type "BaseException", .type "object"] "ValueError.__new__" = true
  I_BadMask : XIsi K a.c_BadMask
  k_BadMask : PySem.W.keepIn K (.ref a.c_BadMask) = true
  i_BadMask_WireError : PySem.W.kitOne K (.ref a.c_BadMask) (.ref a.c_WireError) = some true
  i_BadMask_BadSizes : PySem.W.kitOne K (.ref a.c_BadMask) (.ref a.c_BadSizes) = some false
  i_BadMask_TooMany : PySem.W.kitOne K (.ref a.c_BadMask) (.ref a.c_TooMany) = some false
  i_BadMask_BadMask : PySem.W.kitOne K (.ref a.c_BadMask) (.ref a.c_BadMask) = some true
  i_BadMask_BadTable : PySem.W.kitOne K (.ref a.c_BadMask) (.ref a.c_BadTable) = some false
  i_BadMask_BadRow : PySem.W.kitOne K (.ref a.c_BadMask) (.ref a.c_BadRow) = some false
  i_BadMask_BadName : PySem.W.kitOne K (.ref a.c_BadMask) (.ref a.c_BadName) = some false
  i_BadMask_Doubled : PySem.W.kitOne K (.ref a.c_BadMask) (.ref a.c_Doubled) = some false
  i_BadMask_NoWire : PySem.W.kitOne K (.ref a.c_BadMask) (.ref a.c_NoWire) = some false
  i_BadMask_BadLine : PySem.W.kitOne K (.ref a.c_BadMask) (.ref a.c_BadLine) = some false
  i_BadMask_Ring : PySem.W.kitOne K (.ref a.c_BadMask) (.ref a.c_Ring) = some false
  i_BadMask_ValueError : PySem.W.kitOne K (.ref a.c_BadMask) (.type "ValueError") = some true
  g_BadTable : mg "BadTable" = some (.ref a.c_BadTable)
  x_BadTable : PySem.W.excIn K a.c_BadTable [.type "ValueError", .type "Exception", .type "BaseException", .type "object"] "ValueError.__new__" = true
  I_BadTable : XIsi K a.c_BadTable
  k_BadTable : PySem.W.keepIn K (.ref a.c_BadTable) = true
  i_BadTable_WireError : PySem.W.kitOne K (.ref a.c_BadTable) (.ref a.c_WireError) = some true
  i_BadTable_BadSizes : PySem.W.kitOne K (.ref a.c_BadTable) (.ref a.c_BadSizes) = some false
  i_BadTable_TooMany : PySem.W.kitOne K (.ref a.c_BadTable) (.ref a.c_TooMany) = some false
  i_BadTable_BadMask : PySem.W.kitOne K (.ref a.c_BadTable) (.ref a.c_BadMask) = some false
  i_BadTable_BadTable : PySem.W.kitOne K (.ref a.c_BadTable) (.ref a.c_BadTable) = some true
  i_BadTable_BadRow : PySem.W.kitOne K (.ref a.c_BadTable) (.ref a.c_BadRow) = some false
  i_BadTable_BadName : PySem.W.kitOne K (.ref a.c_BadTable) (.ref a.c_BadName) = some false
  i_BadTable_Doubled : PySem.W.kitOne K (.ref a.c_BadTable) (.ref a.c_Doubled) = some false
  i_BadTable_NoWire : PySem.W.kitOne K (.ref a.c_BadTable) (.ref a.c_NoWire) = some false
  i_BadTable_BadLine : PySem.W.kitOne K (.ref a.c_BadTable) (.ref a.c_BadLine) = some false
  i_BadTable_Ring : PySem.W.kitOne K (.ref a.c_BadTable) (.ref a.c_Ring) = some false
  i_BadTable_ValueError : PySem.W.kitOne K (.ref a.c_BadTable) (.type "ValueError") = some true
  g_BadRow : mg "BadRow" = some (.ref a.c_BadRow)
  x_BadRow : PySem.W.excIn K a.c_BadRow [.type "ValueError", .type "Exception", .type "BaseException", .type "object"] "ValueError.__new__" = true
  I_BadRow : XIsi K a.c_BadRow
  k_BadRow : PySem.W.keepIn K (.ref a.c_BadRow) = true
  i_BadRow_WireError : PySem.W.kitOne K (.ref a.c_BadRow) (.ref a.c_WireError) = some true
  i_BadRow_BadSizes : PySem.W.kitOne K (.ref a.c_BadRow) (.ref a.c_BadSizes) = some false
  i_BadRow_TooMany : PySem.W.kitOne K (.ref a.c_BadRow) (.ref a.c_TooMany) = some false
  i_BadRow_BadMask : PySem.W.kitOne K (.ref a.c_BadRow) (.ref a.c_BadMask) = some false
  i_BadRow_BadTable : PySem.W.kitOne K (.ref a.c_BadRow) (.ref a.c_BadTable) = some false
  i_BadRow_BadRow : PySem.W.kitOne K (.ref a.c_BadRow) (.ref a.c_BadRow) = some true
  i_BadRow_BadName : PySem.W.kitOne K (.ref a.c_BadRow) (.ref a.c_BadName) = some false
  i_BadRow_Doubled : PySem.W.kitOne K (.ref a.c_BadRow) (.ref a.c_Doubled) = some false
  i_BadRow_NoWire : PySem.W.kitOne K (.ref a.c_BadRow) (.ref a.c_NoWire) = some false
  i_BadRow_BadLine : PySem.W.kitOne K (.ref a.c_BadRow) (.ref a.c_BadLine) = some false
  i_BadRow_Ring : PySem.W.kitOne K (.ref a.c_BadRow) (.ref a.c_Ring) = some false
  i_BadRow_ValueError : PySem.W.kitOne K (.ref a.c_BadRow) (.type "ValueError") = some true
  g_BadName : mg "BadName" = some (.ref a.c_BadName)
  O_BadName : XOwn K a.c_BadName a.c_WireError a.f_BadName___init__
  I_BadName : XIsi K a.c_BadName
  hd_BadName : PySem.W.hasDictIn K a.c_BadName = true
  n_BadName_line : NoAttr K a.c_BadName "line"
  n_BadName_name : NoAttr K a.c_BadName "name"
  n_BadName_ring : NoAttr K a.c_BadName "ring"
  i_BadName_WireError : PySem.W.kitOne K (.ref a.c_BadName) (.ref a.c_WireError) = some true
  i_BadName_BadSizes : PySem.W.kitOne K (.ref a.c_BadName) (.ref a.c_BadSizes) = some false
  i_BadName_TooMany : PySem.W.kitOne K (.ref a.c_BadName) (.ref a.c_TooMany) = some false
  i_BadName_BadMask : PySem.W.kitOne K (.ref a.c_BadName) (.ref a.c_BadMask) = some false
  i_BadName_BadTable : PySem.W.kitOne K (.ref a.c_BadName) (.ref a.c_BadTable) = some false
  i_BadName_BadRow : PySem.W.kitOne K (.ref a.c_BadName) (.ref a.c_BadRow) = some false
  i_BadName_BadName : PySem.W.kitOne K (.ref a.c_BadName) (.ref a.c_BadName) = some true
  i_BadName_Doubled : PySem.W.kitOne K (.ref a.c_BadName) (.ref a.c_Doubled) = some false
  i_BadName_NoWire : PySem.W.kitOne K (.ref a.c_BadName) (.ref a.c_NoWire) = some false
  i_BadName_BadLine : PySem.W.kitOne K (.ref a.c_BadName) (.ref a.c_BadLine) = some false
  i_BadName_Ring : PySem.W.kitOne K (.ref a.c_BadName) (.ref a.c_Ring) = some false
  i_BadName_ValueError : PySem.W.kitOne K (.ref a.c_BadName) (.type "ValueError") = some true
  g_Doubled : mg "Doubled" = some (.ref a.c_Doubled)
  O_Doubled : XOwn K a.c_Doubled a.c_WireError a.f_Doubled___init__
  I_Doubled : XIsi K a.c_Doubled
  hd_Doubled : PySem.W.hasDictIn K a.c_Doubled = true
  n_Doubled_line : NoAttr K a.c_Doubled "line"
  n_Doubled_name : NoAttr K a.c_Doubled "name"
  n_Doubled_ring : NoAttr K a.c_Doubled "ring"
  i_Doubled_WireError : PySem.W.kitOne K (.ref a.c_Doubled) (.ref a.c_WireError) = some true
  i_Doubled_BadSizes : PySem.W.kitOne K (.ref a.c_Doubled) (.ref a.c_BadSizes) = some false
  i_Doubled_TooMany : PySem.W.kitOne K (.ref a.c_Doubled) (.ref a.c_TooMany) = some false
  i_Doubled_BadMask : PySem.W.kitOne K (.ref a.c_Doubled) (.ref a.c_BadMask) = some false
  i_Doubled_BadTable : PySem.W.kitOne K (.ref a.c_Doubled) (.ref a.c_BadTable) = some false
  i_Doubled_BadRow : PySem.W.kitOne K (.ref a.c_Doubled) (.ref a.c_BadRow) = some false
  i_Doubled_BadName : PySem.W.kitOne K (.ref a.c_Doubled) (.ref a.c_BadName) = some false
  i_Doubled_Doubled : PySem.W.kitOne K (.ref a.c_Doubled) (.ref a.c_Doubled) = some true
  i_Doubled_NoWire : PySem.W.kitOne K (.ref a.c_Doubled) (.ref a.c_NoWire) = some false
  i_Doubled_BadLine : PySem.W.kitOne K (.ref a.c_Doubled) (.ref a.c_BadLine) = some false
  i_Doubled_Ring : PySem.W.kitOne K (.ref a.c_Doubled) (.ref a.c_Ring) = some false
  i_Doubled_ValueError : PySem.W.kitOne K (.ref a.c_Doubled) (.type "ValueError") = some true
  g_NoWire : mg "NoWire" = some (.ref a.c_NoWire)
  O_NoWire : XOwn K a.c_NoWire a.c_WireError a.f_NoWire___init__
  I_NoWire : XIsi K a.c_NoWire
  hd_NoWire : PySem.W.hasDictIn K a.c_NoWire = true
  n_NoWire_line : NoAttr K a.c_NoWire "line"
  n_NoWire_name : NoAttr K a.c_NoWire "name"
  n_NoWire_ring : NoAttr K a.c_NoWire "ring"
  i_NoWire_WireError : PySem.W.kitOne K (.ref a.c_NoWire) (.ref a.c_WireError) = some true
  i_NoWire_BadSizes : PySem.W.kitOne K (.ref a.c_NoWire) (.ref a.c_BadSizes) = some false
  i_NoWire_TooMany : PySem.W.kitOne K (.ref a.c_NoWire) (.ref a.c_TooMany) = some false
  i_NoWire_BadMask : PySem.W.kitOne K (.ref a.c_NoWire) (.ref a.c_BadMask) = some false
  i_NoWire_BadTable : PySem.W.kitOne K (.ref a.c_NoWire) (.ref a.c_BadTable) = some false
  i_NoWire_BadRow : PySem.W.kitOne K (.ref a.c_NoWire) (.ref a.c_BadRow) = some false
  i_NoWire_BadName : PySem.W.kitOne K (.ref a.c_NoWire) (.ref a.c_BadName) = some false
  i_NoWire_Doubled : PySem.W.kitOne K (.ref a.c_NoWire) (.ref a.c_Doubled) = some false
  i_NoWire_NoWire : PySem.W.kitOne K (.ref a.c_NoWire) (.ref a.c_NoWire) = some true
  i_NoWire_BadLine : PySem.W.kitOne K (.ref a.c_NoWire) (.ref a.c_BadLine) = some false
  i_NoWire_Ring : PySem.W.kitOne K (.ref a.c_NoWire) (.ref a.c_Ring) = some false
  i_NoWire_ValueError : PySem.W.kitOne K (.ref a.c_NoWire) (.type "ValueError") = some true
  g_BadLine : mg "BadLine" = some (.ref a.c_BadLine)
  O_BadLine : XOwn K a.c_BadLine a.c_WireError a.f_BadLine___init__
  I_BadLine : XIsi K a.c_BadLine
  hd_BadLine : PySem.W.hasDictIn K a.c_BadLine = true
  n_BadLine_line : NoAttr K a.c_BadLine "line"
  n_BadLine_name : NoAttr K a.c_BadLine "name"
  n_BadLine_ring : NoAttr K a.c_BadLine "ring"
  i_BadLine_WireError : PySem.W.kitOne K (.ref a.c_BadLine) (.ref a.c_WireError) = some true
  i_BadLine_BadSizes : PySem.W.kitOne K (.ref a.c_BadLine) (.ref a.c_BadSizes) = some false
  i_BadLine_TooMany : PySem.W.kitOne K (.ref a.c_BadLine) (.ref a.c_TooMany) = some false
  i_BadLine_BadMask : PySem.W.kitOne K (.ref a.c_BadLine) (.ref a.c_BadMask) = some false
  i_BadLine_BadTable : PySem.W.kitOne K (.ref a.c_BadLine) (.ref a.c_BadTable) = some false
  i_BadLine_BadRow : PySem.W.kitOne K (.ref a.c_BadLine) (.ref a.c_BadRow) = some false
  i_BadLine_BadName : PySem.W.kitOne K (.ref a.c_BadLine) (.ref a.c_BadName) = some false
  i_BadLine_Doubled : PySem.W.kitOne K (.ref a.c_BadLine) (.ref a.c_Doubled) = some false
  i_BadLine_NoWire : PySem.W.kitOne K (.ref a.c_BadLine) (.ref a.c_NoWire) = some false
  i_BadLine_BadLine : PySem.W.kitOne K (.ref a.c_BadLine) (.ref a.c_BadLine) = some true
  i_BadLine_Ring : PySem.W.kitOne K (.ref a.c_BadLine) (.ref a.c_Ring) = some false
  i_BadLine_ValueError : PySem.W.kitOne K (.ref a.c_BadLine) (.type "ValueError") = some true
  g_Ring : mg "Ring" = some (.ref a.c_Ring)
  O_Ring : XOwn K a.c_Ring a.c_WireError a.f_Ring___init__
  I_Ring : XIsi K a.c_Ring
  hd_Ring : PySem.W.hasDictIn K a.c_Ring = true
  n_Ring_line : NoAttr K a.c_Ring "line"
  n_Ring_name : NoAttr K a.c_Ring "name"
  n_Ring_ring : NoAttr K a.c_Ring "ring"
  i_Ring_WireError : PySem.W.kitOne K (.ref a.c_Ring) (.ref a.c_WireError) = some true
  i_Ring_BadSizes : PySem.W.kitOne K (.ref a.c_Ring) (.ref a.c_BadSizes) = some false
  i_Ring_TooMany : PySem.W.kitOne K (.ref a.c_Ring) (.ref a.c_TooMany) = some false
  i_Ring_BadMask : PySem.W.kitOne K (.ref a.c_Ring) (.ref a.c_BadMask) = some false
  i_Ring_BadTable : PySem.W.kitOne K (.ref a.c_Ring) (.ref a.c_BadTable) = some false
  i_Ring_BadRow : PySem.W.kitOne K (.ref a.c_Ring) (.ref a.c_BadRow) = some false
  i_Ring_BadName : PySem.W.kitOne K (.ref a.c_Ring) (.ref a.c_BadName) = some false
  i_Ring_Doubled : PySem.W.kitOne K (.ref a.c_Ring) (.ref a.c_Doubled) = some false
  i_Ring_NoWire : PySem.W.kitOne K (.ref a.c_Ring) (.ref a.c_NoWire) = some false
  i_Ring_BadLine : PySem.W.kitOne K (.ref a.c_Ring) (.ref a.c_BadLine) = some false
  i_Ring_Ring : PySem.W.kitOne K (.ref a.c_Ring) (.ref a.c_Ring) = some true
  i_Ring_ValueError : PySem.W.kitOne K (.ref a.c_Ring) (.type "ValueError") = some true
  g_KEPT_DEPTH : mg "KEPT_DEPTH" = some (.int 12 a.t_KEPT_DEPTH)
  n_ValueError : mg "ValueError" = none
  n_dict : mg "dict" = none
  n_enumerate : mg "enumerate" = none
  n_isinstance : mg "isinstance" = none
  n_len : mg "len" = none
  n_list : mg "list" = none
  n_range : mg "range" = none
  n_tuple : mg "tuple" = none
section
variable {P : Program} {w : World} {K : PySem.W.Frag} {mg : Str → Option Value} {base : Heap} {a : Ad}
local macro_rules | `(tactic| walk_at "l2step") => `(tactic| first | (with_reducible refine s_makeF ?_) | (with_reducible refine s_makeI ?_) | (with_reducible refine s_fldF ?_) | (with_reducible refine s_setF ?_) | (with_reducible refine s_xinit ?_))
theorem ok_kept (T : Tx K mg a) : FnOk P w K mg base CX0 1 a.f_kept a.d_kept ["thing", "depth"] sp_kept := by
  refine T.F_kept.ok sc_kept (fun vs H Q E h => ?_) (fun cdv A outer s H vs Q E hr h => ?_)
  · obtain ⟨x, rfl, _⟩ := h; rfl
  · obtain ⟨x, rfl, q⟩ := h
    refine ⟨_, ((pss_cons (ps_if (pt_cmpR op_eq (pv 1) pe_int (nomark _)) (pss_one (ps_ret (pv 0))) pss_nil)
      (pss_cons (ps_if (pt_val (pe_callB (call_isiK (K := K) rfl) (by rfl) T.n_isinstance PyProof.Rows.boot_isinstance (pa_cons (pv 0) (pa_cons (pe_bltn (v := .ty "list") (by rfl) T.n_list PyProof.Rows.boot_list rfl) pa_nil)))) (pss_one ps_dead) pss_nil)
      (pss_cons (ps_if (pt_val (pe_callB (call_isiK (K := K) rfl) (by rfl) T.n_isinstance PyProof.Rows.boot_isinstance (pa_cons (pv 0) (pa_cons (pe_bltn (v := .ty "tuple") (by rfl) T.n_tuple PyProof.Rows.boot_tuple rfl) pa_nil)))) (pss_one ps_dead) pss_nil)
      (pss_cons (ps_if (pt_val (pe_callB (call_isiK (K := K) rfl) (by rfl) T.n_isinstance PyProof.Rows.boot_isinstance (pa_cons (pv 0) (pa_cons (pe_bltn (v := .ty "dict") (by rfl) T.n_dict PyProof.Rows.boot_dict rfl) pa_nil)))) (pss_one ps_dead) pss_nil)
      (pss_one (ps_ret (pv 0)))))))), s_start (σ' := [some _, some _]) rfl ?_⟩
    walk_at "l2"
    exact q
theorem ok_BadName___init__ (T : Tx K mg a) : FnOk P w K mg base CX0 2 a.f_BadName___init__ a.d_BadName___init__ ["self", "name"] (sp_xname a.c_BadName) := by
  have G_kept := ok_kept (P := P) (w := w) (base := base) T
  refine T.F_BadName___init__.ok sc_BadName___init__ (fun vs H Q E h => ?_) (fun cdv A outer s H vs Q E hr h => ?_)
  · obtain ⟨p, x, rfl, _⟩ := h; rfl
  · obtain ⟨p, x, rfl, e, q⟩ := h
    refine ⟨_, ((pss_cons (ps_expr (pe_xinit (K := K) rfl (by rfl) T.g_WireError T.y_WireError (pa_cons (pv 0) (pa_cons pe_str pa_nil))))
      (pss_one (ps_fldF (K := K) rfl (pv 0) (pe_call G_kept (hr.mono (by decide)) (by rfl) T.g_kept T.k_kept T.b_kept .nil pass0 (pa_cons (pv 1) (pa_cons (pe_glob (v := .int 12) (by rfl) T.g_KEPT_DEPTH ⟨_, rfl⟩) pa_nil))) rfl)))), s_start (σ' := [some _, some _]) rfl ?_⟩
    walk_at "l2"
    refine s_xinitAt e T.O_BadName ?_
    walk_at "l2"
    refine ⟨x, rfl, ?_⟩
    walk_at "l2"
    refine s_setFAt e T.O_BadName T.n_BadName_name fun H2 e2 s2 => ?_
    walk_at "l2"
    exact q H2 e2 s2
theorem ok_Doubled___init__ (T : Tx K mg a) : FnOk P w K mg base CX0 2 a.f_Doubled___init__ a.d_Doubled___init__ ["self", "name"] (sp_xname a.c_Doubled) := by
  have G_kept := ok_kept (P := P) (w := w) (base := base) T
  refine T.F_Doubled___init__.ok sc_Doubled___init__ (fun vs H Q E h => ?_) (fun cdv A outer s H vs Q E hr h => ?_)
  · obtain ⟨p, x, rfl, _⟩ := h; rfl
  · obtain ⟨p, x, rfl, e, q⟩ := h
    refine ⟨_, ((pss_cons (ps_expr (pe_xinit (K := K) rfl (by rfl) T.g_WireError T.y_WireError (pa_cons (pv 0) (pa_cons pe_str pa_nil))))
      (pss_one (ps_fldF (K := K) rfl (pv 0) (pe_call G_kept (hr.mono (by decide)) (by rfl) T.g_kept T.k_kept T.b_kept .nil pass0 (pa_cons (pv 1) (pa_cons (pe_glob (v := .int 12) (by rfl) T.g_KEPT_DEPTH ⟨_, rfl⟩) pa_nil))) rfl)))), s_start (σ' := [some _, some _]) rfl ?_⟩
    walk_at "l2"
    refine s_xinitAt e T.O_Doubled ?_
    walk_at "l2"
    refine ⟨x, rfl, ?_⟩
    walk_at "l2"
    refine s_setFAt e T.O_Doubled T.n_Doubled_name fun H2 e2 s2 => ?_
    walk_at "l2"
    exact q H2 e2 s2
theorem ok_NoWire___init__ (T : Tx K mg a) : FnOk P w K mg base CX0 2 a.f_NoWire___init__ a.d_NoWire___init__ ["self", "name"] (sp_xname a.c_NoWire) := by
  have G_kept := ok_kept (P := P) (w := w) (base := base) T
  refine T.F_NoWire___init__.ok sc_NoWire___init__ (fun vs H Q E h => ?_) (fun cdv A outer s H vs Q E hr h => ?_)
  · obtain ⟨p, x, rfl, _⟩ := h; rfl
  · obtain ⟨p, x, rfl, e, q⟩ := h
    refine ⟨_, ((pss_cons (ps_expr (pe_xinit (K := K) rfl (by rfl) T.g_WireError T.y_WireError (pa_cons (pv 0) (pa_cons pe_str pa_nil))))
      (pss_one (ps_fldF (K := K) rfl (pv 0) (pe_call G_kept (hr.mono (by decide)) (by rfl) T.g_kept T.k_kept T.b_kept .nil pass0 (pa_cons (pv 1) (pa_cons (pe_glob (v := .int 12) (by rfl) T.g_KEPT_DEPTH ⟨_, rfl⟩) pa_nil))) rfl)))), s_start (σ' := [some _, some _]) rfl ?_⟩
    walk_at "l2"
    refine s_xinitAt e T.O_NoWire ?_
    walk_at "l2"
    refine ⟨x, rfl, ?_⟩
    walk_at "l2"
    refine s_setFAt e T.O_NoWire T.n_NoWire_name fun H2 e2 s2 => ?_
    walk_at "l2"
    exact q H2 e2 s2
theorem ok_BadLine___init__ (T : Tx K mg a) : FnOk P w K mg base CX0 2 a.f_BadLine___init__ a.d_BadLine___init__ ["self", "line"] (sp_xline a.c_BadLine) := by
  refine T.F_BadLine___init__.ok sc_BadLine___init__ (fun vs H Q E h => ?_) (fun cdv A outer s H vs Q E hr h => ?_)
  · obtain ⟨p, x, rfl, _⟩ := h; rfl
  · obtain ⟨p, x, rfl, e, q⟩ := h
    refine ⟨_, ((pss_cons (ps_expr (pe_xinit (K := K) rfl (by rfl) T.g_WireError T.y_WireError (pa_cons (pv 0) (pa_cons pe_str pa_nil))))
      (pss_one (ps_fldF (K := K) rfl (pv 0) (pv 1) rfl)))), s_start (σ' := [some _, some _]) rfl ?_⟩
    walk_at "l2"
    refine s_xinitAt e T.O_BadLine ?_
    walk_at "l2"
    refine s_setFAt e T.O_BadLine T.n_BadLine_line fun H2 e2 s2 => ?_
    walk_at "l2"
    exact q H2 e2 s2
theorem ok_Ring___init__ (T : Tx K mg a) : FnOk P w K mg base CX0 2 a.f_Ring___init__ a.d_Ring___init__ ["self", "ring"] (sp_xring K a.c_Ring) := by
  refine T.F_Ring___init__.ok sc_Ring___init__ (fun vs H Q E h => ?_) (fun cdv A outer s H vs Q E hr h => ?_)
  · obtain ⟨p, l, xs, rfl, _⟩ := h; rfl
  · obtain ⟨p, l, xs, rfl, hl, e, q⟩ := h
    refine ⟨_, ((pss_cons (ps_expr (pe_xinit (K := K) rfl (by rfl) T.g_WireError T.y_WireError (pa_cons (pv 0) (pa_cons pe_str pa_nil))))
      (pss_one (ps_fldF (K := K) rfl (pv 0) (pe_callTy (call_listK (K := K) rfl) (by rfl) T.n_list PyProof.Rows.boot_list (pa_cons (pv 1) pa_nil)) rfl)))), s_start (σ' := [some _, some _]) rfl ?_⟩
    walk_at "l2"
    refine s_xinitAt e T.O_Ring ?_
    walk_at "l2"
    intro r H1 f1 s1 e1
    have e' := s1.get e
    walk_at "l2"
    refine s_setFAt e' T.O_Ring T.n_Ring_ring fun H2 e2 s2 => ?_
    walk_at "l2"
    exact q H2 r f1 e2 (s2 r _ (fun z => by subst z; rw [e] at f1; cases f1) e1) fun b u hb he => s2 b u hb (s1.get he)
end
local macro_rules | `(tactic| walk_at "l2step") => `(tactic| first | ((with_reducible refine' c_cell2 ?e ?a ?_); (case e => walk_at "l2hp"); (case a => walk_at "l2side")) | ((with_reducible refine' c_mix ?a ?b ?_); (case a => walk_at "l2side"); (case b => walk_at "l2side"); (with_reducible intro _ _)))
section
variable {P : Program} {w : World} {K : PySem.W.Frag} {mg : Str → Option Value} {base : Heap} {a : Ad}
theorem ok__law_cell (T : Tx K mg a) : FnOk P w K mg base CX0 1 a.f__law_cell a.d__law_cell ["_law_script", "_law_k"] (sp_cell2 K) := by
  refine T.F__law_cell.ok sc__law_cell (fun vs H Q E h => ?_) (fun cdv A outer s H vs Q E hr h => ?_)
  · obtain ⟨a, ns, k, rfl, _⟩ := h; rfl
  · obtain ⟨p, ns, k, rfl, hS, h0, q⟩ := h
    refine ⟨_, ((pss_cons (ps_if (pt_cmpR op_lt (pv 1) (pe_callB (call_lenK (K := K) rfl) (by rfl) T.n_len PySem.boot_len (pa_cons (pv 0) pa_nil)) (nomark _)) (pss_one (ps_ret (pe_ix (ix_listK (K := K) rfl) (pv 0) (pv 1) (fun _ _ => rfl)))) pss_nil)
      (pss_one (ps_ret (pe_op op_add (pe_op op_mul pe_int (pv 1)) pe_int))))), s_start (σ' := [some _, some _]) rfl ?_⟩
    walk_at "l2"
    rw [List.length_map]
    unfold cell at q
    refine ite2 (fun hc => ?_) (fun hc => ?_)
    · have hc := of_decide_eq_true hc
      have ha : atI (ns.map V.int) k = some (.int (ns.getD k.toNat 0)) := by
        obtain ⟨j, rfl⟩ := Int.eq_ofNat_of_zero_le h0
        have hj : j < ns.length := by omega
        exact atI_nat (by rw [List.getElem?_map, List.getElem?_eq_getElem hj, List.getD_eq_getElem?_getD, Int.toNat_natCast, List.getElem?_eq_getElem hj]; rfl)
      rw [if_pos hc] at q
      walk_at "l2"
      exact q
    · have hc : ¬ k < ns.length := fun z => hc (decide_eq_true z)
      rw [if_neg hc] at q
      walk_at "l2"
      exact q
theorem ok__law_mix (T : Tx K mg a) : FnOk P w K mg base CX0 1 a.f__law_mix a.d__law_mix ["_law_cell_here", "_law_k"] sp_mix := by
  refine T.F__law_mix.ok sc__law_mix (fun vs H Q E h => ?_) (fun cdv A outer s H vs Q E hr h => ?_)
  · obtain ⟨c, k, rfl, _⟩ := h; rfl
  · obtain ⟨c, k, rfl, h0, h1, q⟩ := h
    refine ⟨_, ((pss_cons (ps_set (i := 2) sc__law_mix.nd rfl (by first | exact Or.inl rfl | exact Or.inr rfl) (pe_op op_mod (pe_op op_add (pe_op op_add (pe_op op_mul (pe_op op_mod (pv 0) pe_int) pe_int) (pe_op op_mul pe_int (pv 1))) pe_int) pe_int))
      (pss_cons (ps_set (i := 2) sc__law_mix.nd rfl (by first | exact Or.inl rfl | exact Or.inr rfl) (pe_op op_mod (pe_op op_mul (pv 2) (pv 2)) pe_int))
      (pss_one (ps_ret (pe_op op_mod (pe_op op_mul (pv 2) (pe_op op_add (pe_op op_add (pv 2) (pe_op op_mul pe_int (pv 1))) pe_int)) pe_int)))))), s_start (σ' := [some _, some _, none]) rfl ?_⟩
    walk_at "l2"
    show Q (.int _) H
    generalize hx : (_ : Int) * (_ + 48271 * k + 7) = x
    have r1 : 0 ≤ x % 2147483587 := Int.emod_nonneg _ (by decide)
    have r2 : x % 2147483587 < 2147483587 := Int.emod_lt_of_pos _ (by decide)
    obtain ⟨j, hj⟩ := Int.eq_ofNat_of_zero_le r1
    rw [hj] at r2 ⊢
    exact q j (by omega)
local macro_rules | `(tactic| walk_at "l2step") => `(tactic| first | ((with_reducible refine' c_cell2 ?e ?a ?_); (case e => walk_at "l2hp"); (case a => walk_at "l2side")) | ((with_reducible refine' c_mix ?a ?b ?_); (case a => walk_at "l2side"); (case b => walk_at "l2side"); (with_reducible intro _ _)))
local macro_rules | `(tactic| walk_at "l2step") => `(tactic| first | (with_reducible refine s_makeF ?_) | (with_reducible refine s_makeI ?_) | (with_reducible refine s_fldF ?_) | (with_reducible refine s_setF ?_) | (with_reducible refine s_xinit ?_))
noncomputable def xcs (a : Ad) : List Addr := [a.c_BadSizes, a.c_TooMany, a.c_BadMask, a.c_BadTable, a.c_BadRow, a.c_BadName, a.c_Doubled, a.c_NoWire, a.c_BadLine, a.c_Ring]
theorem xtab (T : Tx K mg a) {k : Nat} {C : Addr} (h : (xcs a)[k]? = some C) : k < 10 ∧ XIsi K C ∧ PySem.W.kitOne K (.ref C) (.ref a.c_WireError) = some true ∧ PySem.W.kitOne K (.ref C) (.type "ValueError") = some true ∧ PySem.W.kitOne K (.ref C) (.ref a.c_BadSizes) = some (decide (0 = k)) ∧ PySem.W.kitOne K (.ref C) (.ref a.c_TooMany) = some (decide (1 = k)) ∧ PySem.W.kitOne K (.ref C) (.ref a.c_BadMask) = some (decide (2 = k)) ∧ PySem.W.kitOne K (.ref C) (.ref a.c_BadTable) = some (decide (3 = k)) ∧ PySem.W.kitOne K (.ref C) (.ref a.c_BadRow) = some (decide (4 = k)) ∧ PySem.W.kitOne K (.ref C) (.ref a.c_BadName) = some (decide (5 = k)) ∧ PySem.W.kitOne K (.ref C) (.ref a.c_Doubled) = some (decide (6 = k)) ∧ PySem.W.kitOne K (.ref C) (.ref a.c_NoWire) = some (decide (7 = k)) ∧ PySem.W.kitOne K (.ref C) (.ref a.c_BadLine) = some (decide (8 = k)) ∧ PySem.W.kitOne K (.ref C) (.ref a.c_Ring) = some (decide (9 = k)) := by
  unfold xcs at h
  rcases k with _ | k
  · simp at h
    subst h
    exact ⟨by decide, T.I_BadSizes, T.i_BadSizes_WireError, T.i_BadSizes_ValueError, T.i_BadSizes_BadSizes, T.i_BadSizes_TooMany, T.i_BadSizes_BadMask, T.i_BadSizes_BadTable, T.i_BadSizes_BadRow, T.i_BadSizes_BadName, T.i_BadSizes_Doubled, T.i_BadSizes_NoWire, T.i_BadSizes_BadLine, T.i_BadSizes_Ring⟩
  rcases k with _ | k
  · simp at h
    subst h
    exact ⟨by decide, T.I_TooMany, T.i_TooMany_WireError, T.i_TooMany_ValueError, T.i_TooMany_BadSizes, T.i_TooMany_TooMany, T.i_TooMany_BadMask, T.i_TooMany_BadTable, T.i_TooMany_BadRow, T.i_TooMany_BadName, T.i_TooMany_Doubled, T.i_TooMany_NoWire, T.i_TooMany_BadLine, T.i_TooMany_Ring⟩
  rcases k with _ | k
  · simp at h
    subst h
    exact ⟨by decide, T.I_BadMask, T.i_BadMask_WireError, T.i_BadMask_ValueError, T.i_BadMask_BadSizes, T.i_BadMask_TooMany, T.i_BadMask_BadMask, T.i_BadMask_BadTable, T.i_BadMask_BadRow, T.i_BadMask_BadName, T.i_BadMask_Doubled, T.i_BadMask_NoWire, T.i_BadMask_BadLine, T.i_BadMask_Ring⟩
  rcases k with _ | k
  · simp at h
    subst h
    exact ⟨by decide, T.I_BadTable, T.i_BadTable_WireError, T.i_BadTable_ValueError, T.i_BadTable_BadSizes, T.i_BadTable_TooMany, T.i_BadTable_BadMask, T.i_BadTable_BadTable, T.i_BadTable_BadRow, T.i_BadTable_BadName, T.i_BadTable_Doubled, T.i_BadTable_NoWire, T.i_BadTable_BadLine, T.i_BadTable_Ring⟩
  rcases k with _ | k
  · simp at h
    subst h
    exact ⟨by decide, T.I_BadRow, T.i_BadRow_WireError, T.i_BadRow_ValueError, T.i_BadRow_BadSizes, T.i_BadRow_TooMany, T.i_BadRow_BadMask, T.i_BadRow_BadTable, T.i_BadRow_BadRow, T.i_BadRow_BadName, T.i_BadRow_Doubled, T.i_BadRow_NoWire, T.i_BadRow_BadLine, T.i_BadRow_Ring⟩
  rcases k with _ | k
  · simp at h
    subst h
    exact ⟨by decide, T.I_BadName, T.i_BadName_WireError, T.i_BadName_ValueError, T.i_BadName_BadSizes, T.i_BadName_TooMany, T.i_BadName_BadMask, T.i_BadName_BadTable, T.i_BadName_BadRow, T.i_BadName_BadName, T.i_BadName_Doubled, T.i_BadName_NoWire, T.i_BadName_BadLine, T.i_BadName_Ring⟩
  rcases k with _ | k
  · simp at h
    subst h
    exact ⟨by decide, T.I_Doubled, T.i_Doubled_WireError, T.i_Doubled_ValueError, T.i_Doubled_BadSizes, T.i_Doubled_TooMany, T.i_Doubled_BadMask, T.i_Doubled_BadTable, T.i_Doubled_BadRow, T.i_Doubled_BadName, T.i_Doubled_Doubled, T.i_Doubled_NoWire, T.i_Doubled_BadLine, T.i_Doubled_Ring⟩
  rcases k with _ | k
  · simp at h
    subst h
    exact ⟨by decide, T.I_NoWire, T.i_NoWire_WireError, T.i_NoWire_ValueError, T.i_NoWire_BadSizes, T.i_NoWire_TooMany, T.i_NoWire_BadMask, T.i_NoWire_BadTable, T.i_NoWire_BadRow, T.i_NoWire_BadName, T.i_NoWire_Doubled, T.i_NoWire_NoWire, T.i_NoWire_BadLine, T.i_NoWire_Ring⟩
  rcases k with _ | k
  · simp at h
    subst h
    exact ⟨by decide, T.I_BadLine, T.i_BadLine_WireError, T.i_BadLine_ValueError, T.i_BadLine_BadSizes, T.i_BadLine_TooMany, T.i_BadLine_BadMask, T.i_BadLine_BadTable, T.i_BadLine_BadRow, T.i_BadLine_BadName, T.i_BadLine_Doubled, T.i_BadLine_NoWire, T.i_BadLine_BadLine, T.i_BadLine_Ring⟩
  rcases k with _ | k
  · simp at h
    subst h
    exact ⟨by decide, T.I_Ring, T.i_Ring_WireError, T.i_Ring_ValueError, T.i_Ring_BadSizes, T.i_Ring_TooMany, T.i_Ring_BadMask, T.i_Ring_BadTable, T.i_Ring_BadRow, T.i_Ring_BadName, T.i_Ring_Doubled, T.i_Ring_NoWire, T.i_Ring_BadLine, T.i_Ring_Ring⟩
  simp at h
theorem sum_ones : ∀ {cs : List Str}, (∀ z ∈ cs, z.length = 1) → (cs.map (·.length)).sum = cs.length
  | [], _ => rfl
  | z :: r, h => by
    rw [List.map_cons, List.sum_cons, sum_ones fun y hy => h y (List.mem_cons_of_mem _ hy), h z List.mem_cons_self, List.length_cons]
    omega
theorem ok__law_word (T : Tx K mg a) : FnOk P w K mg base CX0 2 a.f__law_word a.d__law_word ["_law_cell_here"] sp_word := by
  have G__law_mix := ok__law_mix (P := P) (w := w) (base := base) T
  refine T.F__law_word.ok sc__law_word (fun vs H Q E h => ?_) (fun cdv A outer s H vs Q E hr h => ?_)
  · obtain ⟨c, rfl, _⟩ := h; rfl
  · obtain ⟨c, rfl, q⟩ := h
    refine ⟨_, ((pss_cons (ps_set (i := 1) sc__law_word.nd rfl (by first | exact Or.inl rfl | exact Or.inr rfl) pe_str)
      (pss_one (ps_ret (pe_bmK (K := K) rfl PySem.F.plainAttrs_str PySem.F.slot_str_join PySem.F.type_str_join (mt_joinK (K := K) rfl) pe_str (pa_cons (pe_comp (osc := defScope s__law_word) (ON := ["_law_cell_here", "_law_letters"]) (N := ["_law_k", "_law_letters", "_law_cell_here"]) (n := 1) (fx := [1, 0]) rfl rfl rfl (by decide +kernel) (pi_range1 (by rfl) T.n_range (pa_cons (pe_op op_mod (pv 0) pe_int) pa_nil)) (gk_name (by decide)) (fun _ _ _ _ _ => ⟨(pg_name (i := 0) (show List.Nodup (["_law_k", "_law_letters", "_law_cell_here"] : List Str) from by decide +kernel) rfl (by first | exact Or.inl rfl | exact Or.inr rfl)), pts_nil, (pe_ix ix_str (pv 1) (pe_op op_mod (pe_call G__law_mix (hr.mono (by decide)) (by rfl) T.g__law_mix T.k__law_mix T.b__law_mix .nil pass0 (pa_cons (pv 2) (pa_cons (pv 0) pa_nil))) pe_int) (fun _ _ => rfl))⟩)) pa_nil)))))), s_start (σ' := [some _, none]) rfl ?_⟩
    walk_at "l2"
    have hL : (Str.ofString "abcdefghijklmnopqrstuvwxyz0123456789").cps.toList.length = 36 := by decide +kernel
    generalize Str.ofString "abcdefghijklmnopqrstuvwxyz0123456789" = L at hL ⊢
    have hL2 : L.length ≤ sizeLine := le_line (by show L.cps.size ≤ 1000; rw [← Array.length_toList, hL]; decide)
    intro D hD
    refine comp_range (fun i ys H' => Cs (fun i ys => ∃ cs : List Str, ys = cs.map V.str ∧ ∀ z ∈ cs, z.length = 1) H D i ys H') (Cs.zero hD ⟨[], rfl, fun _ h => absurd h (by simp)⟩) (fun i ys H' hi c1 => ?_) (fun ys H' c1 => ?_)
    · obtain ⟨⟨cs, rfl, h1⟩, s1, e1, l1⟩ := c1
      have hi9 : i < 9 := by omega
      walk_at "l2"
      rename_i r hr'
      have er : (r : Int) % 36 = ((r % 36 : Nat) : Int) := by omega
      rw [er]
      have hb : r % 36 < L.cps.toList.length := by rw [hL]; omega
      refine s_ixS hL2 (atI_nat (List.getElem?_eq_getElem hb)) ?_
      refine Cs.put hD s1 e1 l1 (by omega) ⟨cs ++ [_], by rw [List.map_append]; rfl, fun z hz => ?_⟩
      rcases List.mem_append.mp hz with hz | hz
      · exact h1 z hz
      · rw [List.mem_singleton.mp hz]; rfl
    · obtain ⟨⟨cs, rfl, h1⟩, s1, e1, l1⟩ := c1
      have l2 : cs.length ≤ 8 := by rw [List.length_map] at l1; omega
      walk_at "l2"
      refine s_join (ys := cs) (SqL.of e1) ?_ ?_
      · rw [sum_ones h1, show (Str.ofString "").length = 0 from by decide +kernel]; omega
      · exact q _ _ s1
theorem ok__law_kinds (T : Tx K mg a) : FnOk P w K mg base CX0 1 a.f__law_kinds a.d__law_kinds ["_law_e"] (sp_lkinds (xcs a)) := by
  refine T.F__law_kinds.ok sc__law_kinds (fun vs H Q E h => ?_) (fun cdv A outer s H vs Q E hr h => ?_)
  · obtain ⟨p, C, fs, k, rfl, _⟩ := h; rfl
  · obtain ⟨p, C, fs, k, rfl, e, hk, q⟩ := h
    obtain ⟨k10, hI, _, _, i0, i1, i2, i3, i4, i5, i6, i7, i8, i9⟩ := xtab T hk
    refine ⟨_, ((pss_cons (ps_set (i := 1) sc__law_kinds.nd rfl (by first | exact Or.inl rfl | exact Or.inr rfl) (pe_lst (pa_cons (pe_callB (call_isiF (K := K) rfl) (by rfl) T.n_isinstance PyProof.Rows.boot_isinstance (pa_cons (pv 0) (pa_cons (pe_glob (v := .ref a.c_BadSizes) (by rfl) T.g_BadSizes rfl) pa_nil))) (pa_cons (pe_callB (call_isiF (K := K) rfl) (by rfl) T.n_isinstance PyProof.Rows.boot_isinstance (pa_cons (pv 0) (pa_cons (pe_glob (v := .ref a.c_TooMany) (by rfl) T.g_TooMany rfl) pa_nil))) (pa_cons (pe_callB (call_isiF (K := K) rfl) (by rfl) T.n_isinstance PyProof.Rows.boot_isinstance (pa_cons (pv 0) (pa_cons (pe_glob (v := .ref a.c_BadMask) (by rfl) T.g_BadMask rfl) pa_nil))) (pa_cons (pe_callB (call_isiF (K := K) rfl) (by rfl) T.n_isinstance PyProof.Rows.boot_isinstance (pa_cons (pv 0) (pa_cons (pe_glob (v := .ref a.c_BadTable) (by rfl) T.g_BadTable rfl) pa_nil))) pa_nil))))))
      (pss_cons (ps_set (i := 1) sc__law_kinds.nd rfl (by first | exact Or.inl rfl | exact Or.inr rfl) (pe_op op_cat (pv 1) (pe_lst (pa_cons (pe_callB (call_isiF (K := K) rfl) (by rfl) T.n_isinstance PyProof.Rows.boot_isinstance (pa_cons (pv 0) (pa_cons (pe_glob (v := .ref a.c_BadRow) (by rfl) T.g_BadRow rfl) pa_nil))) (pa_cons (pe_callB (call_isiF (K := K) rfl) (by rfl) T.n_isinstance PyProof.Rows.boot_isinstance (pa_cons (pv 0) (pa_cons (pe_glob (v := .ref a.c_BadName) (by rfl) T.g_BadName rfl) pa_nil))) (pa_cons (pe_callB (call_isiF (K := K) rfl) (by rfl) T.n_isinstance PyProof.Rows.boot_isinstance (pa_cons (pv 0) (pa_cons (pe_glob (v := .ref a.c_Doubled) (by rfl) T.g_Doubled rfl) pa_nil))) (pa_cons (pe_callB (call_isiF (K := K) rfl) (by rfl) T.n_isinstance PyProof.Rows.boot_isinstance (pa_cons (pv 0) (pa_cons (pe_glob (v := .ref a.c_NoWire) (by rfl) T.g_NoWire rfl) pa_nil))) pa_nil)))))))
      (pss_cons (ps_set (i := 1) sc__law_kinds.nd rfl (by first | exact Or.inl rfl | exact Or.inr rfl) (pe_op op_cat (pv 1) (pe_lst (pa_cons (pe_callB (call_isiF (K := K) rfl) (by rfl) T.n_isinstance PyProof.Rows.boot_isinstance (pa_cons (pv 0) (pa_cons (pe_glob (v := .ref a.c_BadLine) (by rfl) T.g_BadLine rfl) pa_nil))) (pa_cons (pe_callB (call_isiF (K := K) rfl) (by rfl) T.n_isinstance PyProof.Rows.boot_isinstance (pa_cons (pv 0) (pa_cons (pe_glob (v := .ref a.c_Ring) (by rfl) T.g_Ring rfl) pa_nil))) pa_nil)))))
      (pss_one (ps_ret (pe_comp (osc := defScope s__law_kinds) (ON := ["_law_e", "_law_some"]) (N := ["_law_k", "_law_some"]) (n := 1) (fx := [1]) rfl rfl rfl (by decide +kernel) (pi_range1 (by rfl) T.n_range (pa_cons pe_int pa_nil)) (gk_name (by decide)) (fun _ _ _ _ _ => ⟨(pg_name (i := 0) (show List.Nodup (["_law_k", "_law_some"] : List Str) from by decide +kernel) rfl (by first | exact Or.inl rfl | exact Or.inr rfl)), (pts_one (pt_val (pe_ix (ix_listK (K := K) rfl) (pv 1) (pv 0) (fun _ _ => rfl)))), (pv 0)⟩)))))))), s_start (σ' := [some _, none]) rfl ?_⟩
    walk_at "l2"
    refine s_isiF e hI rfl i0 ?_
    walk_at "l2"
    refine s_isiF e hI rfl i1 ?_
    walk_at "l2"
    refine s_isiF e hI rfl i2 ?_
    walk_at "l2"
    refine s_isiF e hI rfl i3 ?_
    walk_at "l2"
    intro L1 H1 f1 s1 e1
    have e' := e.same s1
    walk_at "l2"
    refine s_isiF e' hI rfl i4 ?_
    walk_at "l2"
    refine s_isiF e' hI rfl i5 ?_
    walk_at "l2"
    refine s_isiF e' hI rfl i6 ?_
    walk_at "l2"
    refine s_isiF e' hI rfl i7 ?_
    walk_at "l2"
    intro L2 H2 f2 s2 e2
    walk_at "l2"
    refine s_cat (s2.get e1) e2 (le_line (Nat.le_of_ble_eq_true rfl)) ?_
    intro L3 H3 f3 s3 e3
    have e2' := (e'.same s2).same s3
    walk_at "l2"
    refine s_isiF e2' hI rfl i8 ?_
    walk_at "l2"
    refine s_isiF e2' hI rfl i9 ?_
    walk_at "l2"
    intro L4 H4 f4 s4 e4
    walk_at "l2"
    refine s_cat (s4.get e3) e4 (le_line (Nat.le_of_ble_eq_true rfl)) ?_
    intro L5 H5 f5 s5 e5
    walk_at "l2"
    intro D hD
    have s05 : Same H H5 := (((s1.trans s2).trans s3).trans s4).trans s5
    refine comp_range (fun i ys H' => Cs (fun i ys => ys = ((List.range i).filter fun j => decide (j = k)).map nat) H5 D i ys H') (Cs.zero hD rfl) (fun i ys H' hi c1 => ?_) (fun ys H' c1 => ?_)
    · obtain ⟨rfl, s6, e6, l6⟩ := c1
      have hsome := s6.get e5
      have hi10 : i < 10 := hi
      have hat : atI ([V.bl (decide (0 = k)), V.bl (decide (1 = k)), V.bl (decide (2 = k)), V.bl (decide (3 = k))] ++ [V.bl (decide (4 = k)), V.bl (decide (5 = k)), V.bl (decide (6 = k)), V.bl (decide (7 = k))] ++ [V.bl (decide (8 = k)), V.bl (decide (9 = k))]) (0 + (i : Int)) = some (V.bl (decide (i = k))) := by
        rw [Int.zero_add]
        refine atI_nat ?_
        have : i = 0 ∨ i = 1 ∨ i = 2 ∨ i = 3 ∨ i = 4 ∨ i = 5 ∨ i = 6 ∨ i = 7 ∨ i = 8 ∨ i = 9 := by omega
        rcases this with rfl | rfl | rfl | rfl | rfl | rfl | rfl | rfl | rfl | rfl <;> rfl
      walk_at "l2"
      by_cases hik : i = k
      · rw [if_pos (decide_eq_true hik)]
        walk_at "l2"
        refine Cs.put hD s6 e6 l6 (by omega) ?_
        rw [List.range_succ, List.filter_append, List.map_append, Int.zero_add]
        congr 1
        rw [List.filter_cons_of_pos (by exact decide_eq_true hik)]
        rfl
      · rw [if_neg (by rw [decide_eq_false hik]; decide)]
        refine Cs.skip s6 e6 l6 ?_
        rw [List.range_succ, List.filter_append, List.filter_cons_of_neg (by rw [decide_eq_false hik]; decide)]
        simp
    · obtain ⟨rfl, s6, e6, l6⟩ := c1
      have ek : ((List.range 10).filter fun j => decide (j = k)) = [k] := by
        have : k = 0 ∨ k = 1 ∨ k = 2 ∨ k = 3 ∨ k = 4 ∨ k = 5 ∨ k = 6 ∨ k = 7 ∨ k = 8 ∨ k = 9 := by omega
        rcases this with rfl | rfl | rfl | rfl | rfl | rfl | rfl | rfl | rfl | rfl <;> decide
      walk_at "l2"
      refine q D H' (s05.trans s6) ?_
      rw [e6]
      show some (HO.lst (List.map nat (List.filter (fun j => decide (j = k)) (List.range 10)))) = _
      rw [ek]
      rfl
end
local macro_rules | `(tactic| walk_at "l2step") => `(tactic| first | ((with_reducible refine' c_cell2 ?e ?a ?_); (case e => walk_at "l2hp"); (case a => walk_at "l2side")) | ((with_reducible refine' c_mix ?a ?b ?_); (case a => walk_at "l2side"); (case b => walk_at "l2side"); (with_reducible intro _ _)))
section
variable {P : Program} {w : World} {K : PySem.W.Frag} {mg : Str → Option Value} {base : Heap} {a : Ad}
local macro_rules | `(tactic| walk_at "l2step") => `(tactic| first | (with_reducible refine s_makeF ?_) | (with_reducible refine s_makeI ?_) | (with_reducible refine s_fldF ?_) | (with_reducible refine s_setF ?_) | (with_reducible refine s_xinit ?_))
theorem ok_law (T : Tx K mg a) : FnOk P w K mg base CX0 4 a.f_law a.d_law ["_law_script"] (sp_law K) := by
  have G__law_cell := ok__law_cell (P := P) (w := w) (base := base) T
  have G__law_word := ok__law_word (P := P) (w := w) (base := base) T
  have G__law_kinds := ok__law_kinds (P := P) (w := w) (base := base) T
  have G_BadName___init__ := ok_BadName___init__ (P := P) (w := w) (base := base) T
  have G_Doubled___init__ := ok_Doubled___init__ (P := P) (w := w) (base := base) T
  have G_NoWire___init__ := ok_NoWire___init__ (P := P) (w := w) (base := base) T
  have G_BadLine___init__ := ok_BadLine___init__ (P := P) (w := w) (base := base) T
  have G_Ring___init__ := ok_Ring___init__ (P := P) (w := w) (base := base) T
  refine T.F_law.ok sc_law (fun vs H Q E h => ?_) (fun cdv A outer s H vs Q E hr h => ?_)
  · obtain ⟨p, ns, rfl, _⟩ := h; rfl
  · obtain ⟨p0, ns, rfl, hS, hlen, q⟩ := h
    have hu1 := room100 hr
    refine ⟨_, ((pss_cons (ps_set (i := 1) sc_law.nd rfl (by first | exact Or.inl rfl | exact Or.inr rfl) (pe_call G__law_word (hr.mono (by decide)) (by rfl) T.g__law_word T.k__law_word T.b__law_word .nil pass0 (pa_cons (pe_call G__law_cell (hr.mono (by decide)) (by rfl) T.g__law_cell T.k__law_cell T.b__law_cell .nil pass0 (pa_cons (pv 0) (pa_cons pe_int pa_nil))) pa_nil)))
      (pss_cons (ps_set (i := 2) sc_law.nd rfl (by first | exact Or.inl rfl | exact Or.inr rfl) (pe_op op_mod (pe_call G__law_cell (hr.mono (by decide)) (by rfl) T.g__law_cell T.k__law_cell T.b__law_cell .nil pass0 (pa_cons (pv 0) (pa_cons pe_int pa_nil))) (pe_op op_pow pe_int pe_int)))
      (pss_cons (ps_comp (osc := defScope s_law) (ON := ["_law_script", "_law_word_here", "_law_number", "_law_ring", "_law_handed", "_law_made", "_law_k", "_law_e"]) (N := ["_law_cell_here"]) (n := 1) (fx := []) (i := 3) sc_law.nd rfl rfl rfl rfl rfl rfl (by decide +kernel) (pi_listK (K := K) rfl (pe_slice (sl_listK (K := K) rfl) (pv 0) (po_some pe_int) (po_some pe_int))) (gk_name (by decide)) (fun _ _ _ _ _ => ⟨(pg_name (i := 0) (show List.Nodup (["_law_cell_here"] : List Str) from by decide +kernel) rfl (by first | exact Or.inl rfl | exact Or.inr rfl)), pts_nil, (pe_call G__law_word (hr.mono (by decide)) (by rfl) T.g__law_word T.k__law_word T.b__law_word .nil pass0 (pa_cons (pv 0) pa_nil))⟩))
      (pss_cons (ps_set (i := 4) sc_law.nd rfl (by first | exact Or.inl rfl | exact Or.inr rfl) (pe_callTy (call_listK (K := K) rfl) (by rfl) T.n_list PyProof.Rows.boot_list (pa_cons (pv 3) pa_nil)))
      (pss_cons (ps_set (i := 5) sc_law.nd rfl (by first | exact Or.inl rfl | exact Or.inr rfl) (pe_lst (pa_cons (pe_makeF T.x_BadSizes T.k_BadSizes (by rfl) T.g_BadSizes (pa_cons (pv 1) pa_nil)) (pa_cons (pe_makeF T.x_TooMany T.k_TooMany (by rfl) T.g_TooMany (pa_cons (pv 1) pa_nil)) (pa_cons (pe_makeF T.x_BadMask T.k_BadMask (by rfl) T.g_BadMask (pa_cons (pv 1) pa_nil)) (pa_cons (pe_makeF T.x_BadTable T.k_BadTable (by rfl) T.g_BadTable (pa_cons (pv 1) pa_nil)) (pa_cons (pe_makeF T.x_BadRow T.k_BadRow (by rfl) T.g_BadRow (pa_cons (pv 1) pa_nil)) (pa_cons (pe_makeI T.O_BadName G_BadName___init__ (hr.mono (by decide)) (by rfl) T.g_BadName T.b_BadName___init__ pass0 (pa_cons (pv 1) pa_nil)) (pa_cons (pe_makeI T.O_Doubled G_Doubled___init__ (hr.mono (by decide)) (by rfl) T.g_Doubled T.b_Doubled___init__ pass0 (pa_cons (pv 1) pa_nil)) pa_nil)))))))))
      (pss_cons (ps_set (i := 5) sc_law.nd rfl (by first | exact Or.inl rfl | exact Or.inr rfl) (pe_op op_cat (pv 5) (pe_lst (pa_cons (pe_makeI T.O_NoWire G_NoWire___init__ (hr.mono (by decide)) (by rfl) T.g_NoWire T.b_NoWire___init__ pass0 (pa_cons (pv 1) pa_nil)) (pa_cons (pe_makeI T.O_BadLine G_BadLine___init__ (hr.mono (by decide)) (by rfl) T.g_BadLine T.b_BadLine___init__ pass0 (pa_cons (pv 2) pa_nil)) (pa_cons (pe_makeI T.O_Ring G_Ring___init__ (hr.mono (by decide)) (by rfl) T.g_Ring T.b_Ring___init__ pass0 (pa_cons (pv 4) pa_nil)) pa_nil))))))
      (pss_cons (ps_expr (pe_bmK (K := K) rfl PySem.F.plainAttrs_list PySem.F.slot_list_append PySem.F.type_list_append mt_append (pv 4) (pa_cons pe_str pa_nil)))
      (pss_cons (ps_for PassesOwn.never rfl (pi_enum (K := K) rfl (by rfl) T.n_enumerate (pv 5)) (pg_tup rfl (pgs_cons (pg_name (i := 6) sc_law.nd rfl (by first | exact Or.inl rfl | exact Or.inr rfl)) (pgs_cons (pg_name (i := 7) sc_law.nd rfl (by first | exact Or.inl rfl | exact Or.inr rfl)) pgs_nil))) (pss_one (ps_if (PW.pt (pw_or (pt_cmpR (op_neDK (K := K) rfl hu1) (pe_call G__law_kinds (hr.mono (by decide)) (by rfl) T.g__law_kinds T.k__law_kinds T.b__law_kinds .nil pass0 (pa_cons (pv 7) pa_nil)) (pe_lst (pa_cons (pv 6) pa_nil)) (nomark _)) (pw_or (pt_not (pt_val (pe_callB (call_isiF (K := K) rfl) (by rfl) T.n_isinstance PyProof.Rows.boot_isinstance (pa_cons (pv 7) (pa_cons (pe_glob (v := .ref a.c_WireError) (by rfl) T.g_WireError rfl) pa_nil))))) (pw_or1 (pt_not (pt_val (pe_callB (call_isiF (K := K) rfl) (by rfl) T.n_isinstance PyProof.Rows.boot_isinstance (pa_cons (pv 7) (pa_cons (pe_bltn (v := .ty "ValueError") (by rfl) T.n_ValueError boot_ValueError rfl) pa_nil))))))))) (pss_one (ps_ret pe_bl)) pss_nil)))
      (pss_cons (ps_for PassesOwn.never rfl (pi_listK (K := K) rfl (pe_slice (sl_listK (K := K) rfl) (pv 5) (po_some pe_int) (po_some pe_int))) (pg_name (i := 7) sc_law.nd rfl (by first | exact Or.inl rfl | exact Or.inr rfl)) (pss_one (ps_if (pt_cmpR op_ne (pe_fldF (K := K) rfl (pv 7) rfl) (pv 1) (nomark _)) (pss_one (ps_ret pe_bl)) pss_nil)))
      (pss_one (ps_ret (pe_and (pe_cmpR op_eq (pe_fldF (K := K) rfl (pe_ix (ix_listK (K := K) rfl) (pv 5) pe_int (fun _ _ => rfl)) rfl) (pv 2) (nomark _)) (pe_one (pe_cmpR (op_eqDK (K := K) rfl hu1) (pe_fldF (K := K) rfl (pe_ix (ix_listK (K := K) rfl) (pv 5) pe_int (fun _ _ => rfl)) rfl) (pv 3) (nomark _)))))))))))))))), s_start (σ' := [some _, none, none, none, none, none, none, none]) rfl ?_⟩
    walk_at "l2"
    refine c_word fun wd H1 s1 => ?_
    have hS1 := Same.seq s1 hS
    walk_at "l2"
    generalize cell ns 1 % _ = nb
    intro Ds H2 f2 s2 e2
    obtain ⟨cs, ec, lc⟩ := cut_ints ns (some 2) (some 12)
    rw [ec] at e2
    walk_at "l2"
    intro D hD
    refine comp_list (xs := cs.map V.int) (fun i ys H' => Cs (fun i ys => ∃ ws : List Str, ys = ws.map V.str) H2 D i ys H') (Cs.zero hD ⟨[], rfl⟩) (fun i ys H' _ ⟨_, s3, _, _⟩ => SqL.of (s3.get e2)) (fun i y ys H' hy c1 => ?_) (fun ys H' c1 => ?_)
    · obtain ⟨c, hc, rfl⟩ := get_map hy
      obtain ⟨⟨ws, rfl⟩, s3, e3, l3⟩ := c1
      have hi : i < cs.length := (List.getElem?_eq_some_iff.mp hc).1
      walk_at "l2"
      refine c_word fun x H4 s4 => ?_
      exact Cs.put hD (s3.trans s4) (s4.get e3) l3 (by omega) ⟨ws ++ [x], by rw [List.map_append]; rfl⟩
    · obtain ⟨⟨ws, rfl⟩, s3, e3, l3⟩ := c1
      have lw : ws.length ≤ 63 := by rw [List.length_map, List.length_map] at l3; omega
      clear hS1 hS s1 s2 e2 f2 ec lc s3 l3 hD
      generalize H' = H3 at e3 ⊢
      walk_at "l2"
      intro Lh H4 f4 s4 e4
      have hne : D ≠ Lh := ne_of_none e3 f4
      walk_at "l2"
      refine s_makeFAt fun x0 H5 f5 s5 v0 => ?_
      walk_at "l2"
      refine s_makeFAt fun x1 H6 f6 s6 v1 => ?_
      walk_at "l2"
      refine s_makeFAt fun x2 H7 f7 s7 v2 => ?_
      walk_at "l2"
      refine s_makeFAt fun x3 H8 f8 s8 v3 => ?_
      walk_at "l2"
      refine s_makeFAt fun x4 H9 f9 s9 v4 => ?_
      walk_at "l2"
      have s39 : Same H3 H9 := ((((s4.trans s5).trans s6).trans s7).trans s8).trans s9
      have l9 := ((((s5.trans s6).trans s7).trans s8).trans s9).get e4
      have e9 := s39.get e3
      have w0 := v0.same (((s6.trans s7).trans s8).trans s9)
      have w1 := v1.same ((s7.trans s8).trans s9)
      have w2 := v2.same (s8.trans s9)
      have w3 := v3.same s9
      clear v0 v1 v2 v3 s39 s4 s5 s6 s7 s8 s9 f4 f5 f6 f7 f8 f9 e4 e3
      refine s_makeIAt fun x5 H10 f10 s10 e10 => ?_
      refine c_xname e10 fun H11 v5 k11 => ⟨rfl, ?_⟩
      have s11 := same_init f10 s10 k11
      walk_at "l2"
      refine s_makeIAt fun x6 H12 f12 s12 e12 => ?_
      refine c_xname e12 fun H13 v6 k13 => ⟨rfl, ?_⟩
      have s13 := same_init f12 s12 k13
      walk_at "l2"
      intro La H14 f14 s14 e14
      have s9d := (s11.trans s13).trans s14
      have l14 := s9d.get l9
      have e14b := s9d.get e9
      have y0 := w0.same s9d
      have y1 := w1.same s9d
      have y2 := w2.same s9d
      have y3 := w3.same s9d
      have y4 := v4.same s9d
      have y5 := v5.same (s13.trans s14)
      have y6 := v6.same s14
      clear w0 w1 w2 w3 v4 v5 v6 s9d s11 s13 s14 f10 s10 e10 k11 f12 s12 e12 k13 f14 l9 e9
      walk_at "l2"
      refine s_makeIAt fun x7 H15 f15 s15 e15 => ?_
      refine c_xname e15 fun H16 v7 k16 => ⟨rfl, ?_⟩
      have s16 := same_init f15 s15 k16
      walk_at "l2"
      refine s_makeIAt fun x8 H17 f17 s17 e17 => ?_
      refine c_xline e17 fun H18 v8 k18 => ⟨rfl, ?_⟩
      have s18 := same_init f17 s17 k18
      have l18 := (s16.trans s18).get l14
      walk_at "l2"
      refine s_makeIAt fun x9 H19 f19 s19 e19 => ?_
      refine ⟨x9, Lh, _, rfl, SqL.of (s19.get l18), e19, fun H20 r f20 v9 e20 k20 => ⟨rfl, ?_⟩⟩
      have s20 := same_init f19 s19 k20
      have hnr : r ≠ Lh := Ne.symm (ne_of_none (s19.get l18) f20)
      walk_at "l2"
      intro Lb H21 f21 s21 e21
      walk_at "l2"
      refine s_cat ((((s16.trans s18).trans s20).trans s21).get e14) e21 (le_line (Nat.le_of_ble_eq_true rfl)) ?_
      intro Lm H22 f22 s22 e22
      have t22 := (((s16.trans s18).trans s20).trans s21).trans s22
      have l22 := t22.get l14
      have d22 := t22.get e14b
      have r22 := (s21.trans s22).get e20
      have z0 := y0.same t22
      have z1 := y1.same t22
      have z2 := y2.same t22
      have z3 := y3.same t22
      have z4 := y4.same t22
      have z5 := y5.same t22
      have z6 := y6.same t22
      have z7 := v7.same (((s18.trans s20).trans s21).trans s22)
      have z8 := v8.same ((s20.trans s21).trans s22)
      have z9 := v9.same (s21.trans s22)
      have hnm : Lh ≠ Lm := ne_of_none ((((s16.trans s18).trans s20).trans s21).get l14) f22
      clear y0 y1 y2 y3 y4 y5 y6 v7 v8 v9 t22 s16 s18 s20 s21 s22 f15 s15 e15 k16 f17 s17 e17 k18 f19 s19 e19 k20 f20 l18 f21 e21 f22 e20 l14 e14b e14
      walk_at "l2"
      refine s_append l22 (by rw [List.length_map, sizeLine_eq]; omega) fun H23 u => ?_
      have hD3 := u.oth _ _ hne d22
      have hr3 := u.oth _ _ hnr r22
      have hm3 : H23 Lm = some (.lst [.ref x0, .ref x1, .ref x2, .ref x3, .ref x4, .ref x5, .ref x6, .ref x7, .ref x8, .ref x9]) := u.oth _ _ (Ne.symm hnm) e22
      have q5 := z5.upd l22 u
      have q6 := z6.upd l22 u
      have q7 := z7.upd l22 u
      have q8 := z8.upd l22 u
      have q9 := z9.upd l22 u
      have XA : XAll H23 (xcs a) [.ref x0, .ref x1, .ref x2, .ref x3, .ref x4, .ref x5, .ref x6, .ref x7, .ref x8, .ref x9] :=
        .cons (z0.upd l22 u) (.cons (z1.upd l22 u) (.cons (z2.upd l22 u) (.cons (z3.upd l22 u) (.cons (z4.upd l22 u) (.cons q5 (.cons q6 (.cons q7 (.cons q8 (.cons q9 .nil)))))))))
      clear z0 z1 z2 z3 z4 z5 z6 z7 z8 z9 u hne hnr hnm l22 d22 r22 e22
      walk_at "l2"
      refine for_enum (xs := [.ref x0, .ref x1, .ref x2, .ref x3, .ref x4, .ref x5, .ref x6, .ref x7, .ref x8, .ref x9]) (fun i σ H' => ∃ v1 v2, σ = [some (.ref p0), some (.str wd), some (.int nb), some (.ref D), some (.ref Lh), some (.ref Lm), v1, v2] ∧ Same H23 H') ⟨none, none, rfl, Same.refl _⟩ (fun i σ H' _ ⟨_, _, _, s⟩ => SqL.of (s.get hm3)) ?_ ?_
      · rintro i y σ H' pt H24 hy ⟨v1, v2, rfl, s23⟩ ft st et
        have hi : i < 10 := (List.getElem?_eq_some_iff.mp hy).1
        obtain ⟨C, hC⟩ : ∃ C, (xcs a)[i]? = some C := ⟨_, List.getElem?_eq_getElem (by show i < 10; exact hi)⟩
        obtain ⟨p, fs, hp, ev⟩ := XA i C hC
        rw [hp] at hy
        cases hy
        obtain ⟨k10, hI, iW, iV, _⟩ := xtab T hC
        have s24 := s23.trans st
        have ev' := ev.same s24
        walk_at "l2"
        refine ⟨p, C, fs, i, rfl, ev', hC, fun r H25 s25 e25 => ?_⟩
        walk_at "l2"
        intro Lk H26 f26 s26 e26
        refine s_eqD (rep_l1 (s26.get e25) (.int i)) (rep_l1 e26 (.int i)) (Nat.le_of_ble_eq_true rfl) ?_
        rw [eqD_refl]
        walk_at "l2"
        have ev26 := ev'.same (s25.trans s26)
        refine s_isiF ev26 hI rfl iW ?_
        walk_at "l2"
        refine s_isiF ev26 hI rfl iV ?_
        walk_at "l2"
        exact ⟨_, _, rfl, (s24.trans s25).trans s26⟩
      · rintro σ H' ⟨v1, v2, rfl, s23⟩
        have hm4 := s23.get hm3
        walk_at "l2"
        intro Lq H27 f27 s27 e27
        have e27' : H27 Lq = some (.lst [.ref x5, .ref x6, .ref x7]) := e27
        have s37 := s23.trans s27
        have n5 := q5.same s37
        have n6 := q6.same s37
        have n7 := q7.same s37
        have n8 := q8.same s37
        have n9 := q9.same s37
        have hr7 := s37.get hr3
        have hD7 := s37.get hD3
        have hm7 := s37.get hm3
        clear q5 q6 q7 q8 q9 s37 s27 s23 e27 f27 hm4 hm3 hr3 hD3 XA
        walk_at "l2"
        refine for_list (xs := [.ref x5, .ref x6, .ref x7]) (fun i σ H' => ∃ v2, σ = [some (.ref p0), some (.str wd), some (.int nb), some (.ref D), some (.ref Lh), some (.ref Lm), v1, v2] ∧ Same H27 H') ⟨_, rfl, Same.refl _⟩ (fun i σ H' _ ⟨_, _, s⟩ => SqL.of (s.get e27')) ?_ ?_
        · rintro i y σ H8 hy ⟨v2, rfl, s8⟩
          have key : ∃ p C, y = .ref p ∧ ExcV H8 p C [("name", .str wd)] ∧ XIsi K C ∧ PySem.W.hasDictIn K C = true ∧ NoAttr K C "name" := by
            rcases i with _ | _ | _ | i
            · cases hy; exact ⟨_, _, rfl, n5.same s8, T.I_BadName, T.hd_BadName, T.n_BadName_name⟩
            · cases hy; exact ⟨_, _, rfl, n6.same s8, T.I_Doubled, T.hd_Doubled, T.n_Doubled_name⟩
            · cases hy; exact ⟨_, _, rfl, n7.same s8, T.I_NoWire, T.hd_NoWire, T.n_NoWire_name⟩
            · simp at hy
          obtain ⟨p, C, rfl, ev, hI, hd, hn⟩ := key
          walk_at "l2"
          refine s_fldFAt ev hI hd hn rfl ?_
          walk_at "l2"
          rw [if_neg (by rw [decide_eq_true rfl]; decide)]
          walk_at "l2"
          exact s8
        · rintro σ H8 ⟨v2, rfl, s8⟩
          have hm8 := s8.get hm7
          walk_at "l2"
          refine s_fldFAt (n8.same s8) T.I_BadLine T.hd_BadLine T.n_BadLine_line rfl ?_
          walk_at "l2"
          rw [if_pos (decide_eq_true rfl)]
          walk_at "l2"
          refine s_fldFAt (n9.same s8) T.I_Ring T.hd_Ring T.n_Ring_ring rfl ?_
          walk_at "l2"
          refine s_eqD (rep_strL (s8.get hr7)) (rep_strL (s8.get hD7)) (by rw [depD, dep_strs]; decide) ?_
          rw [eqD_refl]
          exact q _
end
theorem all_mk {l : PySem.W.OpenLaw} {w : World} {K : PySem.W.Frag} {h : Heap} {mg : Str → Option Value} {fa : Addr} (X : K.In h) (G : h.Ns mainGlobals mg) (hfa : mg "law" = some (.ref fa))
    {od_kept an_kept : Option Addr} {sl_kept : Array (Option Value)} {oc_kept kv_kept dc_kept pm_kept cd_kept ct_kept : Value} {f_kept : Addr}
    {od_BadName___init__ an_BadName___init__ : Option Addr} {sl_BadName___init__ : Array (Option Value)} {oc_BadName___init__ kv_BadName___init__ dc_BadName___init__ pm_BadName___init__ cd_BadName___init__ ct_BadName___init__ : Value} {f_BadName___init__ : Addr}
    {od_Doubled___init__ an_Doubled___init__ : Option Addr} {sl_Doubled___init__ : Array (Option Value)} {oc_Doubled___init__ kv_Doubled___init__ dc_Doubled___init__ pm_Doubled___init__ cd_Doubled___init__ ct_Doubled___init__ : Value} {f_Doubled___init__ : Addr}
    {od_NoWire___init__ an_NoWire___init__ : Option Addr} {sl_NoWire___init__ : Array (Option Value)} {oc_NoWire___init__ kv_NoWire___init__ dc_NoWire___init__ pm_NoWire___init__ cd_NoWire___init__ ct_NoWire___init__ : Value} {f_NoWire___init__ : Addr}
    {od_BadLine___init__ an_BadLine___init__ : Option Addr} {sl_BadLine___init__ : Array (Option Value)} {oc_BadLine___init__ kv_BadLine___init__ dc_BadLine___init__ pm_BadLine___init__ cd_BadLine___init__ ct_BadLine___init__ : Value} {f_BadLine___init__ : Addr}
    {od_Ring___init__ an_Ring___init__ : Option Addr} {sl_Ring___init__ : Array (Option Value)} {oc_Ring___init__ kv_Ring___init__ dc_Ring___init__ pm_Ring___init__ cd_Ring___init__ ct_Ring___init__ : Value} {f_Ring___init__ : Addr}
    {od__law_cell an__law_cell : Option Addr} {sl__law_cell : Array (Option Value)} {oc__law_cell kv__law_cell dc__law_cell pm__law_cell cd__law_cell ct__law_cell : Value} {f__law_cell : Addr}
    {od__law_mix an__law_mix : Option Addr} {sl__law_mix : Array (Option Value)} {oc__law_mix kv__law_mix dc__law_mix pm__law_mix cd__law_mix ct__law_mix : Value} {f__law_mix : Addr}
    {od__law_word an__law_word : Option Addr} {sl__law_word : Array (Option Value)} {oc__law_word kv__law_word dc__law_word pm__law_word cd__law_word ct__law_word : Value} {f__law_word : Addr}
    {od__law_kinds an__law_kinds : Option Addr} {sl__law_kinds : Array (Option Value)} {oc__law_kinds kv__law_kinds dc__law_kinds pm__law_kinds cd__law_kinds ct__law_kinds : Value} {f__law_kinds : Addr}
    {od_law an_law : Option Addr} {sl_law : Array (Option Value)} {oc_law kv_law dc_law pm_law cd_law ct_law : Value} {f_law : Addr}
    {c_WireError : Addr} (a_WireError : PySem.W.nsIn K mainGlobals "WireError" = some (some (.ref c_WireError)))
    {c_BadSizes : Addr} (a_BadSizes : PySem.W.nsIn K mainGlobals "BadSizes" = some (some (.ref c_BadSizes)))
    {c_TooMany : Addr} (a_TooMany : PySem.W.nsIn K mainGlobals "TooMany" = some (some (.ref c_TooMany)))
    {c_BadMask : Addr} (a_BadMask : PySem.W.nsIn K mainGlobals "BadMask" = some (some (.ref c_BadMask)))
    {c_BadTable : Addr} (a_BadTable : PySem.W.nsIn K mainGlobals "BadTable" = some (some (.ref c_BadTable)))
    {c_BadRow : Addr} (a_BadRow : PySem.W.nsIn K mainGlobals "BadRow" = some (some (.ref c_BadRow)))
    {c_BadName : Addr} (a_BadName : PySem.W.nsIn K mainGlobals "BadName" = some (some (.ref c_BadName)))
    {c_Doubled : Addr} (a_Doubled : PySem.W.nsIn K mainGlobals "Doubled" = some (some (.ref c_Doubled)))
    {c_NoWire : Addr} (a_NoWire : PySem.W.nsIn K mainGlobals "NoWire" = some (some (.ref c_NoWire)))
    {c_BadLine : Addr} (a_BadLine : PySem.W.nsIn K mainGlobals "BadLine" = some (some (.ref c_BadLine)))
    {c_Ring : Addr} (a_Ring : PySem.W.nsIn K mainGlobals "Ring" = some (some (.ref c_Ring)))
    (a_kept : PySem.W.nsIn K mainGlobals "kept" = some (some (.ref f_kept)))
    (l_kept : K.lookup f_kept = some ⟨oc_kept, od_kept, .func (PySem.W.fnOf "kept" "kept" (defArgs s_kept) (defBody s_kept) (defScope s_kept) .none kv_kept dc_kept pm_kept an_kept cd_kept ct_kept), sl_kept⟩)
    (c_kept : PySem.W.codeIn K cd_kept "kept" = true)
    (p_kept : PySem.W.keepIn K (.ref f_kept) = true)
    (x_BadName___init__ : PySem.W.findIn K (.ref c_BadName) "__init__" = some (some (.ref f_BadName___init__)))
    (l_BadName___init__ : K.lookup f_BadName___init__ = some ⟨oc_BadName___init__, od_BadName___init__, .func (PySem.W.fnOf "__init__" "BadName.__init__" (defArgs s_BadName___init__) (defBody s_BadName___init__) (defScope s_BadName___init__) .none kv_BadName___init__ dc_BadName___init__ pm_BadName___init__ an_BadName___init__ cd_BadName___init__ ct_BadName___init__), sl_BadName___init__⟩)
    (c_BadName___init__ : PySem.W.codeIn K cd_BadName___init__ "BadName.__init__" = true)
    (p_BadName___init__ : PySem.W.keepIn K (.ref f_BadName___init__) = true)
    (x_Doubled___init__ : PySem.W.findIn K (.ref c_Doubled) "__init__" = some (some (.ref f_Doubled___init__)))
    (l_Doubled___init__ : K.lookup f_Doubled___init__ = some ⟨oc_Doubled___init__, od_Doubled___init__, .func (PySem.W.fnOf "__init__" "Doubled.__init__" (defArgs s_Doubled___init__) (defBody s_Doubled___init__) (defScope s_Doubled___init__) .none kv_Doubled___init__ dc_Doubled___init__ pm_Doubled___init__ an_Doubled___init__ cd_Doubled___init__ ct_Doubled___init__), sl_Doubled___init__⟩)
    (c_Doubled___init__ : PySem.W.codeIn K cd_Doubled___init__ "Doubled.__init__" = true)
    (p_Doubled___init__ : PySem.W.keepIn K (.ref f_Doubled___init__) = true)
    (x_NoWire___init__ : PySem.W.findIn K (.ref c_NoWire) "__init__" = some (some (.ref f_NoWire___init__)))
    (l_NoWire___init__ : K.lookup f_NoWire___init__ = some ⟨oc_NoWire___init__, od_NoWire___init__, .func (PySem.W.fnOf "__init__" "NoWire.__init__" (defArgs s_NoWire___init__) (defBody s_NoWire___init__) (defScope s_NoWire___init__) .none kv_NoWire___init__ dc_NoWire___init__ pm_NoWire___init__ an_NoWire___init__ cd_NoWire___init__ ct_NoWire___init__), sl_NoWire___init__⟩)
    (c_NoWire___init__ : PySem.W.codeIn K cd_NoWire___init__ "NoWire.__init__" = true)
    (p_NoWire___init__ : PySem.W.keepIn K (.ref f_NoWire___init__) = true)
    (x_BadLine___init__ : PySem.W.findIn K (.ref c_BadLine) "__init__" = some (some (.ref f_BadLine___init__)))
    (l_BadLine___init__ : K.lookup f_BadLine___init__ = some ⟨oc_BadLine___init__, od_BadLine___init__, .func (PySem.W.fnOf "__init__" "BadLine.__init__" (defArgs s_BadLine___init__) (defBody s_BadLine___init__) (defScope s_BadLine___init__) .none kv_BadLine___init__ dc_BadLine___init__ pm_BadLine___init__ an_BadLine___init__ cd_BadLine___init__ ct_BadLine___init__), sl_BadLine___init__⟩)
    (c_BadLine___init__ : PySem.W.codeIn K cd_BadLine___init__ "BadLine.__init__" = true)
    (p_BadLine___init__ : PySem.W.keepIn K (.ref f_BadLine___init__) = true)
    (x_Ring___init__ : PySem.W.findIn K (.ref c_Ring) "__init__" = some (some (.ref f_Ring___init__)))
    (l_Ring___init__ : K.lookup f_Ring___init__ = some ⟨oc_Ring___init__, od_Ring___init__, .func (PySem.W.fnOf "__init__" "Ring.__init__" (defArgs s_Ring___init__) (defBody s_Ring___init__) (defScope s_Ring___init__) .none kv_Ring___init__ dc_Ring___init__ pm_Ring___init__ an_Ring___init__ cd_Ring___init__ ct_Ring___init__), sl_Ring___init__⟩)
    (c_Ring___init__ : PySem.W.codeIn K cd_Ring___init__ "Ring.__init__" = true)
    (p_Ring___init__ : PySem.W.keepIn K (.ref f_Ring___init__) = true)
    (a__law_cell : PySem.W.nsIn K mainGlobals "_law_cell" = some (some (.ref f__law_cell)))
    (l__law_cell : K.lookup f__law_cell = some ⟨oc__law_cell, od__law_cell, .func (PySem.W.fnOf "_law_cell" "_law_cell" (defArgs s__law_cell) (defBody s__law_cell) (defScope s__law_cell) .none kv__law_cell dc__law_cell pm__law_cell an__law_cell cd__law_cell ct__law_cell), sl__law_cell⟩)
    (c__law_cell : PySem.W.codeIn K cd__law_cell "_law_cell" = true)
    (p__law_cell : PySem.W.keepIn K (.ref f__law_cell) = true)
    (a__law_mix : PySem.W.nsIn K mainGlobals "_law_mix" = some (some (.ref f__law_mix)))
    (l__law_mix : K.lookup f__law_mix = some ⟨oc__law_mix, od__law_mix, .func (PySem.W.fnOf "_law_mix" "_law_mix" (defArgs s__law_mix) (defBody s__law_mix) (defScope s__law_mix) .none kv__law_mix dc__law_mix pm__law_mix an__law_mix cd__law_mix ct__law_mix), sl__law_mix⟩)
    (c__law_mix : PySem.W.codeIn K cd__law_mix "_law_mix" = true)
    (p__law_mix : PySem.W.keepIn K (.ref f__law_mix) = true)
    (a__law_word : PySem.W.nsIn K mainGlobals "_law_word" = some (some (.ref f__law_word)))
    (l__law_word : K.lookup f__law_word = some ⟨oc__law_word, od__law_word, .func (PySem.W.fnOf "_law_word" "_law_word" (defArgs s__law_word) (defBody s__law_word) (defScope s__law_word) .none kv__law_word dc__law_word pm__law_word an__law_word cd__law_word ct__law_word), sl__law_word⟩)
    (c__law_word : PySem.W.codeIn K cd__law_word "_law_word" = true)
    (p__law_word : PySem.W.keepIn K (.ref f__law_word) = true)
    (a__law_kinds : PySem.W.nsIn K mainGlobals "_law_kinds" = some (some (.ref f__law_kinds)))
    (l__law_kinds : K.lookup f__law_kinds = some ⟨oc__law_kinds, od__law_kinds, .func (PySem.W.fnOf "_law_kinds" "_law_kinds" (defArgs s__law_kinds) (defBody s__law_kinds) (defScope s__law_kinds) .none kv__law_kinds dc__law_kinds pm__law_kinds an__law_kinds cd__law_kinds ct__law_kinds), sl__law_kinds⟩)
    (c__law_kinds : PySem.W.codeIn K cd__law_kinds "_law_kinds" = true)
    (p__law_kinds : PySem.W.keepIn K (.ref f__law_kinds) = true)
    (a_law : PySem.W.nsIn K mainGlobals "law" = some (some (.ref f_law)))
    (l_law : K.lookup f_law = some ⟨oc_law, od_law, .func (PySem.W.fnOf "law" "law" (defArgs s_law) (defBody s_law) (defScope s_law) .none kv_law dc_law pm_law an_law cd_law ct_law), sl_law⟩)
    (c_law : PySem.W.codeIn K cd_law "law" = true)
    (p_law : PySem.W.keepIn K (.ref f_law) = true)
    (x_WireError : PySem.W.excIn K c_WireError [.type "ValueError", .type "Exception", .type "BaseException", .type "object"] "ValueError.__new__" = true)
    (t1_WireError : PySem.W.isClsIn K c_WireError = true)
    (t2_WireError : PySem.W.typeIn K (.ref c_WireError) = some (.type "type"))
    (t3_WireError : PySem.W.mroIn K c_WireError (.ref c_WireError) = some true)
    (t1_BadSizes : PySem.W.isClsIn K c_BadSizes = true)
    (t2_BadSizes : PySem.W.typeIn K (.ref c_BadSizes) = some (.type "type"))
    (t3_BadSizes : PySem.W.mroIn K c_BadSizes (.ref c_BadSizes) = some true)
    (t1_TooMany : PySem.W.isClsIn K c_TooMany = true)
    (t2_TooMany : PySem.W.typeIn K (.ref c_TooMany) = some (.type "type"))
    (t3_TooMany : PySem.W.mroIn K c_TooMany (.ref c_TooMany) = some true)
    (t1_BadMask : PySem.W.isClsIn K c_BadMask = true)
    (t2_BadMask : PySem.W.typeIn K (.ref c_BadMask) = some (.type "type"))
    (t3_BadMask : PySem.W.mroIn K c_BadMask (.ref c_BadMask) = some true)
    (t1_BadTable : PySem.W.isClsIn K c_BadTable = true)
    (t2_BadTable : PySem.W.typeIn K (.ref c_BadTable) = some (.type "type"))
    (t3_BadTable : PySem.W.mroIn K c_BadTable (.ref c_BadTable) = some true)
    (t1_BadRow : PySem.W.isClsIn K c_BadRow = true)
    (t2_BadRow : PySem.W.typeIn K (.ref c_BadRow) = some (.type "type"))
    (t3_BadRow : PySem.W.mroIn K c_BadRow (.ref c_BadRow) = some true)
    (t1_BadName : PySem.W.isClsIn K c_BadName = true)
    (t2_BadName : PySem.W.typeIn K (.ref c_BadName) = some (.type "type"))
    (t3_BadName : PySem.W.mroIn K c_BadName (.ref c_BadName) = some true)
    (t1_Doubled : PySem.W.isClsIn K c_Doubled = true)
    (t2_Doubled : PySem.W.typeIn K (.ref c_Doubled) = some (.type "type"))
    (t3_Doubled : PySem.W.mroIn K c_Doubled (.ref c_Doubled) = some true)
    (t1_NoWire : PySem.W.isClsIn K c_NoWire = true)
    (t2_NoWire : PySem.W.typeIn K (.ref c_NoWire) = some (.type "type"))
    (t3_NoWire : PySem.W.mroIn K c_NoWire (.ref c_NoWire) = some true)
    (t1_BadLine : PySem.W.isClsIn K c_BadLine = true)
    (t2_BadLine : PySem.W.typeIn K (.ref c_BadLine) = some (.type "type"))
    (t3_BadLine : PySem.W.mroIn K c_BadLine (.ref c_BadLine) = some true)
    (t1_Ring : PySem.W.isClsIn K c_Ring = true)
    (t2_Ring : PySem.W.typeIn K (.ref c_Ring) = some (.type "type"))
    (t3_Ring : PySem.W.mroIn K c_Ring (.ref c_Ring) = some true)
    (u1_WireError : PySem.W.specialIn K (.ref c_WireError) "__getattribute__" = some (some (.builtin "type.__getattribute__")))
    (u2_WireError : PySem.W.readsIn K c_WireError (.type "type") = true)
    (u3_WireError : PySem.W.findCls K (.ref c_WireError) (.type "type") "__init__" = some (.val (.builtin "ValueError.__init__")))
    (x_BadSizes : PySem.W.excIn K c_BadSizes [.type "ValueError", .type "Exception", .type "BaseException", .type "object"] "ValueError.__new__" = true)
    (y1_BadSizes : PySem.W.isClsIn K c_BadSizes = true)
    (y2_BadSizes : PySem.W.findIn K (.ref c_BadSizes) "__getattribute__" = some (some (.builtin "BaseException.__getattribute__")))
    (y3_BadSizes : PySem.W.findIn K (.ref c_BadSizes) "__getattr__" = some none)
    (y4_BadSizes : PySem.W.findIn K (.ref c_BadSizes) "__class__" = some (some (.builtin "object.__class__")))
    (y5_BadSizes : PySem.W.mroIn K c_BadSizes (.type "object") = some true)
    (y6_BadSizes : PySem.W.mroIn K c_BadSizes (.type "BaseException") = some true)
    (kp_BadSizes : PySem.W.keepIn K (.ref c_BadSizes) = true)
    (i_BadSizes_WireError : PySem.W.mroIn K c_BadSizes (.ref c_WireError) = some true)
    (i_BadSizes_BadSizes : PySem.W.mroIn K c_BadSizes (.ref c_BadSizes) = some true)
    (i_BadSizes_TooMany : PySem.W.mroIn K c_BadSizes (.ref c_TooMany) = some false)
    (i_BadSizes_BadMask : PySem.W.mroIn K c_BadSizes (.ref c_BadMask) = some false)
    (i_BadSizes_BadTable : PySem.W.mroIn K c_BadSizes (.ref c_BadTable) = some false)
    (i_BadSizes_BadRow : PySem.W.mroIn K c_BadSizes (.ref c_BadRow) = some false)
    (i_BadSizes_BadName : PySem.W.mroIn K c_BadSizes (.ref c_BadName) = some false)
    (i_BadSizes_Doubled : PySem.W.mroIn K c_BadSizes (.ref c_Doubled) = some false)
    (i_BadSizes_NoWire : PySem.W.mroIn K c_BadSizes (.ref c_NoWire) = some false)
    (i_BadSizes_BadLine : PySem.W.mroIn K c_BadSizes (.ref c_BadLine) = some false)
    (i_BadSizes_Ring : PySem.W.mroIn K c_BadSizes (.ref c_Ring) = some false)
    (iv_BadSizes : PySem.W.mroIn K c_BadSizes (.type "ValueError") = some true)
    (x_TooMany : PySem.W.excIn K c_TooMany [.type "ValueError", .type "Exception", .type "BaseException", .type "object"] "ValueError.__new__" = true)
    (y1_TooMany : PySem.W.isClsIn K c_TooMany = true)
    (y2_TooMany : PySem.W.findIn K (.ref c_TooMany) "__getattribute__" = some (some (.builtin "BaseException.__getattribute__")))
    (y3_TooMany : PySem.W.findIn K (.ref c_TooMany) "__getattr__" = some none)
    (y4_TooMany : PySem.W.findIn K (.ref c_TooMany) "__class__" = some (some (.builtin "object.__class__")))
    (y5_TooMany : PySem.W.mroIn K c_TooMany (.type "object") = some true)
    (y6_TooMany : PySem.W.mroIn K c_TooMany (.type "BaseException") = some true)
    (kp_TooMany : PySem.W.keepIn K (.ref c_TooMany) = true)
    (i_TooMany_WireError : PySem.W.mroIn K c_TooMany (.ref c_WireError) = some true)
    (i_TooMany_BadSizes : PySem.W.mroIn K c_TooMany (.ref c_BadSizes) = some false)
    (i_TooMany_TooMany : PySem.W.mroIn K c_TooMany (.ref c_TooMany) = some true)
    (i_TooMany_BadMask : PySem.W.mroIn K c_TooMany (.ref c_BadMask) = some false)
    (i_TooMany_BadTable : PySem.W.mroIn K c_TooMany (.ref c_BadTable) = some false)
    (i_TooMany_BadRow : PySem.W.mroIn K c_TooMany (.ref c_BadRow) = some false)
    (i_TooMany_BadName : PySem.W.mroIn K c_TooMany (.ref c_BadName) = some false)
    (i_TooMany_Doubled : PySem.W.mroIn K c_TooMany (.ref c_Doubled) = some false)
    (i_TooMany_NoWire : PySem.W.mroIn K c_TooMany (.ref c_NoWire) = some false)
    (i_TooMany_BadLine : PySem.W.mroIn K c_TooMany (.ref c_BadLine) = some false)
    (i_TooMany_Ring : PySem.W.mroIn K c_TooMany (.ref c_Ring) = some false)
    (iv_TooMany : PySem.W.mroIn K c_TooMany (.type "ValueError") = some true)
    (x_BadMask : PySem.W.excIn K c_BadMask [.type "ValueError", .type "Exception", .type "BaseException", .type "object"] "ValueError.__new__" = true)
    (y1_BadMask : PySem.W.isClsIn K c_BadMask = true)
    (y2_BadMask : PySem.W.findIn K (.ref c_BadMask) "__getattribute__" = some (some (.builtin "BaseException.__getattribute__")))
    (y3_BadMask : PySem.W.findIn K (.ref c_BadMask) "__getattr__" = some none)
    (y4_BadMask : PySem.W.findIn K (.ref c_BadMask) "__class__" = some (some (.builtin "object.__class__")))
    (y5_BadMask : PySem.W.mroIn K c_BadMask (.type "object") = some true)
    (y6_BadMask : PySem.W.mroIn K c_BadMask (.type "BaseException") = some true)
    (kp_BadMask : PySem.W.keepIn K (.ref c_BadMask) = true)
    (i_BadMask_WireError : PySem.W.mroIn K c_BadMask (.ref c_WireError) = some true)
    (i_BadMask_BadSizes : PySem.W.mroIn K c_BadMask (.ref c_BadSizes) = some false)
    (i_BadMask_TooMany : PySem.W.mroIn K c_BadMask (.ref c_TooMany) = some false)
    (i_BadMask_BadMask : PySem.W.mroIn K c_BadMask (.ref c_BadMask) = some true)
    (i_BadMask_BadTable : PySem.W.mroIn K c_BadMask (.ref c_BadTable) = some false)
    (i_BadMask_BadRow : PySem.W.mroIn K c_BadMask (.ref c_BadRow) = some false)
    (i_BadMask_BadName : PySem.W.mroIn K c_BadMask (.ref c_BadName) = some false)
    (i_BadMask_Doubled : PySem.W.mroIn K c_BadMask (.ref c_Doubled) = some false)
    (i_BadMask_NoWire : PySem.W.mroIn K c_BadMask (.ref c_NoWire) = some false)
    (i_BadMask_BadLine : PySem.W.mroIn K c_BadMask (.ref c_BadLine) = some false)
    (i_BadMask_Ring : PySem.W.mroIn K c_BadMask (.ref c_Ring) = some false)
    (iv_BadMask : PySem.W.mroIn K c_BadMask (.type "ValueError") = some true)
    (x_BadTable : PySem.W.excIn K c_BadTable [.type "ValueError", .type "Exception", .type "BaseException", .type "object"] "ValueError.__new__" = true)
    (y1_BadTable : PySem.W.isClsIn K c_BadTable = true)
    (y2_BadTable : PySem.W.findIn K (.ref c_BadTable) "__getattribute__" = some (some (.builtin "BaseException.__getattribute__")))
    (y3_BadTable : PySem.W.findIn K (.ref c_BadTable) "__getattr__" = some none)
    (y4_BadTable : PySem.W.findIn K (.ref c_BadTable) "__class__" = some (some (.builtin "object.__class__")))
    (y5_BadTable : PySem.W.mroIn K c_BadTable (.type "object") = some true)
    (y6_BadTable : PySem.W.mroIn K c_BadTable (.type "BaseException") = some true)
    (kp_BadTable : PySem.W.keepIn K (.ref c_BadTable) = true)
    (i_BadTable_WireError : PySem.W.mroIn K c_BadTable (.ref c_WireError) = some true)
    (i_BadTable_BadSizes : PySem.W.mroIn K c_BadTable (.ref c_BadSizes) = some false)
    (i_BadTable_TooMany : PySem.W.mroIn K c_BadTable (.ref c_TooMany) = some false)
    (i_BadTable_BadMask : PySem.W.mroIn K c_BadTable (.ref c_BadMask) = some false)
    (i_BadTable_BadTable : PySem.W.mroIn K c_BadTable (.ref c_BadTable) = some true)
    (i_BadTable_BadRow : PySem.W.mroIn K c_BadTable (.ref c_BadRow) = some false)
    (i_BadTable_BadName : PySem.W.mroIn K c_BadTable (.ref c_BadName) = some false)
    (i_BadTable_Doubled : PySem.W.mroIn K c_BadTable (.ref c_Doubled) = some false)
    (i_BadTable_NoWire : PySem.W.mroIn K c_BadTable (.ref c_NoWire) = some false)
    (i_BadTable_BadLine : PySem.W.mroIn K c_BadTable (.ref c_BadLine) = some false)
    (i_BadTable_Ring : PySem.W.mroIn K c_BadTable (.ref c_Ring) = some false)
    (iv_BadTable : PySem.W.mroIn K c_BadTable (.type "ValueError") = some true)
    (x_BadRow : PySem.W.excIn K c_BadRow [.type "ValueError", .type "Exception", .type "BaseException", .type "object"] "ValueError.__new__" = true)
    (y1_BadRow : PySem.W.isClsIn K c_BadRow = true)
    (y2_BadRow : PySem.W.findIn K (.ref c_BadRow) "__getattribute__" = some (some (.builtin "BaseException.__getattribute__")))
    (y3_BadRow : PySem.W.findIn K (.ref c_BadRow) "__getattr__" = some none)
    (y4_BadRow : PySem.W.findIn K (.ref c_BadRow) "__class__" = some (some (.builtin "object.__class__")))
    (y5_BadRow : PySem.W.mroIn K c_BadRow (.type "object") = some true)
    (y6_BadRow : PySem.W.mroIn K c_BadRow (.type "BaseException") = some true)
    (kp_BadRow : PySem.W.keepIn K (.ref c_BadRow) = true)
    (i_BadRow_WireError : PySem.W.mroIn K c_BadRow (.ref c_WireError) = some true)
    (i_BadRow_BadSizes : PySem.W.mroIn K c_BadRow (.ref c_BadSizes) = some false)
    (i_BadRow_TooMany : PySem.W.mroIn K c_BadRow (.ref c_TooMany) = some false)
    (i_BadRow_BadMask : PySem.W.mroIn K c_BadRow (.ref c_BadMask) = some false)
    (i_BadRow_BadTable : PySem.W.mroIn K c_BadRow (.ref c_BadTable) = some false)
    (i_BadRow_BadRow : PySem.W.mroIn K c_BadRow (.ref c_BadRow) = some true)
    (i_BadRow_BadName : PySem.W.mroIn K c_BadRow (.ref c_BadName) = some false)
    (i_BadRow_Doubled : PySem.W.mroIn K c_BadRow (.ref c_Doubled) = some false)
    (i_BadRow_NoWire : PySem.W.mroIn K c_BadRow (.ref c_NoWire) = some false)
    (i_BadRow_BadLine : PySem.W.mroIn K c_BadRow (.ref c_BadLine) = some false)
    (i_BadRow_Ring : PySem.W.mroIn K c_BadRow (.ref c_Ring) = some false)
    (iv_BadRow : PySem.W.mroIn K c_BadRow (.type "ValueError") = some true)
    {nm_BadName qn_BadName : Str} {N_BadName : Addr} {bs_BadName : List Value} {sn_BadName : List Str} {sub_BadName : List Value} {ab_BadName : Bool} {col_BadName : Option Bool} {dd_BadName : Option Addr} {k0_BadName k1_BadName k2_BadName k3_BadName k5_BadName : Option Value}
    (lk_BadName : K.lookup c_BadName = some (PySem.excClassObj nm_BadName qn_BadName c_BadName N_BadName bs_BadName (.ref c_WireError :: xBM) true sn_BadName sub_BadName ab_BadName col_BadName dd_BadName k0_BadName k1_BadName k2_BadName k3_BadName k5_BadName "ValueError.__new__"))
    (of_BadName : PySem.W.isFn K (.ref f_BadName___init__) = true)
    (kp_BadName : PySem.W.keepIn K (.ref c_BadName) = true)
    (sa_BadName : PySem.W.findIn K (.ref c_BadName) "__setattr__" = some (some (.builtin "object.__setattr__")))
    (y5_BadName : PySem.W.mroIn K c_BadName (.type "object") = some true)
    (iv_BadName : PySem.W.mroIn K c_BadName (.type "ValueError") = some true)
    (y1_BadName : PySem.W.isClsIn K c_BadName = true)
    (y2_BadName : PySem.W.findIn K (.ref c_BadName) "__getattribute__" = some (some (.builtin "BaseException.__getattribute__")))
    (y3_BadName : PySem.W.findIn K (.ref c_BadName) "__getattr__" = some none)
    (y4_BadName : PySem.W.findIn K (.ref c_BadName) "__class__" = some (some (.builtin "object.__class__")))
    (y6_BadName : PySem.W.mroIn K c_BadName (.type "BaseException") = some true)
    (hd_BadName : PySem.W.hasDictIn K c_BadName = true)
    (o_BadName_line : PySem.W.findIn K (.ref c_BadName) "line" = some none)
    (o_BadName_name : PySem.W.findIn K (.ref c_BadName) "name" = some none)
    (o_BadName_ring : PySem.W.findIn K (.ref c_BadName) "ring" = some none)
    (i_BadName_WireError : PySem.W.mroIn K c_BadName (.ref c_WireError) = some true)
    (i_BadName_BadSizes : PySem.W.mroIn K c_BadName (.ref c_BadSizes) = some false)
    (i_BadName_TooMany : PySem.W.mroIn K c_BadName (.ref c_TooMany) = some false)
    (i_BadName_BadMask : PySem.W.mroIn K c_BadName (.ref c_BadMask) = some false)
    (i_BadName_BadTable : PySem.W.mroIn K c_BadName (.ref c_BadTable) = some false)
    (i_BadName_BadRow : PySem.W.mroIn K c_BadName (.ref c_BadRow) = some false)
    (i_BadName_BadName : PySem.W.mroIn K c_BadName (.ref c_BadName) = some true)
    (i_BadName_Doubled : PySem.W.mroIn K c_BadName (.ref c_Doubled) = some false)
    (i_BadName_NoWire : PySem.W.mroIn K c_BadName (.ref c_NoWire) = some false)
    (i_BadName_BadLine : PySem.W.mroIn K c_BadName (.ref c_BadLine) = some false)
    (i_BadName_Ring : PySem.W.mroIn K c_BadName (.ref c_Ring) = some false)
    {nm_Doubled qn_Doubled : Str} {N_Doubled : Addr} {bs_Doubled : List Value} {sn_Doubled : List Str} {sub_Doubled : List Value} {ab_Doubled : Bool} {col_Doubled : Option Bool} {dd_Doubled : Option Addr} {k0_Doubled k1_Doubled k2_Doubled k3_Doubled k5_Doubled : Option Value}
    (lk_Doubled : K.lookup c_Doubled = some (PySem.excClassObj nm_Doubled qn_Doubled c_Doubled N_Doubled bs_Doubled (.ref c_WireError :: xBM) true sn_Doubled sub_Doubled ab_Doubled col_Doubled dd_Doubled k0_Doubled k1_Doubled k2_Doubled k3_Doubled k5_Doubled "ValueError.__new__"))
    (of_Doubled : PySem.W.isFn K (.ref f_Doubled___init__) = true)
    (kp_Doubled : PySem.W.keepIn K (.ref c_Doubled) = true)
    (sa_Doubled : PySem.W.findIn K (.ref c_Doubled) "__setattr__" = some (some (.builtin "object.__setattr__")))
    (y5_Doubled : PySem.W.mroIn K c_Doubled (.type "object") = some true)
    (iv_Doubled : PySem.W.mroIn K c_Doubled (.type "ValueError") = some true)
    (y1_Doubled : PySem.W.isClsIn K c_Doubled = true)
    (y2_Doubled : PySem.W.findIn K (.ref c_Doubled) "__getattribute__" = some (some (.builtin "BaseException.__getattribute__")))
    (y3_Doubled : PySem.W.findIn K (.ref c_Doubled) "__getattr__" = some none)
    (y4_Doubled : PySem.W.findIn K (.ref c_Doubled) "__class__" = some (some (.builtin "object.__class__")))
    (y6_Doubled : PySem.W.mroIn K c_Doubled (.type "BaseException") = some true)
    (hd_Doubled : PySem.W.hasDictIn K c_Doubled = true)
    (o_Doubled_line : PySem.W.findIn K (.ref c_Doubled) "line" = some none)
    (o_Doubled_name : PySem.W.findIn K (.ref c_Doubled) "name" = some none)
    (o_Doubled_ring : PySem.W.findIn K (.ref c_Doubled) "ring" = some none)
    (i_Doubled_WireError : PySem.W.mroIn K c_Doubled (.ref c_WireError) = some true)
    (i_Doubled_BadSizes : PySem.W.mroIn K c_Doubled (.ref c_BadSizes) = some false)
    (i_Doubled_TooMany : PySem.W.mroIn K c_Doubled (.ref c_TooMany) = some false)
    (i_Doubled_BadMask : PySem.W.mroIn K c_Doubled (.ref c_BadMask) = some false)
    (i_Doubled_BadTable : PySem.W.mroIn K c_Doubled (.ref c_BadTable) = some false)
    (i_Doubled_BadRow : PySem.W.mroIn K c_Doubled (.ref c_BadRow) = some false)
    (i_Doubled_BadName : PySem.W.mroIn K c_Doubled (.ref c_BadName) = some false)
    (i_Doubled_Doubled : PySem.W.mroIn K c_Doubled (.ref c_Doubled) = some true)
    (i_Doubled_NoWire : PySem.W.mroIn K c_Doubled (.ref c_NoWire) = some false)
    (i_Doubled_BadLine : PySem.W.mroIn K c_Doubled (.ref c_BadLine) = some false)
    (i_Doubled_Ring : PySem.W.mroIn K c_Doubled (.ref c_Ring) = some false)
    {nm_NoWire qn_NoWire : Str} {N_NoWire : Addr} {bs_NoWire : List Value} {sn_NoWire : List Str} {sub_NoWire : List Value} {ab_NoWire : Bool} {col_NoWire : Option Bool} {dd_NoWire : Option Addr} {k0_NoWire k1_NoWire k2_NoWire k3_NoWire k5_NoWire : Option Value}
    (lk_NoWire : K.lookup c_NoWire = some (PySem.excClassObj nm_NoWire qn_NoWire c_NoWire N_NoWire bs_NoWire (.ref c_WireError :: xBM) true sn_NoWire sub_NoWire ab_NoWire col_NoWire dd_NoWire k0_NoWire k1_NoWire k2_NoWire k3_NoWire k5_NoWire "ValueError.__new__"))
    (of_NoWire : PySem.W.isFn K (.ref f_NoWire___init__) = true)
    (kp_NoWire : PySem.W.keepIn K (.ref c_NoWire) = true)
    (sa_NoWire : PySem.W.findIn K (.ref c_NoWire) "__setattr__" = some (some (.builtin "object.__setattr__")))
    (y5_NoWire : PySem.W.mroIn K c_NoWire (.type "object") = some true)
    (iv_NoWire : PySem.W.mroIn K c_NoWire (.type "ValueError") = some true)
    (y1_NoWire : PySem.W.isClsIn K c_NoWire = true)
    (y2_NoWire : PySem.W.findIn K (.ref c_NoWire) "__getattribute__" = some (some (.builtin "BaseException.__getattribute__")))
    (y3_NoWire : PySem.W.findIn K (.ref c_NoWire) "__getattr__" = some none)
    (y4_NoWire : PySem.W.findIn K (.ref c_NoWire) "__class__" = some (some (.builtin "object.__class__")))
    (y6_NoWire : PySem.W.mroIn K c_NoWire (.type "BaseException") = some true)
    (hd_NoWire : PySem.W.hasDictIn K c_NoWire = true)
    (o_NoWire_line : PySem.W.findIn K (.ref c_NoWire) "line" = some none)
    (o_NoWire_name : PySem.W.findIn K (.ref c_NoWire) "name" = some none)
    (o_NoWire_ring : PySem.W.findIn K (.ref c_NoWire) "ring" = some none)
    (i_NoWire_WireError : PySem.W.mroIn K c_NoWire (.ref c_WireError) = some true)
    (i_NoWire_BadSizes : PySem.W.mroIn K c_NoWire (.ref c_BadSizes) = some false)
    (i_NoWire_TooMany : PySem.W.mroIn K c_NoWire (.ref c_TooMany) = some false)
    (i_NoWire_BadMask : PySem.W.mroIn K c_NoWire (.ref c_BadMask) = some false)
    (i_NoWire_BadTable : PySem.W.mroIn K c_NoWire (.ref c_BadTable) = some false)
    (i_NoWire_BadRow : PySem.W.mroIn K c_NoWire (.ref c_BadRow) = some false)
    (i_NoWire_BadName : PySem.W.mroIn K c_NoWire (.ref c_BadName) = some false)
    (i_NoWire_Doubled : PySem.W.mroIn K c_NoWire (.ref c_Doubled) = some false)
    (i_NoWire_NoWire : PySem.W.mroIn K c_NoWire (.ref c_NoWire) = some true)
    (i_NoWire_BadLine : PySem.W.mroIn K c_NoWire (.ref c_BadLine) = some false)
    (i_NoWire_Ring : PySem.W.mroIn K c_NoWire (.ref c_Ring) = some false)
    {nm_BadLine qn_BadLine : Str} {N_BadLine : Addr} {bs_BadLine : List Value} {sn_BadLine : List Str} {sub_BadLine : List Value} {ab_BadLine : Bool} {col_BadLine : Option Bool} {dd_BadLine : Option Addr} {k0_BadLine k1_BadLine k2_BadLine k3_BadLine k5_BadLine : Option Value}
    (lk_BadLine : K.lookup c_BadLine = some (PySem.excClassObj nm_BadLine qn_BadLine c_BadLine N_BadLine bs_BadLine (.ref c_WireError :: xBM) true sn_BadLine sub_BadLine ab_BadLine col_BadLine dd_BadLine k0_BadLine k1_BadLine k2_BadLine k3_BadLine k5_BadLine "ValueError.__new__"))
    (of_BadLine : PySem.W.isFn K (.ref f_BadLine___init__) = true)
    (kp_BadLine : PySem.W.keepIn K (.ref c_BadLine) = true)
    (sa_BadLine : PySem.W.findIn K (.ref c_BadLine) "__setattr__" = some (some (.builtin "object.__setattr__")))
    (y5_BadLine : PySem.W.mroIn K c_BadLine (.type "object") = some true)
    (iv_BadLine : PySem.W.mroIn K c_BadLine (.type "ValueError") = some true)
    (y1_BadLine : PySem.W.isClsIn K c_BadLine = true)
    (y2_BadLine : PySem.W.findIn K (.ref c_BadLine) "__getattribute__" = some (some (.builtin "BaseException.__getattribute__")))
    (y3_BadLine : PySem.W.findIn K (.ref c_BadLine) "__getattr__" = some none)
    (y4_BadLine : PySem.W.findIn K (.ref c_BadLine) "__class__" = some (some (.builtin "object.__class__")))
    (y6_BadLine : PySem.W.mroIn K c_BadLine (.type "BaseException") = some true)
    (hd_BadLine : PySem.W.hasDictIn K c_BadLine = true)
    (o_BadLine_line : PySem.W.findIn K (.ref c_BadLine) "line" = some none)
    (o_BadLine_name : PySem.W.findIn K (.ref c_BadLine) "name" = some none)
    (o_BadLine_ring : PySem.W.findIn K (.ref c_BadLine) "ring" = some none)
    (i_BadLine_WireError : PySem.W.mroIn K c_BadLine (.ref c_WireError) = some true)
    (i_BadLine_BadSizes : PySem.W.mroIn K c_BadLine (.ref c_BadSizes) = some false)
    (i_BadLine_TooMany : PySem.W.mroIn K c_BadLine (.ref c_TooMany) = some false)
    (i_BadLine_BadMask : PySem.W.mroIn K c_BadLine (.ref c_BadMask) = some false)
    (i_BadLine_BadTable : PySem.W.mroIn K c_BadLine (.ref c_BadTable) = some false)
    (i_BadLine_BadRow : PySem.W.mroIn K c_BadLine (.ref c_BadRow) = some false)
    (i_BadLine_BadName : PySem.W.mroIn K c_BadLine (.ref c_BadName) = some false)
    (i_BadLine_Doubled : PySem.W.mroIn K c_BadLine (.ref c_Doubled) = some false)
    (i_BadLine_NoWire : PySem.W.mroIn K c_BadLine (.ref c_NoWire) = some false)
    (i_BadLine_BadLine : PySem.W.mroIn K c_BadLine (.ref c_BadLine) = some true)
    (i_BadLine_Ring : PySem.W.mroIn K c_BadLine (.ref c_Ring) = some false)
    {nm_Ring qn_Ring : Str} {N_Ring : Addr} {bs_Ring : List Value} {sn_Ring : List Str} {sub_Ring : List Value} {ab_Ring : Bool} {col_Ring : Option Bool} {dd_Ring : Option Addr} {k0_Ring k1_Ring k2_Ring k3_Ring k5_Ring : Option Value}
    (lk_Ring : K.lookup c_Ring = some (PySem.excClassObj nm_Ring qn_Ring c_Ring N_Ring bs_Ring (.ref c_WireError :: xBM) true sn_Ring sub_Ring ab_Ring col_Ring dd_Ring k0_Ring k1_Ring k2_Ring k3_Ring k5_Ring "ValueError.__new__"))
    (of_Ring : PySem.W.isFn K (.ref f_Ring___init__) = true)
    (kp_Ring : PySem.W.keepIn K (.ref c_Ring) = true)
    (sa_Ring : PySem.W.findIn K (.ref c_Ring) "__setattr__" = some (some (.builtin "object.__setattr__")))
    (y5_Ring : PySem.W.mroIn K c_Ring (.type "object") = some true)
    (iv_Ring : PySem.W.mroIn K c_Ring (.type "ValueError") = some true)
    (y1_Ring : PySem.W.isClsIn K c_Ring = true)
    (y2_Ring : PySem.W.findIn K (.ref c_Ring) "__getattribute__" = some (some (.builtin "BaseException.__getattribute__")))
    (y3_Ring : PySem.W.findIn K (.ref c_Ring) "__getattr__" = some none)
    (y4_Ring : PySem.W.findIn K (.ref c_Ring) "__class__" = some (some (.builtin "object.__class__")))
    (y6_Ring : PySem.W.mroIn K c_Ring (.type "BaseException") = some true)
    (hd_Ring : PySem.W.hasDictIn K c_Ring = true)
    (o_Ring_line : PySem.W.findIn K (.ref c_Ring) "line" = some none)
    (o_Ring_name : PySem.W.findIn K (.ref c_Ring) "name" = some none)
    (o_Ring_ring : PySem.W.findIn K (.ref c_Ring) "ring" = some none)
    (i_Ring_WireError : PySem.W.mroIn K c_Ring (.ref c_WireError) = some true)
    (i_Ring_BadSizes : PySem.W.mroIn K c_Ring (.ref c_BadSizes) = some false)
    (i_Ring_TooMany : PySem.W.mroIn K c_Ring (.ref c_TooMany) = some false)
    (i_Ring_BadMask : PySem.W.mroIn K c_Ring (.ref c_BadMask) = some false)
    (i_Ring_BadTable : PySem.W.mroIn K c_Ring (.ref c_BadTable) = some false)
    (i_Ring_BadRow : PySem.W.mroIn K c_Ring (.ref c_BadRow) = some false)
    (i_Ring_BadName : PySem.W.mroIn K c_Ring (.ref c_BadName) = some false)
    (i_Ring_Doubled : PySem.W.mroIn K c_Ring (.ref c_Doubled) = some false)
    (i_Ring_NoWire : PySem.W.mroIn K c_Ring (.ref c_NoWire) = some false)
    (i_Ring_BadLine : PySem.W.mroIn K c_Ring (.ref c_BadLine) = some false)
    (i_Ring_Ring : PySem.W.mroIn K c_Ring (.ref c_Ring) = some true)
    (w1 : PySem.W.specialIn K (.builtin "object.__class__") "__get__" = some (some (.builtin "getset_descriptor.__get__")))
    (w2 : PySem.W.takesIn K (.builtin "object.__class__") = some true)
    {t_KEPT_DEPTH : Tok} (a_KEPT_DEPTH : PySem.W.nsIn K mainGlobals "KEPT_DEPTH" = some (some (.int 12 t_KEPT_DEPTH)))
    (z_ValueError : PySem.W.nsIn K mainGlobals "ValueError" = some none)
    (z_dict : PySem.W.nsIn K mainGlobals "dict" = some none)
    (z_enumerate : PySem.W.nsIn K mainGlobals "enumerate" = some none)
    (z_isinstance : PySem.W.nsIn K mainGlobals "isinstance" = some none)
    (z_len : PySem.W.nsIn K mainGlobals "len" = some none)
    (z_list : PySem.W.nsIn K mainGlobals "list" = some none)
    (z_range : PySem.W.nsIn K mainGlobals "range" = some none)
    (z_tuple : PySem.W.nsIn K mainGlobals "tuple" = some none) :
    ∃ fd : FuncData, (∀ (s : Shared) (v : Value), BindsTo s fd ⟨[v], []⟩ [("_law_script", v)]) ∧ ∀ base : Heap, K.In base → base.Ns mainGlobals mg → FnOk l.prog w K mg base CX0 4 fa fd ["_law_script"] (sp_law K) := by
  have e := hfa.symm.trans (PySem.W.mg_of X G a_law)
  cases e
  have F_kept := fun_mk (st := s_kept) l_kept c_kept p_kept
  have b_kept := F_kept.binds (ps := ["thing", "depth"]) fun _ _ _ _ _ _ us hl => match us, hl with | [_, _], _ => rfl
  have F_BadName___init__ := fun_mk (st := s_BadName___init__) l_BadName___init__ c_BadName___init__ p_BadName___init__
  have b_BadName___init__ := F_BadName___init__.binds (ps := ["self", "name"]) fun _ _ _ _ _ _ us hl => match us, hl with | [_, _], _ => rfl
  have F_Doubled___init__ := fun_mk (st := s_Doubled___init__) l_Doubled___init__ c_Doubled___init__ p_Doubled___init__
  have b_Doubled___init__ := F_Doubled___init__.binds (ps := ["self", "name"]) fun _ _ _ _ _ _ us hl => match us, hl with | [_, _], _ => rfl
  have F_NoWire___init__ := fun_mk (st := s_NoWire___init__) l_NoWire___init__ c_NoWire___init__ p_NoWire___init__
  have b_NoWire___init__ := F_NoWire___init__.binds (ps := ["self", "name"]) fun _ _ _ _ _ _ us hl => match us, hl with | [_, _], _ => rfl
  have F_BadLine___init__ := fun_mk (st := s_BadLine___init__) l_BadLine___init__ c_BadLine___init__ p_BadLine___init__
  have b_BadLine___init__ := F_BadLine___init__.binds (ps := ["self", "line"]) fun _ _ _ _ _ _ us hl => match us, hl with | [_, _], _ => rfl
  have F_Ring___init__ := fun_mk (st := s_Ring___init__) l_Ring___init__ c_Ring___init__ p_Ring___init__
  have b_Ring___init__ := F_Ring___init__.binds (ps := ["self", "ring"]) fun _ _ _ _ _ _ us hl => match us, hl with | [_, _], _ => rfl
  have F__law_cell := fun_mk (st := s__law_cell) l__law_cell c__law_cell p__law_cell
  have b__law_cell := F__law_cell.binds (ps := ["_law_script", "_law_k"]) fun _ _ _ _ _ _ us hl => match us, hl with | [_, _], _ => rfl
  have F__law_mix := fun_mk (st := s__law_mix) l__law_mix c__law_mix p__law_mix
  have b__law_mix := F__law_mix.binds (ps := ["_law_cell_here", "_law_k"]) fun _ _ _ _ _ _ us hl => match us, hl with | [_, _], _ => rfl
  have F__law_word := fun_mk (st := s__law_word) l__law_word c__law_word p__law_word
  have b__law_word := F__law_word.binds (ps := ["_law_cell_here"]) fun _ _ _ _ _ _ us hl => match us, hl with | [_], _ => rfl
  have F__law_kinds := fun_mk (st := s__law_kinds) l__law_kinds c__law_kinds p__law_kinds
  have b__law_kinds := F__law_kinds.binds (ps := ["_law_e"]) fun _ _ _ _ _ _ us hl => match us, hl with | [_], _ => rfl
  have F_law := fun_mk (st := s_law) l_law c_law p_law
  have b_law := F_law.binds (ps := ["_law_script"]) fun _ _ _ _ _ _ us hl => match us, hl with | [_], _ => rfl
  have T : Tx K mg ⟨f_kept, _, f_BadName___init__, _, f_Doubled___init__, _, f_NoWire___init__, _, f_BadLine___init__, _, f_Ring___init__, _, f__law_cell, _, f__law_mix, _, f__law_word, _, f__law_kinds, _, fa, _, c_WireError, c_BadSizes, c_TooMany, c_BadMask, c_BadTable, c_BadRow, c_BadName, c_Doubled, c_NoWire, c_BadLine, c_Ring, _⟩ := ⟨F_kept, p_kept, b_kept, PySem.W.mg_of X G a_kept, F_BadName___init__, p_BadName___init__, b_BadName___init__, F_Doubled___init__, p_Doubled___init__, b_Doubled___init__, F_NoWire___init__, p_NoWire___init__, b_NoWire___init__, F_BadLine___init__, p_BadLine___init__, b_BadLine___init__, F_Ring___init__, p_Ring___init__, b_Ring___init__, F__law_cell, p__law_cell, b__law_cell, PySem.W.mg_of X G a__law_cell, F__law_mix, p__law_mix, b__law_mix, PySem.W.mg_of X G a__law_mix, F__law_word, p__law_word, b__law_word, PySem.W.mg_of X G a__law_word, F__law_kinds, p__law_kinds, b__law_kinds, PySem.W.mg_of X G a__law_kinds, F_law, p_law, b_law, PySem.W.mg_of X G a_law, PySem.W.mg_of X G a_WireError, ⟨u1_WireError, u2_WireError, u3_WireError⟩, PySem.W.mg_of X G a_BadSizes, x_BadSizes, ⟨y1_BadSizes, y2_BadSizes, y3_BadSizes, y4_BadSizes, w1, w2, y5_BadSizes, y6_BadSizes⟩, kp_BadSizes, kit_mk t1_WireError t2_WireError i_BadSizes_WireError t3_WireError, kit_mk t1_BadSizes t2_BadSizes i_BadSizes_BadSizes t3_BadSizes, kit_mk t1_TooMany t2_TooMany i_BadSizes_TooMany t3_TooMany, kit_mk t1_BadMask t2_BadMask i_BadSizes_BadMask t3_BadMask, kit_mk t1_BadTable t2_BadTable i_BadSizes_BadTable t3_BadTable, kit_mk t1_BadRow t2_BadRow i_BadSizes_BadRow t3_BadRow, kit_mk t1_BadName t2_BadName i_BadSizes_BadName t3_BadName, kit_mk t1_Doubled t2_Doubled i_BadSizes_Doubled t3_Doubled, kit_mk t1_NoWire t2_NoWire i_BadSizes_NoWire t3_NoWire, kit_mk t1_BadLine t2_BadLine i_BadSizes_BadLine t3_BadLine, kit_mk t1_Ring t2_Ring i_BadSizes_Ring t3_Ring, kit_mkT iv_BadSizes, PySem.W.mg_of X G a_TooMany, x_TooMany, ⟨y1_TooMany, y2_TooMany, y3_TooMany, y4_TooMany, w1, w2, y5_TooMany, y6_TooMany⟩, kp_TooMany, kit_mk t1_WireError t2_WireError i_TooMany_WireError t3_WireError, kit_mk t1_BadSizes t2_BadSizes i_TooMany_BadSizes t3_BadSizes, kit_mk t1_TooMany t2_TooMany i_TooMany_TooMany t3_TooMany, kit_mk t1_BadMask t2_BadMask i_TooMany_BadMask t3_BadMask, kit_mk t1_BadTable t2_BadTable i_TooMany_BadTable t3_BadTable, kit_mk t1_BadRow t2_BadRow i_TooMany_BadRow t3_BadRow, kit_mk t1_BadName t2_BadName i_TooMany_BadName t3_BadName, kit_mk t1_Doubled t2_Doubled i_TooMany_Doubled t3_Doubled, kit_mk t1_NoWire t2_NoWire i_TooMany_NoWire t3_NoWire, kit_mk t1_BadLine t2_BadLine i_TooMany_BadLine t3_BadLine, kit_mk t1_Ring t2_Ring i_TooMany_Ring t3_Ring, kit_mkT iv_TooMany, PySem.W.mg_of X G a_BadMask, x_BadMask, ⟨y1_BadMask, y2_BadMask, y3_BadMask, y4_BadMask, w1, w2, y5_BadMask, y6_BadMask⟩, kp_BadMask, kit_mk t1_WireError t2_WireError i_BadMask_WireError t3_WireError, kit_mk t1_BadSizes t2_BadSizes i_BadMask_BadSizes t3_BadSizes, kit_mk t1_TooMany t2_TooMany i_BadMask_TooMany t3_TooMany, kit_mk t1_BadMask t2_BadMask i_BadMask_BadMask t3_BadMask, kit_mk t1_BadTable t2_BadTable i_BadMask_BadTable t3_BadTable, kit_mk t1_BadRow t2_BadRow i_BadMask_BadRow t3_BadRow, kit_mk t1_BadName t2_BadName i_BadMask_BadName t3_BadName, kit_mk t1_Doubled t2_Doubled i_BadMask_Doubled t3_Doubled, kit_mk t1_NoWire t2_NoWire i_BadMask_NoWire t3_NoWire, kit_mk t1_BadLine t2_BadLine i_BadMask_BadLine t3_BadLine, kit_mk t1_Ring t2_Ring i_BadMask_Ring t3_Ring, kit_mkT iv_BadMask, PySem.W.mg_of X G a_BadTable, x_BadTable, ⟨y1_BadTable, y2_BadTable, y3_BadTable, y4_BadTable, w1, w2, y5_BadTable, y6_BadTable⟩, kp_BadTable, kit_mk t1_WireError t2_WireError i_BadTable_WireError t3_WireError, kit_mk t1_BadSizes t2_BadSizes i_BadTable_BadSizes t3_BadSizes, kit_mk t1_TooMany t2_TooMany i_BadTable_TooMany t3_TooMany, kit_mk t1_BadMask t2_BadMask i_BadTable_BadMask t3_BadMask, kit_mk t1_BadTable t2_BadTable i_BadTable_BadTable t3_BadTable, kit_mk t1_BadRow t2_BadRow i_BadTable_BadRow t3_BadRow, kit_mk t1_BadName t2_BadName i_BadTable_BadName t3_BadName, kit_mk t1_Doubled t2_Doubled i_BadTable_Doubled t3_Doubled, kit_mk t1_NoWire t2_NoWire i_BadTable_NoWire t3_NoWire, kit_mk t1_BadLine t2_BadLine i_BadTable_BadLine t3_BadLine, kit_mk t1_Ring t2_Ring i_BadTable_Ring t3_Ring, kit_mkT iv_BadTable, PySem.W.mg_of X G a_BadRow, x_BadRow, ⟨y1_BadRow, y2_BadRow, y3_BadRow, y4_BadRow, w1, w2, y5_BadRow, y6_BadRow⟩, kp_BadRow, kit_mk t1_WireError t2_WireError i_BadRow_WireError t3_WireError, kit_mk t1_BadSizes t2_BadSizes i_BadRow_BadSizes t3_BadSizes, kit_mk t1_TooMany t2_TooMany i_BadRow_TooMany t3_TooMany, kit_mk t1_BadMask t2_BadMask i_BadRow_BadMask t3_BadMask, kit_mk t1_BadTable t2_BadTable i_BadRow_BadTable t3_BadTable, kit_mk t1_BadRow t2_BadRow i_BadRow_BadRow t3_BadRow, kit_mk t1_BadName t2_BadName i_BadRow_BadName t3_BadName, kit_mk t1_Doubled t2_Doubled i_BadRow_Doubled t3_Doubled, kit_mk t1_NoWire t2_NoWire i_BadRow_NoWire t3_NoWire, kit_mk t1_BadLine t2_BadLine i_BadRow_BadLine t3_BadLine, kit_mk t1_Ring t2_Ring i_BadRow_Ring t3_Ring, kit_mkT iv_BadRow, PySem.W.mg_of X G a_BadName, ⟨⟨_, _, _, _, _, _, _, _, _, _, _, _, _, _, lk_BadName⟩, x_WireError, x_BadName___init__, of_BadName, kp_BadName, sa_BadName, y5_BadName, iv_BadName⟩, ⟨y1_BadName, y2_BadName, y3_BadName, y4_BadName, w1, w2, y5_BadName, y6_BadName⟩, hd_BadName, o_BadName_line, o_BadName_name, o_BadName_ring, kit_mk t1_WireError t2_WireError i_BadName_WireError t3_WireError, kit_mk t1_BadSizes t2_BadSizes i_BadName_BadSizes t3_BadSizes, kit_mk t1_TooMany t2_TooMany i_BadName_TooMany t3_TooMany, kit_mk t1_BadMask t2_BadMask i_BadName_BadMask t3_BadMask, kit_mk t1_BadTable t2_BadTable i_BadName_BadTable t3_BadTable, kit_mk t1_BadRow t2_BadRow i_BadName_BadRow t3_BadRow, kit_mk t1_BadName t2_BadName i_BadName_BadName t3_BadName, kit_mk t1_Doubled t2_Doubled i_BadName_Doubled t3_Doubled, kit_mk t1_NoWire t2_NoWire i_BadName_NoWire t3_NoWire, kit_mk t1_BadLine t2_BadLine i_BadName_BadLine t3_BadLine, kit_mk t1_Ring t2_Ring i_BadName_Ring t3_Ring, kit_mkT iv_BadName, PySem.W.mg_of X G a_Doubled, ⟨⟨_, _, _, _, _, _, _, _, _, _, _, _, _, _, lk_Doubled⟩, x_WireError, x_Doubled___init__, of_Doubled, kp_Doubled, sa_Doubled, y5_Doubled, iv_Doubled⟩, ⟨y1_Doubled, y2_Doubled, y3_Doubled, y4_Doubled, w1, w2, y5_Doubled, y6_Doubled⟩, hd_Doubled, o_Doubled_line, o_Doubled_name, o_Doubled_ring, kit_mk t1_WireError t2_WireError i_Doubled_WireError t3_WireError, kit_mk t1_BadSizes t2_BadSizes i_Doubled_BadSizes t3_BadSizes, kit_mk t1_TooMany t2_TooMany i_Doubled_TooMany t3_TooMany, kit_mk t1_BadMask t2_BadMask i_Doubled_BadMask t3_BadMask, kit_mk t1_BadTable t2_BadTable i_Doubled_BadTable t3_BadTable, kit_mk t1_BadRow t2_BadRow i_Doubled_BadRow t3_BadRow, kit_mk t1_BadName t2_BadName i_Doubled_BadName t3_BadName, kit_mk t1_Doubled t2_Doubled i_Doubled_Doubled t3_Doubled, kit_mk t1_NoWire t2_NoWire i_Doubled_NoWire t3_NoWire, kit_mk t1_BadLine t2_BadLine i_Doubled_BadLine t3_BadLine, kit_mk t1_Ring t2_Ring i_Doubled_Ring t3_Ring, kit_mkT iv_Doubled, PySem.W.mg_of X G a_NoWire, ⟨⟨_, _, _, _, _, _, _, _, _, _, _, _, _, _, lk_NoWire⟩, x_WireError, x_NoWire___init__, of_NoWire, kp_NoWire, sa_NoWire, y5_NoWire, iv_NoWire⟩, ⟨y1_NoWire, y2_NoWire, y3_NoWire, y4_NoWire, w1, w2, y5_NoWire, y6_NoWire⟩, hd_NoWire, o_NoWire_line, o_NoWire_name, o_NoWire_ring, kit_mk t1_WireError t2_WireError i_NoWire_WireError t3_WireError, kit_mk t1_BadSizes t2_BadSizes i_NoWire_BadSizes t3_BadSizes, kit_mk t1_TooMany t2_TooMany i_NoWire_TooMany t3_TooMany, kit_mk t1_BadMask t2_BadMask i_NoWire_BadMask t3_BadMask, kit_mk t1_BadTable t2_BadTable i_NoWire_BadTable t3_BadTable, kit_mk t1_BadRow t2_BadRow i_NoWire_BadRow t3_BadRow, kit_mk t1_BadName t2_BadName i_NoWire_BadName t3_BadName, kit_mk t1_Doubled t2_Doubled i_NoWire_Doubled t3_Doubled, kit_mk t1_NoWire t2_NoWire i_NoWire_NoWire t3_NoWire, kit_mk t1_BadLine t2_BadLine i_NoWire_BadLine t3_BadLine, kit_mk t1_Ring t2_Ring i_NoWire_Ring t3_Ring, kit_mkT iv_NoWire, PySem.W.mg_of X G a_BadLine, ⟨⟨_, _, _, _, _, _, _, _, _, _, _, _, _, _, lk_BadLine⟩, x_WireError, x_BadLine___init__, of_BadLine, kp_BadLine, sa_BadLine, y5_BadLine, iv_BadLine⟩, ⟨y1_BadLine, y2_BadLine, y3_BadLine, y4_BadLine, w1, w2, y5_BadLine, y6_BadLine⟩, hd_BadLine, o_BadLine_line, o_BadLine_name, o_BadLine_ring, kit_mk t1_WireError t2_WireError i_BadLine_WireError t3_WireError, kit_mk t1_BadSizes t2_BadSizes i_BadLine_BadSizes t3_BadSizes, kit_mk t1_TooMany t2_TooMany i_BadLine_TooMany t3_TooMany, kit_mk t1_BadMask t2_BadMask i_BadLine_BadMask t3_BadMask, kit_mk t1_BadTable t2_BadTable i_BadLine_BadTable t3_BadTable, kit_mk t1_BadRow t2_BadRow i_BadLine_BadRow t3_BadRow, kit_mk t1_BadName t2_BadName i_BadLine_BadName t3_BadName, kit_mk t1_Doubled t2_Doubled i_BadLine_Doubled t3_Doubled, kit_mk t1_NoWire t2_NoWire i_BadLine_NoWire t3_NoWire, kit_mk t1_BadLine t2_BadLine i_BadLine_BadLine t3_BadLine, kit_mk t1_Ring t2_Ring i_BadLine_Ring t3_Ring, kit_mkT iv_BadLine, PySem.W.mg_of X G a_Ring, ⟨⟨_, _, _, _, _, _, _, _, _, _, _, _, _, _, lk_Ring⟩, x_WireError, x_Ring___init__, of_Ring, kp_Ring, sa_Ring, y5_Ring, iv_Ring⟩, ⟨y1_Ring, y2_Ring, y3_Ring, y4_Ring, w1, w2, y5_Ring, y6_Ring⟩, hd_Ring, o_Ring_line, o_Ring_name, o_Ring_ring, kit_mk t1_WireError t2_WireError i_Ring_WireError t3_WireError, kit_mk t1_BadSizes t2_BadSizes i_Ring_BadSizes t3_BadSizes, kit_mk t1_TooMany t2_TooMany i_Ring_TooMany t3_TooMany, kit_mk t1_BadMask t2_BadMask i_Ring_BadMask t3_BadMask, kit_mk t1_BadTable t2_BadTable i_Ring_BadTable t3_BadTable, kit_mk t1_BadRow t2_BadRow i_Ring_BadRow t3_BadRow, kit_mk t1_BadName t2_BadName i_Ring_BadName t3_BadName, kit_mk t1_Doubled t2_Doubled i_Ring_Doubled t3_Doubled, kit_mk t1_NoWire t2_NoWire i_Ring_NoWire t3_NoWire, kit_mk t1_BadLine t2_BadLine i_Ring_BadLine t3_BadLine, kit_mk t1_Ring t2_Ring i_Ring_Ring t3_Ring, kit_mkT iv_Ring, PySem.W.mg_of X G a_KEPT_DEPTH, PySem.W.mg_none_of X G z_ValueError, PySem.W.mg_none_of X G z_dict, PySem.W.mg_none_of X G z_enumerate, PySem.W.mg_none_of X G z_isinstance, PySem.W.mg_none_of X G z_len, PySem.W.mg_none_of X G z_list, PySem.W.mg_none_of X G z_range, PySem.W.mg_none_of X G z_tuple⟩
  exact ⟨_, fun s v => .of_eq rfl, fun base _ _ => ok_law T⟩
theorem walk {l : PySem.W.OpenLaw} {q : Program} {loose : List Str} {XP : (Str → Option Value) → Heap → Prop} {YP : World → Heap → Prop} {d : DefRec} {K : Params → PySem.W.Frag} (hn : l.most = some 63) (hdf : d.params.defaults = [])
    (hY : ∀ (w : World) (h : Heap), YP w h → (K w.params).In h)
    (F : ∀ (w : World) (mg : Str → Option Value) (fa : Addr) (h : Heap), (K w.params).In h → h.Ns mainGlobals mg → mg d.name = some (.ref fa) →
      ∃ fd : FuncData, (∀ (s : Shared) (u : Value), BindsTo s fd ⟨[u], []⟩ [("_law_script", u)]) ∧ ∀ base : Heap, (K w.params).In base → base.Ns mainGlobals mg → FnOk l.prog w (K w.params) mg base CX0 4 fa fd ["_law_script"] (sp_law (K w.params))) :
    PySem.W.WalkO q loose XP YP l.row.toRowW d [] (fun f vs => PySem.call f vs) :=
  L2.walk_of (n := 63) (k := 4) (x := "_law_script") (CX := fun _ => CX0) (sp := fun w => sp_law (K w.params)) hn (by decide) hdf ⟨rfl, by decide, by decide⟩ hY F (fun _ _ a ns hl _ hS => ⟨a, ns, rfl, hS, hl, fun _ => rfl⟩) fun _ _ _ _ _ z => z
end My
def PySem.W.Fast.tw8598919070208090255 : Unit := ()
def PySem.W.Fast.tw17171132652744280622 : Unit := ()
def PySem.W.Fast.tw3314186814635237258 : Unit := ()
def PySem.W.Fast.tw12869904017778379186 : Unit := ()
def PySem.W.Fast.tw14385762281709507085 : Unit := ()
def PySem.W.Fast.tw14638750705334301753 : Unit := ()
def PySem.W.Fast.tw9720928224780939800 : Unit := ()
def PySem.W.Fast.tw317763319813054843 : Unit := ()
def PySem.W.Fast.tw8025233530375642060 : Unit := ()
def PySem.W.Fast.tw5103678983678595591 : Unit := ()
def PySem.W.Fast.tw16040401595157513352 : Unit := ()
def PySem.W.Fast.tw3550455906427196505 : Unit := ()
def PySem.W.Fast.tw12109577106373968526 : Unit := ()
def PySem.W.Fast.tw12209706327761392780 : Unit := ()
def PySem.W.Fast.tw165359663129294024 : Unit := ()
def PySem.W.Fast.tw1158639909636787797 : Unit := ()
def PySem.W.Fast.tw4775639033837077459 : Unit := ()
def PySem.W.Fast.tw12995760395888274725 : Unit := ()
def PySem.W.Fast.tw515265802142859463 : Unit := ()
def PySem.W.Fast.tw8982866056177057712 : Unit := ()
def PySem.W.Fast.tw18432500221548584674 : Unit := ()
def PySem.W.Fast.tw12361090050228614801 : Unit := ()
def PySem.W.Fast.tw15292304904934951825 : Unit := ()
def PySem.W.Fast.tw3985090216488463737 : Unit := ()
def PySem.W.Fast.tw14612771819783876171 : Unit := ()
def PySem.W.Fast.tw11478309445039119773 : Unit := ()
def PySem.W.Fast.tw15855043504264818579 : Unit := ()
def PySem.W.Fast.tw537794216559647252 : Unit := ()
def PySem.W.Fast.tw9256164445656259801 : Unit := ()
def PySem.W.Fast.tw1925269533173487537 : Unit := ()
open PySem PySem.W PyProof.Rows
set_option maxRecDepth 100000 in
set_option maxHeartbeats 0 in
theorem PySem.Challenge.cw_sumwires_k04_refusals_apart_holds : PySem.Challenge.rw_sumwires_k04_refusals_apart.Holds := by
  w_on; o_law; k_head; (case hw => w_witness2)
  k_fill
  refine My.walk (l := PySem.Challenge.rw_sumwires_k04_refusals_apart) rfl rfl (fun w h Y => PySem.W.kIn_of Y) ?F
  case F =>
    intro w mg fa h KX G hmg
    refine' My.all_mk KX G hmg ?a_WireError ?a_BadSizes ?a_TooMany ?a_BadMask ?a_BadTable ?a_BadRow ?a_BadName ?a_Doubled ?a_NoWire ?a_BadLine ?a_Ring ?a_kept ?l_kept ?c_kept ?p_kept ?x_BadName___init__ ?l_BadName___init__ ?c_BadName___init__ ?p_BadName___init__ ?x_Doubled___init__ ?l_Doubled___init__ ?c_Doubled___init__ ?p_Doubled___init__ ?x_NoWire___init__ ?l_NoWire___init__ ?c_NoWire___init__ ?p_NoWire___init__ ?x_BadLine___init__ ?l_BadLine___init__ ?c_BadLine___init__ ?p_BadLine___init__ ?x_Ring___init__ ?l_Ring___init__ ?c_Ring___init__ ?p_Ring___init__ ?a__law_cell ?l__law_cell ?c__law_cell ?p__law_cell ?a__law_mix ?l__law_mix ?c__law_mix ?p__law_mix ?a__law_word ?l__law_word ?c__law_word ?p__law_word ?a__law_kinds ?l__law_kinds ?c__law_kinds ?p__law_kinds ?a_law ?l_law ?c_law ?p_law ?x_WireError ?t1_WireError ?t2_WireError ?t3_WireError ?t1_BadSizes ?t2_BadSizes ?t3_BadSizes ?t1_TooMany ?t2_TooMany ?t3_TooMany ?t1_BadMask ?t2_BadMask ?t3_BadMask ?t1_BadTable ?t2_BadTable ?t3_BadTable ?t1_BadRow ?t2_BadRow ?t3_BadRow ?t1_BadName ?t2_BadName ?t3_BadName ?t1_Doubled ?t2_Doubled ?t3_Doubled ?t1_NoWire ?t2_NoWire ?t3_NoWire ?t1_BadLine ?t2_BadLine ?t3_BadLine ?t1_Ring ?t2_Ring ?t3_Ring ?u1_WireError ?u2_WireError ?u3_WireError ?x_BadSizes ?y1_BadSizes ?y2_BadSizes ?y3_BadSizes ?y4_BadSizes ?y5_BadSizes ?y6_BadSizes ?kp_BadSizes ?i_BadSizes_WireError ?i_BadSizes_BadSizes ?i_BadSizes_TooMany ?i_BadSizes_BadMask ?i_BadSizes_BadTable ?i_BadSizes_BadRow ?i_BadSizes_BadName ?i_BadSizes_Doubled ?i_BadSizes_NoWire ?i_BadSizes_BadLine ?i_BadSizes_Ring ?iv_BadSizes ?x_TooMany ?y1_TooMany ?y2_TooMany ?y3_TooMany ?y4_TooMany ?y5_TooMany ?y6_TooMany ?kp_TooMany ?i_TooMany_WireError ?i_TooMany_BadSizes ?i_TooMany_TooMany ?i_TooMany_BadMask ?i_TooMany_BadTable ?i_TooMany_BadRow ?i_TooMany_BadName ?i_TooMany_Doubled ?i_TooMany_NoWire ?i_TooMany_BadLine ?i_TooMany_Ring ?iv_TooMany ?x_BadMask ?y1_BadMask ?y2_BadMask ?y3_BadMask ?y4_BadMask ?y5_BadMask ?y6_BadMask ?kp_BadMask ?i_BadMask_WireError ?i_BadMask_BadSizes ?i_BadMask_TooMany ?i_BadMask_BadMask ?i_BadMask_BadTable ?i_BadMask_BadRow ?i_BadMask_BadName ?i_BadMask_Doubled ?i_BadMask_NoWire ?i_BadMask_BadLine ?i_BadMask_Ring ?iv_BadMask ?x_BadTable ?y1_BadTable ?y2_BadTable ?y3_BadTable ?y4_BadTable ?y5_BadTable ?y6_BadTable ?kp_BadTable ?i_BadTable_WireError ?i_BadTable_BadSizes ?i_BadTable_TooMany ?i_BadTable_BadMask ?i_BadTable_BadTable ?i_BadTable_BadRow ?i_BadTable_BadName ?i_BadTable_Doubled ?i_BadTable_NoWire ?i_BadTable_BadLine ?i_BadTable_Ring ?iv_BadTable ?x_BadRow ?y1_BadRow ?y2_BadRow ?y3_BadRow ?y4_BadRow ?y5_BadRow ?y6_BadRow ?kp_BadRow ?i_BadRow_WireError ?i_BadRow_BadSizes ?i_BadRow_TooMany ?i_BadRow_BadMask ?i_BadRow_BadTable ?i_BadRow_BadRow ?i_BadRow_BadName ?i_BadRow_Doubled ?i_BadRow_NoWire ?i_BadRow_BadLine ?i_BadRow_Ring ?iv_BadRow ?lk_BadName ?of_BadName ?kp_BadName ?sa_BadName ?y5_BadName ?iv_BadName ?y1_BadName ?y2_BadName ?y3_BadName ?y4_BadName ?y6_BadName ?hd_BadName ?o_BadName_line ?o_BadName_name ?o_BadName_ring ?i_BadName_WireError ?i_BadName_BadSizes ?i_BadName_TooMany ?i_BadName_BadMask ?i_BadName_BadTable ?i_BadName_BadRow ?i_BadName_BadName ?i_BadName_Doubled ?i_BadName_NoWire ?i_BadName_BadLine ?i_BadName_Ring ?lk_Doubled ?of_Doubled ?kp_Doubled ?sa_Doubled ?y5_Doubled ?iv_Doubled ?y1_Doubled ?y2_Doubled ?y3_Doubled ?y4_Doubled ?y6_Doubled ?hd_Doubled ?o_Doubled_line ?o_Doubled_name ?o_Doubled_ring ?i_Doubled_WireError ?i_Doubled_BadSizes ?i_Doubled_TooMany ?i_Doubled_BadMask ?i_Doubled_BadTable ?i_Doubled_BadRow ?i_Doubled_BadName ?i_Doubled_Doubled ?i_Doubled_NoWire ?i_Doubled_BadLine ?i_Doubled_Ring ?lk_NoWire ?of_NoWire ?kp_NoWire ?sa_NoWire ?y5_NoWire ?iv_NoWire ?y1_NoWire ?y2_NoWire ?y3_NoWire ?y4_NoWire ?y6_NoWire ?hd_NoWire ?o_NoWire_line ?o_NoWire_name ?o_NoWire_ring ?i_NoWire_WireError ?i_NoWire_BadSizes ?i_NoWire_TooMany ?i_NoWire_BadMask ?i_NoWire_BadTable ?i_NoWire_BadRow ?i_NoWire_BadName ?i_NoWire_Doubled ?i_NoWire_NoWire ?i_NoWire_BadLine ?i_NoWire_Ring ?lk_BadLine ?of_BadLine ?kp_BadLine ?sa_BadLine ?y5_BadLine ?iv_BadLine ?y1_BadLine ?y2_BadLine ?y3_BadLine ?y4_BadLine ?y6_BadLine ?hd_BadLine ?o_BadLine_line ?o_BadLine_name ?o_BadLine_ring ?i_BadLine_WireError ?i_BadLine_BadSizes ?i_BadLine_TooMany ?i_BadLine_BadMask ?i_BadLine_BadTable ?i_BadLine_BadRow ?i_BadLine_BadName ?i_BadLine_Doubled ?i_BadLine_NoWire ?i_BadLine_BadLine ?i_BadLine_Ring ?lk_Ring ?of_Ring ?kp_Ring ?sa_Ring ?y5_Ring ?iv_Ring ?y1_Ring ?y2_Ring ?y3_Ring ?y4_Ring ?y6_Ring ?hd_Ring ?o_Ring_line ?o_Ring_name ?o_Ring_ring ?i_Ring_WireError ?i_Ring_BadSizes ?i_Ring_TooMany ?i_Ring_BadMask ?i_Ring_BadTable ?i_Ring_BadRow ?i_Ring_BadName ?i_Ring_Doubled ?i_Ring_NoWire ?i_Ring_BadLine ?i_Ring_Ring ?w1 ?w2 ?a_KEPT_DEPTH ?z_ValueError ?z_dict ?z_enumerate ?z_isinstance ?z_len ?z_list ?z_range ?z_tuple
    (case a_WireError => k_is)
    (case a_BadSizes => k_is)
    (case a_TooMany => k_is)
    (case a_BadMask => k_is)
    (case a_BadTable => k_is)
    (case a_BadRow => k_is)
    (case a_BadName => k_is)
    (case a_Doubled => k_is)
    (case a_NoWire => k_is)
    (case a_BadLine => k_is)
    (case a_Ring => k_is)
    (case a_kept => k_is)
    (case l_kept => k_is)
    (case c_kept => k_is)
    (case p_kept => k_is)
    (case x_BadName___init__ => k_is)
    (case l_BadName___init__ => k_is)
    (case c_BadName___init__ => k_is)
    (case p_BadName___init__ => k_is)
    (case x_Doubled___init__ => k_is)
    (case l_Doubled___init__ => k_is)
    (case c_Doubled___init__ => k_is)
    (case p_Doubled___init__ => k_is)
    (case x_NoWire___init__ => k_is)
    (case l_NoWire___init__ => k_is)
    (case c_NoWire___init__ => k_is)
    (case p_NoWire___init__ => k_is)
    (case x_BadLine___init__ => k_is)
    (case l_BadLine___init__ => k_is)
    (case c_BadLine___init__ => k_is)
    (case p_BadLine___init__ => k_is)
    (case x_Ring___init__ => k_is)
    (case l_Ring___init__ => k_is)
    (case c_Ring___init__ => k_is)
    (case p_Ring___init__ => k_is)
    (case a__law_cell => k_is)
    (case l__law_cell => k_is)
    (case c__law_cell => k_is)
    (case p__law_cell => k_is)
    (case a__law_mix => k_is)
    (case l__law_mix => k_is)
    (case c__law_mix => k_is)
    (case p__law_mix => k_is)
    (case a__law_word => k_is)
    (case l__law_word => k_is)
    (case c__law_word => k_is)
    (case p__law_word => k_is)
    (case a__law_kinds => k_is)
    (case l__law_kinds => k_is)
    (case c__law_kinds => k_is)
    (case p__law_kinds => k_is)
    (case a_law => k_is)
    (case l_law => k_is)
    (case c_law => k_is)
    (case p_law => k_is)
    (case x_WireError => k_exc)
    (case t1_WireError => k_is)
    (case t2_WireError => k_is)
    (case t3_WireError => k_is)
    (case t1_BadSizes => k_is)
    (case t2_BadSizes => k_is)
    (case t3_BadSizes => k_is)
    (case t1_TooMany => k_is)
    (case t2_TooMany => k_is)
    (case t3_TooMany => k_is)
    (case t1_BadMask => k_is)
    (case t2_BadMask => k_is)
    (case t3_BadMask => k_is)
    (case t1_BadTable => k_is)
    (case t2_BadTable => k_is)
    (case t3_BadTable => k_is)
    (case t1_BadRow => k_is)
    (case t2_BadRow => k_is)
    (case t3_BadRow => k_is)
    (case t1_BadName => k_is)
    (case t2_BadName => k_is)
    (case t3_BadName => k_is)
    (case t1_Doubled => k_is)
    (case t2_Doubled => k_is)
    (case t3_Doubled => k_is)
    (case t1_NoWire => k_is)
    (case t2_NoWire => k_is)
    (case t3_NoWire => k_is)
    (case t1_BadLine => k_is)
    (case t2_BadLine => k_is)
    (case t3_BadLine => k_is)
    (case t1_Ring => k_is)
    (case t2_Ring => k_is)
    (case t3_Ring => k_is)
    (case u1_WireError => k_is)
    (case u2_WireError => k_is)
    (case u3_WireError => k_is)
    (case x_BadSizes => k_exc)
    (case y1_BadSizes => k_is)
    (case y2_BadSizes => k_is)
    (case y3_BadSizes => k_is)
    (case y4_BadSizes => k_is)
    (case y5_BadSizes => k_is)
    (case y6_BadSizes => k_is)
    (case kp_BadSizes => k_is)
    (case i_BadSizes_WireError => k_is)
    (case i_BadSizes_BadSizes => k_is)
    (case i_BadSizes_TooMany => k_is)
    (case i_BadSizes_BadMask => k_is)
    (case i_BadSizes_BadTable => k_is)
    (case i_BadSizes_BadRow => k_is)
    (case i_BadSizes_BadName => k_is)
    (case i_BadSizes_Doubled => k_is)
    (case i_BadSizes_NoWire => k_is)
    (case i_BadSizes_BadLine => k_is)
    (case i_BadSizes_Ring => k_is)
    (case iv_BadSizes => k_is)
    (case x_TooMany => k_exc)
    (case y1_TooMany => k_is)
    (case y2_TooMany => k_is)
    (case y3_TooMany => k_is)
    (case y4_TooMany => k_is)
    (case y5_TooMany => k_is)
    (case y6_TooMany => k_is)
    (case kp_TooMany => k_is)
    (case i_TooMany_WireError => k_is)
    (case i_TooMany_BadSizes => k_is)
    (case i_TooMany_TooMany => k_is)
    (case i_TooMany_BadMask => k_is)
    (case i_TooMany_BadTable => k_is)
    (case i_TooMany_BadRow => k_is)
    (case i_TooMany_BadName => k_is)
    (case i_TooMany_Doubled => k_is)
    (case i_TooMany_NoWire => k_is)
    (case i_TooMany_BadLine => k_is)
    (case i_TooMany_Ring => k_is)
    (case iv_TooMany => k_is)
    (case x_BadMask => k_exc)
    (case y1_BadMask => k_is)
    (case y2_BadMask => k_is)
    (case y3_BadMask => k_is)
    (case y4_BadMask => k_is)
    (case y5_BadMask => k_is)
    (case y6_BadMask => k_is)
    (case kp_BadMask => k_is)
    (case i_BadMask_WireError => k_is)
    (case i_BadMask_BadSizes => k_is)
    (case i_BadMask_TooMany => k_is)
    (case i_BadMask_BadMask => k_is)
    (case i_BadMask_BadTable => k_is)
    (case i_BadMask_BadRow => k_is)
    (case i_BadMask_BadName => k_is)
    (case i_BadMask_Doubled => k_is)
    (case i_BadMask_NoWire => k_is)
    (case i_BadMask_BadLine => k_is)
    (case i_BadMask_Ring => k_is)
    (case iv_BadMask => k_is)
    (case x_BadTable => k_exc)
    (case y1_BadTable => k_is)
    (case y2_BadTable => k_is)
    (case y3_BadTable => k_is)
    (case y4_BadTable => k_is)
    (case y5_BadTable => k_is)
    (case y6_BadTable => k_is)
    (case kp_BadTable => k_is)
    (case i_BadTable_WireError => k_is)
    (case i_BadTable_BadSizes => k_is)
    (case i_BadTable_TooMany => k_is)
    (case i_BadTable_BadMask => k_is)
    (case i_BadTable_BadTable => k_is)
    (case i_BadTable_BadRow => k_is)
    (case i_BadTable_BadName => k_is)
    (case i_BadTable_Doubled => k_is)
    (case i_BadTable_NoWire => k_is)
    (case i_BadTable_BadLine => k_is)
    (case i_BadTable_Ring => k_is)
    (case iv_BadTable => k_is)
    (case x_BadRow => k_exc)
    (case y1_BadRow => k_is)
    (case y2_BadRow => k_is)
    (case y3_BadRow => k_is)
    (case y4_BadRow => k_is)
    (case y5_BadRow => k_is)
    (case y6_BadRow => k_is)
    (case kp_BadRow => k_is)
    (case i_BadRow_WireError => k_is)
    (case i_BadRow_BadSizes => k_is)
    (case i_BadRow_TooMany => k_is)
    (case i_BadRow_BadMask => k_is)
    (case i_BadRow_BadTable => k_is)
    (case i_BadRow_BadRow => k_is)
    (case i_BadRow_BadName => k_is)
    (case i_BadRow_Doubled => k_is)
    (case i_BadRow_NoWire => k_is)
    (case i_BadRow_BadLine => k_is)
    (case i_BadRow_Ring => k_is)
    (case iv_BadRow => k_is)
    (case lk_BadName => k_is)
    (case of_BadName => k_is)
    (case kp_BadName => k_is)
    (case sa_BadName => k_is)
    (case y5_BadName => k_is)
    (case iv_BadName => k_is)
    (case y1_BadName => k_is)
    (case y2_BadName => k_is)
    (case y3_BadName => k_is)
    (case y4_BadName => k_is)
    (case y6_BadName => k_is)
    (case hd_BadName => k_is)
    (case o_BadName_line => k_is)
    (case o_BadName_name => k_is)
    (case o_BadName_ring => k_is)
    (case i_BadName_WireError => k_is)
    (case i_BadName_BadSizes => k_is)
    (case i_BadName_TooMany => k_is)
    (case i_BadName_BadMask => k_is)
    (case i_BadName_BadTable => k_is)
    (case i_BadName_BadRow => k_is)
    (case i_BadName_BadName => k_is)
    (case i_BadName_Doubled => k_is)
    (case i_BadName_NoWire => k_is)
    (case i_BadName_BadLine => k_is)
    (case i_BadName_Ring => k_is)
    (case lk_Doubled => k_is)
    (case of_Doubled => k_is)
    (case kp_Doubled => k_is)
    (case sa_Doubled => k_is)
    (case y5_Doubled => k_is)
    (case iv_Doubled => k_is)
    (case y1_Doubled => k_is)
    (case y2_Doubled => k_is)
    (case y3_Doubled => k_is)
    (case y4_Doubled => k_is)
    (case y6_Doubled => k_is)
    (case hd_Doubled => k_is)
    (case o_Doubled_line => k_is)
    (case o_Doubled_name => k_is)
    (case o_Doubled_ring => k_is)
    (case i_Doubled_WireError => k_is)
    (case i_Doubled_BadSizes => k_is)
    (case i_Doubled_TooMany => k_is)
    (case i_Doubled_BadMask => k_is)
    (case i_Doubled_BadTable => k_is)
    (case i_Doubled_BadRow => k_is)
    (case i_Doubled_BadName => k_is)
    (case i_Doubled_Doubled => k_is)
    (case i_Doubled_NoWire => k_is)
    (case i_Doubled_BadLine => k_is)
    (case i_Doubled_Ring => k_is)
    (case lk_NoWire => k_is)
    (case of_NoWire => k_is)
    (case kp_NoWire => k_is)
    (case sa_NoWire => k_is)
    (case y5_NoWire => k_is)
    (case iv_NoWire => k_is)
    (case y1_NoWire => k_is)
    (case y2_NoWire => k_is)
    (case y3_NoWire => k_is)
    (case y4_NoWire => k_is)
    (case y6_NoWire => k_is)
    (case hd_NoWire => k_is)
    (case o_NoWire_line => k_is)
    (case o_NoWire_name => k_is)
    (case o_NoWire_ring => k_is)
    (case i_NoWire_WireError => k_is)
    (case i_NoWire_BadSizes => k_is)
    (case i_NoWire_TooMany => k_is)
    (case i_NoWire_BadMask => k_is)
    (case i_NoWire_BadTable => k_is)
    (case i_NoWire_BadRow => k_is)
    (case i_NoWire_BadName => k_is)
    (case i_NoWire_Doubled => k_is)
    (case i_NoWire_NoWire => k_is)
    (case i_NoWire_BadLine => k_is)
    (case i_NoWire_Ring => k_is)
    (case lk_BadLine => k_is)
    (case of_BadLine => k_is)
    (case kp_BadLine => k_is)
    (case sa_BadLine => k_is)
    (case y5_BadLine => k_is)
    (case iv_BadLine => k_is)
    (case y1_BadLine => k_is)
    (case y2_BadLine => k_is)
    (case y3_BadLine => k_is)
    (case y4_BadLine => k_is)
    (case y6_BadLine => k_is)
    (case hd_BadLine => k_is)
    (case o_BadLine_line => k_is)
    (case o_BadLine_name => k_is)
    (case o_BadLine_ring => k_is)
    (case i_BadLine_WireError => k_is)
    (case i_BadLine_BadSizes => k_is)
    (case i_BadLine_TooMany => k_is)
    (case i_BadLine_BadMask => k_is)
    (case i_BadLine_BadTable => k_is)
    (case i_BadLine_BadRow => k_is)
    (case i_BadLine_BadName => k_is)
    (case i_BadLine_Doubled => k_is)
    (case i_BadLine_NoWire => k_is)
    (case i_BadLine_BadLine => k_is)
    (case i_BadLine_Ring => k_is)
    (case lk_Ring => k_is)
    (case of_Ring => k_is)
    (case kp_Ring => k_is)
    (case sa_Ring => k_is)
    (case y5_Ring => k_is)
    (case iv_Ring => k_is)
    (case y1_Ring => k_is)
    (case y2_Ring => k_is)
    (case y3_Ring => k_is)
    (case y4_Ring => k_is)
    (case y6_Ring => k_is)
    (case hd_Ring => k_is)
    (case o_Ring_line => k_is)
    (case o_Ring_name => k_is)
    (case o_Ring_ring => k_is)
    (case i_Ring_WireError => k_is)
    (case i_Ring_BadSizes => k_is)
    (case i_Ring_TooMany => k_is)
    (case i_Ring_BadMask => k_is)
    (case i_Ring_BadTable => k_is)
    (case i_Ring_BadRow => k_is)
    (case i_Ring_BadName => k_is)
    (case i_Ring_Doubled => k_is)
    (case i_Ring_NoWire => k_is)
    (case i_Ring_BadLine => k_is)
    (case i_Ring_Ring => k_is)
    (case w1 => k_is)
    (case w2 => k_is)
    (case a_KEPT_DEPTH => k_is)
    (case z_ValueError => k_is)
    (case z_dict => k_is)
    (case z_enumerate => k_is)
    (case z_isinstance => k_is)
    (case z_len => k_is)
    (case z_list => k_is)
    (case z_range => k_is)
    (case z_tuple => k_is)
