import PyProof.Rows.All
import Wide.All
import OpenK.AllK
import Wide.FinOn
import Lean
import PyProof.EqAt
import PyProof.EqKinds
import PyProof.TupleCall
import PyProof.NeKinds
import KE.KIsAll
import PyProof.RulesAs
import PyProof.StationsW
import PyProof.ExcClass2
import OpenK.KOwn
import PyProof.NsDelKeeps
import PyProof.ExcAttrAll.ValueError
import KE.KDictList
import KE.KSorted
import PyProof.SumAny
import PyProof.WalkInts
import PyProof.Rows.SortShell
import PySem.Challenge.RW_sumwires_k42_sums_and_masks_that_bar_the
set_option Elab.async false
set_option linter.all false
set_option maxRecDepth 100000
namespace L2
open PySem PySem.Spec PyProof.Rows
noncomputable abbrev Key:=Sum Int Str
noncomputable def jL:Key→Value→Bool
 | .inl k,v=>Value.isInt k v
 | .inr x,v=>Value.isStrOf x v
noncomputable def keyH (w:World):Key→Int
 | .inl k=>hashInt k
 | .inr x=>hashStr w x
theorem aK:∀ {k:Key} {v:Value},jL k v=true→(∃ i t,k=Sum.inl i∧v=Value.int i t)∨(∃ x t,k=Sum.inr x∧v=Value.str x t)
 | .inl i,v,h=>by
   obtain ⟨t,e⟩:=Value.isInt_shape (k:=i) (v:=v) h
   exact .inl ⟨i,t,rfl,e⟩
 | .inr x,v,h=>by
   obtain ⟨t,e⟩:=Value.isStrOf_shape (x:=x) (v:=v) h
   exact .inr ⟨x,t,rfl,e⟩
theorem nQ (i:Int) (t:Tok):jL (.inl i) (.int i t)=true:=by simp [jL,Value.isInt]
theorem nP (x:Str) (t:Tok):jL (.inr x) (.str x t)=true:=by simp [jL,Value.isStrOf]
theorem tW (a b:Int):decide ((Sum.inl a:Key)=Sum.inl b)=(a == b):=by
 by_cases e:a=b
 ·subst e;simp
 ·have h:¬ (Sum.inl a:Key)=Sum.inl b:=fun q=>e (Sum.inl.inj q)
  rw [decide_eq_false h]
  exact (beq_eq_false_iff_ne.mpr e).symm
theorem tT (a b:Str):decide ((Sum.inr a:Key)=Sum.inr b)=decide (a=b):=by
 by_cases e:a=b
 ·subst e;simp
 ·have h:¬ (Sum.inr a:Key)=Sum.inr b:=fun q=>e (Sum.inr.inj q)
  rw [decide_eq_false h,decide_eq_false e]
theorem tV (a:Int) (b:Str):decide ((Sum.inl a:Key)=Sum.inr b)=false:=decide_eq_false (fun q=>nomatch q)
theorem tU (a:Str) (b:Int):decide ((Sum.inr a:Key)=Sum.inl b)=false:=decide_eq_false (fun q=>nomatch q)
noncomputable def aW (prog:Program) (w:World):PySem.KeyKind prog w Key where
 is:=jL
 hash:=keyH w
 inj:=fun v a b ha hb=>by
  rcases aK ha with ⟨i,t,rfl,rfl⟩ | ⟨x,t,rfl,rfl⟩
  ·rcases aK hb with ⟨j,u,rfl,e⟩ | ⟨y,u,rfl,e⟩
   ·injection e with e1 _;rw [e1]
   ·exact nomatch e
  ·rcases aK hb with ⟨j,u,rfl,e⟩ | ⟨y,u,rfl,e⟩
   ·exact nomatch e
   ·injection e with e1 _;rw [e1]
 byValue:=fun k v h=>by
  rcases aK h with ⟨i,t,rfl,rfl⟩ | ⟨x,t,rfl,rfl⟩<;>rfl
 pyHash:=fun hv h=>by
  rcases aK hv with ⟨i,t,rfl,rfl⟩ | ⟨x,t,rfl,rfl⟩
  ·exact wpAny_pyHash_int h
  ·exact wpAny_pyHash_str h
 eqBool:=fun hu hv h=>by
  rcases aK hu with ⟨i,t,rfl,rfl⟩ | ⟨x,t,rfl,rfl⟩
  ·rcases aK hv with ⟨j,u,rfl,rfl⟩ | ⟨y,u,rfl,rfl⟩
   ·rw [tW] at h;exact wpAny_eqBool_int h
   ·rw [tV] at h;exact SeqAt.EqAt.int_str i t y u _ _ _ _ h
  ·rcases aK hv with ⟨j,u,rfl,rfl⟩ | ⟨y,u,rfl,rfl⟩
   ·rw [tU] at h;exact SeqAt.EqAt.str_int x t j u _ _ _ _ h
   ·rw [tT] at h;exact wpAny_eqBool_str h
 «strs»:=fun k x t v h=>by
  rcases aK h with ⟨i,u,rfl,e⟩ | ⟨y,u,rfl,e⟩
  ·exact nomatch e
  ·injection e with e1 _
   subst e1
   cases v<;>rfl
theorem kF (prog:Program) (w:World) (i:Int) (t:Tok):(aW prog w).is (.inl i) (.int i t)=true:=nQ i t
theorem kE (prog:Program) (w:World) (x:Str) (t:Tok):(aW prog w).is (.inr x) (.str x t)=true:=nP x t
inductive V where
 | non | bl (b:Bool) | int (i:Int) | str (x:Str) | byt (b:Array UInt8) | flt (b:UInt64) | ref (a:Addr) | ty (n:String)
 deriving DecidableEq
noncomputable def RelV:V→Value→Prop
 | .non,u=>u=Value.none
 | .bl b,u=>u=Value.bool b
 | .int i,u=>∃ t,u=Value.int i t
 | .str x,u=>∃ t,u=Value.str x t
 | .byt b,u=>∃ t,u=Value.bytes b t
 | .flt b,u=>∃ t,u=Value.float b t
 | .ref a,u=>u=Value.ref a
 | .ty n,u=>u=Value.type n
noncomputable abbrev Vals:List V→List Value→Prop:=Paired RelV
theorem Vals.length {xs:List V} {us:List Value} (r:Vals xs us):xs.length=us.length:=Paired.length r
theorem Vals.get:∀ {xs:List V} {us:List Value} {i:Nat} {x:V},Vals xs us→xs[i]? =some x→∃ u,us[i]? =some u∧RelV x u
 | _,_,_,_,.nil,e=>by simp at e
 | _,_,0,_,.cons r _,e=>by simp at e;subst e;exact ⟨_,rfl,r⟩
 | _,_,i + 1,x,.cons _ t,e=>by
   obtain ⟨u,h1,h2⟩:=Vals.get (i:=i) (x:=x) t (by simpa using e)
   exact ⟨u,by simpa using h1,h2⟩
theorem Vals.append:∀ {xs ys:List V} {us ws:List Value},Vals xs us→Vals ys ws→Vals (xs++ys) (us++ws)
 | _,_,_,_,.nil,s=>s
 | _,_,_,_,.cons r t,s=> .cons r (Vals.append t s)
theorem Vals.take:∀ {xs:List V} {us:List Value} (n:Nat),Vals xs us→Vals (xs.take n) (us.take n)
 | _,_,0,_=> .nil
 | _,_,_ + 1,.nil=> .nil
 | _,_,n + 1,.cons r t=> .cons r (Vals.take n t)
theorem Vals.drop:∀ {xs:List V} {us:List Value} (n:Nat),Vals xs us→Vals (xs.drop n) (us.drop n)
 | _,_,0,r=>r
 | _,_,_ + 1,.nil=> .nil
 | _,_,n + 1,.cons _ t=>Vals.drop n t
noncomputable def RelO:Option V→Option Value→Prop
 | some v,some u=>RelV v u
 | none,none=>True
 | _,_=>False
noncomputable def KV {κ:Type}:List (κ×V)→List (κ×Value)→Prop:=Paired fun (p:κ×V) (q:κ×Value)=>p.1=q.1∧RelV p.2 q.2
noncomputable def kV:Key→V
 | .inl i=> .int i
 | .inr x=> .str x
inductive HO where
 | lst (xs:List V)
 | tup (xs:List V)
 | dK (kvs:List (Key×V)) | dT (kvs:List (List Key×V))
 | set (S:Int→Bool) (n:Nat)
 | ins (C dx:Addr) (fs:List (Str×V))
 | own (x:Addr)
 | xd (fs:List (Str×V))
 | met (f x:Addr)
 | rng (lo hi:Int)
 | frz (o:Obj) (u:HO)
 | tbl (ps:Array Value)
 | ext (φ:Heap→Prop)
noncomputable abbrev Hp:=Addr→Option HO
noncomputable def upd (H:Hp) (a:Addr) (o:HO):Hp:=fun b=>if b=a then some o else H b
theorem be {H:Hp} {a:Addr} {o:HO}:upd H a o a=some o:=by unfold upd;rw [if_pos rfl]
theorem az {H:Hp} {a b:Addr} {o:HO} (h:b≠a):upd H a o b=H b:=by unfold upd;rw [if_neg h]
theorem dI {H:Hp} {a b:Addr} {o u:HO} (h:H a=some o) (h':H b=some u) (d:o≠u):a≠b:=by
 intro e;subst e;rw [h] at h';exact d (Option.some.inj h')
theorem ao {H:Hp} {a b:Addr} {o:HO} (h:H a=some o) (h':H b=none):a≠b:=by
 intro e;subst e;rw [h] at h';cases h'
section
variable (P:Program) (w:World)
noncomputable def cj (H:Hp) (h:Heap) (a:Addr):HO→Prop
 | .lst xs=>xs.length≤sizeLine∧∃ (its:List Value) (n:Nat),Vals xs its∧h.get? a=some {cls:= .type "list",data:= .seq its.toArray n}
 | .tup xs=>xs.length≤sizeLine∧∃ its:List Value,Vals xs its∧IsTup h a its.toArray
 | .dK kvs=>kvs.length≤sizeLine∧(a == sysModules)=false∧∃ vs,KV kvs vs∧h.DictOf (aW P w) a vs
 | .dT kvs=>kvs.length≤sizeLine∧(a == sysModules)=false∧∃ xs:List (List Key×Addr×Value),
   Paired (fun (p:List Key×V) (q:List Key×Addr×Value)=>p.1=q.1∧H q.2.1=some (.tup (p.1.map kV))∧RelV p.2 q.2.2) kvs xs∧
   ∃ o es ep,h.get? a=some o∧o.ExactDict∧o.data= .dict es ep∧es.toList=xs.map (entryOfKey (tupleKind (aW P w)))∧(xs.map (·.1)).Nodup
 | .set S n=>h.SetOf (intKind P w) a S n
 | .ins C dx fs=>H dx=some (.own a)∧fs.length≤1000∧dx≠a∧h.get? a=some (PySem.W.instObj C dx)∧
   ∃ mA,h.Ns1 dx mA∧(∀ f,RelO (fs.lookup f) (mA f))∧PySem.Within mA (fs.map (·.1))
 | .own _=>∃ o,h.get? a=some o
 | .xd fs=>∃ mA,h.Ns1 a mA∧∀ f,RelO (fs.lookup f) (mA f)
 | .rng lo hi=>∃ t u v,h.get? a=some {cls:= .type "range",data:= .fields #[.int lo t,.int hi u,.int 1 v]}
 | .frz o u=>h.get? a=some o∧cj H h a u
 | .tbl ps=>h.get? a=some {cls:= .none,data:= .fields ps}
 | .met f x=>h.get? a=some (PySem.W.methodObj (.ref f) (.ref x))
 | .ext φ=>φ h∧(∃ o,h.get? a=some o)∧∀ h1 h2:Heap,φ h1→(∀ o,h1.get? a=some o→h2.get? a=some o)→φ h2
noncomputable def HOk (H:Hp) (h:Heap):Prop:=∀ a o,H a=some o→cj P w H h a o
end
section
variable {P:Program} {w:World} {H H':Hp} {h h':Heap} {a:Addr} {o:HO}
theorem cj.lt (x:cj P w H h a o):a < h.objs.size:=by
 cases o with
 | lst xs=>obtain ⟨_,_,_,_,e⟩:=x;exact Heap.lt_size e
 | tup xs=>obtain ⟨_,_,_,p⟩:=x;exact p.lt
 | dK kvs=>obtain ⟨_,_,_,_,o,_,_,e,_⟩:=x;exact Heap.lt_size e
 | dT kvs=>obtain ⟨_,_,_,_,o,_,_,e,_⟩:=x;exact Heap.lt_size e
 | set S n=>obtain ⟨o,_,_,_,e,_⟩:=x;exact Heap.lt_size e
 | ins C dx fs=>obtain ⟨_,_,_,e,_⟩:=x;exact Heap.lt_size e
 | own y=>obtain ⟨_,e⟩:=x;exact Heap.lt_size e
 | xd fs=>obtain ⟨_,⟨_,_,_,e,_⟩,_⟩:=x;exact Heap.lt_size e
 | rng lo hi=>obtain ⟨_,_,_,e⟩:=x;exact Heap.lt_size e
 | frz ob u=>obtain ⟨e,_⟩:=x;exact Heap.lt_size e
 | tbl ps=>exact Heap.lt_size (show h.get? a=some _ from x)
 | met f y=>exact Heap.lt_size (show h.get? a=some _ from x)
 | ext φ=>obtain ⟨_,⟨_,e⟩,_⟩:=x;exact Heap.lt_size e
theorem Paired.mapP {α β:Type} {F G:α→β→Prop}:∀ {l₁:List α} {l₂:List β},Paired F l₁ l₂→(∀ a b,F a b→G a b)→Paired G l₁ l₂
 | _,_,.nil,_=> .nil
 | _,_,.cons r t,f=> .cons (f _ _ r) (Paired.mapP t f)
theorem cj.stay (x:cj P w H h a o) (k:∀ b u,(b=a∨H b=some (.own a))→h.get? b=some u→h'.get? b=some u)
  (ho:∀ b,H b=some (.own a)→H' b=some (.own a)) (ht:∀ b xs,H b=some (.tup xs)→H' b=some (.tup xs)):cj P w H' h' a o:=by
 induction o with
 | lst xs=>obtain ⟨z,its,n,r,e⟩:=x;exact ⟨z,its,n,r,k _ _ (.inl rfl) e⟩
 | tup xs=>obtain ⟨z,its,r,ob,e,c⟩:=x;exact ⟨z,its,r,ob,k _ _ (.inl rfl) e,c⟩
 | dK kvs=>obtain ⟨z,y,vs,r,ob,es,ep,e,c⟩:=x;exact ⟨z,y,vs,r,ob,es,ep,k _ _ (.inl rfl) e,c⟩
 | dT kvs=>
   obtain ⟨z,y,xs,r,ob,es,ep,e,c⟩:=x
   exact ⟨z,y,xs,Paired.mapP r fun p q z=>⟨z.1,ht _ _ z.2.1,z.2.2⟩,ob,es,ep,k _ _ (.inl rfl) e,c⟩
 | set S n=>obtain ⟨ob,es,ep,t,e,c⟩:=x;exact ⟨ob,es,ep,t,k _ _ (.inl rfl) e,c⟩
 | ins C dx fs=>
   obtain ⟨d,z,ne,e,mA,⟨od,es,ep,e2,c⟩,r⟩:=x
   exact ⟨ho _ d,z,ne,k _ _ (.inl rfl) e,mA,⟨od,es,ep,k _ _ (.inr d) e2,c⟩,r⟩
 | own y=>obtain ⟨ob,e⟩:=x;exact ⟨ob,k _ _ (.inl rfl) e⟩
 | xd fs=>obtain ⟨mA,⟨od,es,ep,e,c⟩,r⟩:=x;exact ⟨mA,⟨od,es,ep,k _ _ (.inl rfl) e,c⟩,r⟩
 | rng lo hi=>obtain ⟨t,u,v,e⟩:=x;exact ⟨t,u,v,k _ _ (.inl rfl) e⟩
 | frz ob u ih=>obtain ⟨e,q⟩:=x;exact ⟨k _ _ (.inl rfl) e,ih q⟩
 | tbl ps=>
   have e:h.get? a=some {cls:= .none,data:= .fields ps}:=x
   show h'.get? a=some {cls:= .none,data:= .fields ps}
   exact k a _ (.inl rfl) e
 | met f y=>
   have e:h.get? a=some (PySem.W.methodObj (.ref f) (.ref y)):=x
   show h'.get? a=some (PySem.W.methodObj (.ref f) (.ref y))
   exact k a _ (.inl rfl) e
 | ext φ=>obtain ⟨p,⟨o,e⟩,st⟩:=x;exact ⟨st _ _ p fun o q=>k _ _ (.inl rfl) q,⟨o,k _ _ (.inl rfl) e⟩,st⟩
theorem HOk.lt (x:HOk P w H h) (e:H a=some o):a < h.objs.size:=(x a o e).lt
theorem HOk.fresh (x:HOk P w H h) (e:h.objs.size≤a):H a=none:=by
 cases q:H a with
 | none=>rfl
 | some u=>exact absurd (Nat.lt_of_lt_of_le (x.lt q) e) (Nat.lt_irrefl _)
theorem HOk.kept (x:HOk P w H h) (k:∀ b u,h.get? b=some u→h'.get? b=some u):HOk P w H h':=fun a o e=>
 (x a o e).stay (fun b u _ q=>k b u q) (fun _ q=>q) fun _ _ q=>q
theorem HOk.laid (x:HOk P w H h) (k:∀ b u,h.get? b=some u→h'.get? b=some u) (hp:h.objs.size≤a) (new:cj P w (upd H a o) h' a o):HOk P w (upd H a o) h':=fun b u e=>by
 have hn:=x.fresh hp
 by_cases hb:b=a
 ·subst hb;rw [be] at e;cases e;exact new
 ·rw [az hb] at e
  exact (x b u e).stay (fun c v _ q=>k c v q) (fun c q=>by rw [az (ao q hn)];exact q) fun c xs q=>by rw [az (ao q hn)];exact q
end
noncomputable def Rd (H:Hp) (a:Addr) (u:HO):Prop:=H a=some u∨∃ o,H a=some (.frz o u)
theorem Rd.ok {P:Program} {w:World} {H:Hp} {h:Heap} {a:Addr} {u:HO} (r:Rd H a u) (x:HOk P w H h):cj P w H h a u:=by
 rcases r with r | ⟨o,r⟩
 ·exact x a u r
 ·obtain ⟨_,q⟩:=x a _ r
  exact q
noncomputable def Mut:Option HO→Prop
 | some (.lst _)=>True
 | some (.dK _)=>True
 | some (.dT _)=>True
 | some (.set _ _)=>True
 | some (.ins _ _ _)=>True
 | some (.ext _)=>True
 | _=>False
section
variable {P:Program} {w:World} {H:Hp} {h h':Heap} {x e:Addr} {o':HO}
theorem HOk.write (ok:HOk P w H h) (mu:Mut (H x)) (he:e=x∨H e=some (.own x)) (k:∀ b u,b≠e→h.get? b=some u→h'.get? b=some u) (heo:∃ u,h'.get? e=some u)
  (new:cj P w (upd H x o') h' x o'):HOk P w (upd H x o') h':=fun b u q=>by
 have nown:∀ c y,H c=some (.own y)→c≠x:=fun c y r z=>by subst z;rw [r] at mu;exact mu
 have ntup:∀ c xs,H c=some (.tup xs)→c≠x:=fun c xs r z=>by subst z;rw [r] at mu;exact mu
 by_cases hb:b=x
 ·subst hb;rw [be] at q;cases q;exact new
 ·rw [az hb] at q
  by_cases hbe:b=e
  ·have q':H b=some (.own x):=by
    rcases he with z | z
    ·exact absurd (hbe.trans z) hb
    ·rw [hbe];exact z
   rw [q] at q';cases q'
   obtain ⟨v,hv⟩:=heo
   exact ⟨v,by rw [hbe];exact hv⟩
  ·refine (ok b u q).stay (fun c v hc r=>k c v ?_ r) (fun c r=>by rw [az (nown c b r)];exact r) fun c xs r=>by rw [az (ntup c xs r)];exact r
   rcases hc with rfl | hc
   ·exact hbe
   ·rintro rfl
    rcases he with z | z
    ·exact nown c b hc z
    ·rw [hc] at z;cases z;exact hb rfl
end
structure Un (fs ex:List Addr) (H H':Hp) (h h':Heap):Prop where
 keep:∀ b o,h.get? b=some o→H b=none→b∉fs→b∉ex→h'.get? b=some o
 slot:∀ b o,h.get? b=some o→H b=none→b∈fs→b∉ex→∃ sl,h'.get? b=some {o with slots:=sl}
 free:∀ b o,h.get? b=some o→H b=none→b∉ex→H' b=none
 there:∀ b o,h.get? b=some o→b∉ex→∃ o',h'.get? b=some o'
 tups:∀ b xs,H b=some (.tup xs)→H' b=some (.tup xs)
 frzs:∀ b o u,H b=some (.frz o u)→H' b=some (.frz o u)
 tbls:∀ b ps,H b=some (.tbl ps)→∃ more,H' b=some (.tbl (ps++more))
section
variable {fs fs' ex ex':List Addr} {H H1 H2:Hp} {h h1 h2 h':Heap} {a x e:Addr} {o:HO}
theorem Un.any (u:Un fs ex H H1 h h1) {b:Addr} {ob:Obj} (q:h.get? b=some ob) (n:H b=none) (hx:b∉ex):∃ sl,h1.get? b=some {ob with slots:=sl}:=by
 by_cases hb:b∈fs
 ·exact u.slot b ob q n hb hx
 ·exact ⟨ob.slots,u.keep b ob q n hb hx⟩
theorem Un.kept (k:∀ b u,h.get? b=some u→h'.get? b=some u):Un fs ex H H h h':=
 ⟨fun b ob q _ _ _=>k b ob q,fun b ob q _ _ _=>⟨ob.slots,k b ob q⟩,fun _ _ _ n _=>n,fun b ob q _=>⟨ob,k b ob q⟩,fun _ _ q=>q,fun _ _ _ q=>q,fun _ ps q=>⟨#[],by rw [q];simp⟩⟩
theorem Un.refl:Un fs ex H H h h:=Un.kept fun _ _ q=>q
theorem Un.laid (k:∀ b u,h.get? b=some u→h'.get? b=some u) (hp:h.objs.size≤a) (hn:H a=none):Un fs ex H (upd H a o) h h' where
 keep:=fun b u q _ _ _=>k b u q
 slot:=fun b u q _ _ _=>⟨u.slots,k b u q⟩
 free:=fun b u q n _=>by rw [az (Nat.ne_of_lt (Nat.lt_of_lt_of_le (Heap.lt_size q) hp))];exact n
 there:=fun b u q _=>⟨u,k b u q⟩
 tups:=fun b xs q=>by rw [az (ao q hn)];exact q
 frzs:=fun b u xs q=>by rw [az (ao q hn)];exact q
 tbls:=fun b ps q=>⟨#[],by rw [az (ao q hn),q];simp⟩
theorem Un.write (mu:Mut (H x)) (he:e=x∨H e=some (.own x)) (k:∀ b u,b≠e→h.get? b=some u→h'.get? b=some u) (heo:∃ u,h'.get? e=some u):Un fs ex H (upd H x o) h h':=by
 have hx:∀ b,H b=none→b≠x:=fun b n z=>by subst z;rw [n] at mu;exact mu
 have hb:∀ b,H b=none→b≠e:=fun b n z=>by
  subst z
  rcases he with r | r
  ·exact hx b n r
  ·rw [n] at r;cases r
 have hm:∀ b u,H b=some u→¬ Mut (some u)→b≠x:=fun b u q nm z=>by subst z;rw [q] at mu;exact nm mu
 refine ⟨fun b u q n _ _=>k b u (hb b n) q,fun b u q n _ _=>⟨u.slots,k b u (hb b n) q⟩,fun b u q n _=>by rw [az (hx b n)];exact n,fun b u q _=>?_,
  fun b xs q=>by rw [az (hm b _ q fun z=>z)];exact q,fun b u xs q=>by rw [az (hm b _ q fun z=>z)];exact q,fun b ps q=>⟨#[],by rw [az (hm b _ q fun z=>z),q];simp⟩⟩
 by_cases hbe:b=e
 ·subst hbe;exact heo
 ·exact ⟨u,k b u hbe q⟩
end
noncomputable def trk (h:Heap) (H:Hp):List Addr:=(List.range h.objs.size).filter fun a=>(H a).isSome
noncomputable def hidT (h:Heap) (H:Hp):Heap:=PySem.W.hideAll h (trk h H)
theorem nW (h:Heap) (H:Hp):(hidT h H).objs.size=h.objs.size:=PySem.W.hideAll_size _ _
theorem pE {h:Heap} {H:Hp} {b:Addr} {o:Obj} (e:h.get? b=some o) (n:H b=none):(hidT h H).get? b=some o:=
 PySem.W.hideAll_get _ e fun hm=>by
  have q:(H b).isSome=true:=(List.mem_filter.mp hm).2
  rw [n] at q;simp at q
theorem rj {h:Heap} {H:Hp} {b:Addr} {o:Obj} (e:(hidT h H).get? b=some o):h.get? b=some o∧H b=none:=by
 have e':h.get? b=some o:=PySem.W.of_hideAll (trk h H) e
 refine ⟨e',?_⟩
 cases q:H b with
 | none=>rfl
 | some x=>
   have hm:b∈trk h H:=List.mem_filter.mpr ⟨List.mem_range.mpr (Heap.lt_size e'),by simp [q]⟩
   have z:(hidT h H).get? b=none:=PySem.W.hideAll_none (trk h H) hm
   rw [z] at e;cases e
noncomputable def rR (g h:Heap) (L:Addr):List (Addr×Obj):=(List.range h.objs.size).filterMap fun a=>if a=L∨(g.get? a).isSome=true then none else (h.get? a).map fun o=>(a,o)
noncomputable def rest (g h:Heap) (L d:Addr):List (Addr×Obj):=(rR g h L).filter fun p=>decide (p.1≠d)
structure Mod (K:PySem.W.Frag) (mg:Str→Option Value) (base:Heap):Prop where
 kin:K.In base
 glob:base.Ns mainGlobals mg
 blt:∃ mb,base.Ns builtinsNs mb∧∀ x:Str,x≠"__name__"→mb x=bootBuiltins x
 nolimit:base.NoLimit
structure Cx where
 prog:Program
 w:World
 K:PySem.W.Frag
 mg:Str→Option Value
 base:Heap
 A:Around
 N:List Str
 s₀:Shared
 H₀:Hp
 env:Env
 outer:List Env
 stack:List Env
 ex:List Addr
 fn:Str→Bool
 calm:Bool
 pn:List (Addr×Obj)
 xe:Value→Shared→Prop
noncomputable def frs (l:List Env):List Addr:=l.filterMap (·.frame)
noncomputable abbrev Cx.fs (X:Cx):List Addr:=frs X.outer
noncomputable def Vis (sc:Scope) (x:Str):Prop:=sc.names.lookup x=some .local∨sc.names.lookup x=some .cell∨sc.names.lookup x=some .free
noncomputable def Loc (sc:Scope) (x:Str):Prop:=sc.names.lookup x=some .local∨sc.names.lookup x=some .cell
noncomputable def Look (env:Env) (h:Heap) (m:Str→Option Value) (x:Str) (u:Value):Prop:=
 (env.kindOf x=some .local∧m x=some u)∨((env.kindOf x=some .cell∨env.kindOf x=some .free)∧∃ c,env.cells.lookup x=some c∧h.IsCell c (some u))
structure Cx.Ok (X:Cx):Prop where
 mod:Mod X.K X.mg X.base
 kind:X.env.scope.kind= .function
 glob:X.env.globals=mainGlobals
 blt:X.env.builtins=builtinsNs
 above:X.s₀.heap.objs.size≤X.env.locals
 inj:∀ x y c,X.env.cells.lookup x=some c→X.env.cells.lookup y=some c→x=y
 has:∀ x,(X.env.kindOf x=some .cell∨X.env.kindOf x=some .free)→∃ c,X.env.cells.lookup x=some c
 cab:∀ x c,X.fn x=true→X.env.cells.lookup x=some c→X.s₀.heap.objs.size≤c
 hd:X.calm=true→X.A.handled=none
 frames:X.A.frames=some X.stack
 stk:X.stack=X.outer∨(X.stack=X.env::X.outer∧X.env.frame=some X.env.locals)
 exf:∀ b∈X.ex,b≠X.env.locals∧∀ x c,X.env.cells.lookup x=some c→c≠b
 bs:∀ b o,X.base.get? b=some o→X.s₀.heap.get? b=some o∧X.H₀ b=none
 bsz:X.base.objs.size≤X.s₀.heap.objs.size
 noex:∀ b o,X.base.get? b=some o→b∉X.ex
 exfs:∀ b∈X.ex,b∉X.fs
 funs:X.s₀.heap.FunFrames X.base X.outer
 frf:∀ b∈X.fs,X.H₀ b=none
structure Inv (X:Cx) (pins:List (Addr×Obj)) (σ:List (Option V)) (H:Hp) (s:Shared):Prop where
 ok:X.Ok
 os:s.os=X.s₀.os
 bare:AllBare s.gens
 base:Un X.fs X.ex X.H₀ H X.s₀.heap s.heap
 loc:∃ m,s.heap.Ns X.env.locals m∧∀ (i:Nat) (x:Str) (v:V),X.N[i]? =some x→σ[i]? =some (some v)→Vis X.env.scope x→∃ u,RelV v u∧Look X.env s.heap m x u
 cell:∀ x c,X.env.cells.lookup x=some c→∃ v,s.heap.IsCell c v
 free:H X.env.locals=none
 freeC:∀ x c,X.env.cells.lookup x=some c→H c=none
 pin:∀ p∈X.pn++pins,s.heap.get? p.1=some p.2∧H p.1=none∧p.1≠X.env.locals∧p.1∉X.fs∧∀ v,p.2.data≠.cell v
 hok:HOk X.prog X.w H s.heap
 len:σ.length=X.N.length
section
variable {X:Cx} {pins:List (Addr×Obj)} {σ:List (Option V)} {H H':Hp} {s:Shared} {h':Heap}
theorem Cx.Ok.nofr (ok:X.Ok) {b:Addr} {o:Obj} (e:X.base.get? b=some o):b∉X.fs:=fun hb=>by
 have:=(ok.funs.mem hb).1
 rw [e] at this;cases this
theorem Inv.bs (I:Inv X pins σ H s):∀ b o,X.base.get? b=some o→s.heap.get? b=some o∧H b=none:=fun b o e=>
 ⟨I.base.keep b o (I.ok.bs b o e).1 (I.ok.bs b o e).2 (I.ok.nofr e) (I.ok.noex b o e),I.base.free b o (I.ok.bs b o e).1 (I.ok.bs b o e).2 (I.ok.noex b o e)⟩
theorem Inv.bk (I:Inv X pins σ H s):∀ b o,X.base.get? b=some o→s.heap.get? b=some o:=fun b o e=>(I.bs b o e).1
theorem Inv.mod (I:Inv X pins σ H s):Mod X.K X.mg X.base:=I.ok.mod
theorem Inv.kIn (I:Inv X pins σ H s):X.K.In s.heap:=I.ok.mod.kin.keeps I.bk
theorem Inv.lt (I:Inv X pins σ H s):X.env.locals < s.heap.objs.size:=let ⟨_,hn,_⟩:=I.loc;hn.lt
theorem Inv.sz (I:Inv X pins σ H s):X.s₀.heap.objs.size≤s.heap.objs.size:=Nat.le_trans I.ok.above (Nat.le_of_lt I.lt)
theorem Inv.nofs (I:Inv X pins σ H s) {a:Addr} (h:s.heap.objs.size≤a):a∉X.fs:=fun hb=>by
 obtain ⟨_,o,ho,_⟩:=I.ok.funs.mem hb
 exact absurd (Nat.lt_of_lt_of_le (Heap.lt_size ho) (Nat.le_trans I.sz h)) (Nat.lt_irrefl _)
theorem Inv.cne (I:Inv X pins σ H s):∀ x c,X.env.cells.lookup x=some c→c≠X.env.locals:=fun x c e z=>by
 obtain ⟨v,o,ho,hd⟩:=I.cell x c e
 obtain ⟨m,⟨o',es,ep,ho',hd',_⟩,_⟩:=I.loc
 rw [z,ho'] at ho;cases ho;rw [hd'] at hd;cases hd
theorem Inv.funs (I:Inv X pins σ H s):s.heap.FunFrames X.base X.outer:=by
 have all:∀ (l:List Env),(∀ b∈frs l,b∈X.fs)→X.s₀.heap.FunFrames X.base l→s.heap.FunFrames X.base l:=by
  intro l
  induction l with
  | nil=>intro _ _;trivial
  | cons env r ih=>
    intro hs hl
    obtain ⟨hk,⟨L,o,hf,hn,ho,hd⟩,hr⟩:=hl
    have hL:L∈X.fs:=hs L (by unfold frs;rw [List.filterMap_cons,hf];exact List.mem_cons_self)
    obtain ⟨sl,e⟩:=I.base.slot L o ho (I.ok.frf L hL) hL fun z=>I.ok.exfs L z hL
    exact ⟨hk,⟨L,_,hf,hn,e,hd⟩,ih (fun b hb=>hs b (by unfold frs;rw [List.filterMap_cons,hf];exact List.mem_cons_of_mem _ hb)) hr⟩
 exact all X.outer (fun _ hb=>hb) I.ok.funs
theorem Inv.stack (I:Inv X pins σ H s):s.heap.FunFrames X.base X.stack:=by
 rcases I.ok.stk with e | ⟨e,hf⟩
 ·rw [e];exact I.funs
 ·rw [e]
  obtain ⟨m,hn,_⟩:=I.loc
  refine .cons (by rw [I.ok.kind];decide) hf hn ?_ I.funs
  exact Heap.get?_none_of_le (Nat.le_trans I.ok.bsz I.ok.above)
theorem Inv.stkSub (I:Inv X pins σ H s):∀ b∈frs X.stack,b∈X.env.locals::X.fs:=fun b hb=>by
 rcases I.ok.stk with e | ⟨e,hf⟩
 ·rw [e] at hb;exact List.mem_cons_of_mem _ hb
 ·rw [e] at hb
  unfold frs at hb
  rw [List.filterMap_cons,hf] at hb
  exact hb
theorem Inv.stkFree (I:Inv X pins σ H s):∀ b∈frs X.stack,H b=none:=fun b hb=>by
 rcases List.mem_cons.mp (I.stkSub b hb) with e | hb
 ·rw [e];exact I.free
 ·obtain ⟨_,o,ho,_⟩:=I.ok.funs.mem hb
  exact I.base.free b o ho (I.ok.frf b hb) fun z=>I.ok.exfs b z hb
theorem Inv.step {g':Array GenState} {t':Nat} {d':Drawn} {ch:List Addr} (I:Inv X pins σ H s)
  (hch:∀ b∈ch,(b∈X.ex∨X.s₀.heap.objs.size≤b)∧b≠X.env.locals∧(∀ x c,X.env.cells.lookup x=some c→c≠b)∧∀ p∈X.pn++pins,p.1≠b)
  (keep:∀ b o,b≠X.env.locals→b∉X.fs→b∉ch→s.heap.get? b=some o→H b=none→h'.get? b=some o)
  (slot:∀ b o,b≠X.env.locals→b∈X.fs→b∉ch→s.heap.get? b=some o→H b=none→∃ sl,h'.get? b=some {o with slots:=sl}) (free:∀ b o,b∉ch→s.heap.get? b=some o→H b=none→H' b=none)
  (there:∀ b o,b∉ch→s.heap.get? b=some o→∃ o',h'.get? b=some o')
  (tups:∀ b xs,H b=some (.tup xs)→H' b=some (.tup xs)) (frzs:∀ b o u,H b=some (.frz o u)→H' b=some (.frz o u)) (tbls:∀ b ps,H b=some (.tbl ps)→∃ more,H' b=some (.tbl (ps++more)))
  (ns:∀ m,s.heap.Ns X.env.locals m→h'.Ns X.env.locals m) (hok:HOk X.prog X.w H' h') (hg:AllBare g'):
  Inv X pins σ H' {s with heap:=h',gens:=g',drawn:=d',toks:=t'}:=by
 have neL:∀ b o,X.s₀.heap.get? b=some o→b≠X.env.locals:=fun b o e=>Nat.ne_of_lt (Nat.lt_of_lt_of_le (Heap.lt_size e) I.ok.above)
 have neC:∀ b o,X.s₀.heap.get? b=some o→b∉X.ex→b∉ch:=fun b o e hx hb=>by
  rcases (hch b hb).1 with z | z
  ·exact hx z
  ·exact absurd (Nat.lt_of_lt_of_le (Heap.lt_size e) z) (Nat.lt_irrefl _)
 have cellK:∀ x c,X.env.cells.lookup x=some c→∀ v,s.heap.IsCell c v→h'.IsCell c v:=fun x c e v ⟨o,ho,hd⟩=>by
  have nch:c∉ch:=fun z=>(hch c z).2.2.1 x c e rfl
  by_cases hc:c∈X.fs
  ·obtain ⟨sl,q⟩:=slot c o (I.cne x c e) hc nch ho (I.freeC x c e)
   exact ⟨_,q,hd⟩
  ·exact ⟨o,keep c o (I.cne x c e) hc nch ho (I.freeC x c e),hd⟩
 refine ⟨I.ok,I.os,hg,⟨fun b o e n hb hx=>?_,fun b o e n hb hx=>?_,fun b o e n hx=>?_,fun b o e hx=>?_,fun b xs e=>tups b xs (I.base.tups b xs e),fun b o xs e=>frzs b o xs (I.base.frzs b o xs e),fun b ps e=>?_⟩,?_,fun x c e=>?_,?_,fun x c e=>?_,fun p hp=>?_,hok,I.len⟩
 ·exact keep b o (neL b o e) hb (neC b o e hx) (I.base.keep b o e n hb hx) (I.base.free b o e n hx)
 ·obtain ⟨sl,e1⟩:=I.base.slot b o e n hb hx
  obtain ⟨sl',e2⟩:=slot b _ (neL b o e) hb (neC b o e hx) e1 (I.base.free b o e n hx)
  exact ⟨sl',e2⟩
 ·obtain ⟨o',e1⟩:=I.base.there b o e hx
  exact free b o' (neC b o e hx) e1 (I.base.free b o e n hx)
 ·obtain ⟨o',e1⟩:=I.base.there b o e hx
  exact there b o' (neC b o e hx) e1
 ·obtain ⟨m1,e1⟩:=I.base.tbls b ps e
  obtain ⟨m2,e2⟩:=tbls b _ e1
  exact ⟨m1++m2,by rw [e2,Array.append_assoc]⟩
 ·obtain ⟨m,hn,hl⟩:=I.loc
  refine ⟨m,ns m hn,fun i x v e1 e2 e3=>?_⟩
  obtain ⟨u,r,l⟩:=hl i x v e1 e2 e3
  refine ⟨u,r,?_⟩
  rcases l with l | ⟨k,c,e,z⟩
  ·exact .inl l
  ·exact .inr ⟨k,c,e,cellK x c e _ z⟩
 ·obtain ⟨v,z⟩:=I.cell x c e
  exact ⟨v,cellK x c e v z⟩
 ·obtain ⟨m,⟨o,_,_,ho,_⟩,_⟩:=I.loc
  exact free _ o (fun z=>(hch _ z).2.1 rfl) ho I.free
 ·obtain ⟨v,o,ho,hd⟩:=I.cell x c e
  exact free c o (fun z=>(hch c z).2.2.1 x c e rfl) ho (I.freeC x c e)
 ·obtain ⟨e,n,ne,nf,d⟩:=I.pin p hp
  have nch:p.1∉ch:=fun z=>(hch p.1 z).2.2.2 p hp rfl
  exact ⟨keep p.1 p.2 ne nf nch e n,free p.1 p.2 nch e n,ne,nf,d⟩
theorem Inv.un {t':Nat} (I:Inv X pins σ H s) (u:Un X.fs [] H H' s.heap h') (hok:HOk X.prog X.w H' h'):Inv X pins σ H' {s with heap:=h',toks:=t'}:=by
 obtain ⟨m,⟨o,es,ep,ho,r⟩,_⟩:=id I.loc
 obtain ⟨sl,hL⟩:=u.any ho I.free (by simp)
 exact I.step (g':=s.gens) (d':=s.drawn) (ch:=[]) (fun _ z=>nomatch z) (fun b o _ hb _ e n=>u.keep b o e n hb (by simp)) (fun b o _ hb _ e n=>u.slot b o e n hb (by simp)) (fun b o _ e n=>u.free b o e n (by simp)) (fun b o _ e=>u.there b o e (by simp)) u.tups u.frzs u.tbls (fun m' hm=>by
  obtain ⟨o',es',ep',ho',r'⟩:=hm
  rw [ho] at ho';cases ho'
  exact ⟨_,es',ep',hL,r'⟩) hok I.bare
theorem Inv.call {g':Array GenState} {t':Nat} {d':Drawn} {ch:List Addr} (I:Inv X pins σ H s) (u:Un (frs X.stack) ch H H' s.heap h') (hok:HOk X.prog X.w H' h') (hg:AllBare g')
  (hch:∀ b∈ch,(b∈X.ex∨X.s₀.heap.objs.size≤b)∧b≠X.env.locals∧(∀ x c,X.env.cells.lookup x=some c→c≠b)∧∀ p∈X.pn++pins,p.1≠b):
  Inv X pins σ H' {s with heap:=h',gens:=g',drawn:=d',toks:=t'}:=by
 obtain ⟨m,⟨o,es,ep,ho,r⟩,_⟩:=id I.loc
 obtain ⟨sl,hL⟩:=u.any ho I.free fun z=>(hch _ z).2.1 rfl
 exact I.step (ch:=ch) hch (fun b o hL hb hc e n=>u.keep b o e n (fun z=>(List.mem_cons.mp (I.stkSub b z)).elim hL hb) hc) (fun b o _ _ hc e n=>u.any e n hc) (fun b o hc e n=>u.free b o e n hc) (fun b o hc e=>u.there b o e hc) u.tups u.frzs u.tbls (fun m' hm=>by
  obtain ⟨o',es',ep',ho',r'⟩:=hm
  rw [ho] at ho';cases ho'
  exact ⟨_,es',ep',hL,r'⟩) hok hg
theorem Inv.turned {t':Nat} {it:Addr} (I:Inv X pins σ H s) (k:∀ b o,b≠it→s.heap.get? b=some o→h'.get? b=some o) (hn:H it=none) (hL:it≠X.env.locals)
  (h1:it∈X.ex∨X.s₀.heap.objs.size≤it) (h2:∀ x c,X.env.cells.lookup x=some c→c≠it) (h3:∀ p∈X.pn++pins,p.1≠it):Inv X pins σ H {s with heap:=h',toks:=t'}:=by
 have nit:∀ b u,H b=some u→b≠it:=fun b u e z=>by rw [z,hn] at e;cases e
 refine I.step (g':=s.gens) (d':=s.drawn) (ch:=[it]) (fun b hb=>?_) (fun b o _ _ hc e _=>k b o (fun z=>hc (by simp [z])) e) (fun b o _ _ hc e _=>⟨o.slots,k b o (fun z=>hc (by simp [z])) e⟩) (fun _ _ _ _ n=>n)
  (fun b o hc e=>⟨o,k b o (fun z=>hc (by simp [z])) e⟩) (fun _ _ e=>e) (fun _ _ _ e=>e) (fun b ps e=>⟨#[],by rw [e];simp⟩) (fun m hm=>?_) (fun b u e=>?_) I.bare
 ·have e:b=it:=by simpa using hb
  subst e
  exact ⟨h1,hL,h2,h3⟩
 ·obtain ⟨o,es,ep,ho,r⟩:=hm
  exact ⟨o,es,ep,k _ o (Ne.symm hL) ho,r⟩
 ·refine (I.hok b u e).stay (fun c v hc q=>k c v ?_ q) (fun _ q=>q) fun _ _ q=>q
  rcases hc with z | z
  ·rw [z];exact nit b u e
  ·exact nit c _ z
theorem Inv.tok (I:Inv X pins σ H s) (t:Nat):Inv X pins σ H {s with toks:=t}:=I.un (h':=s.heap) (t':=t) Un.refl I.hok
theorem Inv.kept {t':Nat} (I:Inv X pins σ H s) (k:∀ b u,s.heap.get? b=some u→h'.get? b=some u):Inv X pins σ H {s with heap:=h',toks:=t'}:=I.un (Un.kept k) (I.hok.kept k)
theorem Inv.laid {a:Addr} {o:HO} {t':Nat} (I:Inv X pins σ H s) (k:∀ b u,s.heap.get? b=some u→h'.get? b=some u) (hp:s.heap.objs.size≤a) (new:cj X.prog X.w (upd H a o) h' a o):
  Inv X pins σ (upd H a o) {s with heap:=h',toks:=t'}:=I.un (Un.laid k hp (I.hok.fresh hp)) (I.hok.laid k hp new)
theorem Inv.write {x e:Addr} {o:HO} {t':Nat} (I:Inv X pins σ H s) (mu:Mut (H x)) (he:e=x∨H e=some (.own x)) (k:∀ b u,b≠e→s.heap.get? b=some u→h'.get? b=some u) (heo:∃ u,h'.get? e=some u)
  (new:cj X.prog X.w (upd H x o) h' x o):Inv X pins σ (upd H x o) {s with heap:=h',toks:=t'}:=I.un (Un.write mu he k heo) (I.hok.write mu he k heo new)
theorem Inv.weak {σ':List (Option V)} (I:Inv X pins σ H s) (hl:σ'.length=σ.length) (w:∀ (i:Nat) v,σ'[i]? =some (some v)→σ[i]? =some (some v)):Inv X pins σ' H s:=
 ⟨I.ok,I.os,I.bare,I.base,let ⟨m,hn,hl'⟩:=I.loc;⟨m,hn,fun i x v e1 e2 e3=>hl' i x v e1 (w i v e2) e3⟩,I.cell,I.free,I.freeC,I.pin,I.hok,hl.trans I.len⟩
theorem Inv.pins_of {pins':List (Addr×Obj)} (I:Inv X pins σ H s) (h:∀ p∈pins',s.heap.get? p.1=some p.2∧H p.1=none∧p.1≠X.env.locals∧p.1∉X.fs∧∀ v,p.2.data≠.cell v):Inv X pins' σ H s:=
 ⟨I.ok,I.os,I.bare,I.base,I.loc,I.cell,I.free,I.freeC,fun p hp=>(List.mem_append.mp hp).elim (fun z=>I.pin p (List.mem_append_left _ z)) (h p),I.hok,I.len⟩
theorem lG {N:List Str} (hN:N.Nodup) {i j:Nat} {x:Str} (a:N[i]? =some x) (b:N[j]? =some x):i=j:=by
 obtain ⟨h1,e1⟩:=List.getElem?_eq_some_iff.mp a
 obtain ⟨h2,e2⟩:=List.getElem?_eq_some_iff.mp b
 exact (List.getElem_inj hN).mp (e1.trans e2.symm)
theorem jg {M:Model} {A:Around} {E:Value→Shared→Prop} {i:Nat} {x:Str} {v:V} {u:Value} {Q:Unit→Shared→Prop} (I:Inv X pins σ H s) (hN:X.N.Nodup) (hi:X.N[i]? =some x) (hx:Loc X.env.scope x) (r:RelV v u)
  (h:∀ s',Inv X pins (σ.set i (some v)) H s'→(∃ a,Heap.SameBut a s.heap s'.heap∧(a=X.env.locals∨X.env.cells.lookup x=some a))→Q () s') (hf:X.fn x=true∨X.env.scope.names.lookup x=some .local:=by first | exact .inl rfl | exact .inr rfl | assumption):wpAny M A (storeName X.env x u) Q E s:=by
 obtain ⟨m,hn,hl⟩:=id I.loc
 have hcls:(X.env.scope.kind == .class||(X.env.scope.kind == .module&&X.env.locals != X.env.globals))=false:=by rw [I.ok.kind];rfl
 have hiσ:i < σ.length:=by rw [I.len];exact (List.getElem?_eq_some_iff.mp hi).1
 have cne:=I.cne
 have tracked:∀ {a:Addr} {h':Heap},(∃ o,s.heap.get? a=some o∧H a=none)→Heap.SameBut a s.heap h'→HOk X.prog X.w H h':=fun {a h'} ha hs b ob e=>by
  obtain ⟨_,_,hfree⟩:=ha
  refine (I.hok b ob e).stay (fun c w' hc q=>(hs.2 c ?_).trans q) (fun _ q=>q) fun _ _ q=>q
  rintro rfl
  rcases hc with rfl | hc
  ·rw [hfree] at e;cases e
  ·rw [hfree] at hc;cases hc
 rcases hx with hk | hk
 ·refine wpAny_storeName_local hk hn (fun h' hn' hs=>?_) hcls
  obtain ⟨oL,_,_,hoL,_⟩:=id hn
  refine h _ ⟨I.ok,I.os,I.bare,⟨fun b o e n hb hx=>?_,fun b o e n hb hx=>?_,I.base.free,fun b o e hx=>?_,I.base.tups,I.base.frzs,I.base.tbls⟩,⟨_,hn',fun j y v' e1 e2 e3=>?_⟩,fun y c e=>?_,I.free,I.freeC,fun p hp=>?_,tracked ⟨oL,hoL,I.free⟩ hs,by simpa using I.len⟩ ⟨_,hs,.inl rfl⟩
  ·exact (hs.2 b (Nat.ne_of_lt (Nat.lt_of_lt_of_le (Heap.lt_size e) I.ok.above))).trans (I.base.keep b o e n hb hx)
  ·obtain ⟨sl,e1⟩:=I.base.slot b o e n hb hx
   exact ⟨sl,(hs.2 b (Nat.ne_of_lt (Nat.lt_of_lt_of_le (Heap.lt_size e) I.ok.above))).trans e1⟩
  ·obtain ⟨o',e1⟩:=I.base.there b o e hx
   exact ⟨o',(hs.2 b (Nat.ne_of_lt (Nat.lt_of_lt_of_le (Heap.lt_size e) I.ok.above))).trans e1⟩
  ·by_cases hj:j=i
   ·subst hj
    rw [hi] at e1;cases e1
    rw [List.getElem?_set_self hiσ] at e2
    cases e2
    exact ⟨u,r,.inl ⟨hk,by simp⟩⟩
   ·rw [List.getElem?_set_ne (Ne.symm hj)] at e2
    obtain ⟨u',r',q⟩:=hl j y v' e1 e2 e3
    refine ⟨u',r',?_⟩
    rcases q with ⟨k,e⟩ | ⟨k,c,e,z⟩
    ·refine .inl ⟨k,?_⟩
     have:y≠x:=fun e=>hj (lG hN e1 (e ▸ hi))
     simp [this,e]
    ·exact .inr ⟨k,c,e,z.sameBut hs (cne y c e)⟩
  ·obtain ⟨w',z⟩:=I.cell y c e
   exact ⟨w',z.sameBut hs (cne y c e)⟩
  ·obtain ⟨e,n,ne,nf,d⟩:=I.pin p hp
   exact ⟨(hs.2 p.1 ne).trans e,n,ne,nf,d⟩
 ·have hfn:X.fn x=true:=by
   rcases hf with z | z
   ·exact z
   ·rw [z] at hk;cases hk
  obtain ⟨c,hc⟩:=I.ok.has x (.inl hk)
  obtain ⟨w',z⟩:=I.cell x c hc
  refine wpAny_storeName_cell I.ok.kind hk hc z (fun h' hc' hs=>?_)
  obtain ⟨oc,hoc,hocd⟩:=id z
  refine h {s with heap:=h'} ⟨I.ok,I.os,I.bare,⟨fun b o e n hb hx=>?_,fun b o e n hb hx=>?_,I.base.free,fun b o e hx=>?_,I.base.tups,I.base.frzs,I.base.tbls⟩,⟨m,hn.sameBut hs (Ne.symm (cne x c hc)),fun j y v' e1 e2 e3=>?_⟩,fun y c' e=>?_,I.free,I.freeC,fun p hp=>?_,tracked ⟨oc,hoc,I.freeC x c hc⟩ hs,by simpa using I.len⟩ ⟨c,hs,.inr hc⟩
  ·exact (hs.2 b (Nat.ne_of_lt (Nat.lt_of_lt_of_le (Heap.lt_size e) (I.ok.cab x c hfn hc)))).trans (I.base.keep b o e n hb hx)
  ·obtain ⟨sl,e1⟩:=I.base.slot b o e n hb hx
   exact ⟨sl,(hs.2 b (Nat.ne_of_lt (Nat.lt_of_lt_of_le (Heap.lt_size e) (I.ok.cab x c hfn hc)))).trans e1⟩
  ·obtain ⟨o',e1⟩:=I.base.there b o e hx
   exact ⟨o',(hs.2 b (Nat.ne_of_lt (Nat.lt_of_lt_of_le (Heap.lt_size e) (I.ok.cab x c hfn hc)))).trans e1⟩
  ·by_cases hj:j=i
   ·subst hj
    rw [hi] at e1;cases e1
    rw [List.getElem?_set_self hiσ] at e2
    cases e2
    exact ⟨u,r,.inr ⟨.inl hk,c,hc,hc'⟩⟩
   ·rw [List.getElem?_set_ne (Ne.symm hj)] at e2
    obtain ⟨u',r',q⟩:=hl j y v' e1 e2 e3
    refine ⟨u',r',?_⟩
    rcases q with q | ⟨k,c',e,z'⟩
    ·exact .inl q
    ·refine .inr ⟨k,c',e,z'.sameBut hs ?_⟩
     rintro rfl
     exact hj (lG hN e1 (I.ok.inj _ _ _ e hc ▸ hi))
  ·by_cases hcc:c'=c
   ·subst hcc;exact ⟨_,hc'⟩
   ·obtain ⟨w2,z2⟩:=I.cell y c' e
    exact ⟨w2,z2.sameBut hs hcc⟩
  ·obtain ⟨e,n,ne,nf,d⟩:=I.pin p hp
   refine ⟨(hs.2 p.1 ?_).trans e,n,ne,nf,d⟩
   intro q
   rw [q,hoc] at e
   have q':oc=p.2:=Option.some.inj e
   exact d w' (by rw [← q'];exact hocd)
theorem lh {M:Model} {A:Around} {E:Value→Shared→Prop} {i:Nat} {x:Str} {v:V} {u:Value} {Q:Unit→Shared→Prop} (I:Inv X pins σ H s) (hN:X.N.Nodup) (hi:X.N[i]? =some x) (hx:Loc X.env.scope x) (r:RelV v u)
  (h:∀ s',Inv X pins (σ.set i (some v)) H s'→Q () s') (hf:X.fn x=true∨X.env.scope.names.lookup x=some .local:=by first | exact .inl rfl | exact .inr rfl | assumption):wpAny M A (storeName X.env x u) Q E s:=
 jg I hN hi hx r (fun s' I' _=>h s' I') hf
end
noncomputable abbrev XK:=Value→Option Addr→Hp→Prop
noncomputable abbrev St:=List (Option V)
noncomputable abbrev VK:=V→Hp→Prop
noncomputable abbrev TE:=St→Hp→VK→Prop
noncomputable abbrev TT:=St→Hp→(Bool→Hp→Prop)→Prop
noncomputable abbrev TA:=St→Hp→(List V→Hp→Prop)→Prop
structure Ends where
 nx:St→Hp→Prop
 rt:VK
 bk:St→Hp→Prop:=fun _ _=>False
 ct:St→Hp→Prop:=fun _ _=>False
noncomputable abbrev TS:=Ends→St→Hp→Prop
noncomputable def EP (X:Cx) (pins:List (Addr×Obj)) (σ:St) (Q:VK) (u:Value) (s':Shared):Prop:=∃ v H',Inv X pins σ H' s'∧RelV v u∧Q v H'
noncomputable def TP (X:Cx) (pins:List (Addr×Obj)) (σ:St) (Q:Bool→Hp→Prop) (b:Bool) (s':Shared):Prop:=∃ H',Inv X pins σ H' s'∧Q b H'
noncomputable def AP (X:Cx) (pins:List (Addr×Obj)) (σ:St) (Q:List V→Hp→Prop) (us:List Value) (s':Shared):Prop:=∃ vs H',Inv X pins σ H' s'∧Vals vs us∧Q vs H'
noncomputable def SP (X:Cx) (pins:List (Addr×Obj)) (D:Ends) (f:Flow) (s':Shared):Prop:=
 match f with
 | .next=>∃ σ' H',Inv X pins σ' H' s'∧D.nx σ' H'
 | .brk=>∃ σ' H',Inv X pins σ' H' s'∧D.bk σ' H'
 | .cont=>∃ σ' H',Inv X pins σ' H' s'∧D.ct σ' H'
 | .ret u=>∃ v σ' H',Inv X pins σ' H' s'∧RelV v u∧D.rt v H'
noncomputable def PE (X:Cx) (e:Expr) (t:TE):Prop:=
 ∀ (pins:List (Addr×Obj)) (s:Shared) (σ:St) (H:Hp) (Q:VK),Inv X pins σ H s→t σ H Q→wpAny (model X.prog X.w) X.A (eval e X.env) (EP X pins σ Q) X.xe s
noncomputable def PT (X:Cx) (e:Expr) (t:TT):Prop:=
 ∀ (pins:List (Addr×Obj)) (s:Shared) (σ:St) (H:Hp) (Q:Bool→Hp→Prop),Inv X pins σ H s→t σ H Q→wpAny (model X.prog X.w) X.A (isTrue e X.env (eval e X.env)) (TP X pins σ Q) X.xe s
noncomputable def PW (X:Cx) (e:Expr) (t:TT):Prop:=
 ∀ (whole:Sem Value) (pins:List (Addr×Obj)) (s:Shared) (σ:St) (H:Hp) (Q:Bool→Hp→Prop),Inv X pins σ H s→t σ H Q→wpAny (model X.prog X.w) X.A (isTrue e X.env whole) (TP X pins σ Q) X.xe s
theorem PW.pt {X:Cx} {e:Expr} {t:TT} (h:PW X e t):PT X e t:=h _
noncomputable def PA (X:Cx) (es:List Expr) (t:TA):Prop:=
 ∀ (pos:Pos) (pins:List (Addr×Obj)) (s:Shared) (σ:St) (H:Hp) (Q:List V→Hp→Prop),Inv X pins σ H s→t σ H Q→wpAny (model X.prog X.w) X.A (spliced (backTo pos (starEach es X.env))) (AP X pins σ Q) X.xe s
noncomputable def PS (X:Cx) (st:Stmt) (t:TS):Prop:=
 ∀ (pins:List (Addr×Obj)) (s:Shared) (σ:St) (H:Hp) (D:Ends),Inv X pins σ H s→t D σ H→wpAny (model X.prog X.w) X.A (exec st X.env) (SP X pins D) X.xe s
noncomputable def PSs (X:Cx) (st:List Stmt) (t:TS):Prop:=
 ∀ (pins:List (Addr×Obj)) (s:Shared) (σ:St) (H:Hp) (D:Ends),Inv X pins σ H s→t D σ H→wpAny (model X.prog X.w) X.A (execs st X.env) (SP X pins D) X.xe s
theorem thn {α:Type} {t:Sem α} {Q Q':α→Shared→Prop} {M:Model} {A:Around} {E:Value→Shared→Prop} {s:Shared} (h:wpAny M A t Q E s) (hQ:∀ a s,Q a s→Q' a s):wpAny M A t Q' E s:=wpAny_mono h hQ fun _ _ x=>x
section
variable {X:Cx}
noncomputable def tVar (i:Nat):TE:=fun σ H Q=>∃ v,σ[i]? =some (some v)∧Q v H
noncomputable abbrev tC (v:V):TE:=fun _ H Q=>Q v H
theorem tD {i:Nat} {x:Str} {pos:Pos} (hN:X.N[i]? =some x) (hv:Vis X.env.scope x) (hd:(x == ("__debug__":Str))=false:=by decide) (hcd:(x == ("__classdict__":Str))=false:=by decide):PE X (.Name x pos) (tVar i):=by
 intro pins s σ H Q I h
 obtain ⟨v,e,h⟩:=h
 obtain ⟨m,hn,hl⟩:=I.loc
 obtain ⟨u,r,l⟩:=hl i x v hN e hv
 have fin:EP X pins σ Q u s:=⟨v,H,I,r,h⟩
 rcases l with ⟨hk,hm⟩ | ⟨hk,c,hc,hcell⟩
 ·exact wpAny_Name (wpAny_loadName_local I.ok.kind hk hn hm fin) hd
 ·rcases hk with hk | hk
  ·exact wpAny_Name (wpAny_loadName_cell I.ok.kind hk hc hcell fin) hd
  ·exact wpAny_Name (wpAny_loadName_free I.ok.kind hk hc hcell fin hcd) hd
theorem ae {i j pos}:PE X (.Constant (.int i) j pos) (tC (.int i)):=fun _ _ _ H _ I h=>wpAny_Constant_int ⟨.int i,H,I.tok _,⟨_,rfl⟩,h⟩
theorem jv {b j pos}:PE X (.Constant (.bool b) j pos) (tC (.bl b)):=fun _ _ _ H _ I h=>Constant_bool ⟨.bl b,H,I,rfl,h⟩
theorem ju {x j pos}:PE X (.Constant (.str x) j pos) (tC (.str x)):=fun _ _ _ H _ I h=>Calls.Constant_str ⟨.str x,H,I.tok _,⟨_,rfl⟩,h⟩
noncomputable def Gl (X:Cx) (x:Str):Prop:=X.env.kindOf x=some .globalImplicit
theorem nK {E:Value→Shared→Prop} {pins:List (Addr×Obj)} {s:Shared} {σ:St} {H:Hp} {x:Str} {u:Value} {pos:Pos} {Q:Value→Shared→Prop} (I:Inv X pins σ H s) (hg:Gl X x) (hm:X.mg x=some u) (h:Q u s)
  (hd:(x == ("__debug__":Str))=false:=by decide):wpAny (model X.prog X.w) X.A (eval (.Name x pos) X.env) Q E s:=
 Calls.Name_function_global I.ok.kind hg (Calls.loadGlobal_global (by rw [I.ok.glob];exact I.mod.glob.keeps I.bk) hm h) hd
theorem jG {E:Value→Shared→Prop} {pins:List (Addr×Obj)} {s:Shared} {σ:St} {H:Hp} {x:Str} {u:Value} {pos:Pos} {Q:Value→Shared→Prop} (I:Inv X pins σ H s) (hg:Gl X x) (hm:X.mg x=none) (hv:bootBuiltins x=some u) (h:Q u s)
  (hn:x≠"__name__":=by decide) (hd:(x == ("__debug__":Str))=false:=by decide):wpAny (model X.prog X.w) X.A (eval (.Name x pos) X.env) Q E s:=by
 obtain ⟨mb,h1,h2⟩:=I.mod.blt
 exact Calls.Name_function_global I.ok.kind hg (Calls.loadGlobal_builtin (by rw [I.ok.glob];exact I.mod.glob.keeps I.bk) hm (by rw [I.ok.blt];exact h1.keeps I.bk) ((h2 x hn).trans hv) h) hd
theorem eL {x:Str} {v:V} {u:Value} {pos:Pos} (hg:Gl X x) (hm:X.mg x=none) (hv:bootBuiltins x=some u) (r:RelV v u) (hn:x≠"__name__":=by decide) (hd:(x == ("__debug__":Str))=false:=by decide):PE X (.Name x pos) (tC v):=
 fun _ _ _ H _ I h=>jG I hg hm hv ⟨v,H,I,r,h⟩ hn hd
variable {a b:Expr} {ta tb:TE} {pos:Pos}
noncomputable def PC (X:Cx) (op:CmpOp) (a b:Expr) (t:TE):Prop:=
 ∀ (pins:List (Addr×Obj)) (s:Shared) (σ:St) (H:Hp) (Q:VK),Inv X pins σ H s→t σ H Q→
  wpAny (model X.prog X.w) X.A (eval a X.env) (fun v s₁=>wpAny (model X.prog X.w) X.A (eval b X.env) (fun u s₂=>wpAny (model X.prog X.w) X.A (compareOp op v u) (EP X pins σ Q) X.xe s₂) X.xe s₁) X.xe s
noncomputable abbrev tB (t:TE):TT:=fun σ H Q=>t σ H fun x H1=>∃ c,x= .bl c∧Q c H1
theorem tu {op:CmpOp} {t:TE} (h:PC X op a b t) (h1:behindInMarks op b=false:=by first | exact nobehind _ (by decide) (by decide) | rfl):PT X (.Compare a [op] [b] pos) (tB t):=by
 intro pins s σ H Q I hw
 refine wpAny_isTrue_Compare1 (thn (h pins s σ H _ I hw) fun v s1 h1=>thn h1 fun u s2 h2=>thn h2 fun c s3 ⟨x,H1,I1,r1,q1⟩=>?_) h1
 obtain ⟨d,rfl,q⟩:=q1
 cases r1
 exact wpAny_truthy_bool ⟨H1,I1,q⟩
theorem dW {e:Expr} {t:TE} (h:PE X e t) (he:∀ whole,isTrue e X.env whole=(do let v ← whole;standAt e.pos;holding [v] (truthy v)):=by intro _;rfl):PT X e (tB t):=by
 intro pins s σ H Q I hw
 refine isTrue_plain (thn (h pins s σ H _ I hw) fun v s1 ⟨x,H1,I1,r1,q1⟩=>?_) (he _)
 obtain ⟨d,rfl,q⟩:=q1
 cases r1
 exact wpAny_truthy_bool ⟨H1,I1,q⟩
variable {tA tB':TT} {rest:List Expr}
noncomputable abbrev tAnd (t u:TT):TT:=fun σ H Q=>t σ H fun c H1=>if c=true then u σ H1 Q else Q false H1
noncomputable abbrev tOr (t u:TT):TT:=fun σ H Q=>t σ H fun c H1=>if c=true then Q true H1 else u σ H1 Q
noncomputable abbrev tNot (t:TT):TT:=fun σ H Q=>t σ H fun c H1=>Q (!c) H1
theorem qT (ha:PT X a tA):PW X (.BoolOp .And [a] pos) tA:=by
 intro wh pins s σ H Q I h
 refine isTrue_and (thn (ha pins s σ H Q I h) fun c s1 e=>?_)
 cases c with
 | true=>exact isTrue_and_nil e
 | false=>exact e
theorem lB (ha:PT X a tA):PW X (.BoolOp .Or [a] pos) tA:=by
 intro wh pins s σ H Q I h
 refine isTrue_or (thn (ha pins s σ H Q I h) fun c s1 e=>?_)
 cases c with
 | false=>exact isTrue_or_nil e
 | true=>exact e
theorem tq (ha:PT X a tA) (hb:PW X (.BoolOp .And (b::rest) pos) tB'):PW X (.BoolOp .And (a::b::rest) pos) (tAnd tA tB'):=by
 intro wh pins s σ H Q I h
 refine isTrue_and (thn (ha pins s σ H _ I h) fun c s1 ⟨H1,I1,q1⟩=>?_)
 cases c with
 | true=>exact hb wh pins s1 σ H1 Q I1 q1
 | false=>exact ⟨H1,I1,q1⟩
theorem jm (ha:PT X a tA) (hb:PW X (.BoolOp .Or (b::rest) pos) tB'):PW X (.BoolOp .Or (a::b::rest) pos) (tOr tA tB'):=by
 intro wh pins s σ H Q I h
 refine isTrue_or (thn (ha pins s σ H _ I h) fun c s1 ⟨H1,I1,q1⟩=>?_)
 cases c with
 | true=>exact ⟨H1,I1,q1⟩
 | false=>exact hb wh pins s1 σ H1 Q I1 q1
theorem fq (ha:PT X a tA):PT X (.UnaryOp .Not a pos) (tNot tA):=by
 intro pins s σ H Q I h
 exact isTrue_not (ha pins s σ H (fun c H1=>Q (!c) H1) I h)
noncomputable abbrev uG (ta tb:TE):TE:=fun σ H Q=>ta σ H fun x H1=>∃ c,x= .bl c∧if c=true then tb σ H1 Q else Q (.bl false) H1
noncomputable abbrev uD (ta:TE):TE:=fun σ H Q=>ta σ H fun x H1=>∃ c,x= .bl c∧Q (.bl (!c)) H1
theorem p6 {op} {t:TE} (h:PE X a t):PE X (.BoolOp op [a] pos) t:=fun pins s σ H Q I hw=>BoolOp_one (h pins s σ H Q I hw)
theorem p7 (ha:PE X a ta) (hb:PE X (.BoolOp .And (b::rest) pos) tb):PE X (.BoolOp .And (a::b::rest) pos) (uG ta tb):=by
 intro pins s σ H Q I h
 refine BoolOp_and (thn (ha pins s σ H _ I h) fun v s1 ⟨x,H1,I1,r1,q1⟩=>?_)
 obtain ⟨c,rfl,q1⟩:=q1
 cases r1
 refine wpAny_truthy_bool ?_
 cases c with
 | true=>exact hb pins s1 σ H1 Q I1 q1
 | false=>exact ⟨.bl false,H1,I1,rfl,q1⟩
theorem tE (ha:PE X a ta):PE X (.UnaryOp .Not a pos) (uD ta):=by
 intro pins s σ H Q I h
 refine UnaryOp_ (thn (ha pins s σ H _ I h) fun v s1 ⟨x,H1,I1,r1,q1⟩=>?_)
 obtain ⟨c,rfl,q1⟩:=q1
 cases r1
 exact not_of (wpAny_truthy_bool ⟨.bl (!c),H1,I1,rfl,q1⟩)
end
noncomputable def SqL (K:PySem.W.Frag) (H:Hp) (a:Addr) (xs:List V):Prop:=
 Rd H a (.lst xs)∨
  ∃ (o:Obj) (its:Array Value) (n:Nat),K.lookup a=some o∧o.cls= .type "list"∧o.dict=none∧o.data= .seq its n∧its.size≤sizeLine∧Vals xs its.toList
noncomputable def SqT (K:PySem.W.Frag) (H:Hp) (a:Addr) (xs:List V):Prop:=
 Rd H a (.tup xs)∨
  ∃ (o:Obj) (its:Array Value) (n:Nat),K.lookup a=some o∧o.cls= .type "tuple"∧o.data= .seq its n∧its.size≤sizeLine∧Vals xs its.toList
noncomputable def absV:Value→Option V
 | .none=>some .non
 | .bool b=>some (.bl b)
 | .int i _=>some (.int i)
 | .str x _=>some (.str x)
 | .bytes b _=>some (.byt b)
 | .float b _=>some (.flt b)
 | .ref a=>some (.ref a)
 | .type n=>some (.ty n)
 | _=>none
theorem RelV.abs {x:V} {u:Value} (r:RelV x u):absV u=some x:=by
 cases x with
 | non=>cases r;rfl
 | bl _=>cases r;rfl
 | int _=>obtain ⟨t,rfl⟩:=r;rfl
 | str _=>obtain ⟨t,rfl⟩:=r;rfl
 | byt _=>obtain ⟨t,rfl⟩:=r;rfl
 | flt _=>obtain ⟨t,rfl⟩:=r;rfl
 | ref _=>cases r;rfl
 | ty _=>cases r;rfl
theorem RelV.inj {x y:V} {u:Value} (r:RelV x u) (q:RelV y u):x=y:=Option.some.inj (r.abs.symm.trans q.abs)
theorem Vals.inj:∀ {xs ys:List V} {us:List Value},Vals xs us→Vals ys us→xs=ys
 | _,_,_,.nil,.nil=>rfl
 | _,_,_,.cons r t,.cons r' t'=>by rw [r.inj r',Vals.inj t t']
section
variable {X:Cx} {pins:List (Addr×Obj)} {σ:St} {H:Hp} {s:Shared} {a:Addr} {xs ys:List V}
theorem SqL.of {K:PySem.W.Frag} (h:H a=some (.lst xs)):SqL K H a xs:= .inl (.inl h)
theorem SqT.of {K:PySem.W.Frag} (h:H a=some (.tup xs)):SqT K H a xs:= .inl (.inl h)
theorem Inv.list (I:Inv X pins σ H s) (h:SqL X.K H a xs):∃ its:List Value,Vals xs its∧PlainL s.heap a its.toArray∧xs.length≤sizeLine:=by
 rcases h with h | ⟨o,its,n,hk,hc,hd,hs,hz,r⟩
 ·obtain ⟨z,its,n,r,e⟩:=h.ok I.hok
  exact ⟨its,r,⟨_,n,e,rfl,rfl,rfl⟩,z⟩
 ·refine ⟨its.toList,r,⟨o,n,I.kIn a o hk,hc,hd,by simpa using hs⟩,?_⟩
  have e:=r.length
  simp only [Array.length_toList] at e
  omega
theorem Inv.tuple (I:Inv X pins σ H s) (h:SqT X.K H a xs):∃ its:List Value,Vals xs its∧IsTup s.heap a its.toArray∧xs.length≤sizeLine:=by
 rcases h with h | ⟨o,its,n,hk,hc,hs,hz,r⟩
 ·obtain ⟨z,its,r,p⟩:=h.ok I.hok
  exact ⟨its,r,p,z⟩
 ·refine ⟨its.toList,r,⟨o,I.kIn a o hk,hc,n,by simpa using hs⟩,?_⟩
  have e:=r.length
  simp only [Array.length_toList] at e
  omega
theorem Inv.list_inj (I:Inv X pins σ H s) (h:SqL X.K H a xs) (h':SqL X.K H a ys):xs=ys:=by
 obtain ⟨its,r,⟨o,n,e,_,_,d⟩,_⟩:=I.list h
 obtain ⟨its',r',⟨o',n',e',_,_,d'⟩,_⟩:=I.list h'
 rw [e] at e';cases e'
 rw [d] at d'
 injection d' with d1 _
 have:its=its':=by simpa using congrArg Array.toList d1
 subst this
 exact r.inj r'
end
noncomputable abbrev Cx.wish (X:Cx) (E:Value→Shared→Prop):Cx:={X with xe:=E}
noncomputable abbrev Cx.nox (X:Cx):Cx:=X.wish fun _ _=>False
theorem Cx.Ok.wish {X:Cx} (ok:X.Ok) (E:Value→Shared→Prop):(X.wish E).Ok:=
 ⟨ok.mod,ok.kind,ok.glob,ok.blt,ok.above,ok.inj,ok.has,ok.cab,ok.hd,ok.frames,ok.stk,ok.exf,ok.bs,ok.bsz,ok.noex,ok.exfs,ok.funs,ok.frf⟩
theorem Cx.Ok.unwish {X:Cx} {E:Value→Shared→Prop} (ok:(X.wish E).Ok):X.Ok:=
 ⟨ok.mod,ok.kind,ok.glob,ok.blt,ok.above,ok.inj,ok.has,ok.cab,ok.hd,ok.frames,ok.stk,ok.exf,ok.bs,ok.bsz,ok.noex,ok.exfs,ok.funs,ok.frf⟩
section
variable {X:Cx} {pins:List (Addr×Obj)} {σ:St} {H:Hp} {s:Shared} {E:Value→Shared→Prop}
theorem Inv.wish (I:Inv X pins σ H s) (E:Value→Shared→Prop):Inv (X.wish E) pins σ H s:=⟨I.ok.wish E,I.os,I.bare,I.base,I.loc,I.cell,I.free,I.freeC,I.pin,I.hok,I.len⟩
theorem Inv.unwish (I:Inv (X.wish E) pins σ H s):Inv X pins σ H s:=⟨I.ok.unwish,I.os,I.bare,I.base,I.loc,I.cell,I.free,I.freeC,I.pin,I.hok,I.len⟩
theorem SP.unwish {D:Ends} {f:Flow} {s':Shared} (h:SP (X.wish E) pins D f s'):SP X pins D f s':=by
 cases f with
 | next=>obtain ⟨σ',H',I,q⟩:=h;exact ⟨σ',H',I.unwish,q⟩
 | brk=>obtain ⟨σ',H',I,q⟩:=h;exact ⟨σ',H',I.unwish,q⟩
 | cont=>obtain ⟨σ',H',I,q⟩:=h;exact ⟨σ',H',I.unwish,q⟩
 | ret u=>obtain ⟨v,σ',H',I,r,q⟩:=h;exact ⟨v,σ',H',I.unwish,r,q⟩
theorem PSs.nox {st:List Stmt} {t:TS} (h:PSs X.nox st t):PSs X st t:=fun pins s σ H D I hw=>
 wpAny_mono (h pins s σ H D (I.wish _) hw) (fun _ _ q=>q.unwish) fun _ _ z=>False.elim z
end
section
variable {X:Cx} {st:Stmt} {rest:List Stmt} {t u:TS} {e:Expr} {te:TE} {pos:Pos}
noncomputable def sh:TS:=fun D σ H=>D.nx σ H
noncomputable def tSeq (t u:TS):TS:=fun D σ H=>t {D with nx:=u D} σ H
theorem bB:PSs X [] sh:=fun _ _ σ H _ I h=>wpAny_execs_nil ⟨σ,H,I,h⟩
theorem af (h1:PS X st t) (h2:PSs X rest u):PSs X (st::rest) (tSeq t u):=by
 intro pins s σ H D I h
 refine wpAny_execs_cons (thn (h1 pins s σ H {D with nx:=u D} I h) fun f s1 q=>?_)
 cases f with
 | next=>
   obtain ⟨σ',H',I',q⟩:=q
   exact h2 pins s1 σ' H' D I' q
 | ret v=>exact q
 | brk=>exact q
 | cont=>exact q
theorem aj (h1:PS X st t):PSs X [st] t:=by
 intro pins s σ H D I h
 refine wpAny_execs_cons (thn (h1 pins s σ H D I h) fun f s1 q=>?_)
 cases f with
 | next=>exact wpAny_execs_nil q
 | ret v=>exact q
 | brk=>exact q
 | cont=>exact q
theorem Inv.quiet {pins:List (Addr×Obj)} {σ:St} {H:Hp} {s:Shared} (I:Inv X pins σ H s):interactive X.env=false:=by simp [interactive,I.ok.kind]
noncomputable abbrev uE (te:TE):TS:=fun D σ H=>te σ H fun _ H1=>D.nx σ H1
theorem gC (he:PE X e te) (hs:swapsWith e none pos.line X.env=pure false:=by rfl):PS X (.Expr e pos) (uE te):=by
 intro pins s σ H D I h
 exact wpAny_Expr_any (thn (he pins s σ H _ I h) fun v s1 ⟨x,H1,I1,r1,q1⟩=>⟨σ,H1,I1,q1⟩) I.quiet hs
noncomputable abbrev tRet (te:TE):TS:=fun D σ H=>te σ H D.rt
theorem a9 (he:PE X e te):PS X (.Return (some e) pos) (tRet te):=by
 intro pins s σ H D I h
 exact wpAny_Return_some (thn (he pins s σ H _ I h) fun v s1 ⟨x,H1,I1,r1,q1⟩=>⟨x,σ,H1,I1,r1,q1⟩)
noncomputable abbrev tIfS (c:TT) (t u:TS):TS:=fun D σ H=>c σ H fun b H1=>if b=true then t D σ H1 else u D σ H1
theorem dE {c:Expr} {a b:List Stmt} {tc:TT} (hc:PT X c tc) (ha:PSs X a t) (hb:PSs X b u):PS X (.If c a b pos) (tIfS tc t u):=by
 intro pins s σ H D I h
 refine wpAny_If (thn (hc pins s σ H _ I h) fun d s1 ⟨H1,I1,q1⟩=>?_)
 cases d with
 | true=>exact ha pins s1 σ H1 D I1 q1
 | false=>exact hb pins s1 σ H1 D I1 q1
end
noncomputable abbrev TG:=V→St→Hp→(St→Hp→Prop)→Prop
noncomputable abbrev TGs:=List V→St→Hp→(St→Hp→Prop)→Prop
noncomputable def PG (X:Cx) (target:Expr) (t:TG):Prop:=
 ∀ (pins:List (Addr×Obj)) (s:Shared) (σ:St) (H:Hp) (v:V) (u:Value) (Q:St→Hp→Prop),Inv X pins σ H s→RelV v u→t v σ H Q→
  wpAny (model X.prog X.w) X.A (assign target X.env u) (fun _ s'=>∃ σ' H',Inv X pins σ' H' s'∧Q σ' H') X.xe s
noncomputable def PGs (X:Cx) (ts:List Expr) (t:TGs):Prop:=
 ∀ (pins:List (Addr×Obj)) (s:Shared) (σ:St) (H:Hp) (vs:List V) (us:List Value) (Q:St→Hp→Prop),Inv X pins σ H s→Vals vs us→t vs σ H Q→
  wpAny (model X.prog X.w) X.A (assignInOrder ((assignEach ts X.env).map (·.2)) us) (fun _ s'=>∃ σ' H',Inv X pins σ' H' s'∧Q σ' H') X.xe s
section
variable {X:Cx} {pos:Pos}
noncomputable def n4 (i:Nat):TG:=fun v σ H Q=>Q (σ.set i (some v)) H
theorem b3 {i:Nat} {x:Str} (hN:X.N.Nodup) (hi:X.N[i]? =some x) (hx:Loc X.env.scope x) (hf:X.fn x=true∨X.env.scope.names.lookup x=some .local:=by first | exact .inl rfl | exact .inr rfl | assumption):PG X (.Name x pos) (n4 i):=by
 intro pins s σ H v u Q I r h
 exact wpAny_assign_Name (lh I hN hi hx r (fun s' I'=>⟨_,H,I',h⟩) hf)
noncomputable def gNil:TGs:=fun vs σ H Q=>vs=[]∧Q σ H
noncomputable def uc (t:TG) (u:TGs):TGs:=fun vs σ H Q=>∃ v r,vs=v::r∧t v σ H fun σ' H'=>u r σ' H' Q
theorem nk:PGs X [] gNil:=by
 intro pins s σ H vs us Q I r h
 obtain ⟨e,h⟩:=h
 subst e
 cases r
 exact assignInOrder_nil ⟨σ,H,I,h⟩
theorem gm {e:Expr} {es:List Expr} {t:TG} {u:TGs} (h1:PG X e t) (h2:PGs X es u)
  (hs:(assignEach (e::es) X.env).map (·.2)=assign e X.env::(assignEach es X.env).map (·.2):=by rfl):PGs X (e::es) (uc t u):=by
 intro pins s σ H vs us Q I r h
 obtain ⟨v,vr,e1,h⟩:=h
 subst e1
 cases r with
 | cons r rr=>
   rw [hs]
   refine assignInOrder_cons (thn (h1 pins s σ H _ _ _ I r h) fun _ s1 ⟨σ1,H1,I1,q1⟩=>?_)
   exact h2 pins s1 σ1 H1 _ _ Q I1 rr q1
noncomputable def gTup (K:PySem.W.Frag) (n:Nat) (t:TGs):TG:=fun v σ H Q=>∃ a xs,v= .ref a∧SqT K H a xs∧xs.length=n∧t xs σ H Q
theorem p5 {es:List Expr} {k:Nat} {t:TGs} {n:Nat} (hc:X.calm=true) (h:PGs X es t)
  (hn:(assignEach es X.env).length=n:=by rfl) (hst:(assignEach es X.env).findIdx? (·.1)=none:=by rfl):PG X (.Tuple es k pos) (gTup X.K n t):=by
 intro pins s σ H v u Q I r hw
 obtain ⟨a,xs,e1,hq,hl,hw⟩:=hw
 subst e1
 cases r
 obtain ⟨its,rv,ht,hz⟩:=I.tuple hq
 refine assign_Tuple_tuple (I.ok.hd hc) ht (by simp [hn,← hl,rv.length]) hst fun h' hx=>?_
 have I1:Inv X pins σ H {s with heap:=h'}:=I.kept (t':=s.toks) fun b o e=>hx b o (Nat.ne_of_lt (Heap.lt_size e)) e
 exact h pins _ σ H xs _ Q I1 (by simpa using rv) hw
noncomputable abbrev tAsg (te:TE) (g:TG):TS:=fun D σ H=>te σ H fun x H1=>g x σ H1 D.nx
theorem ay {i:Nat} {x:Str} {e:Expr} {te:TE} {pos':Pos} (hN:X.N.Nodup) (hi:X.N[i]? =some x) (hx:Loc X.env.scope x) (he:PE X e te) (hs:swapsWith e (some (.Name x pos')) pos.line X.env=pure false:=by rfl) (hf:X.fn x=true∨X.env.scope.names.lookup x=some .local:=by first | exact .inl rfl | exact .inr rfl | assumption):
  PS X (.Assign [.Name x pos'] e pos) (tAsg te (n4 i)):=by
 intro pins s σ H D I h
 refine wpAny_Assign_Name (thn (he pins s σ H _ I h) fun v s1 ⟨y,H1,I1,r1,q1⟩=>?_) hs
 exact lh I1 hN hi hx r1 (fun s2 I2=>⟨_,H1,I2,q1⟩) hf
end
section
variable {X:Cx} {pos:Pos}
noncomputable def se (c:TT) (tb:TS):TS:=fun D σ H=>∃ W:Nat→St→Hp→Prop,(∃ m,W m σ H)∧∀ m σ H,W m σ H→
 c σ H fun b H1=>if b=true then ∃ N:St→Hp→Prop,(∀ σ' H',N σ' H'→∃ m',m' < m∧W m' σ' H')∧tb {D with nx:=N,ct:=N,bk:=D.nx} σ H1 else D.nx σ H1
theorem iM {c:Expr} {body:List Stmt} {tc:TT} {tb:TS} (hp:PassesOwn (model X.prog X.w) X.A X.env X.xe) (hc:PT X c tc) (hb:PSs X body tb):PS X (.While c body [] pos) (se tc tb):=by
 intro pins s σ H D I h
 obtain ⟨W,⟨m0,w0⟩,turn⟩:=h
 refine wpAny_While (codeAny_whileLoop (fun n s'=>∃ σ' H',Inv X pins σ' H' s'∧W n σ' H') ?_ m0 ⟨σ,H,I,w0⟩)
 rintro n s1 ⟨σ1,H1,I1,w1⟩
 refine wpAny_passesOwn hp (thn (hc pins s1 σ1 H1 _ I1 (turn n σ1 H1 w1)) fun b s2 ⟨H2,I2,q2⟩=>?_)
 cases b with
 | true=>
   obtain ⟨N,hN,q2⟩:=q2
   rw [if_pos rfl]
   refine wpAny_passesOwn hp (thn (hb pins s2 σ1 H2 _ I2 q2) fun f s3 q3=>?_)
   cases f with
   | next=>
     obtain ⟨σ3,H3,I3,n3⟩:=q3
     obtain ⟨m',hm,w3⟩:=hN σ3 H3 n3
     exact ⟨m',hm,σ3,H3,I3,w3⟩
   | cont=>
     obtain ⟨σ3,H3,I3,n3⟩:=q3
     obtain ⟨m',hm,w3⟩:=hN σ3 H3 n3
     exact ⟨m',hm,σ3,H3,I3,w3⟩
   | brk=>exact q3
   | ret v=>exact q3
 | false=>
   rw [if_neg Bool.false_ne_true]
   exact wpAny_execs_nil ⟨σ1,H2,I2,q2⟩
end
structure It where
 go:Nat→Hp→Prop
 yld:Nat→Hp→V→Hp→Prop
 stop:Nat→Hp→Prop
noncomputable def FpOk (X:Cx) (pins:List (Addr×Obj)) (H:Hp) (b:Addr):Prop:=
 H b=none∧b≠X.env.locals∧b∉X.fs∧(b∈X.ex∨X.s₀.heap.objs.size≤b)∧(∀ x c,X.env.cells.lookup x=some c→c≠b)∧∀ p∈X.pn++pins,p.1≠b
theorem Inv.fpOk {X:Cx} {pins:List (Addr×Obj)} {σ:St} {H H':Hp} {s:Shared} {b:Addr} (I:Inv X pins σ H s) (hb:s.heap.objs.size≤b) (hn:H' b=none):FpOk X pins H' b:=by
 refine ⟨hn,Nat.ne_of_gt (Nat.lt_of_lt_of_le I.lt hb),I.nofs hb,.inr (Nat.le_trans I.sz hb),fun x c e z=>?_,fun p hp z=>?_⟩
 ·obtain ⟨v,q⟩:=I.cell x c e
  exact absurd (Nat.lt_of_lt_of_le q.lt (by rw [z];exact hb)) (Nat.lt_irrefl _)
 ·exact absurd (Nat.lt_of_lt_of_le (Heap.lt_size (I.pin p hp).1) (by rw [z];exact hb)) (Nat.lt_irrefl _)
structure Turn (P:Program) (w:World) (K:PySem.W.Frag) (tg:Expr) (J:It) (fp:List Addr) (it:Addr) (tn:Nat→Heap→Prop):Prop where
 mem:it∈fp
 obj:∀ i h,tn i h→∀ b∈fp,∃ o,h.get? b=some o∧∀ v,o.data≠.cell v
 keep:∀ i h h',tn i h→(∀ b∈fp,∀ o,h.get? b=some o→h'.get? b=some o)→tn i h'
 item:∀ (X:Cx),X.prog=P→X.w=w→X.K=K→X.calm=true→∀ (i:Nat) (pins:List (Addr×Obj)) (s:Shared) (σ:St) (H:Hp) (E:Value→Shared→Prop),Inv X pins σ H s→(∀ b∈fp,FpOk X pins H b)→tn i s.heap→J.go i H→
  wpAny (model P w) X.A (pyNext (.ref it)) (fun r s1=>∃ u,r=some u∧
   wpAny (model P w) X.A (letOwnedTupleGo tg (.ref it) u) (fun _ s2=>∃ x H',Inv X pins σ H' s2∧RelV x u∧J.yld i H x H'∧tn (i + 1) s2.heap∧∀ b∈fp,H' b=none) E s1) E s
 done:∀ (X:Cx),X.prog=P→X.w=w→X.K=K→X.calm=true→∀ (i:Nat) (pins:List (Addr×Obj)) (s:Shared) (σ:St) (H:Hp) (E:Value→Shared→Prop),Inv X pins σ H s→(∀ b∈fp,FpOk X pins H b)→tn i s.heap→J.stop i H→
  wpAny (model P w) X.A (pyNext (.ref it)) (fun r s1=>r=none∧Inv X pins σ H s1) E s
 self:∀ (A:Around) (i:Nat) (s:Shared) (Q:Value→Shared→Prop) (E:Value→Shared→Prop),tn i s.heap→Q (.ref it) s→wpAny (model P w) A (pyIter (.ref it)) Q E s
noncomputable abbrev TI:=St→Hp→(It→Hp→Prop)→Prop
noncomputable def PIE (X:Cx) (pins:List (Addr×Obj)) (σ:St) (tg:Expr) (R:It→Hp→Prop) (itv:Value) (s2:Shared):Prop:=
 ∃ (it:Addr) (fp:List Addr) (tn:Nat→Heap→Prop) (J:It) (H':Hp),itv= .ref it∧Inv X pins σ H' s2∧Turn X.prog X.w X.K tg J fp it tn∧tn 0 s2.heap∧(∀ b∈fp,FpOk X pins H' b)∧R J H'
noncomputable def PI (X:Cx) (tg iter:Expr) (wi:TI):Prop:=
 ∀ (pins:List (Addr×Obj)) (s:Shared) (σ:St) (H:Hp) (R:It→Hp→Prop),Inv X pins σ H s→wi σ H R→
  wpAny (model X.prog X.w) X.A (eval iter X.env) (fun v s1=>wpAny (model X.prog X.w) X.A (pyIter v) (PIE X pins σ tg R) X.xe s1) X.xe s
theorem t9 {M:Model} {A:Around} {E:Value→Shared→Prop} {s:Shared} {tg:Expr} {it:Addr} {u:Value} {o:Obj} {n:String} {vs:Array Value} {Q:Unit→Shared→Prop} (ho:s.heap.get? it=some o) (hc:o.cls= .type n) (hd:o.data= .fields vs)
  (hn:["enumerate","zip","dict_itemiterator","dict_reverseitemiterator","odict_iterator","itertools.zip_longest","itertools.pairwise"].contains n=false) (hQ:Q () s):wpAny M A (letOwnedTupleGo tg (.ref it) u) Q E s:=by
 unfold letOwnedTupleGo
 cases tg<;>first
  | exact wpAny_pure hQ
  | (cases u<;>first
    | exact wpAny_pure hQ
    | (refine wpAny_bind (wpAny_load ho ?_)
       rw [hc,hd]
       show wpAny M A (if (["enumerate","zip","dict_itemiterator","dict_reverseitemiterator","odict_iterator","itertools.zip_longest","itertools.pairwise"].contains n&&vs[0]? == some (rawInt _))=true then _ else _) Q E s
       rw [if_neg (by intro h;rw [hn,Bool.false_and] at h;cases h)]
       exact wpAny_pure hQ))
noncomputable def Itl (K:PySem.W.Frag) (a:Addr):It:=
 ⟨fun i H=>∃ xs x,SqL K H a xs∧xs[i]? =some x,fun i H x H'=>H'=H∧∀ xs,SqL K H a xs→xs[i]? =some x,fun i H=>∃ xs,SqL K H a xs∧xs.length≤i⟩
noncomputable def Itr (lo:Int) (n:Nat):It:=⟨fun i _=>i < n,fun i H x H'=>H'=H∧x= .int (lo + i),fun i _=>n≤i⟩
theorem mT {P:Program} {w:World} {K:PySem.W.Frag} {tg:Expr} (a it:Addr):Turn P w K tg (Itl K a) [it] it (fun i h=>h.IsListIter it a i) where
 mem:=by simp
 obj:=fun i h st b hb=>by
  have e:b=it:=by simpa using hb
  subst e
  obtain ⟨o,e,c,d⟩:=st
  exact ⟨o,e,fun v z=>by rw [d] at z;cases z⟩
 keep:=fun i h h' st k=>st.at fun o e=>k it (by simp) o e
 item:=by
  intro X hP hw hK hc i pins s σ H E I hf st hg
  subst hP hw hK
  obtain ⟨xs,x,hq,hx⟩:=hg
  obtain ⟨its,rv,p,hz⟩:=I.list hq
  obtain ⟨u,hu,ru⟩:=rv.get hx
  obtain ⟨f0,f1,f2,f3,f4,f5⟩:=hf it (by simp)
  refine wpAny_pyNext_list_item st p.isList (x:=u) (by simpa using hu) fun h' st' sb=>?_
  have I1:Inv X pins σ H {s with heap:=h'}:=I.turned (t':=s.toks) (fun b o hb e=>(sb.2 b hb).trans e) f0 f1 f3 f4 f5
  obtain ⟨o,e,c,d⟩:=id st'
  exact ⟨u,rfl,t9 (s:={s with heap:=h'}) e c d (by decide) ⟨x,H,I1,ru,⟨rfl,fun ys hy=>by rw [I.list_inj hy hq];exact hx⟩,st',fun b hb=>(hf b hb).1⟩⟩
 done:=by
  intro X hP hw hK hc i pins s σ H E I hf st hg
  subst hP hw hK
  obtain ⟨xs,hq,hx⟩:=hg
  obtain ⟨its,rv,p,hz⟩:=I.list hq
  obtain ⟨f0,f1,f2,f3,f4,f5⟩:=hf it (by simp)
  have hl:=rv.length
  exact wpAny_pyNext_list_end (I.ok.hd hc) st p.isList (by simp;omega) fun h' eb=>⟨rfl,I.turned (t':=s.toks) (fun b o hb e=>eb b o hb e) f0 f1 f3 f4 f5⟩
 self:=fun _ _ _ _ _ st h=>wpAny_pyIter_listiter st h
theorem lT {P:Program} {w:World} {K:PySem.W.Frag} {tg:Expr} (it:Addr) (lo:Int) (n:Nat):Turn P w K tg (Itr lo n) [it] it (fun i h=>IsRangeIter h it (lo + (i:Nat) * 1) ((n:Int) - (i:Nat)) 1) where
 mem:=by simp
 obj:=fun i h st b hb=>by
  have e:b=it:=by simpa using hb
  subst e
  exact ⟨_,st,fun v z=>by
   have z':Data.fields _=Data.cell v:=z
   cases z'⟩
 keep:=fun i h h' st k=>k it (by simp) _ st
 item:=by
  intro X hP hw hK hc i pins s σ H E I hf st hg
  subst hP hw hK
  obtain ⟨f0,f1,f2,f3,f4,f5⟩:=hf it (by simp)
  have W:=Walks.range (prog:=X.prog) (w:=X.w) (I.ok.hd hc) it lo 1 n
  refine W.item i s _ _ hg st fun v h' tk hv st' kk=>?_
  obtain ⟨t,rfl⟩:=hv
  have I1:Inv X pins σ H {s with heap:=h',toks:=tk}:=I.turned (fun b o hb e=>kk b o (by simpa using hb) e) f0 f1 f3 f4 f5
  refine ⟨_,rfl,t9 (s:={s with heap:=h',toks:=tk}) (n:="range_iterator") st' rfl rfl (by decide) ⟨.int (lo + i),H,I1,⟨t,?_⟩,⟨rfl,rfl⟩,st',fun b hb=>(hf b hb).1⟩⟩
  rw [Int.mul_one]
 done:=by
  intro X hP hw hK hc i pins s σ H E I hf st hg
  subst hP hw hK
  obtain ⟨f0,f1,f2,f3,f4,f5⟩:=hf it (by simp)
  exact wpAny_pyNext_range_end (I.ok.hd hc) st (by have:n≤i:=hg;omega) fun h' eb=>⟨rfl,I.turned (t':=s.toks) (fun b o hb e=>eb b o hb e) f0 f1 f3 f4 f5⟩
 self:=fun _ _ _ _ _ st h=>wpAny_pyIter_rangeiter st h
section
variable {X:Cx} {tg:Expr}
noncomputable abbrev tZ (K:PySem.W.Frag) (tl:TE):TI:=fun σ H R=>tl σ H fun x H1=>∃ a,x= .ref a∧(∃ xs,SqL K H1 a xs)∧R (Itl K a) H1
theorem qY {l:Expr} {tl:TE} (hl:PE X l tl):PI X tg l (tZ X.K tl):=by
 intro pins s σ H R I h
 refine thn (hl pins s σ H _ I h) fun v s1 ⟨x,H1,I1,r1,q1⟩=>?_
 obtain ⟨a,e,⟨xs,hq⟩,q⟩:=q1
 subst e
 cases r1
 obtain ⟨its,rv,p,hz⟩:=I1.list hq
 refine wpAny_pyIter_list p.isList ?_
 refine ⟨s1.heap.objs.size,[s1.heap.objs.size],_,_,H1,rfl,I1.kept (t':=s1.toks) fun b o e=>Heap.get?_push_of_some _ e,mT a _,⟨_,Heap.get?_push_size _ rfl,rfl,rfl⟩,fun b hb=>?_,q⟩
 have e:b=s1.heap.objs.size:=by simpa using hb
 subst e
 exact I1.fpOk (Nat.le_refl _) (I1.hok.fresh (Nat.le_refl _))
theorem o5 {pins:List (Addr×Obj)} {σ:St} {H:Hp} {s:Shared} {R:It→Hp→Prop} {E:Value→Shared→Prop} {lo hi:Int} {t u v:Tok} {tk:Nat} (I:Inv X pins σ H s) (h1: -(2 ^ 62)≤lo) (h2:lo < 2 ^ 62) (h3: -(2 ^ 62)≤hi) (h4:hi < 2 ^ 62)
  (q:R (Itr lo (hi - lo).toNat) H):wpAny (model X.prog X.w) X.A (pyIter (.ref s.heap.objs.size)) (PIE X pins σ tg R) E {s with heap:=s.heap.push {cls:= .type "range",data:= .fields #[.int lo t,.int hi u,.int 1 v]},toks:=tk}:=by
 refine wpAny_pyIter_range (IsRange.new ..) (small_one h1 h2 h3 h4) ?_
 have I1:Inv X pins σ H {s with heap:=s.heap.push {cls:= .type "range",data:= .fields #[.int lo t,.int hi u,.int 1 v]},toks:=tk}:=I.kept fun b o e=>Heap.get?_push_of_some _ e
 refine ⟨(s.heap.push {cls:= .type "range",data:= .fields #[.int lo t,.int hi u,.int 1 v]}).objs.size,[(s.heap.push {cls:= .type "range",data:= .fields #[.int lo t,.int hi u,.int 1 v]}).objs.size],_,_,H,rfl,
  I1.kept (t':=tk) fun b o e=>Heap.get?_push_of_some _ e,lT _ lo (hi - lo).toNat,?_,fun b hb=>?_,q⟩
 ·have e1:lo + ((0:Nat):Int) * 1=lo:=by simp
  have e2:(((hi - lo).toNat:Nat):Int) - ((0:Nat):Int)=Builtin.Range.rangeSize lo hi 1:=by rw [rangeSize_one];split<;>omega
  show IsRangeIter _ _ (lo + ((0:Nat):Int) * 1) ((((hi - lo).toNat:Nat):Int) - ((0:Nat):Int)) 1
  rw [e1,e2]
  exact Heap.get?_push_size _ rfl
 ·have e:b=(s.heap.push {cls:= .type "range",data:= .fields #[.int lo t,.int hi u,.int 1 v]}).objs.size:=by simpa using hb
  subst e
  exact I1.fpOk (Nat.le_refl _) (I1.hok.fresh (Nat.le_refl _))
noncomputable abbrev u0 (ta:TA):TI:=fun σ H R=>ta σ H fun vs H1=>∃ j:Int,vs=[.int j]∧-(2 ^ 62)≤j∧j < 2 ^ 62∧R (Itr 0 j.toNat) H1
theorem gD {a:Expr} {ta:TA} {p pos:Pos} (hg:Gl X "range") (hm:X.mg "range"=none) (ha:PA X [a] ta) (hs:starEach [a] X.env=[(false,eval a X.env)]:=by rfl):PI X tg (.Call (.Name "range" p) [a] [] pos) (u0 ta):=by
 intro pins s σ H R I h
 refine Call_ (jG I hg hm boot_range (PyProof.Rows.callWith_type1 (thn (ha pos pins s σ H _ I h) fun us s1 ⟨vs,H1,I1,r1,q1⟩=>?_) hs rfl))
 obtain ⟨j,e,q1,q2,q⟩:=q1
 subst e
 cases r1 with
 | cons r rr=>
   cases rr
   obtain ⟨t,rfl⟩:=r
   exact call_range_1 (o5 I1 (by omega) (by omega) q1 q2 (by simpa using q))
noncomputable def tFor (wi:TI) (g:TG) (tb:TS):TS:=fun D σ H=>wi σ H fun J H1=>∃ W:Nat→Nat→St→Hp→Prop,(∃ m,W 0 m σ H1)∧∀ i m σ H,W i m σ H→
 (J.stop i H∧D.nx σ H)∨(J.go i H∧∃ N:St→Hp→Prop,(∀ σ' H',N σ' H'→∃ m',m' < m∧W (i + 1) m' σ' H')∧∀ x H',J.yld i H x H'→g x σ H' fun σ2 H2=>tb {D with nx:=N,ct:=N,bk:=D.nx} σ2 H2)
noncomputable def jt (fp:List Addr) (h:Heap):List (Addr×Obj):=fp.filterMap fun b=>(h.get? b).map fun o=>(b,o)
theorem dr {fp:List Addr} {h:Heap} {b:Addr} {o:Obj} (hb:b∈fp) (e:h.get? b=some o):(b,o)∈jt fp h:=List.mem_filterMap.mpr ⟨b,hb,by rw [e];rfl⟩
theorem ny {fp:List Addr} {h:Heap} {p:Addr×Obj} (hp:p∈jt fp h):p.1∈fp∧h.get? p.1=some p.2:=by
 obtain ⟨b,hb,e⟩:=List.mem_filterMap.mp hp
 cases q:h.get? b with
 | none=>rw [q] at e;cases e
 | some o=>
   rw [q] at e
   have e':(b,o)=p:=Option.some.inj e
   subst e'
   exact ⟨hb,q⟩
theorem Inv.pinned {pins:List (Addr×Obj)} {σ:St} {H:Hp} {s:Shared} {fp:List Addr} (I:Inv X pins σ H s) (hf:∀ b∈fp,FpOk X pins H b) (ho:∀ b∈fp,∃ o,s.heap.get? b=some o∧∀ v,o.data≠.cell v):Inv X (pins++jt fp s.heap) σ H s:=
 I.pins_of fun p hp=>(List.mem_append.mp hp).elim (fun z=>I.pin p (List.mem_append_right _ z)) fun z=>by
  obtain ⟨hb,e⟩:=ny z
  obtain ⟨f0,f1,f2,_⟩:=hf p.1 hb
  obtain ⟨o,e',d⟩:=ho p.1 hb
  rw [e] at e';cases e'
  exact ⟨e,f0,f1,f2,d⟩
theorem Inv.unpinned {pins pl:List (Addr×Obj)} {σ:St} {H:Hp} {s:Shared} (I:Inv X (pins++pl) σ H s):Inv X pins σ H s:=I.pins_of fun p hp=>I.pin p (List.mem_append_right _ (List.mem_append_left _ hp))
theorem gA {iter:Expr} {body:List Stmt} {wi:TI} {g:TG} {tb:TS} {pos:Pos} (hp:PassesOwn (model X.prog X.w) X.A X.env X.xe) (hc:X.calm=true) (hi:PI X tg iter wi) (hg:PG X tg g) (hb:PSs X body tb)
  (hs:∀ x,foldedSetIterable iter X.env x=pure x:=by intro _;rfl):PS X (.For tg iter body [] pos) (tFor wi g tb):=by
 intro pins s σ H D I h
 refine wpAny_For (thn (hi pins s σ H _ I h) fun v s1 h1=>thn h1 fun itv s2 h2=>?_) hs
 obtain ⟨it,fp,tn,J,H2,e,I2,T,st2,f2,W,⟨m0,w0⟩,turn⟩:=h2
 subst e
 have stat:∀ {H':Hp},(∀ b∈fp,H' b=none)→∀ b∈fp,FpOk X pins H' b:=fun hn b hb=>⟨hn b hb,(f2 b hb).2⟩
 refine codeAny_forLoop_any (fun n s'=>∃ i σ' H',Inv X pins σ' H' s'∧tn i s'.heap∧(∀ b∈fp,H' b=none)∧W i n σ' H') ?_ m0 ⟨0,σ,H2,I2,st2,fun b hb=>(f2 b hb).1,w0⟩
 rintro n s3 ⟨i,σ3,H3,I3,st3,fr3,w3⟩
 rcases turn i n σ3 H3 w3 with ⟨stop,qn⟩ | ⟨go,N,hN,step⟩
 ·refine wpAny_passesOwn hp (thn (T.done X rfl rfl rfl hc i pins s3 σ3 H3 X.xe I3 (stat fr3) st3 stop) fun r s4 ⟨hr,I4⟩=>?_)
  subst hr
  exact wpAny_execs_nil ⟨σ3,H3,I4,qn⟩
 ·refine wpAny_passesOwn hp (thn (T.item X rfl rfl rfl hc i pins s3 σ3 H3 X.xe I3 (stat fr3) st3 go) fun r s4 ⟨u,hr,h4⟩=>?_)
  subst hr
  refine wpAny_passesOwn hp (thn h4 fun _ s5 ⟨x,H5,I5,r5,y5,st5,fr5⟩=>?_)
  have I5':=I5.pinned (stat fr5) (T.obj _ _ st5)
  refine wpAny_passesOwn hp (thn (hg _ s5 σ3 H5 x u _ I5' r5 (step x H5 y5)) fun _ s6 ⟨σ6,H6,I6,q6⟩=>?_)
  refine wpAny_passesOwn hp (thn (hb _ s6 σ6 H6 _ I6 q6) fun f s7 q7=>?_)
  have again:∀ {σ7:St} {H7:Hp},Inv X (pins++jt fp s5.heap) σ7 H7 s7→N σ7 H7→∃ m,m < n∧∃ i σ' H',Inv X pins σ' H' s7∧tn i s7.heap∧(∀ b∈fp,H' b=none)∧W i m σ' H':=fun {σ7 H7} I7 n7=>by
   obtain ⟨m',hm,w7⟩:=hN σ7 H7 n7
   refine ⟨m',hm,i + 1,σ7,H7,I7.unpinned,T.keep _ _ _ st5 fun b hb o e=>(I7.pin (b,o) (List.mem_append_right _ (List.mem_append_right _ (dr hb e)))).1,fun b hb=>?_,w7⟩
   obtain ⟨o,e,d⟩:=T.obj _ _ st5 b hb
   exact (I7.pin (b,o) (List.mem_append_right _ (List.mem_append_right _ (dr hb e)))).2.1
  cases f with
  | next=>obtain ⟨σ7,H7,I7,n7⟩:=q7;exact again I7 n7
  | cont=>obtain ⟨σ7,H7,I7,n7⟩:=q7;exact again I7 n7
  | brk=>obtain ⟨σ7,H7,I7,q7⟩:=q7;exact ⟨σ7,H7,I7.unpinned,q7⟩
  | ret v=>obtain ⟨x7,σ7,H7,I7,r7,q7⟩:=q7;exact ⟨x7,σ7,H7,I7.unpinned,r7,q7⟩
end
theorem gq {K:PySem.W.Frag} {a:Addr} {xs:List V} {g:TG} {tb:TS} {D:Ends} {σ:St} {H:Hp} (Pv:Nat→St→Hp→Prop) (h0:Pv 0 σ H) (hl:∀ i σ H,i≤xs.length→Pv i σ H→SqL K H a xs)
  (hs:∀ i x σ H,xs[i]? =some x→Pv i σ H→g x σ H fun σ2 H2=>tb {D with nx:=Pv (i + 1),ct:=Pv (i + 1),bk:=D.nx} σ2 H2) (hd:∀ σ H,Pv xs.length σ H→D.nx σ H):
  ∃ W:Nat→Nat→St→Hp→Prop,(∃ m,W 0 m σ H)∧∀ i m σ H,W i m σ H→
    ((Itl K a).stop i H∧D.nx σ H)∨((Itl K a).go i H∧∃ N:St→Hp→Prop,(∀ σ' H',N σ' H'→∃ m',m' < m∧W (i + 1) m' σ' H')∧∀ x H',(Itl K a).yld i H x H'→g x σ H' fun σ2 H2=>tb {D with nx:=N,ct:=N,bk:=D.nx} σ2 H2):=by
 refine ⟨fun i m σ H=>m=xs.length - i∧i≤xs.length∧Pv i σ H,⟨xs.length,by simp,Nat.zero_le _,h0⟩,?_⟩
 rintro i m σ H ⟨rfl,hi,p⟩
 have q:=hl i σ H hi p
 by_cases hlt:i < xs.length
 ·refine .inr ⟨⟨xs,xs[i],q,by simp [hlt]⟩,Pv (i + 1),fun σ' H' p'=>⟨xs.length - (i + 1),by omega,rfl,hlt,p'⟩,fun x H' y=>?_⟩
  obtain ⟨e,y⟩:=y
  subst e
  exact hs i x σ _ (y xs q) p
 ·have e:i=xs.length:=by omega
  subst e
  exact .inl ⟨⟨xs,q,Nat.le_refl _⟩,hd σ H p⟩
theorem n8 {lo:Int} {n:Nat} {g:TG} {tb:TS} {D:Ends} {σ:St} {H:Hp} (Pv:Nat→St→Hp→Prop) (h0:Pv 0 σ H)
  (hs:∀ i σ H,i < n→Pv i σ H→g (.int (lo + i)) σ H fun σ2 H2=>tb {D with nx:=Pv (i + 1),ct:=Pv (i + 1),bk:=D.nx} σ2 H2) (hd:∀ σ H,Pv n σ H→D.nx σ H):
  ∃ W:Nat→Nat→St→Hp→Prop,(∃ m,W 0 m σ H)∧∀ i m σ H,W i m σ H→
    ((Itr lo n).stop i H∧D.nx σ H)∨((Itr lo n).go i H∧∃ N:St→Hp→Prop,(∀ σ' H',N σ' H'→∃ m',m' < m∧W (i + 1) m' σ' H')∧∀ x H',(Itr lo n).yld i H x H'→g x σ H' fun σ2 H2=>tb {D with nx:=N,ct:=N,bk:=D.nx} σ2 H2):=by
 refine ⟨fun i m σ H=>m=n - i∧i≤n∧Pv i σ H,⟨n,by simp,Nat.zero_le _,h0⟩,?_⟩
 rintro i m σ H ⟨rfl,hi,p⟩
 by_cases hlt:i < n
 ·refine .inr ⟨hlt,Pv (i + 1),fun σ' H' p'=>⟨n - (i + 1),by omega,rfl,hlt,p'⟩,fun x H' y=>?_⟩
  obtain ⟨e,y⟩:=y
  subst e y
  exact hs i σ _ hlt p
 ·have e:i=n:=by omega
  subst e
  exact .inl ⟨Nat.le_refl _,hd σ H p⟩
noncomputable abbrev R2:=V→V→Hp→VK→Prop
noncomputable def OpR (X:Cx) (f:Value→Value→Sem Value) (r:R2):Prop:=
 ∀ (pins:List (Addr×Obj)) (s:Shared) (σ:St) (H:Hp) (x y:V) (v u:Value) (Q:VK),Inv X pins σ H s→RelV x v→RelV y u→r x y H Q→
  wpAny (model X.prog X.w) X.A (f v u) (EP X pins σ Q) X.xe s
noncomputable def UnR (X:Cx) (f:Value→Sem Value) (r:V→Hp→VK→Prop):Prop:=
 ∀ (pins:List (Addr×Obj)) (s:Shared) (σ:St) (H:Hp) (x:V) (v:Value) (Q:VK),Inv X pins σ H s→RelV x v→r x H Q→
  wpAny (model X.prog X.w) X.A (f v) (EP X pins σ Q) X.xe s
noncomputable def je (X:Cx) (f:Value) (r:List V→Hp→VK→Prop):Prop:=
 ∀ (pins:List (Addr×Obj)) (s:Shared) (σ:St) (H:Hp) (xs:List V) (us:List Value) (Q:VK),Inv X pins σ H s→Vals xs us→r xs H Q→
  wpAny (model X.prog X.w) X.A (call f us) (EP X pins σ Q) X.xe s
noncomputable abbrev tOp (r:R2) (ta tb:TE):TE:=fun σ H Q=>ta σ H fun x H1=>tb σ H1 fun y H2=>r x y H2 Q
noncomputable abbrev tUn (r:V→Hp→VK→Prop) (ta:TE):TE:=fun σ H Q=>ta σ H fun x H1=>r x H1 Q
noncomputable def rI (C:Int→Int→Prop) (g:Int→Int→V):R2:=fun x y H Q=>∃ i j,x= .int i∧y= .int j∧C i j∧Q (g i j) H
noncomputable def rI0 (g:Int→Int→V):R2:=fun x y H Q=>∃ i j,x= .int i∧y= .int j∧Q (g i j) H
noncomputable def rU (g:Int→V):V→Hp→VK→Prop:=fun x H Q=>∃ i,x= .int i∧Q (g i) H
section
variable {X:Cx} {a b c:Expr} {ta tb tc:TE} {pos:Pos}
theorem binT (ha:PE X a ta) (hb:PE X b tb) {pins:List (Addr×Obj)} {s:Shared} {σ:St} {H:Hp} {R:V→V→Hp→Prop} (I:Inv X pins σ H s)
  (h:ta σ H fun x H1=>tb σ H1 fun y H2=>R x y H2) {Q:Value→Shared→Prop} {f:Value→Value→Sem Value}
  (hf:∀ v u s2 x y H2,Inv X pins σ H2 s2→RelV x v→RelV y u→R x y H2→wpAny (model X.prog X.w) X.A (f v u) Q X.xe s2):
  wpAny (model X.prog X.w) X.A (eval a X.env) (fun v s₁=>wpAny (model X.prog X.w) X.A (eval b X.env) (fun u s₂=>wpAny (model X.prog X.w) X.A (f v u) Q X.xe s₂) X.xe s₁) X.xe s:=by
 refine thn (ha pins s σ H _ I h) fun v s1 ⟨x,H1,I1,r1,q1⟩=>?_
 refine thn (hb pins s1 σ H1 _ I1 q1) fun u s2 ⟨y,H2,I2,r2,q2⟩=>?_
 exact hf v u s2 x y H2 I2 r1 r2 q2
theorem ak {op:Operator} {r:R2} (ho:OpR X (binaryOp op) r) (ha:PE X a ta) (hb:PE X b tb):PE X (.BinOp a op b pos) (tOp r ta tb):=by
 intro pins s σ H Q I h
 exact wpAny_BinOp (binT ha hb I h fun v u s2 x y H2 I2 rx ry q=>ho pins s2 σ H2 x y v u Q I2 rx ry q)
theorem uV {op:UnaryOp} {r:V→Hp→VK→Prop} (ho:UnR X (unaryOp op) r) (ha:PE X a ta):PE X (.UnaryOp op a pos) (tUn r ta):=by
 intro pins s σ H Q I h
 exact UnaryOp_ (thn (ha pins s σ H _ I h) fun v s1 ⟨x,H1,I1,r1,q1⟩=>ho pins s1 σ H1 x v Q I1 r1 q1)
theorem opI {f:Value→Value→Sem Value} {C:Int→Int→Prop} {g:Int→Int→Int}
  (rule:∀ (i j:Int) (t u:Tok) (s:Shared) (Q:Value→Shared→Prop) (E:Value→Shared→Prop),C i j→Q (.int (g i j) s.toks) {s with toks:=s.toks + 1}→wpAny (model X.prog X.w) X.A (f (.int i t) (.int j u)) Q E s):
  OpR X f (rI C fun i j=> .int (g i j)):=by
 intro pins s σ H x y v u Q I rx ry h
 obtain ⟨i,j,rfl,rfl,hc,q⟩:=h
 obtain ⟨t,rfl⟩:=rx
 obtain ⟨t',rfl⟩:=ry
 exact rule i j t t' s _ _ hc ⟨.int (g i j),H,I.tok _,⟨_,rfl⟩,q⟩
theorem opI0 {f:Value→Value→Sem Value} {g:Int→Int→Int}
  (rule:∀ (i j:Int) (t u:Tok) (s:Shared) (Q:Value→Shared→Prop) (E:Value→Shared→Prop),Q (.int (g i j) s.toks) {s with toks:=s.toks + 1}→wpAny (model X.prog X.w) X.A (f (.int i t) (.int j u)) Q E s):
  OpR X f (rI0 fun i j=> .int (g i j)):=by
 intro pins s σ H x y v u Q I rx ry h
 obtain ⟨i,j,rfl,rfl,q⟩:=h
 obtain ⟨t,rfl⟩:=rx
 obtain ⟨t',rfl⟩:=ry
 exact rule i j t t' s _ _ ⟨.int (g i j),H,I.tok _,⟨_,rfl⟩,q⟩
theorem opB0 {f:Value→Value→Sem Value} {g:Int→Int→Bool}
  (rule:∀ (i j:Int) (t u:Tok) (s:Shared) (Q:Value→Shared→Prop) (E:Value→Shared→Prop),Q (.bool (g i j)) s→wpAny (model X.prog X.w) X.A (f (.int i t) (.int j u)) Q E s):
  OpR X f (rI0 fun i j=> .bl (g i j)):=by
 intro pins s σ H x y v u Q I rx ry h
 obtain ⟨i,j,rfl,rfl,q⟩:=h
 obtain ⟨t,rfl⟩:=rx
 obtain ⟨t',rfl⟩:=ry
 exact rule i j t t' s _ _ ⟨.bl (g i j),H,I,rfl,q⟩
noncomputable def CDiv (i j:Int):Prop:=0 < j∧j < 1073741824
noncomputable def vf (i j:Int):Prop:=j≠0∧j.natAbs < 1073741824
noncomputable def CPow (i j:Int):Prop:=0≤j∧j≤1000000∧i.natAbs < 2 ^ 64
noncomputable def CMul (i j:Int):Prop:=(-(2 ^ 64) < i∧i < 2 ^ 64)∨(-(2 ^ 64) < j∧j < 2 ^ 64)
theorem CMul.ok {i j:Int} (h:CMul i j):IntMulOk i j:=by
 rcases h with ⟨h1,h2⟩ | ⟨h1,h2⟩
 ·exact .of_left (intBits_le_64 h1 h2)
 ·exact .of_right (intBits_le_64 h1 h2)
theorem lS (k:Nat):(0:Int)≤2 ^ k:=by
 rw [two_pow_cast]
 exact Int.natCast_nonneg _
theorem cX:OpR X (binaryOp .Add) (rI0 fun i j=> .int (i + j)):=opI0 fun _ _ _ _ _ _ _ q=>add_int q
theorem iw:OpR X (binaryOp .Sub) (rI0 fun i j=> .int (i - j)):=opI0 fun _ _ _ _ _ _ _ q=>sub_int q
theorem gF:OpR X (binaryOp .Mult) (rI CMul fun i j=> .int (i * j)):=opI fun _ _ _ _ _ _ _ hc q=>mul_int q hc.ok
theorem cC:OpR X (binaryOp .FloorDiv) (rI CDiv fun i j=> .int (i / j)):=opI fun i j _ _ _ _ _ hc q=>by
 have h1:(0:Int) < j:=hc.1
 have h2:j < 1073741824:=hc.2
 exact floordiv_int (by omega) (by rw [Int.fdiv_eq_ediv_of_nonneg i (by omega)];exact q) (.inl (PyProof.noPylong_small (by omega)))
theorem bR:OpR X (binaryOp .Mod) (rI (fun _ j=>0 < j) fun i j=> .int (i % j)):=opI fun i j _ _ _ _ _ hc q=>by
 have h1:(0:Int) < j:=hc
 exact mod_int' (by omega) (by rw [Int.fmod_eq_emod_of_nonneg i (by omega)];exact q)
theorem dZ:OpR X (binaryOp .LShift) (rI CPow fun i j=> .int (i * 2 ^ j.toNat)):=opI fun _ _ _ _ _ _ _ hc q=>lshift_int_small hc.1 hc.2.1 hc.2.2 q
theorem nv:OpR X (binaryOp .RShift) (rI (fun _ j=>0≤j) fun i j=> .int (i / 2 ^ j.toNat)):=opI fun i j _ _ _ _ _ hc q=>
 rshift_int hc (by rw [Int.fdiv_eq_ediv_of_nonneg i (lS _)];exact q)
theorem gH:OpR X (binaryOp .BitAnd) (rI0 fun i j=> .int (Builtin.bitAnd i j)):=opI0 fun _ _ _ _ _ _ _ q=>and_int q
theorem fz:OpR X (binaryOp .BitXor) (rI0 fun i j=> .int (Builtin.bitXor i j)):=opI0 fun _ _ _ _ _ _ _ q=>xor_int q
theorem unI {f:Value→Sem Value} {g:Int→Int}
  (rule:∀ (i:Int) (t:Tok) (s:Shared) (Q:Value→Shared→Prop) (E:Value→Shared→Prop),Q (.int (g i) s.toks) {s with toks:=s.toks + 1}→wpAny (model X.prog X.w) X.A (f (.int i t)) Q E s):
  UnR X f (rU fun i=> .int (g i)):=by
 intro pins s σ H x v Q I rx h
 obtain ⟨i,rfl,q⟩:=h
 obtain ⟨t,rfl⟩:=rx
 exact rule i t s _ _ ⟨.int (g i),H,I.tok _,⟨_,rfl⟩,q⟩
theorem rY:UnR X (unaryOp .USub) (rU fun i=> .int (-i)):=unI fun _ _ _ _ _ q=>neg_int q
end
noncomputable def scal:V→V→Bool
 | .non,.non=>true | .non,.int _=>true | .int _,.non=>true | .non,.bl _=>true | .bl _,.non=>true | .non,.str _=>true | .str _,.non=>true
 | .int _,.int _=>true | .bl _,.bl _=>true | .str _,.str _=>true | .byt _,.byt _=>true
 | .int _,.str _=>true | .str _,.int _=>true | .bl _,.str _=>true | .str _,.bl _=>true
 | _,_=>false
noncomputable def rEq:R2:=fun x y H Q=>scal x y=true∧Q (.bl (decide (x=y))) H
noncomputable def rNe:R2:=fun x y H Q=>scal x y=true∧Q (.bl (!decide (x=y))) H
theorem oh {i j:Int}:decide (V.int i=V.int j)=(i == j):=by
 rw [Bool.eq_iff_iff]
 simp
theorem qg {i j:Bool}:decide (V.bl i=V.bl j)=(i == j):=by
 rw [Bool.eq_iff_iff]
 simp
theorem og {i j:Str}:decide (V.str i=V.str j)=(i == j):=by
 rw [Bool.eq_iff_iff]
 simp
theorem oi {i j:Array UInt8}:decide (V.byt i=V.byt j)=(i.toList == j.toList):=by
 rw [Bool.eq_iff_iff]
 cases i
 cases j
 simp
section
variable {X:Cx} {a b c:Expr} {ta tb tc:TE} {pos:Pos}
theorem aE {pins:List (Addr×Obj)} {σ:St} {H:Hp} {s:Shared} {Q:VK} {k k':Bool} (I:Inv X pins σ H s) (q:Q (.bl k) H) (e:k=k'):EP X pins σ Q (.bool k') s:=by
 subst e
 exact ⟨.bl k,H,I,rfl,q⟩
theorem gG:OpR X (compareOp .Eq) rEq:=by
 intro pins s σ H x y v u Q I rx ry h
 obtain ⟨hs,q⟩:=h
 cases x with
 | non=>
   cases rx
   cases y with
   | non=>cases ry;exact PySem.EqNone.eq_none_none (aE I q (by simp))
   | bl j=>cases ry;exact PySem.EqNone.eq_none_bool (aE I q (by simp))
   | int j=>obtain ⟨t',rfl⟩:=ry;exact PySem.EqNone.eq_none_int (aE I q (by simp))
   | str j=>obtain ⟨t',rfl⟩:=ry;exact PySem.EqNone.eq_none_str (aE I q (by simp))
   | _=>exact absurd (show false=true from hs) Bool.false_ne_true
 | bl i=>
   cases rx
   cases y with
   | non=>cases ry;exact PySem.EqNone.eq_bool_none (aE I q (by simp))
   | bl j=>cases ry;exact eq_bool (aE I q qg)
   | str j=>obtain ⟨t',rfl⟩:=ry;exact PySem.EqMixed.eq_bool_str (aE I q (by simp))
   | _=>exact absurd (show false=true from hs) Bool.false_ne_true
 | int i=>
   obtain ⟨t,rfl⟩:=rx
   cases y with
   | non=>cases ry;exact PySem.EqNone.eq_int_none (aE I q (by simp))
   | int j=>obtain ⟨t',rfl⟩:=ry;exact eq_int (aE I q oh)
   | str j=>obtain ⟨t',rfl⟩:=ry;exact PySem.EqMixed.eq_int_str (aE I q (by simp))
   | _=>exact absurd (show false=true from hs) Bool.false_ne_true
 | str i=>
   obtain ⟨t,rfl⟩:=rx
   cases y with
   | non=>cases ry;exact PySem.EqNone.eq_str_none (aE I q (by simp))
   | bl j=>cases ry;exact PySem.EqMixed.eq_str_bool (aE I q (by simp))
   | int j=>obtain ⟨t',rfl⟩:=ry;exact PySem.EqMixed.eq_str_int (aE I q (by simp))
   | str j=>obtain ⟨t',rfl⟩:=ry;exact eq_str (aE I q og)
   | _=>exact absurd (show false=true from hs) Bool.false_ne_true
 | byt i=>
   obtain ⟨t,rfl⟩:=rx
   cases y with
   | byt j=>obtain ⟨t',rfl⟩:=ry;exact PySem.W.eq_bytes (aE I q oi)
   | _=>exact absurd (show false=true from hs) Bool.false_ne_true
 | _=>cases y<;>exact absurd (show false=true from hs) Bool.false_ne_true
theorem rf:OpR X (compareOp .NotEq) rNe:=by
 intro pins s σ H x y v u Q I rx ry h
 obtain ⟨hs,q⟩:=h
 cases x with
 | non=>
   cases rx
   cases y with
   | non=>cases ry;exact PySem.EqNone.ne_none_none (aE I q (by simp))
   | bl j=>cases ry;exact PySem.EqNone.ne_none_bool (aE I q (by simp))
   | int j=>obtain ⟨t',rfl⟩:=ry;exact PySem.EqNone.ne_none_int (aE I q (by simp))
   | str j=>obtain ⟨t',rfl⟩:=ry;exact PySem.EqNone.ne_none_str (aE I q (by simp))
   | _=>exact absurd (show false=true from hs) Bool.false_ne_true
 | bl i=>
   cases rx
   cases y with
   | non=>cases ry;exact PySem.EqNone.ne_bool_none (aE I q (by simp))
   | bl j=>cases ry;exact ne_bool (aE I q (congrArg not qg))
   | str j=>obtain ⟨t',rfl⟩:=ry;exact PySem.EqMixed.ne_bool_str (aE I q (by simp))
   | _=>exact absurd (show false=true from hs) Bool.false_ne_true
 | int i=>
   obtain ⟨t,rfl⟩:=rx
   cases y with
   | non=>cases ry;exact PySem.EqNone.ne_int_none (aE I q (by simp))
   | int j=>obtain ⟨t',rfl⟩:=ry;exact ne_int (aE I q (congrArg not oh))
   | str j=>obtain ⟨t',rfl⟩:=ry;exact PySem.EqMixed.ne_int_str (aE I q (by simp))
   | _=>exact absurd (show false=true from hs) Bool.false_ne_true
 | str i=>
   obtain ⟨t,rfl⟩:=rx
   cases y with
   | non=>cases ry;exact PySem.EqNone.ne_str_none (aE I q (by simp))
   | bl j=>cases ry;exact PySem.EqMixed.ne_str_bool (aE I q (by simp))
   | int j=>obtain ⟨t',rfl⟩:=ry;exact PySem.EqMixed.ne_str_int (aE I q (by simp))
   | str j=>obtain ⟨t',rfl⟩:=ry;exact ne_str (aE I q (congrArg not og))
   | _=>exact absurd (show false=true from hs) Bool.false_ne_true
 | byt i=>
   obtain ⟨t,rfl⟩:=rx
   cases y with
   | byt j=>obtain ⟨t',rfl⟩:=ry;exact PySem.W.ne_bytes (aE I q (congrArg not oi))
   | _=>exact absurd (show false=true from hs) Bool.false_ne_true
 | _=>cases y<;>exact absurd (show false=true from hs) Bool.false_ne_true
theorem pe:OpR X (compareOp .Lt) (rI0 fun i j=> .bl (decide (i < j))):=opB0 fun _ _ _ _ _ _ _ q=>lt_int q
theorem uX:OpR X (compareOp .LtE) (rI0 fun i j=> .bl (decide (i≤j))):=opB0 fun _ _ _ _ _ _ _ q=>le_int q
theorem rg:OpR X (compareOp .Gt) (rI0 fun i j=> .bl (decide (j < i))):=opB0 fun _ _ _ _ _ _ _ q=>gt_int q
theorem bD (b:Expr) {op:CmpOp} (h:op≠.In:=by decide) (h2:op≠.NotIn:=by decide):behindInMarks op b=false:=by
 have e1:(op == CmpOp.In)=false:=by cases op<;>first | rfl | exact absurd rfl h
 have e2:(op == CmpOp.NotIn)=false:=by cases op<;>first | rfl | exact absurd rfl h2
 cases b<;>simp [behindInMarks,e1,e2]
theorem nr {op:CmpOp} {r:R2} (ho:OpR X (compareOp op) r) (ha:PE X a ta) (hb:PE X b tb) (hm:behindInMarks op b=false):PE X (.Compare a [op] [b] pos) (tOp r ta tb):=by
 intro pins s σ H Q I h
 exact wpAny_Compare1 (binT ha hb I h fun v u s2 x y H2 I2 rx ry q=>ho pins s2 σ H2 x y v u Q I2 rx ry q) hm
noncomputable abbrev sf (t:TE):TT:=fun σ H Q=>t σ H fun x H'=>∃ k,x= .bl k∧Q k H'
theorem aV {op:CmpOp} {r:R2} (ho:OpR X (compareOp op) r) (ha:PE X a ta) (hb:PE X b tb) (hm:behindInMarks op b=false):PT X (.Compare a [op] [b] pos) (sf (tOp r ta tb)):=by
 intro pins s σ H Q I h
 refine wpAny_isTrue_Compare1 (thn (ha pins s σ H _ I h) fun v s1 ⟨x,H1,I1,r1,q1⟩=>thn (hb pins s1 σ H1 _ I1 q1) fun u s2 ⟨y,H2,I2,r2,q2⟩=>
  thn (ho pins s2 σ H2 x y v u _ I2 r1 r2 q2) fun c s3 ⟨z,H3,I3,r3,k,e,q3⟩=>?_) hm
 subst e
 cases r3
 exact wpAny_truthy_bool ⟨H3,I3,q3⟩
noncomputable abbrev su (r r':R2) (ta tb tc:TE):TE:=fun σ H Q=>ta σ H fun x H1=>tb σ H1 fun y H2=>r x y H2 fun z H3=>∃ k,z= .bl k∧
 (if k=true then tc σ H3 fun w' H4=>r' y w' H4 Q else Q (.bl false) H3)
theorem lC {op op':CmpOp} {r r':R2} (ho:OpR X (compareOp op) r) (ho':OpR X (compareOp op') r') (ha:PE X a ta) (hb:PE X b tb) (hc:PE X c tc)
  (hm:lastMarks [op,op'] [b,c]=false:=by with_unfolding_all rfl):PT X (.Compare a [op,op'] [b,c] pos) (sf (su r r' ta tb tc)):=by
 intro pins s σ H Q I h
 refine isTrue_chain (thn (ha pins s σ H _ I h) fun v s1 ⟨x,H1,I1,r1,q1⟩=>test_link (thn (hb pins s1 σ H1 _ I1 q1) fun u s2 ⟨y,H2,I2,r2,q2⟩=>
  thn (ho pins s2 σ H2 x y v u _ I2 r1 r2 q2) fun d s3 ⟨z,H3,I3,r3,k,e,q3⟩=>?_)) hm
 subst e
 cases r3
 refine wpAny_truthy_bool ?_
 cases k with
 | false=>
   obtain ⟨k',e',q'⟩:=q3
   cases e'
   exact ite_ff ⟨H3,I3,q'⟩
 | true=>
   refine ite_tt (test_last (thn (hc pins s3 σ H3 _ I3 q3) fun w' s4 ⟨z',H4,I4,r4,q4⟩=>thn (ho' pins s4 σ H4 y z' u w' _ I4 r2 r4 q4) fun d' s5 ⟨z2,H5,I5,r5,k2,e2,q5⟩=>?_))
   subst e2
   cases r5
   exact wpAny_truthy_bool ⟨H5,I5,q5⟩
theorem nI:(sizeLine:Nat) < 2 ^ 63:=by rw [sizeLine_eq];decide
theorem qx {x:V} {us:List Value} (r:Vals [x] us):∃ u,us=[u]∧RelV x u:=by
 cases r with
 | cons r1 r2=>cases r2;exact ⟨_,rfl,r1⟩
theorem uB {x y:V} {us:List Value} (r:Vals [x,y] us):∃ u w',us=[u,w']∧RelV x u∧RelV y w':=by
 cases r with
 | cons r1 r2=>
   cases r2 with
   | cons r3 r4=>cases r4;exact ⟨_,_,rfl,r1,r3⟩
noncomputable def LenV (K:PySem.W.Frag) (x:V) (H:Hp) (n:Nat):Prop:=
 match x with
 | .str y=>y.length≤sizeLine∧n=y.length
 | .byt y=>y.size≤sizeLine∧n=y.size
 | .ref p=>(∃ xs,SqL K H p xs∧n=xs.length)∨∃ xs,SqT K H p xs∧n=xs.length
 | _=>False
theorem pQ:je X (.builtin "len") (fun xs H Q=>∃ x n,xs=[x]∧LenV X.K x H n∧Q (.int n) H):=by
 intro pins s σ H xs us Q I r h
 obtain ⟨x,n,rfl,e,q⟩:=h
 obtain ⟨u,rfl,rx⟩:=qx r
 have hl:=nI
 have hs:sizeLine=16777216:=sizeLine_eq
 cases x with
 | str y=>
   obtain ⟨t,rfl⟩:=rx
   obtain ⟨hy,e'⟩:y.length≤sizeLine∧n=y.length:=e
   subst e'
   exact len_str (by omega) ⟨.int _,H,I.tok _,⟨_,rfl⟩,q⟩
 | byt y=>
   obtain ⟨t,rfl⟩:=rx
   obtain ⟨hy,e'⟩:y.size≤sizeLine∧n=y.size:=e
   subst e'
   exact PySem.W.len_bytes (by omega) ⟨.int _,H,I.tok _,⟨_,rfl⟩,q⟩
 | ref p=>
   cases rx
   have e':(∃ xs,SqL X.K H p xs∧n=xs.length)∨∃ xs,SqT X.K H p xs∧n=xs.length:=e
   rcases e' with ⟨xs,hx,e'⟩ | ⟨xs,hx,e'⟩
   ·subst e'
    obtain ⟨its,r',pl,hz⟩:=I.list hx
    have hlen:=r'.length
    exact Calls.call_len_list pl.isList (by simp only [List.size_toArray];omega) ⟨.int xs.length,H,I.tok _,⟨_,by simp only [List.size_toArray];rw [hlen]⟩,q⟩
   ·subst e'
    obtain ⟨its,r',pl,hz⟩:=I.tuple hx
    have hlen:=r'.length
    exact len_tuple pl (by simp only [List.size_toArray];omega) ⟨.int xs.length,H,I.tok _,⟨_,by simp only [List.size_toArray];rw [hlen]⟩,q⟩
 | _=>exact (show False from e).elim
end
structure ObjM (h:Heap) (x dx C:Addr) (mA:Str→Option Value):Prop where
 obj:h.get? x=some (PySem.W.instObj C dx)
 ns:h.Ns1 dx mA
 ne:dx≠x
theorem nG {h:Heap} {dx:Addr} {mA:Str→Option Value} (n:h.Ns1 dx mA):∃ od,h.get? dx=some od∧∀ name,PySem.W.lookIn name od=some (mA name):=by
 obtain ⟨o,es,ep,ho,hd,hk,_,hm⟩:=n
 refine ⟨o,ho,fun name=>?_⟩
 have e:=hm name
 unfold nsFind findBy at e
 rw [← Array.find?_toList] at e
 unfold PySem.W.lookIn
 rw [hd]
 dsimp only
 split
 ·rename_i y q
  rw [q] at e
  exact congrArg some e
 ·rename_i q
  rw [q] at e
  have a:es.toList.any (·.refKey)=false:=by
   rw [List.any_eq_false]
   intro y hy
   obtain ⟨z,t,hkey⟩:=hk y (Array.mem_toList_iff.mp hy)
   simp [DictEntry.refKey,hkey]
  have a':¬ es.toList.any (·.refKey)=true:=by rw [a];exact Bool.false_ne_true
  rw [if_neg a']
  exact congrArg some e
theorem ObjM.look {h:Heap} {x dx C:Addr} {mA:Str→Option Value} (I:ObjM h x dx C mA):∃ od,PySem.W.InstAt h x (PySem.W.instObj C dx) C (some od)∧∀ name,PySem.W.lookIn name od=some (mA name):=
 let ⟨od,ho,hl⟩:=nG I.ns
 ⟨od,⟨I.obj,rfl,rfl,ho⟩,hl⟩
section
variable {prog:Program} {w:World} {A:Around} {E:Value→Shared→Prop} {s:Shared} {K:PySem.W.Frag} {x dx C f:Addr} {mA:Str→Option Value} {name:Str} {v:Value}
theorem dc {expr:Bool} {Q:Value→Shared→Prop} (X:K.In s.heap) (I:ObjM s.heap x dx C mA) (hg:PySem.W.plainGet K C name=true) (hh:PySem.W.hasDictIn K C=true)
  (ha:PySem.W.findIn K (.ref C) name=some none) (hv:mA name=some v) (hv':PySem.W.handedIn v=true) (h:Q v {s with toks:=s.toks + 1}):
  wpAny (model prog w) A (getAttr (.ref x) name expr) Q E s:=by
 obtain ⟨od,J,hl⟩:=I.look
 exact PySem.W.get_value X J (PySem.W.plainGet_of hg).1 (PySem.W.findObj_own hh ha rfl (by rw [hl,hv])) hv' h
theorem pF {pl:Sem Bool} {Q:Value×List Value→Shared→Prop} (X:K.In s.heap) (I:ObjM s.heap x dx C mA) (hg:PySem.W.plainGet K C name=true)
  (hf:PySem.W.findIn K (.ref C) name=some (some (.ref f))) (ht:PySem.W.isFn K (.ref f)=true) (hv:mA name=none) (h:Q (.ref f,[.ref x]) s):
  wpAny (model prog w) A (getMethod (.ref x) name pl) Q E s:=by
 obtain ⟨od,J,hl⟩:=I.look
 exact PySem.W.method_fn X J (PySem.W.plainGet_of hg).1 (PySem.W.plainGet_of hg).2 hf (beq_iff_eq.mp ht) (by show (PySem.W.lookIn name od).map (·.isSome)=some false;rw [hl,hv];rfl) h
theorem qJ {ns:List Str} {Q:Unit→Shared→Prop} (X:K.In s.heap) (I:ObjM s.heap x dx C mA)
  (hs:PySem.W.findIn K (.ref C) "__setattr__"=some (some (.builtin "object.__setattr__"))) (hp:PySem.W.plainOver K C=true) (ht:PySem.W.takerIn K C name=some none) (hh:PySem.W.hasDictIn K C=true)
  (hw:PySem.Within mA ns) (hsz:ns.length≤sizeLine)
  (h:∀ h',ObjM h' x dx C (fun y=>if y=name then some v else mA y)→Heap.SameBut dx s.heap h'→Q () {s with heap:=h',toks:=s.toks + 2}):
  wpAny (model prog w) A (setAttr (.ref x) name v) Q E s:=by
 obtain ⟨od,J,hl⟩:=I.look
 refine PySem.W.set_plain X J hs (PySem.W.osa_open (s:={s with toks:=s.toks + 1}) (r:=none) X J hp ht fun b=>?_)
 obtain ⟨cd,hc,hd'⟩:=PySem.W.any_some hh
 have hx:s.heap.get? x=some ⟨.ref C,some dx,.plain,#[]⟩:=I.obj
 refine wpAny_bind (wpAny_pure (wpAny_bind (wpAny_bind (wpAny_loadPart hx (wpAny_bind (PySem.W.Looks.here (s:={s with toks:=s.toks + 1}) (PySem.W.looks_clsIn X hc) ?_))))))
 rw [hd']
 refine wpAny_pure (a:=some dx) (wpAny_bind (wpAny_pure (wpAny_bind ?_)))
 refine wpAny_nsSet1 (s:={s with toks:=s.toks + 1}) I.ns fun h' hn2 hs2=>?_
 obtain ⟨oD,esD,epD,hoD,hdD,hcD⟩:=hn2.count (PySem.Within.cons name v hw)
 refine wpAny_bind (wpAny_lookBehind hoD (by rw [hdD];exact pastItsLine_dict (Nat.le_trans hcD (by rw [List.length_cons];omega))) ?_)
 exact wpAny_pure (h _ ⟨(hs2.2 _ (Ne.symm I.ne)).trans I.obj,hn2,I.ne⟩ hs2)
theorem pq {R:Result→Shared→Prop} {vs:List Value} {kw:List (Str×Value)} (X:K.In s.heap) (hm:PySem.W.makesIn K C=true)
  (hi:PySem.W.findIn K (.ref C) "__init__"=some (some (.ref f))) (hf:PySem.W.typeIn K (.ref f)=some (.type "function"))
  (h:codeAny (model prog w) (A.under (.builtin "type.__call__" ⟨.ref C::vs,kw⟩)) (.call (.ref f) ⟨.ref (s.heap.objs.size + 1)::vs,kw⟩) (PySem.W.InitBack (s.heap.objs.size + 1) R)
   {s with heap:=(s.heap.push PySem.W.emptyDict).push (PySem.W.instObj C s.heap.objs.size)}):
  codeAny (model prog w) A (.call (.ref C) ⟨vs,kw⟩) R s:=by
 obtain ⟨hh,g,d,t,os⟩:=s
 exact PySem.W.make_core (PySem.W.makes_of X hm) (PySem.W.looks_findIn X hi) (fun self=>PySem.W.bind_fn X self hf) (.inl rfl) h
end
noncomputable def putF (f:Str) (v:V):List (Str×V)→List (Str×V)
 | []=>[(f,v)]
 | (g,x)::r=>if g=f then (g,v)::r else (g,x)::putF f v r
theorem gL (f g:Str) (v:V):∀ fs:List (Str×V),(putF f v fs).lookup g=if g=f then some v else fs.lookup g
 | []=>by
   show List.lookup g [(f,v)]=_
   by_cases h:g=f
   ·have hb:(g == f)=true:=beq_iff_eq.mpr h
    simp only [List.lookup,hb,if_pos h]
   ·have hb:(g == f)=false:=beq_eq_false_iff_ne.mpr h
    simp only [List.lookup,hb,if_neg h]
 | (k,x)::r=>by
   have ih:=gL f g v r
   rw [show putF f v ((k,x)::r)=(if k=f then (k,v)::r else (k,x)::putF f v r) from rfl]
   by_cases hk:k=f
   ·rw [if_pos hk]
    by_cases h:g=k
    ·have hb:(g == k)=true:=beq_iff_eq.mpr h
     simp only [List.lookup,hb,if_pos (h.trans hk)]
    ·have hb:(g == k)=false:=beq_eq_false_iff_ne.mpr h
     simp only [List.lookup,hb,if_neg (fun e:g=f=>h (e.trans hk.symm))]
   ·rw [if_neg hk]
    by_cases h:g=k
    ·have hb:(g == k)=true:=beq_iff_eq.mpr h
     simp only [List.lookup,hb,if_neg (fun e:g=f=>hk (h.symm.trans e))]
    ·have hb:(g == k)=false:=beq_eq_false_iff_ne.mpr h
     simp only [List.lookup,hb]
     exact ih
theorem gR (f:Str) (v:V):∀ fs:List (Str×V),f∈(putF f v fs).map (·.1)∧∀ g,g∈fs.map (·.1)→g∈(putF f v fs).map (·.1)
 | []=>⟨by simp [putF],fun g h=>by simp at h⟩
 | (k,x)::r=>by
   obtain ⟨i1,i2⟩:=gR f v r
   rw [show putF f v ((k,x)::r)=(if k=f then (k,v)::r else (k,x)::putF f v r) from rfl]
   by_cases hk:k=f
   ·rw [if_pos hk]
    subst hk
    exact ⟨by simp,fun g h=>by simpa using h⟩
   ·rw [if_neg hk]
    refine ⟨?_,fun g h=>?_⟩
    ·rw [List.map_cons]
     exact List.mem_cons_of_mem _ i1
    ·rw [List.map_cons] at h ⊢
     rcases List.mem_cons.mp h with e | e
     ·exact List.mem_cons.mpr (.inl e)
     ·exact List.mem_cons_of_mem _ (i2 g e)
theorem gO (f:Str) (v:V):∀ fs:List (Str×V),(putF f v fs).length≤fs.length + 1
 | []=>by simp [putF]
 | (k,x)::r=>by
   have ih:=gO f v r
   rw [show putF f v ((k,x)::r)=(if k=f then (k,v)::r else (k,x)::putF f v r) from rfl]
   by_cases hk:k=f
   ·rw [if_pos hk,List.length_cons,List.length_cons];omega
   ·rw [if_neg hk,List.length_cons,List.length_cons];omega
theorem RelO.some_of {v:V} {o:Option Value} (r:RelO (some v) o):∃ u,o=some u∧RelV v u:=by
 cases o with
 | none=>exact (show False from r).elim
 | some u=>exact ⟨u,rfl,r⟩
theorem RelO.none_of {o:Option Value} (r:RelO none o):o=none:=by
 cases o with
 | none=>rfl
 | some u=>exact (show False from r).elim
theorem nX {v:V} {u:Value} (r:RelV v u):PySem.W.handedIn u=true:=by
 cases v with
 | non=>cases (show u=Value.none from r);rfl
 | bl b=>cases (show u=Value.bool b from r);rfl
 | int i=>obtain ⟨t,e⟩:=(show ∃ t,u=Value.int i t from r);cases e;rfl
 | str x=>obtain ⟨t,e⟩:=(show ∃ t,u=Value.str x t from r);cases e;rfl
 | byt b=>obtain ⟨t,e⟩:=(show ∃ t,u=Value.bytes b t from r);cases e;rfl
 | flt b=>obtain ⟨t,e⟩:=(show ∃ t,u=Value.float b t from r);cases e;rfl
 | ref a=>cases (show u=Value.ref a from r);rfl
 | ty n=>cases (show u=Value.type n from r);rfl
section
variable {P:Program} {w:World} {H H':Hp} {h h':Heap} {a C dx:Addr} {fs fs':List (Str×V)}
theorem kM (hok:HOk P w H h) (e:H a=some (.ins C dx fs)):∃ mA,ObjM h a dx C mA∧(∀ f,RelO (fs.lookup f) (mA f))∧PySem.Within mA (fs.map (·.1))∧fs.length≤1000∧H dx=some (.own a):=by
 obtain ⟨d,z,ne,ob,mA,n,r,q⟩:=(show cj P w H h a (.ins C dx fs) from hok a _ e)
 exact ⟨mA,⟨ob,n,ne⟩,r,q,z,d⟩
end
structure Cls (K:PySem.W.Frag) (C:Addr):Prop where
 pg:PySem.W.plainGet K C Str.empty=true
 hd:PySem.W.hasDictIn K C=true
 po:PySem.W.plainOver K C=true
 sa:PySem.W.findIn K (.ref C) "__setattr__"=some (some (.builtin "object.__setattr__"))
theorem Cls.get {K:PySem.W.Frag} {C:Addr} (c:Cls K C) (f:Str):PySem.W.plainGet K C f=true:=c.pg
noncomputable def cM (K:PySem.W.Frag) (C:Addr) (f:Str):Prop:=PySem.W.findIn K (.ref C) f=some none
theorem cM.taker {K:PySem.W.Frag} {C:Addr} {f:Str} (n:cM K C f):PySem.W.takerIn K C f=some none:=by
 unfold PySem.W.takerIn
 rw [show PySem.W.findIn K (.ref C) f=some none from n]
 rfl
structure Con (K:PySem.W.Frag) (C:Addr) (f:Str) (v:V) (u:Value):Prop where
 at_:PySem.W.findIn K (.ref C) f=some (some u)
 rel:RelV v u
 get:PySem.W.specialIn K u "__get__"=some none
 cp:PySem.W.copiedNames.contains f=false
structure Meth (K:PySem.W.Frag) (C:Addr) (m:Str) (f:Addr):Prop where
 at_:PySem.W.findIn K (.ref C) m=some (some (.ref f))
 fn:PySem.W.isFn K (.ref f)=true
 kp:PySem.W.keepIn K (.ref f)=true
section
variable {X:Cx} {pins:List (Addr×Obj)} {σ:St} {H:Hp} {s:Shared} {a C dx:Addr} {fs:List (Str×V)} {f:Str} {v:V} {A:Around} {E:Value→Shared→Prop}
theorem mw {b:Bool} {Q:Value→Shared→Prop} (I:Inv X pins σ H s) (e:H a=some (.ins C dx fs)) (c:Cls X.K C) (n:cM X.K C f) (l:fs.lookup f=some v)
  (h:∀ u s',Inv X pins σ H s'→RelV v u→Q u s'):wpAny (model X.prog X.w) A (getAttr (.ref a) f b) Q E s:=by
 obtain ⟨mA,O,r,_,_,_⟩:=kM I.hok e
 obtain ⟨u,hu,ru⟩:=RelO.some_of (v:=v) (o:=mA f) (by rw [← l];exact r f)
 exact dc I.kIn O (c.get f) c.hd n hu (nX ru) (h u _ (I.tok _) ru)
theorem mq {m:Str} {g:Addr} {pl:Sem Bool} {Q:Value×List Value→Shared→Prop} (I:Inv X pins σ H s) (e:H a=some (.ins C dx fs)) (c:Cls X.K C) (k:Meth X.K C m g) (l:fs.lookup m=none)
  (h:Q (.ref g,[.ref a]) s):wpAny (model X.prog X.w) A (getMethod (.ref a) m pl) Q E s:=by
 obtain ⟨mA,O,r,_,_,_⟩:=kM I.hok e
 have hn:mA m=none:=RelO.none_of (by rw [← l];exact r m)
 exact pF I.kIn O (c.get m) k.at_ k.fn hn h
theorem lY {y:V} {u:Value} {Q:Unit→Shared→Prop} (I:Inv X pins σ H s) (e:H a=some (.ins C dx fs)) (c:Cls X.K C) (n:cM X.K C f) (hl:fs.length < 1000) (ry:RelV y u)
  (h:∀ s',Inv X pins σ (upd H a (.ins C dx (putF f y fs))) s'→Q () s'):wpAny (model X.prog X.w) A (setAttr (.ref a) f u) Q E s:=by
 obtain ⟨mA,O,r,wi,_,ho⟩:=kM I.hok e
 have hz:(fs.map (·.1)).length≤sizeLine:=by rw [List.length_map,sizeLine_eq];omega
 refine qJ I.kIn O c.sa c.po n.taker c.hd wi hz fun h' O' sb=>h _ ?_
 have hd:∃ o,h'.get? dx=some o:=let ⟨o,_,_,e',_⟩:=O'.ns;⟨o,e'⟩
 refine I.write (x:=a) (e:=dx) (by rw [e];exact True.intro) (.inr ho) (fun b q hb z=>(sb.2 b hb).trans z) hd ?_
 refine ⟨by rw [az O.ne];exact ho,?_,O.ne,O'.obj,_,O'.ns,fun g=>?_,fun g hg=>?_⟩
 ·have:=gO f y fs;omega
 ·show RelO ((putF f y fs).lookup g) (if g=f then some u else mA g)
  rw [gL]
  by_cases q:g=f
  ·rw [if_pos q,if_pos q];exact ry
  ·rw [if_neg q,if_neg q];exact r g
 ·by_cases q:g=f
  ·rw [q];exact (gR f y fs).1
  ·refine (gR f y fs).2 g (wi g fun z=>hg ?_)
   show (if g=f then some u else mA g)=none
   rw [if_neg q];exact z
theorem Inv.made (I:Inv X pins σ H s):Inv X pins σ (upd (upd H s.heap.objs.size (.own (s.heap.objs.size + 1))) (s.heap.objs.size + 1) (.ins C s.heap.objs.size []))
  {s with heap:=(s.heap.push PySem.W.emptyDict).push (PySem.W.instObj C s.heap.objs.size)}:=by
 have e1:(s.heap.push PySem.W.emptyDict).get? s.heap.objs.size=some PySem.W.emptyDict:=Heap.get?_push_size s.heap rfl
 have e2:((s.heap.push PySem.W.emptyDict).push (PySem.W.instObj C s.heap.objs.size)).get? (s.heap.objs.size + 1)=some (PySem.W.instObj C s.heap.objs.size):=by
  have:=Heap.get?_push_size (s.heap.push PySem.W.emptyDict) (o:=PySem.W.instObj C s.heap.objs.size) rfl
  rwa [Heap.size_push] at this
 have e3:(s.heap.push PySem.W.emptyDict).Ns s.heap.objs.size (fun _=>none):=⟨PySem.W.emptyDict,#[],_,e1,rfl,(fun e he=>absurd he (by simp)),fun _=>rfl⟩
 have I1:=I.laid (a:=s.heap.objs.size) (o:= .own (s.heap.objs.size + 1)) (h':=s.heap.push PySem.W.emptyDict) (t':=s.toks) (fun b u q=>Heap.get?_push_of_some _ q) (Nat.le_refl _) ⟨_,e1⟩
 refine I1.laid (a:=s.heap.objs.size + 1) (o:= .ins C s.heap.objs.size []) (t':=s.toks) (fun b u q=>Heap.get?_push_of_some _ q) (Nat.le_of_eq (Heap.size_push _ _)) ?_
 have ne:s.heap.objs.size≠s.heap.objs.size + 1:=Nat.ne_of_lt (Nat.lt_succ_self _)
 refine ⟨by rw [az ne,be],Nat.zero_le _,ne,e2,fun _=>none,(Heap.Ns1.of_empty e3).at fun o q=>Heap.get?_push_of_some _ q,fun _=>True.intro,fun y hy=>absurd rfl hy⟩
theorem rP {prog:Program} {w:World} {env:Env} {e:Expr} {f:Str} {pos:Pos} {s:Shared} {Q:Value→Shared→Prop} (hb:attributeBase e f env (eval e env)=eval e env)
  (h:wpAny (model prog w) A (eval e env) (fun o s₁=>wpAny (model prog w) A (getAttr o f true) Q E s₁) E s):wpAny (model prog w) A (eval (.Attribute e f pos) env) Q E s:=
 Attribute_any_ h (by rw [arm_eval_Attribute,hb])
end
noncomputable def tFld (K:PySem.W.Frag) (ta:TE) (f:Str):TE:=fun σ H Q=>ta σ H fun x H1=>∃ a C dx fs v,x= .ref a∧H1 a=some (.ins C dx fs)∧Cls K C∧cM K C f∧fs.lookup f=some v∧Q v H1
noncomputable def sFld (K:PySem.W.Frag) (ta tv:TE) (f:Str):TS:=fun D σ H=>tv σ H fun y H1=>ta σ H1 fun x H2=>∃ a C dx fs,x= .ref a∧H2 a=some (.ins C dx fs)∧Cls K C∧cM K C f∧fs.length < 1000∧
 D.nx σ (upd H2 a (.ins C dx (putF f y fs)))
section
variable {X:Cx} {o e value:Expr} {f:Str} {pos pos' tpos:Pos} {ta tv:TE}
theorem tF (he:PE X e ta) (hb:attributeBase e f X.env (eval e X.env)=eval e X.env):PE X (.Attribute e f pos) (tFld X.K ta f):=by
 intro pins s σ H Q I h
 refine rP hb (thn (he pins s σ H _ I h) fun u s1 ⟨x,H1,I1,rx,a,C,dx,fs,v,ex,ea,c,n,l,q⟩=>?_)
 subst ex
 obtain rfl:u=Value.ref a:=rx
 exact mw I1 ea c n l fun u' s2 I2 ru=>⟨v,H1,I2,ru,q⟩
theorem tw (ha:PE X o ta) (hv:PE X value tv) (hs:swapsWith value (some (.Attribute o f pos')) pos.line X.env=pure false):PS X (.Assign [.Attribute o f pos'] value pos) (sFld X.K ta tv f):=by
 intro pins s σ H D I h
 refine plainObj_wpAny_Assign_Attribute (thn (hv pins s σ H _ I h) fun u s1 ⟨y,H1,I1,ry,q⟩=>thn (ha pins s1 σ H1 _ I1 q) fun ov s2 ⟨x,H2,I2,rx,a,C,dx,fs,ex,ea,c,n,l,q2⟩=>?_) hs
 subst ex
 obtain rfl:ov=Value.ref a:=rx
 exact lY I2 ea c n l ry fun s3 I3=>⟨σ,_,I3,q2⟩
end
section
variable {X:Cx} {pins:List (Addr×Obj)} {σ:St} {H:Hp} {s:Shared} {A:Around} {E:Value→Shared→Prop} {Q:Value→Shared→Prop} {c:Value} {b:Bool}
inductive TyOf (K:PySem.W.Frag) (H:Hp):V→Value→Prop where
 | non:TyOf K H .non (.type "NoneType")
 | bl (x:Bool):TyOf K H (.bl x) (.type "bool")
 | int (i:Int):TyOf K H (.int i) (.type "int")
 | str (x:Str):TyOf K H (.str x) (.type "str")
 | flt (x:UInt64):TyOf K H (.flt x) (.type "float")
 | lst {a:Addr} {xs:List V} (e:H a=some (.lst xs)):TyOf K H (.ref a) (.type "list")
 | frz {a:Addr} {o:Obj} {xs:List V} (e:H a=some (.frz o (.lst xs))):TyOf K H (.ref a) (.type "list")
 | tup {a:Addr} {xs:List V} (e:H a=some (.tup xs)):TyOf K H (.ref a) (.type "tuple")
 | dK {a:Addr} {kvs:List (Key×V)} (e:H a=some (.dK kvs)):TyOf K H (.ref a) (.type "dict")
 | dT {a:Addr} {kvs:List (List Key×V)} (e:H a=some (.dT kvs)):TyOf K H (.ref a) (.type "dict")
 | ins {a C dx:Addr} {fs:List (Str×V)} (e:H a=some (.ins C dx fs)) (cl:Cls K C) (ha:PySem.W.findIn K (.ref C) "__class__"=some (some (.builtin "object.__class__")))
   (hn:PySem.W.specialIn K (.builtin "object.__class__") "__get__"=some (some (.builtin "getset_descriptor.__get__"))) (htk:PySem.W.takesIn K (.builtin "object.__class__")=some true)
   (hm:PySem.W.mroIn K C (.type "object")=some true):TyOf K H (.ref a) (.ref C)
end
structure Room (k:Nat) (A:Around):Prop where
 hd:A.handled=none
 dp:A.depth + 3 * k + 5 < recursionLimit
 un:A.units + 16 * k + 200 < cLine
theorem Room.mono {j k:Nat} {A:Around} (r:Room k A) (h:j≤k):Room j A:=⟨r.hd,by have:=r.dp;omega,by have:=r.un;omega⟩
theorem Room.deeper {k:Nat} {A:Around} (r:Room (k + 1) A) (env:Env):Room k (A.deeper env):=
 ⟨r.hd,by have:=r.dp;show A.depth + 1 + 3 * k + 5 < _;omega,by have:=r.un;show A.units + 3 + 16 * k + 200 < _;omega⟩
theorem mi {A:Around} {C:Addr} {us:List Value} {kw:List (Str×Value)}:(A.under (.builtin "type.__call__" ⟨.ref C::us,kw⟩)).depth=A.depth + 1:=by
 first | rfl | simp [Around.under,Code.weight,Code.isCreation,Code.isGuard,Code.isCaller,Code.frames,Code.isFrame,guardIds]
theorem mh {A:Around} {C:Addr} {us:List Value} {kw:List (Str×Value)}:(A.under (.builtin "type.__call__" ⟨.ref C::us,kw⟩)).units=A.units + 1:=by
 first | rfl | simp [Around.under,Code.cUnits,Code.frames,Code.isFrame]
theorem Room.make {k:Nat} {A:Around} (r:Room (k + 1) A) (C:Addr) (us:List Value) (kw:List (Str×Value)):Room k (A.under (.builtin "type.__call__" ⟨.ref C::us,kw⟩)):=
 ⟨r.hd,by have:=r.dp;rw [mi];omega,by have:=r.un;rw [mh];omega⟩
theorem Room.depth {k:Nat} {A:Around} (r:Room k A):A.depth < recursionLimit:=by have:=r.dp;omega
theorem Room.units {k:Nat} {A:Around} (r:Room k A):A.units + 64 < cLine:=by have:=r.un;omega
noncomputable abbrev tNil:TA:=fun _ H Q=>Q [] H
noncomputable abbrev uF (ta:TE) (tr:TA):TA:=fun σ H Q=>ta σ H fun x H1=>tr σ H1 fun xs H2=>Q (x::xs) H2
section
variable {X:Cx} {e:Expr} {es:List Expr} {te:TE} {t:TA} {pos:Pos}
theorem ai:PA X [] tNil:=fun _ _ _ _ H Q I h=>Calls.spliced_nil ⟨[],H,I,.nil,h⟩
theorem aa (ha:PE X e te) (hr:PA X es t) (hs:starEach (e::es) X.env=(false,eval e X.env)::starEach es X.env:=by rfl):PA X (e::es) (uF te t):=by
 intro pos pins s σ H Q I h
 rw [hs]
 show wpAny _ _ (spliced ((false,eval e X.env)::backTo pos (starEach es X.env))) _ _ s
 refine Calls.spliced_cons (thn (ha pins s σ H _ I h) fun u s1 ⟨x,H1,I1,r1,q1⟩=>?_)
 exact thn (hr pos pins s1 σ H1 _ I1 q1) fun us s2 ⟨xs,H2,I2,r2,q2⟩=>⟨x::xs,H2,I2,.cons r1 r2,q2⟩
noncomputable def tTup (t:TA):TE:=fun σ H Q=>t σ H fun xs H1=>xs.length≤sizeLine∧∀ p,H1 p=none→Q (.ref p) (upd H1 p (.tup xs))
noncomputable def tLst (t:TA):TE:=fun σ H Q=>t σ H fun xs H1=>xs.length≤sizeLine∧∀ p,H1 p=none→Q (.ref p) (upd H1 p (.lst xs))
theorem lE {x1} (h:PA X es t):PE X (.Tuple es x1 pos) (tTup t):=by
 intro pins s σ H Q I hq
 refine wpAny_Tuple_spliced (thn (h pos pins s σ H _ I hq) fun us s1 ⟨xs,H1,I1,r,z,q⟩=>⟨by rw [← r.length];exact z,?_⟩)
 have hf:H1 s1.heap.objs.size=none:=I1.hok.fresh (Nat.le_refl _)
 refine ⟨.ref s1.heap.objs.size,upd H1 s1.heap.objs.size (.tup xs),I1.laid (t':=s1.toks) (fun b u e=>Heap.get?_push_of_some _ e) (Nat.le_refl _) ?_,rfl,q _ hf⟩
 exact ⟨z,us,r,⟨_,Heap.get?_push_size _ rfl,rfl,_,rfl⟩⟩
theorem iq (h:PA X es t):PE X (.List es pos) (tLst t):=by
 intro pins s σ H Q I hq
 refine wpAny_List_spliced (thn (h pos pins s σ H _ I hq) fun us s1 ⟨xs,H1,I1,r,z,q⟩=>⟨by rw [← r.length];exact z,?_⟩)
 have hf:H1 s1.heap.objs.size=none:=I1.hok.fresh (Nat.le_refl _)
 refine ⟨.ref s1.heap.objs.size,upd H1 s1.heap.objs.size (.lst xs),I1.laid (t':=s1.toks) (fun b u e=>Heap.get?_push_of_some _ e) (Nat.le_refl _) ?_,rfl,q _ hf⟩
 exact ⟨z,us,0,r,Heap.get?_push_size _ rfl⟩
end
noncomputable abbrev Sp:=List V→Hp→VK→XK→Prop
noncomputable abbrev CXT:=List Env→Hp→Shared→XK→Value→Shared→Prop
structure Env0 (P:Program) (w:World) (K:PySem.W.Frag) (mg:Str→Option Value) (base:Heap) (A:Around) (outer:List Env) (s:Shared) (H:Hp):Prop where
 frames:A.frames=some outer
 mod:Mod K mg base
 bs:∀ b o,base.get? b=some o→s.heap.get? b=some o∧H b=none
 bsz:base.objs.size≤s.heap.objs.size
 funs:s.heap.FunFrames base outer
 frf:∀ b∈frs outer,H b=none
 hok:HOk P w H s.heap
 bare:AllBare s.gens
noncomputable def CE (outer:List Env) (P:Program) (w:World) (H:Hp) (s:Shared) (Q:VK) (u:Value) (s':Shared):Prop:=
 ∃ v H',s'.os=s.os∧AllBare s'.gens∧Un (frs outer) [] H H' s.heap s'.heap∧HOk P w H' s'.heap∧RelV v u∧Q v H'
noncomputable def CR (CX:CXT) (outer:List Env) (P:Program) (w:World) (H:Hp) (s:Shared) (Q:VK) (E:XK) (r:Result) (s':Shared):Prop:=
 match r with
 | .ok (.ret u)=>CE outer P w H s Q u s'
 | .ok _=>False
 | .error e=>CX outer H s E e s'
structure FnOk (P:Program) (w:World) (K:PySem.W.Frag) (mg:Str→Option Value) (base:Heap) (CX:CXT) (k:Nat) (f:Addr) (fd:FuncData) (ps:List Str) (sp:Sp):Prop where
 len:∀ vs H Q E,sp vs H Q E→vs.length=ps.length
 run:∀ (A:Around) (outer:List Env) (s:Shared) (H:Hp) (args:Args) (us:List Value) (vs:List V) (Q:VK) (E:XK),Room k A→Env0 P w K mg base A outer s H→BindsTo s fd args (ps.zip us)→Vals vs us→sp vs H Q E→
  codeAny (model P w) A (.call (.ref f) args) (CR CX outer P w H s Q E) s
theorem Env0.make {P:Program} {w:World} {K:PySem.W.Frag} {mg:Str→Option Value} {base:Heap} {A:Around} {outer:List Env} {s:Shared} {H:Hp} (e:Env0 P w K mg base A outer s H) (C:Addr) (us:List Value) (kw:List (Str×Value)):
  Env0 P w K mg base (A.under (.builtin "type.__call__" ⟨.ref C::us,kw⟩)) outer s H:=⟨by first | exact e.frames | (simpa [Around.under,Code.envs,Code.isFrame,pushEnvs] using e.frames),e.mod,e.bs,e.bsz,e.funs,e.frf,e.hok,e.bare⟩
section
variable {X:Cx} {pins:List (Addr×Obj)} {σ:St} {H:Hp} {s s':Shared}
theorem Inv.env0 (I:Inv X pins σ H s):Env0 X.prog X.w X.K X.mg X.base X.A X.stack s H:=
 ⟨I.ok.frames,I.ok.mod,I.bs,Nat.le_trans I.ok.bsz I.sz,I.stack,I.stkFree,I.hok,I.bare⟩
theorem Inv.after {Q:VK} {u:Value} (I:Inv X pins σ H s) (h:CE X.stack X.prog X.w H s Q u s'):EP X pins σ Q u s':=by
 obtain ⟨v,H',os,bare,un,hok,r,q⟩:=h
 obtain ⟨hh,g,d,t,os'⟩:=s'
 obtain rfl:os'=s.os:=os
 exact ⟨v,H',I.call (h':=hh) (g':=g) (d':=d) (t':=t) (ch:=[]) un hok bare (fun b z=>absurd z (by simp)),r,q⟩
end
noncomputable def qy (sp:Sp) (dvs:List V) (E:XK) (t:TA):TE:=fun σ H Q=>t σ H fun vs H1=>sp (vs++dvs) H1 Q E
noncomputable def si (C:Addr) (m:Str) (sp:Sp) (dvs:List V) (E:XK) (ta:TE) (t:TA):TE:=fun σ H Q=>ta σ H fun x H1=>∃ a dx fs,x= .ref a∧H1 a=some (.ins C dx fs)∧fs.lookup m=none∧
 t σ H1 fun vs H2=>sp (x::(vs++dvs)) H2 Q E
noncomputable def sj (C:Addr) (sp:Sp) (dvs:List V) (E:XK) (t:TA):TE:=fun σ H Q=>t σ H fun vs H1=>∀ x dx,H1 x=none→H1 dx=none→dx≠x→
 sp (.ref x::(vs++dvs)) (upd (upd H1 dx (.own x)) x (.ins C dx [])) (fun v H2=>v= .non∧Q (.ref x) H2) E
noncomputable def cn (K:PySem.W.Frag) (fd:FuncData) (ps:List Str) (ds:List Value):Prop:=
 ∀ (s:Shared) (us:List Value),K.In s.heap→(us++ds).length=ps.length→BindsTo s fd ⟨us,[]⟩ (ps.zip (us++ds))
theorem cn.all {K:PySem.W.Frag} {fd:FuncData} {ps:List Str} (h:∀ us:List Value,us.length=ps.length→bindArgs fd ⟨us,[]⟩=pure (ps.zip us)):cn K fd ps []:=fun s us _ hl=>by
 rw [List.append_nil] at hl ⊢
 exact .of_eq (h us hl)
noncomputable def iE (CX:CXT) (X:Cx) (E:XK):Prop:=∀ (pins:List (Addr×Obj)) (σ:St) (H:Hp) (s:Shared) (e:Value) (s':Shared),Inv X pins σ H s→CX X.stack H s E e s'→X.xe e s'
section
variable {X:Cx} {CX:CXT} {k:Nat} {f C:Addr} {fd:FuncData} {ps:List Str} {sp:Sp} {dvs:List V} {ds:List Value} {E:XK} {x m:Str} {p pos apos:Pos} {e o:Expr} {es:List Expr} {ta:TE} {t:TA}
theorem p4 {pins:List (Addr×Obj)} {σ:St} {H:Hp} {s:Shared} {Q:VK} {us:List Value} {vs:List V} (F:FnOk X.prog X.w X.K X.mg X.base CX k f fd ps sp) (hr:Room k X.A) (hb:cn X.K fd ps ds) (hd:Vals dvs ds) (hx:iE CX X E)
  (I:Inv X pins σ H s) (r:Vals vs us) (h:sp (vs++dvs) H Q E):wpAny (model X.prog X.w) X.A (call (.ref f) us) (EP X pins σ Q) X.xe s:=by
 have r2:Vals (vs++dvs) (us++ds):=r.append hd
 have hl:(us++ds).length=ps.length:=by rw [← r2.length];exact F.len _ _ _ _ h
 refine wpAny_call (codeAny_mono (F.run X.A X.stack s H ⟨us,[]⟩ (us++ds) (vs++dvs) Q E hr I.env0 (hb s us I.kIn hl) r2 h) fun r s' hq=>?_)
 cases r with
 | error e=>exact hx pins σ H s e s' I hq
 | ok fl=>
   cases fl with
   | ret u=>exact I.after hq
   | next=>exact False.elim hq
   | brk=>exact False.elim hq
   | cont=>exact False.elim hq
theorem aA (F:FnOk X.prog X.w X.K X.mg X.base CX k f fd ps sp) (hr:Room k X.A) (hg:Gl X x) (hm:X.mg x=some (.ref f)) (hk:PySem.W.keepIn X.K (.ref f)=true) (hb:cn X.K fd ps ds) (hd:Vals dvs ds) (hx:iE CX X E)
  (ha:PA X (e::es) t) (hdb:(x == ("__debug__":Str))=false:=by decide) (he:starEach (e::es) X.env=(false,eval e X.env)::starEach es X.env:=by rfl) (hpl:(backTo pos (starEach es X.env)).any (·.1)=false:=by rfl):
  PE X (.Call (.Name x p) (e::es) [] pos) (qy sp dvs E t):=by
 intro pins s σ H Q I h
 refine wpAny_Call_Name_kw (nK I hg hm ?_ hdb)
 refine PySem.W.callWith_K (h₀:=X.base) I.ok.mod.kin hk (thn (ha pos pins s σ H _ I h) fun us s1 ⟨vs,H1,I1,r,q⟩=>⟨I1.kIn,?_⟩) he hpl
 exact p4 F hr hb hd hx I1 r q
theorem iP {pl:Sem Bool} (he:PE X o ta) (c:Cls X.K C) (hm:Meth X.K C m f) (F:FnOk X.prog X.w X.K X.mg X.base CX k f fd ps sp) (hr:Room k X.A) (hb:cn X.K fd ps ds) (hd:Vals dvs ds) (hx:iE CX X E) (ha:PA X (e::es) t)
  (hst:starEach (e::es) X.env=(false,eval e X.env)::starEach es X.env:=by rfl) (hpl:(backTo pos (starEach es X.env)).any (·.1)=false:=by rfl)
  (ht:eval (.Call (.Attribute o m apos) (e::es) [] pos) X.env=(do
   let ov ← eval o X.env
   standAt apos.atName
   let (f,first) ← holding [ov] (getMethod ov m pl)
   callWith pos f first (backTo pos (starEach (e::es) X.env)) (backToKw pos (keywordEach [] X.env))):=by rfl):
  PE X (.Call (.Attribute o m apos) (e::es) [] pos) (si C m sp dvs E ta t):=by
 intro pins s σ H Q I h
 refine PySem.W.methodCall_KW (pl:=pl) (thn (he pins s σ H _ I h) fun u s1 ⟨x,H1,I1,rx,a,dx,fs,ex,ea,l,q⟩=>?_) ht
 subst ex
 obtain rfl:u=Value.ref a:=rx
 refine mq I1 ea c hm l ?_
 refine PySem.W.callWith_K (first:=[.ref a]) (h₀:=X.base) I.ok.mod.kin hm.kp (thn (ha pos pins s1 σ H1 _ I1 q) fun us s2 ⟨vs,H2,I2,r,q2⟩=>⟨I2.kIn,?_⟩) hst hpl
 exact p4 (us:= .ref a::us) (vs:= .ref a::vs) F hr hb hd hx I2 (.cons rfl r) q2
structure Mk (K:PySem.W.Frag) (C f:Addr):Prop where
 makes:PySem.W.makesIn K C=true
 init:PySem.W.findIn K (.ref C) "__init__"=some (some (.ref f))
 fn:PySem.W.isFn K (.ref f)=true
 kp:PySem.W.keepIn K (.ref C)=true
theorem o2 {pins:List (Addr×Obj)} {σ:St} {H:Hp} {s:Shared} {Q:VK} {us:List Value} {vs:List V} (M:Mk X.K C f) (F:FnOk X.prog X.w X.K X.mg X.base CX k f fd ps sp) (hr:Room (k + 1) X.A) (hb:cn X.K fd ps ds) (hd:Vals dvs ds)
  (hx:iE CX X E) (I:Inv X pins σ H s) (r:Vals vs us)
  (h:∀ x dx,H x=none→H dx=none→dx≠x→sp (.ref x::(vs++dvs)) (upd (upd H dx (.own x)) x (.ins C dx [])) (fun v H2=>v= .non∧Q (.ref x) H2) E):
  wpAny (model X.prog X.w) X.A (call (.ref C) us) (EP X pins σ Q) X.xe s:=by
 have hq:=h (s.heap.objs.size + 1) s.heap.objs.size (I.hok.fresh (Nat.le_succ _)) (I.hok.fresh (Nat.le_refl _)) (Nat.ne_of_lt (Nat.lt_succ_self _))
 have I2:=Inv.made (C:=C) I
 have r2:Vals (V.ref (s.heap.objs.size + 1)::(vs++dvs)) (Value.ref (s.heap.objs.size + 1)::(us++ds)):= .cons rfl (r.append hd)
 have hl:(Value.ref (s.heap.objs.size + 1)::us++ds).length=ps.length:=by
  have e:=r2.length
  rw [F.len _ _ _ _ hq] at e
  exact e.symm
 refine wpAny_call (pq (f:=f) I.kIn M.makes M.init (beq_iff_eq.mp M.fn) (codeAny_mono (F.run _ X.stack _ _ ⟨Value.ref (s.heap.objs.size + 1)::us,[]⟩ (Value.ref (s.heap.objs.size + 1)::(us++ds)) _ _ E (hr.make C us [])
  (I2.env0.make C us []) (hb _ (Value.ref (s.heap.objs.size + 1)::us) I2.kIn hl) r2 hq) fun r s' hq'=>?_))
 cases r with
 | error e=>exact hx pins σ _ _ e s' I2 hq'
 | ok fl=>
   cases fl with
   | ret u=>
     obtain ⟨v,H',I3,rv,ev,q3⟩:=I2.after hq'
     subst ev
     exact ⟨rv,⟨V.ref (s.heap.objs.size + 1),H',I3,rfl,q3⟩⟩
   | next=>exact False.elim hq'
   | brk=>exact False.elim hq'
   | cont=>exact False.elim hq'
theorem qZ (M:Mk X.K C f) (F:FnOk X.prog X.w X.K X.mg X.base CX k f fd ps sp) (hr:Room (k + 1) X.A) (hg:Gl X x) (hm:X.mg x=some (.ref C)) (hb:cn X.K fd ps ds) (hd:Vals dvs ds) (hx:iE CX X E)
  (ha:PA X (e::es) t) (hdb:(x == ("__debug__":Str))=false:=by decide) (he:starEach (e::es) X.env=(false,eval e X.env)::starEach es X.env:=by rfl) (hpl:(backTo pos (starEach es X.env)).any (·.1)=false:=by rfl):
  PE X (.Call (.Name x p) (e::es) [] pos) (sj C sp dvs E t):=by
 intro pins s σ H Q I h
 refine wpAny_Call_Name_kw (nK I hg hm ?_ hdb)
 refine PySem.W.callWith_K (h₀:=X.base) I.ok.mod.kin M.kp (thn (ha pos pins s σ H _ I h) fun us s1 ⟨vs,H1,I1,r,q⟩=>⟨I1.kIn,?_⟩) he hpl
 exact o2 M F hr hb hd hx I1 r q
end
section
variable {X:Cx} {CX:CXT} {k:Nat} {f C:Addr} {fd:FuncData} {ps ks:List Str} {sp:Sp} {E:XK} {x m:Str} {p pos apos kpos:Pos} {e o:Expr} {es:List Expr} {kws:List Keyword} {te ta:TE} {t tk:TA} {nm:Option Str}
structure vg (K:PySem.W.Frag) (fd:FuncData) (ps ks:List Str) (g:List Value→List Value→List Value) (gV:List V→List V→List V):Prop where
 to:∀ (s:Shared) (us ws:List Value),K.In s.heap→(g us ws).length=ps.length→BindsTo s fd ⟨us,ks.zip ws⟩ (ps.zip (g us ws))
 rel:∀ {vs:List V} {us:List Value} {zs:List V} {ws:List Value},Vals vs us→Vals zs ws→Vals (gV vs zs) (g us ws)
variable {g:List Value→List Value→List Value} {gV:List V→List V→List V}
end
structure aT (N P:List Str) (sc:Scope):Prop where
 kind:sc.kind= .function
 co:sc.isCoroutine=false
 gen:sc.isGenerator=false
 nd:N.Nodup
 pre:N.take P.length=P
 par:∀ x∈P,sc.names.lookup x=some .local∨sc.names.lookup x=some .cell
 nofree:∀ y∈sc.names,y.2≠.free
theorem j2 {kindOf:Str→Option NameKind} {x:Str}:∀ {binds:List (Str×Value)} {m:Str→Option Value},(∀ v,(x,v)∉binds)→bindL kindOf binds m x=m x
 | [],_,_=>rfl
 | (n,v)::r,m,h=>by
   unfold bindL
   rw [j2 fun w hw=>h w (List.mem_cons_of_mem _ hw)]
   split
   ·have:x≠n:=by rintro rfl;exact h v List.mem_cons_self
    simp [this]
   ·rfl
theorem j4 {kindOf:Str→Option NameKind} {x:Str}:∀ {binds:List (Str×Value)} {m:Str→Option Value},(∀ v,(x,v)∉binds)→bindC kindOf binds m x=m x
 | [],_,_=>rfl
 | (n,v)::r,m,h=>by
   unfold bindC
   rw [j4 fun w hw=>h w (List.mem_cons_of_mem _ hw)]
   split
   ·rfl
   ·have:x≠n:=by rintro rfl;exact h v List.mem_cons_self
    simp [this]
theorem j3 {kindOf:Str→Option NameKind} {x:Str} {v:Value}:∀ {P:List Str} {vs:List Value} {i:Nat} {m:Str→Option Value},P.Nodup→P[i]? =some x→vs[i]? =some v→kindOf x=some .local→
  bindL kindOf (P.zip vs) m x=some v
 | [],_,_,_,_,h,_,_=>by simp at h
 | _::_,[],_,_,_,_,h,_=>by simp at h
 | p::P,w::vs,0,m,nd,h1,h2,hk=>by
   simp at h1 h2;subst h1;subst h2
   show bindL kindOf ((p,w)::P.zip vs) m p=_
   unfold bindL
   rw [j2 fun v hv=>(List.nodup_cons.mp nd).1 (List.of_mem_zip hv).1,if_pos hk]
   simp
 | p::P,w::vs,i + 1,m,nd,h1,h2,hk=>by
   show bindL kindOf ((p,w)::P.zip vs) m x=_
   unfold bindL
   exact j3 (i:=i) (List.nodup_cons.mp nd).2 (by simpa using h1) (by simpa using h2) hk
theorem j5 {kindOf:Str→Option NameKind} {x:Str} {v:Value}:∀ {P:List Str} {vs:List Value} {i:Nat} {m:Str→Option Value},P.Nodup→P[i]? =some x→vs[i]? =some v→kindOf x≠some .local→
  bindC kindOf (P.zip vs) m x=some v
 | [],_,_,_,_,h,_,_=>by simp at h
 | _::_,[],_,_,_,_,h,_=>by simp at h
 | p::P,w::vs,0,m,nd,h1,h2,hk=>by
   simp at h1 h2;subst h1;subst h2
   show bindC kindOf ((p,w)::P.zip vs) m p=_
   unfold bindC
   rw [j4 fun v hv=>(List.nodup_cons.mp nd).1 (List.of_mem_zip hv).1,if_neg hk]
   simp
 | p::P,w::vs,i + 1,m,nd,h1,h2,hk=>by
   show bindC kindOf ((p,w)::P.zip vs) m x=_
   unfold bindC
   exact j5 (i:=i) (List.nodup_cons.mp nd).2 (by simpa using h1) (by simpa using h2) hk
noncomputable def start (N:List Str) (vs:List V):St:=vs.map some++List.replicate (N.length - vs.length) none
noncomputable def cxOf (CX:CXT) (P:Program) (w:World) (K:PySem.W.Frag) (mg:Str→Option Value) (base:Heap) (N:List Str) (qual:Str) (scope:Scope) (f:Addr) (cd:Value) (A:Around) (outer:List Env) (s:Shared) (H:Hp) (E:XK):Cx where
 prog:=P
 w:=w
 K:=K
 mg:=mg
 base:=base
 A:=A.deeper (envOfC qual scope s.heap.objs.size f cd)
 N:=N
 s₀:=s
 H₀:=H
 env:=envOfC qual scope s.heap.objs.size f cd
 outer:=outer
 stack:=envOfC qual scope s.heap.objs.size f cd::outer
 ex:=[]
 calm:=true
 fn:=fun _=>true
 pn:=[]
 xe:=fun e s'=>wpAny (model P w) (A.deeper (envOfC qual scope s.heap.objs.size f cd)) (leaving (envOfC qual scope s.heap.objs.size f cd) e) (fun _ s''=>CX outer H s E e s'') (fun e' s''=>CX outer H s E e' s'') s'
theorem lP {sc:Scope} {n:Nat} {x:Str} (h:sc.names.lookup x=some .cell):∃ c,(cellsFrom n sc.names []).lookup x=some c:=by
 have q:=PySem.W.cellsFrom_some sc.names n [] (.inl h)
 exact Option.isSome_iff_exists.mp q
theorem nU {CX:CXT} {P:Program} {w:World} {K:PySem.W.Frag} {mg:Str→Option Value} {base:Heap} {N ps:List Str} {qual:Str} {scope:Scope} {f:Addr} {cd:Value} {A:Around} {outer:List Env} {s s1:Shared} {H:Hp} {E:XK} {us:List Value} {vs:List V}
  (S:aT N ps scope) (hd:A.handled=none) (e0:Env0 P w K mg base A outer s H) (hl:vs.length=ps.length) (r:Vals vs us)
  (x:InCallC s s.heap.objs.size (bindL (envOfC qual scope s.heap.objs.size f cd).kindOf (ps.zip us) fun _=>none) (cellsFrom (s.heap.objs.size + 1) scope.names []) (bindC (envOfC qual scope s.heap.objs.size f cd).kindOf (ps.zip us) fun _=>none) s1):
  Inv (cxOf CX P w K mg base N qual scope f cd A outer s H E) [] (start N vs) H s1:=by
 have hpl:ps.length≤N.length:=by have:=congrArg List.length S.pre;rw [List.length_take] at this;omega
 obtain ⟨h1,tk,rfl,hk⟩:=x.done
 have noA:∀ b:Addr,b∉(cxOf CX P w K mg base N qual scope f cd A outer s H E).ex:=fun b z=>absurd (show b∈([]:List Addr) from z) (by simp)
 refine ⟨⟨e0.mod,S.kind,rfl,rfl,Nat.le_refl _,fun y z c h1 h2=>?_,fun y hy=>?_,fun y c _ h=>?_,fun _=>hd,Around.frames_deeper e0.frames,.inr ⟨rfl,rfl⟩,fun b z=>absurd z (noA b),e0.bs,e0.bsz,fun b _ _=>noA b,fun b z=>absurd z (noA b),e0.funs,e0.frf⟩,
  rfl,e0.bare,Un.kept hk,⟨_,x.toInCall.ns,fun i y v h1 h2 h3=>?_⟩,fun y c h=>⟨_,x.cell y c h⟩,e0.hok.fresh (Nat.le_refl _),fun y c h=>?_,fun p hp=>absurd (show p∈([]:List (Addr×Obj)) from hp) (by simp),e0.hok.kept hk,?_⟩
 ·exact name_of_addr x.apart (PySem.mem_of_lookup h1) (PySem.mem_of_lookup h2)
 ·have hy:scope.names.lookup y=some .cell∨scope.names.lookup y=some .free:=hy
  rcases hy with hy | hy
  ·exact lP hy
  ·exact absurd rfl (S.nofree _ (PySem.mem_of_lookup hy))
 ·exact Nat.le_of_lt (x.above y c (PySem.mem_of_lookup h))
 ·have hi:i < vs.length:=by
   unfold start at h2
   by_cases hi:i < vs.length
   ·exact hi
   ·rw [List.getElem?_append_right (by simpa using hi)] at h2
    rw [List.getElem?_replicate] at h2
    split at h2<;>cases h2
  have ha:vs[i]? =some v:=by
   unfold start at h2
   rw [List.getElem?_append_left (by simpa using hi),List.getElem?_map] at h2
   cases e:vs[i]? with
   | none=>rw [e] at h2;cases h2
   | some a=>rw [e] at h2;cases h2;rfl
  obtain ⟨u,hu,rv⟩:=r.get ha
  have hp:ps[i]? =some y:=by
   rw [← S.pre,List.getElem?_take_of_lt (by omega)];exact h1
  have ndP:ps.Nodup:=by rw [← S.pre];exact S.nd.sublist (List.take_sublist _ _)
  refine ⟨u,rv,?_⟩
  rcases S.par y (List.mem_of_getElem? hp) with k | k
  ·exact .inl ⟨k,j3 ndP hp hu k⟩
  ·obtain ⟨c,e⟩:=lP (n:=s.heap.objs.size + 1) k
   refine .inr ⟨.inl k,c,e,?_⟩
   have q:=x.cell y c e
   rw [j5 ndP hp hu (by show scope.names.lookup y≠_;rw [k];decide)] at q
   exact q
 ·exact e0.hok.fresh (Nat.le_of_lt (x.above y c (PySem.mem_of_lookup h)))
 ·unfold start
  show _=N.length
  rw [List.length_append,List.length_map,List.length_replicate]
  omega
theorem u1 {CX:CXT} {P:Program} {w:World} {K:PySem.W.Frag} {mg:Str→Option Value} {base:Heap} {k:Nat} {f:Addr} {name qual:Str} {params:Arguments} {body:List Stmt} {scope:Scope} {dV kV doc pm cdv ct oc:Value} {an od:Option Addr}
  {osl:Array (Option Value)} {N ps:List Str} {sp:Sp} (lk:K.lookup f=some ⟨oc,od,.func (PySem.W.fnOf name qual params body scope dV kV doc pm an cdv ct),osl⟩) (hcd:PySem.W.codeIn K cdv qual=true) (S:aT N ps scope)
  (len:∀ vs H Q E,sp vs H Q E→vs.length=ps.length)
  (hbody:∀ (A:Around) (outer:List Env) (s:Shared) (H:Hp) (vs:List V) (Q:VK) (E:XK),Room k (A.deeper (envOfC qual scope s.heap.objs.size f cdv))→sp vs H Q E→
   ∃ t,PSs (cxOf CX P w K mg base N qual scope f cdv A outer s H E) body t∧t {nx:=fun _ H'=>Q .non H',rt:=Q} (start N vs) H):
  FnOk P w K mg base CX (k + 1) f (PySem.W.fnOf name qual params body scope dV kV doc pm an cdv ct) ps sp:=by
 refine ⟨len,fun A outer s H args us vs Q E hr e0 hb r hsp=>?_⟩
 have hl:=len _ _ _ _ hsp
 have KX:K.In s.heap:=e0.mod.kin.keeps fun b o e=>(e0.bs b o e).1
 have lim:s.heap.NoLimit:=e0.mod.nolimit.keeps fun b o e=>(e0.bs b o e).1
 have hkind:∀ y∈ps.zip us,scope.names.lookup y.1=some .local∨(scope.names.lookup y.1=some .cell∧((cellsFrom (s.heap.objs.size + 1) scope.names []).lookup y.1).isSome=true):=fun ⟨n,v⟩ hy=>by
  rcases S.par n (List.of_mem_zip hy).1 with q | q
  ·exact .inl q
  ·exact .inr ⟨q,PySem.W.cellsFrom_some _ _ _ (.inl q)⟩
 refine codeAny_call_function hr.depth (KX _ _ lk) rfl S.co S.gen rfl (PySem.W.codeRec_of KX hcd) (hb _ _ _ _ ?_)
 refine wpAny_newFunctionEnv_cells S.kind hkind fun env he s1 x=>?_
 subst he
 refine ⟨lim.keeps x.toInCall.keep,codeAny_func ?_⟩
 obtain ⟨t,ht,hq⟩:=hbody A outer s H vs Q E (hr.deeper _) hsp
 have I:Inv (cxOf CX P w K mg base N qual scope f cdv A outer s H E) [] (start N vs) H s1:=nU S hr.hd e0 hl r x
 refine wpAny_mono (ht [] s1 (start N vs) H _ I hq) (fun fl s' hs=>?_) fun e s' hs=>hs
 have fin:∀ {σ':St} {H':Hp} {v:V} {u:Value},Inv (cxOf CX P w K mg base N qual scope f cdv A outer s H E) [] σ' H' s'→RelV v u→Q v H'→CE outer P w H s Q u s':=
  fun {σ' H' v u} J rv q=>⟨v,H',J.os,J.bare,J.base,J.hok,rv,q⟩
 cases fl with
 | ret u=>
   obtain ⟨v,σ',H',J,rv,q⟩:=hs
   exact fin J rv q
 | next=>
   obtain ⟨σ',H',J,q⟩:=hs
   exact fin (v:=V.non) (u:=Value.none) J rfl q
 | brk=>
   obtain ⟨_,_,_,q⟩:=hs
   exact False.elim q
 | cont=>
   obtain ⟨_,_,_,q⟩:=hs
   exact False.elim q
section
variable {X:Cx} {x:Str} {p pos:Pos} {e:Expr} {es:List Expr} {t:TA} {id T:String} {r:List V→Hp→VK→Prop}
noncomputable abbrev tCB (r:List V→Hp→VK→Prop) (t:TA):TE:=fun σ H Q=>t σ H fun vs H1=>r vs H1 Q
theorem bh (hc:je X (.builtin id) r) (hg:Gl X x) (hm:X.mg x=none) (hv:bootBuiltins x=some (.builtin id)) (ha:PA X (e::es) t) (hn:x≠"__name__":=by decide) (hdb:(x == ("__debug__":Str))=false:=by decide)
  (he:starEach (e::es) X.env=(false,eval e X.env)::starEach es X.env:=by rfl) (hpl:(backTo pos (starEach es X.env)).any (·.1)=false:=by rfl):PE X (.Call (.Name x p) (e::es) [] pos) (tCB r t):=by
 intro pins s σ H Q I h
 refine wpAny_Call_Name_kw (jG I hg hm hv ?_ hn hdb)
 exact PyProof.Rows.callWith_builtin1 (thn (ha pos pins s σ H _ I h) fun us s1 ⟨vs,H1,I1,r1,q1⟩=>hc pins s1 σ H1 vs us Q I1 r1 q1) he hpl
theorem nt (hc:je X (.type T) r) (hg:Gl X x) (hm:X.mg x=none) (hv:bootBuiltins x=some (.type T)) (ha:PA X (e::es) t) (hn:x≠"__name__":=by decide) (hdb:(x == ("__debug__":Str))=false:=by decide)
  (he:starEach (e::es) X.env=(false,eval e X.env)::starEach es X.env:=by rfl) (hpl:(backTo pos (starEach es X.env)).any (·.1)=false:=by rfl):PE X (.Call (.Name x p) (e::es) [] pos) (tCB r t):=by
 intro pins s σ H Q I h
 refine wpAny_Call_Name_kw (jG I hg hm hv ?_ hn hdb)
 exact PyProof.Rows.callWith_type1 (thn (ha pos pins s σ H _ I h) fun us s1 ⟨vs,H1,I1,r1,q1⟩=>hc pins s1 σ H1 vs us Q I1 r1 q1) he hpl
end
end L2
namespace HT
open PySem PyProof.Rows
section
variable {prog:Program} {w:World} {A:Around} {E:Value→Shared→Prop} {s:Shared}
noncomputable def sIx (n d:Nat):Option Int→Nat
 | none=>d
 | some v=>if v < 0 then (v + (n:Int)).toNat else min v.toNat n
theorem sIx_nat (n d k:Nat):sIx n d (some (k:Int))=min k n:=by
 show (if (k:Int) < 0 then ((k:Int) + (n:Int)).toNat else min (k:Int).toNat n)=min k n
 rw [if_neg (by omega),Int.toNat_natCast]
end
end HT
namespace L2
open PySem PySem.Spec PyProof.Rows
noncomputable abbrev TO:=St→Hp→(Option Int→Hp→Prop)→Prop
noncomputable def PO (X:Cx) (e:Option Expr) (t:TO):Prop:=
 ∀ (pins:List (Addr×Obj)) (s:Shared) (σ:St) (H:Hp) (Q:Option Int→Hp→Prop),Inv X pins σ H s→t σ H Q→
  wpAny (model X.prog X.w) X.A (evalPart e X.env) (fun u s'=>∃ o H',Inv X pins σ H' s'∧IsPart u o∧Q o H') X.xe s
noncomputable abbrev uC (t:TE):TO:=fun σ H Q=>t σ H fun x H1=>∃ i,x= .int i∧Q (some i) H1
section
variable {X:Cx} {e:Expr} {te:TE} {lo hi:Option Expr} {tl th:TO} {pos p2:Pos}
theorem ni (h:PE X e te):PO X (some e) (uC te):=by
 intro pins s σ H Q I hw
 rw [evalPart_some]
 refine thn (h pins s σ H _ I hw) fun u s1 ⟨x,H1,I1,r1,q1⟩=>?_
 obtain ⟨i,rfl,q⟩:=q1
 obtain ⟨t,rfl⟩:=r1
 exact ⟨some i,H1,I1,.int i t,q⟩
noncomputable def SlR (X:Cx) (r:V→Option Int→Option Int→Hp→VK→Prop):Prop:=
 ∀ (pins:List (Addr×Obj)) (s:Shared) (σ:St) (H:Hp) (x:V) (v vl vu:Value) (lo hi:Option Int) (sl:Addr) (Q:VK),Inv X pins σ H s→RelV x v→s.heap.IsSliceOf sl vl vu .none→IsPart vl lo→IsPart vu hi→r x lo hi H Q→
  ∃ T id,typeLookup (.type T) "__getitem__"=pure (some (.builtin id))∧s.TypeIs v T∧wpAny (model X.prog X.w) X.A (getItem v (.ref sl)) (EP X pins σ Q) X.xe s
noncomputable abbrev tSl (r:V→Option Int→Option Int→Hp→VK→Prop) (te:TE) (tl th:TO):TE:=fun σ H Q=>te σ H fun x H1=>tl σ H1 fun l H2=>th σ H2 fun u H3=>r x l u H3 Q
theorem o9 {r:V→Option Int→Option Int→Hp→VK→Prop} (hr:SlR X r) (he:PE X e te) (hl:PO X lo tl) (hu:PO X hi th):PE X (.Subscript e (.Slice lo hi none p2) pos) (tSl r te tl th):=by
 intro pins s σ H Q I h
 refine Subscript_ (thn (he pins s σ H _ I h) fun v s1 ⟨x,H1,I1,r1,q1⟩=>?_)
 refine wpAny_Slice (thn (hl pins s1 σ H1 _ I1 q1) fun vl s2 ⟨l,H2,I2,pl,q2⟩=>thn (hu pins s2 σ H2 _ I2 q2) fun vu s3 ⟨u,H3,I3,pu,q3⟩=>?_)
 rw [evalPart_none]
 refine wpAny_pure ?_
 have I4:Inv X pins σ H3 {s3 with heap:=s3.heap.push {cls:= .type "slice",data:= .fields #[vl,vu,.none]}}:=I3.kept (t':=s3.toks) fun b ob q=>Heap.get?_push_of_some _ q
 obtain ⟨T,id,hT,ht,hg⟩:=hr pins {s3 with heap:=s3.heap.push {cls:= .type "slice",data:= .fields #[vl,vu,.none]}} σ H3 x v vl vu l u s3.heap.objs.size Q I4 r1 (Heap.IsSliceOf.new ..) pl pu q3
 show wpAny (model X.prog X.w) X.A (subscriptTail e (.Slice lo hi none p2) v (.ref s3.heap.objs.size)) (EP X pins σ Q) X.xe {s3 with heap:=s3.heap.push {cls:= .type "slice",data:= .fields #[vl,vu,.none]}}
 exact tail_any (ops:=[.ref s3.heap.objs.size,v]) ht hT hg (by with_unfolding_all rfl)
noncomputable def cutV (xs:List V) (lo hi:Option Int):List V:=(xs.drop (HT.sIx xs.length 0 lo)).take (HT.sIx xs.length xs.length hi - HT.sIx xs.length 0 lo)
theorem kR (xs:List V) (lo hi:Option Int):(cutV xs lo hi).length≤xs.length:=by
 unfold cutV
 rw [List.length_take,List.length_drop]
 omega
end
noncomputable def ixN (n:Nat) (i:Int):Option Nat:=if 0≤i then (if i < n then some i.toNat else none) else if -(n:Int)≤i then some (i + n).toNat else none
noncomputable def atI {α:Type} (xs:List α) (i:Int):Option α:=(ixN xs.length i).bind fun j=>xs[j]?
theorem rC {n:Nat} {i:Int} {j:Nat} (h:ixN n i=some j):seqIndex? i n=some j∧j < n∧-(n:Int)≤i∧i < n:=by
 unfold ixN at h
 by_cases h0:0≤i
 ·rw [if_pos h0] at h
  by_cases h1:i < n
  ·rw [if_pos h1] at h
   have e:i.toNat=j:=Option.some.inj h
   exact ⟨by rw [seqIndex_of h0 h1,e],by omega,by omega,h1⟩
  ·rw [if_neg h1] at h;cases h
 ·rw [if_neg h0] at h
  by_cases h1: -(n:Int)≤i
  ·rw [if_pos h1] at h
   have e:(i + n).toNat=j:=Option.some.inj h
   exact ⟨by rw [seqIndex_neg (by omega) h1,e],by omega,h1,by omega⟩
  ·rw [if_neg h1] at h;cases h
theorem oG {α:Type} {xs:List α} {i:Int} {v:α} (h:atI xs i=some v):∃ j,seqIndex? i xs.length=some j∧xs[j]? =some v∧j < xs.length∧-(xs.length:Int)≤i∧i < xs.length:=by
 unfold atI at h
 cases e:ixN xs.length i with
 | none=>rw [e] at h;cases h
 | some j=>
   rw [e] at h
   obtain ⟨h1,h2,h3,h4⟩:=rC e
   exact ⟨j,h1,h,h2,h3,h4⟩
theorem oF {α:Type} {xs:List α} {j:Nat} {v:α} (h:xs[j]? =some v):atI xs (j:Int)=some v:=by
 have hj:j < xs.length:=(List.getElem?_eq_some_iff.mp h).1
 have e:ixN xs.length (j:Int)=some j:=by
  unfold ixN
  rw [if_pos (by omega),if_pos (by omega)];simp
 unfold atI;rw [e];exact h
noncomputable def rT (b:Expr):Prop:=∀ o i,subscripted b false o i=operate [o,i] (getItem o i)
noncomputable def IxR (X:Cx) (r:R2):Prop:=
 ∀ (value slice:Expr) (pins:List (Addr×Obj)) (s:Shared) (σ:St) (H:Hp) (x y:V) (v u:Value) (Q:VK),Inv X pins σ H s→RelV x v→RelV y u→r x y H Q→
  subscripted slice false v u=operate [v,u] (getItem v u)→wpAny (model X.prog X.w) X.A (subscriptTail value slice v u) (EP X pins σ Q) X.xe s
noncomputable def MtR (X:Cx) (id:String) (r:V→List V→Hp→VK→Prop):Prop:=
 ∀ (pins:List (Addr×Obj)) (s:Shared) (σ:St) (H:Hp) (x:V) (xs:List V) (v:Value) (us:List Value) (Q:VK),Inv X pins σ H s→RelV x v→Vals xs us→r x xs H Q→
  wpAny (model X.prog X.w) X.A (call (.builtin id) (v::us)) (EP X pins σ Q) X.xe s
section
variable {X:Cx} {a b:Expr} {ta tb:TE} {pos:Pos}
theorem cG {r:R2} (hr:IxR X r) (ha:PE X a ta) (hb:PE X b tb) (hs:rT b):PE X (.Subscript a b pos) (tOp r ta tb):=by
 intro pins s σ H Q I h
 exact Subscript_ (binT ha hb I h fun v u s2 x y H2 I2 rx ry q=>hr a b pins s2 σ H2 x y v u Q I2 rx ry q (hs _ _))
noncomputable def rIxL (K:PySem.W.Frag):R2:=fun x y H Q=>∃ p xs i v,x= .ref p∧y= .int i∧SqL K H p xs∧atI xs i=some v∧Q v H
noncomputable def rIxT (K:PySem.W.Frag):R2:=fun x y H Q=>∃ p xs i v,x= .ref p∧y= .int i∧SqT K H p xs∧atI xs i=some v∧Q v H
theorem rB:IxR X (rIxL X.K):=by
 intro value slice pins s σ H x y v u Q I rx ry h hs
 obtain ⟨p,xs,i,z,rfl,rfl,hq,he,q⟩:=h
 cases rx
 obtain ⟨t,rfl⟩:=ry
 obtain ⟨its,r,pl,hz⟩:=I.list hq
 obtain ⟨j,h1,h2,h3,h4,h5⟩:=oG he
 obtain ⟨w,ew,rw'⟩:=r.get h2
 have hl:=r.length
 have hn:=nI
 have fin:EP X pins σ Q w s:=⟨z,H,I,rw',q⟩
 by_cases h0:0≤i
 ·have hj:i.toNat=j:=by
   rw [seqIndex_of h0 h5] at h1
   exact Option.some.inj h1
  exact item_listR pl.isList h0 (by omega) (by rw [hj];simpa using ew) fin hs
 ·have hj:(i + (its.toArray.size:Int)).toNat=j:=by
   rw [seqIndex_neg (by omega) h4] at h1
   rw [List.size_toArray,← hl]
   exact Option.some.inj h1
  exact subscriptTail_builtinR (x:=w) pl.isList.typeIs slot_list_getitem.lookup
   (wpAny_getItem_list_neg (Q:=fun r s'=>r=w∧EP X pins σ Q r s') pl.isList (by omega) (by rw [List.size_toArray]<;>omega) (by omega) (by rw [hj];simpa using ew) ⟨rfl,fin⟩) hs
theorem tY:IxR X (rIxT X.K):=by
 intro value slice pins s σ H x y v u Q I rx ry h hs
 obtain ⟨p,xs,i,z,rfl,rfl,hq,he,q⟩:=h
 cases rx
 obtain ⟨t,rfl⟩:=ry
 obtain ⟨its,r,pl,hz⟩:=I.tuple hq
 obtain ⟨j,h1,h2,h3,h4,h5⟩:=oG he
 obtain ⟨w,ew,rw'⟩:=r.get h2
 have hl:=r.length
 have hn:=nI
 have fin:EP X pins σ Q w s:=⟨z,H,I,rw',q⟩
 exact subscriptTail_builtinR (x:=w) pl.typeIs slot_tuple_getitem.lookup
  (getItem_tuple (j:=j) (Q:=fun r s'=>r=w∧EP X pins σ Q r s') pl (by omega) (by omega) (by rw [List.size_toArray,← hl];exact h1) (by simpa using ew) ⟨rfl,fin⟩) hs
theorem ji (lo hi:Option Int) (n:Nat):(sliceBounds lo hi none n).1=((HT.sIx n 0 lo:Nat):Int)∧(sliceBounds lo hi none n).2.1=((HT.sIx n n hi:Nat):Int)∧(sliceBounds lo hi none n).2.2=1:=by
 refine ⟨?_,?_,rfl⟩
 ·cases lo with
  | none=>simp [sliceBounds,HT.sIx]
  | some i=>
    simp only [sliceBounds,HT.sIx,Option.getD_none,show (1:Int) > 0 by decide,if_true]
    by_cases h:i < 0
    ·simp only [h,if_true]<;>omega
    ·simp only [h,if_false]<;>omega
 ·cases hi with
  | none=>simp [sliceBounds,HT.sIx]
  | some i=>
    simp only [sliceBounds,HT.sIx,Option.getD_none,show (1:Int) > 0 by decide,if_true]
    by_cases h:i < 0
    ·simp only [h,if_true]<;>omega
    ·simp only [h,if_false]<;>omega
theorem iI (its:List Value) (lo hi:Option Int):slicePick its.toArray lo hi none=((its.drop (HT.sIx its.length 0 lo)).take (HT.sIx its.length its.length hi - HT.sIx its.length 0 lo)).toArray:=by
 obtain ⟨h1,h2,h3⟩:=ji lo hi its.toArray.size
 unfold slicePick
 rw [h1,h2,h3]
 simp only [sliceRange_one,pick_run,List.size_toArray]<;>rfl
noncomputable def rSlL (K:PySem.W.Frag):V→Option Int→Option Int→Hp→VK→Prop:=fun x lo hi H Q=>∃ a xs,x= .ref a∧SqL K H a xs∧∀ p,H p=none→Q (.ref p) (upd H p (.lst (cutV xs lo hi)))
theorem qH:SlR X (rSlL X.K):=by
 intro pins s σ H x v vl vu lo hi sl Q I rx hs pl pu h
 obtain ⟨a,xs,rfl,hx,q⟩:=h
 cases rx
 obtain ⟨its,r,ht,hz⟩:=I.list hx
 have hlen:=r.length
 refine ⟨"list",_,slot_list_getitem.lookup,ht.isList.typeIs,?_⟩
 refine wpAny_getItem_list_slice ht.isList hs pl pu .none (by simp) ?_ (by rw [List.size_toArray]<;>omega)
 rw [iI,← hlen]
 refine ⟨.ref s.heap.objs.size,_,I.laid (t':=s.toks) (o:= .lst (cutV xs lo hi)) (fun b ob q=>Heap.get?_push_of_some _ q) (Nat.le_refl _) ?_,rfl,q _ (I.hok.fresh (Nat.le_refl _))⟩
 exact ⟨Nat.le_trans (kR xs lo hi) hz,_,0,(r.drop (HT.sIx xs.length 0 lo)).take (HT.sIx xs.length xs.length hi - HT.sIx xs.length 0 lo),Heap.get?_push_size _ rfl⟩
noncomputable def gX:V→Bool
 | .non=>true
 | .bl _=>true
 | .int _=>true
 | .str _=>true
 | _=>false
noncomputable def eqV:V→V→Bool
 | .non,.non=>true
 | .bl a,.bl b=>a == b
 | .bl a,.int b=>(if a then 1 else 0) == b
 | .int a,.bl b=>a == (if b then 1 else 0)
 | .int a,.int b=>a == b
 | .str a,.str b=>a == b
 | _,_=>false
theorem ud {A:Around} {s:Shared} {y x:V} {u v:Value} (ry:RelV y u) (rx:RelV x v) (fy:gX y=true) (fx:gX x=true):SeqAt.EqAt A s u v (eqV y x):=by
 cases y with
 | non=>
   cases ry
   cases x with
   | non=>cases rx;exact SeqAt.EqAt.same _
   | bl b=>cases rx;exact SeqAt.EqAt.none_bool b
   | int b=>obtain ⟨t,rfl⟩:=rx;exact SeqAt.EqAt.none_int b t
   | str b=>obtain ⟨t,rfl⟩:=rx;exact SeqAt.EqAt.none_str b t
   | _=>exact absurd (show false=true from fx) Bool.false_ne_true
 | bl a=>
   cases ry
   cases x with
   | non=>cases rx;exact SeqAt.EqAt.bool_none a
   | bl b=>cases rx;exact SeqAt.EqAt.bool_bool a b
   | int b=>obtain ⟨t,rfl⟩:=rx;exact SeqAt.EqAt.bool_int a b t
   | str b=>obtain ⟨t,rfl⟩:=rx;exact SeqAt.EqAt.bool_str a b t
   | _=>exact absurd (show false=true from fx) Bool.false_ne_true
 | int a=>
   obtain ⟨t',rfl⟩:=ry
   cases x with
   | non=>cases rx;exact SeqAt.EqAt.int_none a t'
   | bl b=>cases rx;exact SeqAt.EqAt.int_bool a t' b
   | int b=>obtain ⟨t,rfl⟩:=rx;exact SeqAt.EqAt.int_int a t' b t
   | str b=>obtain ⟨t,rfl⟩:=rx;exact SeqAt.EqAt.int_str a t' b t
   | _=>exact absurd (show false=true from fx) Bool.false_ne_true
 | str a=>
   obtain ⟨t',rfl⟩:=ry
   cases x with
   | non=>cases rx;exact SeqAt.EqAt.str_none a t'
   | bl b=>cases rx;exact SeqAt.EqAt.str_bool a t' b
   | int b=>obtain ⟨t,rfl⟩:=rx;exact SeqAt.EqAt.str_int a t' b t
   | str b=>obtain ⟨t,rfl⟩:=rx;exact SeqAt.EqAt.str_str a t' b t
   | _=>exact absurd (show false=true from fx) Bool.false_ne_true
 | _=>exact absurd (show false=true from fy) Bool.false_ne_true
theorem jY:je X (.type "list") (fun xs H Q=>∃ p ys,xs=[.ref p]∧(SqL X.K H p ys∨SqT X.K H p ys)∧∀ l,H l=none→Q (.ref l) (upd H l (.lst ys))):=by
 intro pins s σ H xs us Q I r h
 obtain ⟨p,ys,rfl,hq,q⟩:=h
 obtain ⟨u,rfl,rx⟩:=qx r
 cases rx
 have fin:∀ (its:List Value),Vals ys its→ys.length≤sizeLine→∀ (h':Heap) (c':Nat),(∀ b o',s.heap.get? b=some o'→h'.get? b=some o')→
   h'.get? s.heap.objs.size=some {cls:= .type "list",dict:=none,data:= .seq its.toArray c',slots:=#[]}→EP X pins σ Q (.ref s.heap.objs.size) {s with heap:=h'}:=fun its r' hz h' c' kp e=>
  ⟨.ref s.heap.objs.size,_,I.laid (t':=s.toks) kp (Nat.le_refl _) (show cj X.prog X.w _ h' _ (.lst ys) from ⟨hz,its,c',r',e⟩),rfl,q _ (I.hok.fresh (Nat.le_refl _))⟩
 rcases hq with hq | hq
 ·obtain ⟨its,r',pl,hz⟩:=I.list hq
  have hlen:=r'.length
  obtain ⟨o,ho,hc,n,hd⟩:=pl.isList
  exact call_list_seq p (.inl rfl) ho hc hd (fun h' c' kp e=>fin its r' hz h' c' kp e) (by simp only [List.size_toArray]<;>omega)
 ·obtain ⟨its,r',pl,hz⟩:=I.tuple hq
  have hlen:=r'.length
  obtain ⟨o,ho,hc,n,hd⟩:=pl
  exact call_list_seq p (.inr rfl) ho hc hd (fun h' c' kp e=>fin its r' hz h' c' kp e) (by simp only [List.size_toArray]<;>omega)
noncomputable def tyV (K:PySem.W.Frag) (T:String) (x:V) (H:Hp):Prop:=match x with
 | .str _=>T="str"
 | .int _=>T="int"
 | .ref p=>(T="list"∧∃ xs,SqL K H p xs)∨(T="tuple"∧∃ o,K.lookup p=some o∧o.cls= .type "tuple"∧o.dict=none)∨
   (T="dict"∧((∃ kvs,H p=some (.dK kvs))∨∃ kvs,H p=some (.dT kvs)))∨(T="set"∧∃ S n,H p=some (.set S n))
 | _=>False
theorem pV {pins:List (Addr×Obj)} {σ:St} {H:Hp} {s:Shared} {T:String} {x:V} {v:Value} (I:Inv X pins σ H s) (r:RelV x v) (ty:tyV X.K T x H):
  s.TypeIs v T∧∀ a,v= .ref a→∃ ob,s.heap.get? a=some ob∧ob.dict=none:=by
 cases x with
 | str z=>
   obtain ⟨t,rfl⟩:=r
   cases (show T="str" from ty)
   exact ⟨typeIs_str s z t,fun _ e=>nomatch e⟩
 | int i=>
   obtain ⟨t,rfl⟩:=r
   cases (show T="int" from ty)
   exact ⟨typeIs_int s i t,fun _ e=>nomatch e⟩
 | ref p=>
   cases r
   rcases ty with ⟨rfl,xs,hq⟩ | ⟨rfl,o,hk,hc,hd⟩ | ⟨rfl,hk⟩ | ⟨rfl,S,n,hk⟩
   ·obtain ⟨its,_,pl,_⟩:=I.list hq
    refine ⟨pl.isList.typeIs,fun a e=>?_⟩
    cases e
    obtain ⟨o,n,e,c,hd,_⟩:=pl
    exact ⟨o,e,hd⟩
   ·refine ⟨⟨o,I.kIn p o hk,hc⟩,fun a e=>?_⟩
    cases e
    exact ⟨o,I.kIn _ o hk,hd⟩
   ·have z:∃ o,s.heap.get? p=some o∧o.ExactDict:=by
     rcases hk with ⟨kvs,hk⟩ | ⟨kvs,hk⟩
     ·obtain ⟨_,_,_,_,o,_,_,e,ex,_⟩:=I.hok p _ hk
      exact ⟨o,e,ex⟩
     ·obtain ⟨_,_,_,_,o,_,_,e,ex,_⟩:=I.hok p _ hk
      exact ⟨o,e,ex⟩
    obtain ⟨o,e,ex⟩:=z
    refine ⟨⟨o,e,ex.1⟩,fun a e2=>?_⟩
    cases e2
    exact ⟨o,e,ex.2.1⟩
   ·obtain ⟨o,_,_,_,e,ex,_⟩:=I.hok p _ hk
    refine ⟨⟨o,e,ex.1⟩,fun a e2=>?_⟩
    cases e2
    exact ⟨o,e,ex.2.1⟩
 | _=>exact False.elim ty
noncomputable abbrev tBM0 (K:PySem.W.Frag) (T:String) (r:V→List V→Hp→VK→Prop) (to:TE):TE:=fun σ H Q=>to σ H fun x H1=>tyV K T x H1∧r x [] H1 Q
noncomputable abbrev tBM (K:PySem.W.Frag) (T:String) (r:V→List V→Hp→VK→Prop) (to:TE) (t:TA):TE:=fun σ H Q=>to σ H fun x H1=>tyV K T x H1∧t σ H1 fun xs H2=>r x xs H2 Q
variable {o e:Expr} {es:List Expr} {to:TE} {t:TA} {name:Str} {apos cpos:Pos} {T id:String} {r:V→List V→Hp→VK→Prop}
theorem tG (pa:PlainAttrs T) (slot:Slot T name id) (hty:typeOf (.builtin id)=pure (.type "method_descriptor")) (hm:MtR X id r) (ho:PE X o to)
  (hbase:attributeBase o name X.env (eval o X.env)=eval o X.env:=by rfl) (hline:(apos.endLine == cpos.line)=true:=by rfl):PE X (.Call (.Attribute o name apos) [] [] cpos) (tBM0 X.K T r to):=by
 intro pins s σ H Q I h
 refine wpAny_Call_method0_late hbase hline (thn (ho pins s σ H _ I h) fun v s1 ⟨x,H1,I1,r1,ty,q1⟩=>?_)
 obtain ⟨h1,h2⟩:=pV I1 r1 ty
 exact ⟨T,id,pa,slot,hty,h1,h2,Calls.callWith_builtin rfl (PySem.evalArgs_none (hm pins s1 σ H1 x [] v [] Q I1 r1 .nil q1))⟩
theorem uW (pa:PlainAttrs T) (slot:Slot T name id) (hty:typeOf (.builtin id)=pure (.type "method_descriptor")) (hm:MtR X id r) (ho:PE X o to) (ha:PA X (e::es) t)
  (hbase:attributeBase o name X.env (eval o X.env)=eval o X.env:=by rfl)
  (hfew:((backTo cpos (starEach (e::es) X.env)).all (fun x=> !x.1)&&(backToKw cpos (keywordEach [] X.env)).all (fun x=>x.1.isSome)
   &&decide ((e::es).length + ([]:List Keyword).length + (if ([]:List Keyword).isEmpty then 0 else 1) < 30))=true:=by rfl)
  (hline:(apos.endLine == cpos.line)=true:=by rfl) (hs:starEach (e::es) X.env=(false,eval e X.env)::starEach es X.env:=by rfl) (hplain:(backTo cpos (starEach es X.env)).any (·.1)=false:=by rfl):
  PE X (.Call (.Attribute o name apos) (e::es) [] cpos) (tBM X.K T r to t):=by
 intro pins s σ H Q I h
 refine wpAny_Call_method_late hbase hfew hline rfl (thn (ho pins s σ H _ I h) fun v s1 ⟨x,H1,I1,r1,ty,q1⟩=>?_)
 obtain ⟨h1,h2⟩:=pV I1 r1 ty
 refine ⟨T,id,pa,slot,hty,h1,h2,?_⟩
 have hA:=ha cpos pins s1 σ H1 _ I1 q1
 rw [hs] at hA ⊢
 refine Calls.callWith_builtin (by show (false||(backTo cpos (starEach es X.env)).any (·.1))=false;rw [hplain]<;>rfl) (Calls.evalArgs_plain ?_)
 exact thn hA fun us s2 ⟨vs,H2,I2,r2,q2⟩=>hm pins s2 σ H2 x vs v us Q I2 r1 r2 q2
end
noncomputable def MtM (X:Cx) (id:String) (r:V→List V→Hp→VK→Prop):Prop:=
 ∀ (pins:List (Addr×Obj)) (s:Shared) (σ:St) (H:Hp) (x:V) (xs:List V) (v:Value) (us:List Value) (Q:VK),Inv X pins σ H s→RelV x v→Vals xs us→r x xs H Q→
  wpAny (model X.prog X.w) X.A (call (.builtin id) (v::us)) (EP X pins σ Q) X.xe s
theorem Vals.one:∀ {x:V} {us:List Value},Vals [x] us→∃ u,us=[u]∧RelV x u
 | _,_,.cons r .nil=>⟨_,rfl,r⟩
theorem Vals.rep {xs:List V} {us:List Value} (h:Vals xs us):∀ k:Nat,Vals (List.replicate k xs).flatten (List.replicate k us).flatten
 | 0=> .nil
 | k + 1=>by
   rw [List.replicate_succ,List.replicate_succ,List.flatten_cons,List.flatten_cons]
   exact Vals.append h (Vals.rep h k)
theorem jQ (its:List Value):∀ (k:Nat) (acc:List Value),
  List.foldl (fun x1 x2=>x1++x2) acc.toArray (List.replicate k its.toArray)=(acc++(List.replicate k its).flatten).toArray
 | 0,acc=>by simp
 | k + 1,acc=>by
   have e:acc.toArray++its.toArray=(acc++its).toArray:=by simp
   have e2:(acc++its)++(List.replicate k its).flatten=acc++(List.replicate (k + 1) its).flatten:=by
    rw [List.replicate_succ,List.flatten_cons,List.append_assoc]
   rw [← e2,← jQ its k (acc++its),← e,List.replicate_succ,List.foldl_cons]
section
variable {X:Cx} {pins:List (Addr×Obj)} {σ:St} {H:Hp} {s:Shared} {l b:Addr} {xs ys zs:List V}
theorem Inv.lset {its its':List Value} {n:Nat} {f:Array Value→Array Value} {t':Nat} (I:Inv X pins σ H s) (hH:H l=some (.lst xs))
  (e:s.heap.get? l=some {cls:= .type "list",data:= .seq its.toArray n}) (hf:f its.toArray=its'.toArray) (hv:Vals ys its') (hz:ys.length≤sizeLine):
  Inv X pins σ (upd H l (.lst ys)) {s with heap:=s.heap.update l (Obj.mapSeq f),toks:=t'}:=by
 have q:=PySem.IsL.update e f
 rw [hf] at q
 refine I.write (x:=l) (e:=l) (by rw [hH];exact trivial) (.inl rfl) (fun b' u hb hu=>(Heap.get?_update_other s.heap (Obj.mapSeq f) (Ne.symm hb)).trans hu) ⟨_,q⟩ ?_
 exact ⟨hz,its',_,hv,q⟩
theorem Inv.lnew {its:List Value} {t':Nat} (I:Inv X pins σ H s) (hv:Vals ys its) (hz:ys.length≤sizeLine):
  Inv X pins σ (upd H s.heap.objs.size (.lst ys)) {s with heap:=s.heap.push {cls:= .type "list",data:= .seq its.toArray},toks:=t'}:=
 I.laid (fun _ _ q=>Heap.get?_push_of_some _ q) (Nat.le_refl _) ⟨hz,its,0,hv,Heap.get?_push_size _ rfl⟩
theorem Inv.fresh (I:Inv X pins σ H s):H s.heap.objs.size=none:=I.hok.fresh (Nat.le_refl _)
theorem Inv.lstM (I:Inv X pins σ H s) (hH:H l=some (.lst xs)):xs.length≤sizeLine∧∃ (its:List Value) (n:Nat),Vals xs its∧xs.length=its.length∧s.heap.get? l=some {cls:= .type "list",data:= .seq its.toArray n}:=by
 obtain ⟨z,its,n,r,e⟩:=I.hok l _ hH
 exact ⟨z,its,n,r,r.length,e⟩
theorem ph {n:Nat} (h:n≤sizeLine):Builtin.List.listTooLong n=false:=by
 unfold Builtin.List.listTooLong
 exact decide_eq_false (by omega)
end
section
variable {X:Cx}
noncomputable def nc:V→List V→Hp→VK→Prop:=fun x vs H Q=>∃ l xs y,x= .ref l∧vs=[y]∧H l=some (.lst xs)∧xs.length < sizeLine∧Q .non (upd H l (.lst (xs++[y])))
theorem c7:MtM X "list.append" nc:=by
 intro pins s σ H x vs v us Q I rx rv h
 obtain ⟨l,xs,y,rfl,rfl,hH,hz,q⟩:=h
 cases rx
 obtain ⟨u,rfl,ru⟩:=rv.one
 obtain ⟨z,its,n,r,hl,e⟩:=I.lstM hH
 refine call_meets F.slot_list_append ⟨_,e,rfl⟩ F.entry_list_append (F.args_list_append_2 _ _) (PySem.list_append l its.toArray n u (by rw [List.size_toArray];omega)) ⟨e,?_⟩
 refine ⟨.non,_,I.lset (its':=its++[u]) hH e (by simp) (r.append (.cons ru .nil)) ?_,rfl,q⟩
 rw [List.length_append,List.length_singleton]
 omega
noncomputable def rCat:R2:=fun x y H Q=>∃ l b xs zs,x= .ref l∧y= .ref b∧H l=some (.lst xs)∧H b=some (.lst zs)∧xs.length + zs.length≤sizeLine∧∀ p,H p=none→Q (.ref p) (upd H p (.lst (xs++zs)))
theorem tK:OpR X (binaryOp .Add) rCat:=by
 intro pins s σ H x y v u Q I rx ry h
 obtain ⟨l,b,xs,zs,rfl,rfl,hH,hB,hz,q⟩:=h
 cases rx
 cases ry
 obtain ⟨z,its,n,r,hl,e⟩:=I.lstM hH
 obtain ⟨z2,its2,n2,r2,hl2,e2⟩:=I.lstM hB
 refine PySem.P.add_list e e2 ?_ (by rw [List.size_toArray,List.size_toArray];omega)
 have ea:its.toArray++its2.toArray=(its++its2).toArray:=by simp
 rw [ea]
 exact ⟨.ref _,_,I.lnew (t':=s.toks) (r.append r2) (by rw [List.length_append];omega),rfl,q _ I.fresh⟩
noncomputable def rRep:R2:=fun x y H Q=>∃ l k xs,x= .ref l∧y= .int k∧H l=some (.lst xs)∧-(2 ^ 63)≤k∧k < 2 ^ 63∧xs.length * k.toNat≤sizeLine∧
 ∀ p,H p=none→Q (.ref p) (upd H p (.lst (List.replicate k.toNat xs).flatten))
theorem rq {α:Type} (xs:List α) (k:Nat):(List.replicate k xs).flatten.length=k * xs.length:=by
 induction k with
 | zero=>simp
 | succ k ih=>rw [List.replicate_succ,List.flatten_cons,List.length_append,ih,Nat.succ_mul,Nat.add_comm]
theorem qb:OpR X (binaryOp .Mult) rRep:=by
 intro pins s σ H x y v u Q I rx ry h
 obtain ⟨l,k,xs,rfl,rfl,hH,h1,h2,hz,q⟩:=h
 cases rx
 obtain ⟨t,rfl⟩:=ry
 obtain ⟨z,its,n,r,hl,e⟩:=I.lstM hH
 have hlen:its.toArray.size * k.toNat≤sizeLine:=by rw [List.size_toArray,← hl];exact hz
 have hcap:¬ its.toArray.size * k.toNat > (2 ^ 63 - 1) / 8:=by
  have:(sizeLine:Nat)≤(2 ^ 63 - 1) / 8:=by decide
  omega
 have hfit:¬ (!Builtin.List.listFitsIndex k)=true:=by
  rw [fitsIndex_both h1 h2]
  exact Bool.false_ne_true
 have hlong:¬ Builtin.List.listTooLong (its.toArray.size * k.toNat)=true:=by
  rw [ph hlen]
  exact Bool.false_ne_true
 have hnew:List.foldl (fun x1 x2=>x1++x2) #[] (List.replicate (if its.toArray.isEmpty=true then 0 else k.toNat) its.toArray)=(List.replicate k.toNat its).flatten.toArray:=by
  have f0:∀ m:Nat,List.foldl (fun x1 x2=>x1++x2) #[] (List.replicate m its.toArray)=(List.replicate m its).flatten.toArray:=fun m=>by
   have:=jQ its m []
   rw [List.nil_append] at this
   exact this
  rw [f0]
  cases its with
  | nil=>simp
  | cons a r'=>rw [if_neg (by simp)]
 refine wpAny_binaryOp_repeat_ref (T:="list") (U:="int") (by decide) ⟨_,e,rfl⟩ (fun s'=>typeIs_int s' k t) noFill_list_mul F.fills_int_mul F.slot_int_rmul repeat_list F.slot_int_index.lookup
  (call_meets F.slot_int_rmul (typeIs_int s k t) F.entry_int_rmul (F.args_int_rmul_2 _ _) (int___rmul___int_list k t l its.toArray n)
   ⟨e,rfl,⟨_,e,rfl⟩,call_meets F.slot_list_mul ⟨_,e,rfl⟩ F.entry_list_mul (F.args_list_mul_2 _ _) (AutoListH.list___mul___list_int_3 l its.toArray n k t hfit hcap hlong) ⟨e,?_⟩⟩)
 rw [hnew]
 exact ⟨.ref _,_,I.lnew (t':=s.toks) (r.rep k.toNat) (by rw [rq,Nat.mul_comm];exact hz),rfl,q _ I.fresh⟩
end
end L2
namespace Att
open PySem PySem.W PySem.Calls PyProof.Rows
theorem gT {P:Params} {h:Heap}:∀ (ns:List Int) (vs:List Value),WellAll P h vs (ns.map WData.int)→IntsAre vs ns:=by
 intro ns
 induction ns with
 | nil=>
   intro vs w
   rw [List.map_nil] at w
   cases w
   exact .nil
 | cons n ns ih=>
   intro vs w
   rw [List.map_cons] at w
   cases w with
   | cons a b=>
     cases a
     exact .cons _ _ (ih _ b)
theorem mZ {l:OpenLaw} {n:Nat} (hn:l.most=some n) {P:Params} {h:Heap} {args:List WData} {vals:List Value}
  (hpre:l.row.toRowW.claim.pre args=true) (hwl:WellAll P h vals args):
  ∃ a vs ns,vals=[Value.ref a]∧args=[WData.list (ns.map WData.int)]∧h.get? a=some {cls:= .type "list",data:= .seq vs.toArray}∧IntsAre vs ns∧ns.length≤n:=by
 have hsh:WShape.hasAll [] args [.list .int]=true:=(pre_splitW hpre).1
 have hc:l.pre.holds [] {args:=args}=true:=(pre_splitW hpre).2
 obtain ⟨d,r,rfl,h1,h2⟩:=hasAllW_cons hsh
 obtain rfl:=hasAllW_nil h2
 obtain ⟨xs,rfl,h3⟩:=hasW_list h1
 obtain ⟨ns,rfl⟩:=items_int h3
 have hlen:ns.length≤n:=by
  unfold OpenLaw.pre at hc
  have h4:(WTm.not (.lt (.lit (.int (n:Int))) (.len (.arg 0)))).holds [] {args:=[.list (ns.map .int)]}=true:=by
   have h4:=(holds_andW hc).1
   rw [hn] at h4
   exact h4
  have h5:=condW_of h4 (w_not (w_lt w_lit (w_len_list (w_arg rfl))))
  rw [List.length_map] at h5
  refine Nat.le_of_not_lt fun q=>?_
  have q':(n:Int) < ((ns.length:Nat):Int):=by omega
  first
   | (rw [decide_eq_true q'] at h5;exact absurd h5 (by decide))
   | (simp at h5;omega)
 cases hwl with
 | cons w1 w2=>
   cases w2
   cases w1 with
   | list ho hall=>exact ⟨_,_,ns,rfl,rfl,ho,gT ns _ hall,hlen⟩
theorem nh (l:OpenLaw) (args:List WData):l.row.toRowW.claim.post args (.bool true) args=true:=
 postW_of (r:=l.row.toRowW) (X:=(true == true))
  (show WShape.has [] (.bool true) .bool=true by first | rfl | decide | simp [WShape.has,WShape.arms,WShape.armsAll])
  (show (WTm.eq .res (.lit (.bool true))).value [] {args:=args,res:=some (.bool true),after:=args}=some (.bool (true == true)) from w_eq_bool (w_res rfl) w_lit) rfl
theorem attach_call {l:OpenLaw} {n:Nat} {q:Program} {loose:List Str} {XP:(Str→Option Value)→Heap→Prop} {YP:World→Heap→Prop} {d:DefRec}
  (hn:l.most=some n) (hdf:d.params.defaults=[])
  (call:∀ (w:World) (s₀ s₁:Shared) (mg mb:Str→Option Value) (fa:Addr) (o:Obj) (pm cd doc:Value) (a:Addr) (vs:List Value) (ns:List Int),
   Ground q loose [] XP w s₀ mg mb s₁.heap→YP w s₁.heap→
   s₁.heap.get? fa=some o→o.data= .func (docDef d.name d.params d.body d.scope pm cd doc)→s₁.heap.CodeRec cd d.name→mg d.name=some (.ref fa)→
   s₁.heap.get? a=some {cls:= .type "list",data:= .seq vs.toArray}→IntsAre vs ns→ns.length≤n→s₁.gens=#[]→
   codeAny (model l.prog w) callerA (.call (.ref fa) ⟨[.ref a],[]⟩) (fun r s'=>r= .ok (.ret (.bool true))∧OldK s₁.heap s'.heap∧s'.os=s₁.os∧AllBare s'.gens) s₁):
  WalkO q loose XP YP l.row.toRowW d [] (fun f vs=>PySem.call f vs):=by
 intro w s₀ s₁ mg mb G Y fa o pm cd doc dV kV ho hd hcd hD hmg hg args vals as hpre hlay hrd hwl hlo
 obtain rfl:dV= .none:=Dflts.none hD hdf
 obtain rfl:kV= .none:=Dflts.noKw hD
 obtain ⟨a,vs,ns,rfl,rfl,hobj,hints,hlen⟩:=mZ hn hpre hwl
 refine enter_call (codeAny_mono (call w s₀ s₁ mg mb fa o pm cd doc a vs ns G Y ho (fd_plain hd) hcd hmg hobj hints hlen hg) fun r s' hq=>?_)
 obtain ⟨rfl,h2,h3,h4⟩:=hq
 exact ⟨.inl ⟨.bool true,.bool true,[],rfl,fun _=>rfl,.bool true,nh l _,fun _=>⟨List.Pairwise.nil,fun _ hm=>(nomatch hm)⟩⟩,h2,h3,h4⟩
end Att
namespace L2
open PySem PySem.Spec PyProof.Rows
theorem gx:∀ {vs:List Value} {ns:List Int},IntsAre vs ns→Vals (ns.map V.int) vs
 | _,_,.nil=> .nil
 | _,_,.cons n t h=> .cons ⟨t,rfl⟩ (gx h)
noncomputable def Only (H:Hp):Prop:=∀ b,H b=none∨∃ o xs,H b=some (.frz o (.lst xs))
theorem pA {P:Program} {w:World} {K:PySem.W.Frag} {mg mb:Str→Option Value} {CX:CXT} {k:Nat} {fa a:Addr} {fd:FuncData} {x:Str} {sp:Sp} {s₁:Shared} {vs:List Value} {ns:List Int}
  (KX:K.In s₁.heap) (hns:s₁.heap.Ns mainGlobals mg) (hb:s₁.heap.Ns builtinsNs mb) (hbb:∀ x:Str,x≠"__name__"→mb x=bootBuiltins x) (hlim:s₁.heap.NoLimit) (hg:s₁.gens=#[])
  (ha:s₁.heap.get? a=some {cls:= .type "list",data:= .seq vs.toArray}) (hi:IntsAre vs ns) (hl:ns.length≤sizeLine) (hr:Room k callerA)
  (F:∀ base:Heap,K.In base→base.Ns mainGlobals mg→FnOk P w K mg base CX k fa fd [x] sp) (hbind:∀ (s:Shared) (u:Value),BindsTo s fd ⟨[u],[]⟩ [(x,u)])
  (hsp:∀ H:Hp,Only H→SqL K H a (ns.map V.int)→sp [.ref a] H (fun v _=>v= .bl true) fun _ _ _=>False)
  (hCX:∀ H e s',CX [] H s₁ (fun _ _ _=>False) e s'→False):
  codeAny (model P w) callerA (.call (.ref fa) ⟨[.ref a],[]⟩) (fun r s'=>r= .ok (.ret (.bool true))∧OldK s₁.heap s'.heap∧s'.os=s₁.os∧AllBare s'.gens) s₁:=by
 have rv:=gx hi
 have lenV:=hi.length
 have core:∀ H:Hp,Only H→SqL K H a (ns.map V.int)→HOk P w H s₁.heap→(∀ b,H b≠none→b=a)→(H a≠none→K.lookup a=none)→
   codeAny (model P w) callerA (.call (.ref fa) ⟨[.ref a],[]⟩) (fun r s'=>r= .ok (.ret (.bool true))∧OldK s₁.heap s'.heap∧s'.os=s₁.os∧AllBare s'.gens) s₁:=by
  intro H hO hS hok hA hK
  have base_of:∀ {b:Addr} {o:Obj},s₁.heap.get? b=some o→H b=none→(hidT s₁.heap H).get? b=some o:=fun e n=>pE e n
  have noA:∀ {b:Addr} {o:Obj} {es:Array DictEntry} {ep:Nat},s₁.heap.get? b=some o→o.data= .dict es ep→H b=none:=fun {b o es ep} e d=>by
   cases q:H b with
   | none=>rfl
   | some u=>
     have e':b=a:=hA b (by rw [q];simp)
     subst e'
     rw [ha] at e;cases e
     have d':Data.seq vs.toArray _=Data.dict es ep:=d
     cases d'
  have nsK:∀ {b:Addr} {m:Str→Option Value},s₁.heap.Ns b m→(hidT s₁.heap H).Ns b m:=fun {b m} ⟨o,es,ep,e,d,r⟩=>⟨o,es,ep,base_of e (noA e d),d,r⟩
  have hKb:K.In (hidT s₁.heap H):=fun b o e=>base_of (KX b o e) (by
   cases q:H b with
   | none=>rfl
   | some u=>
     have e':b=a:=hA b (by rw [q];simp)
     subst e'
     rw [hK (by rw [q];simp)] at e;cases e)
  have hM:Mod K mg (hidT s₁.heap H):=⟨hKb,nsK hns,⟨mb,nsK hb,hbb⟩,let ⟨mc,h1,h2⟩:=hlim;⟨mc,nsK h1,h2⟩⟩
  have e0:Env0 P w K mg (hidT s₁.heap H) callerA [] s₁ H:=⟨rfl,hM,fun b o e=>rj e,Nat.le_of_eq (nW _ _),trivial,fun b hb=>absurd (show b∈([]:List Addr) from hb) (by simp),hok,.of_eq hg⟩
  refine codeAny_mono ((F _ hKb (nsK hns)).run callerA [] s₁ H ⟨[.ref a],[]⟩ [.ref a] [.ref a] _ _ hr e0 (hbind s₁ (.ref a)) (.cons rfl .nil) (hsp H hO hS)) fun r s' h=>?_
  cases r with
  | error e=>exact (hCX H e s' h).elim
  | ok fl=>
    cases fl with
    | next=>exact False.elim h
    | brk=>exact False.elim h
    | cont=>exact False.elim h
    | ret u=>
      obtain ⟨v,H',os,bare,un,hok',r',q⟩:=h
      have q':v= .bl true:=q
      subst q'
      obtain rfl:u=Value.bool true:=r'
      refine ⟨rfl,OldK.of_keep fun b o e=>?_,os,bare⟩
      cases q:H b with
      | none=>exact un.keep b o e q (by intro z;exact absurd (show b∈([]:List Addr) from z) (by simp)) (by simp)
      | some u=>
        rcases hO b with z | ⟨ob,xs,z⟩
        ·rw [q] at z;cases z
        ·have z2:=un.frzs b ob _ z
         obtain ⟨e1,_⟩:=hok b _ z
         obtain ⟨e2,_⟩:=hok' b _ z2
         rw [e] at e1;cases e1
         exact e2
 cases hk:K.lookup a with
 | some o=>
   have e:=KX a o hk
   rw [ha] at e
   cases e
   refine core (fun _=>none) (fun _=> .inl rfl) (.inr ⟨_,vs.toArray,_,hk,rfl,rfl,rfl,by rw [List.size_toArray,lenV];exact hl,by simpa using rv⟩) (fun b u z=>by have z':(none:Option HO)=some u:=z;cases z') (fun b z=>absurd rfl z) fun z=>absurd rfl z
 | none=>
   refine core (fun b=>if b=a then some (.frz {cls:= .type "list",data:= .seq vs.toArray} (.lst (ns.map V.int))) else none) (fun b=>?_) (.inl (.inr ⟨{cls:= .type "list",data:= .seq vs.toArray},if_pos rfl⟩)) (fun b u z=>?_) (fun b z=>?_) fun _=>hk
   ·by_cases hb:b=a
    ·exact .inr ⟨_,_,if_pos hb⟩
    ·exact .inl (if_neg hb)
   ·by_cases hb:b=a
    ·have z':=(if_pos hb).symm.trans z
     cases z'
     subst hb
     exact ⟨ha,by rw [List.length_map];exact hl,vs,_,rv,ha⟩
    ·have z':=(if_neg hb).symm.trans z
     cases z'
   ·by_cases hb:b=a
    ·exact hb
    ·exact absurd (if_neg hb) z
theorem walk_of {l:PySem.W.OpenLaw} {n k:Nat} {q:Program} {loose:List Str} {XP:(Str→Option Value)→Heap→Prop} {YP:World→Heap→Prop} {d:DefRec} {K:Params→PySem.W.Frag} {CX:World→CXT} {sp:World→Sp} {x:Str}
  (hn:l.most=some n) (hn2:n≤sizeLine) (hdf:d.params.defaults=[]) (hr:Room k callerA)
  (hY:∀ (w:World) (h:Heap),YP w h→(K w.params).In h)
  (F:∀ (w:World) (mg:Str→Option Value) (fa:Addr) (h:Heap),(K w.params).In h→h.Ns mainGlobals mg→mg d.name=some (.ref fa)→
   ∃ fd:FuncData,(∀ (s:Shared) (u:Value),BindsTo s fd ⟨[u],[]⟩ [(x,u)])∧
     ∀ base:Heap,(K w.params).In base→base.Ns mainGlobals mg→FnOk l.prog w (K w.params) mg base (CX w) k fa fd [x] (sp w))
  (hsp:∀ (w:World) (H:Hp) (a:Addr) (ns:List Int),ns.length≤n→Only H→SqL (K w.params) H a (ns.map V.int)→sp w [.ref a] H (fun v _=>v= .bl true) fun _ _ _=>False)
  (hCX:∀ (w:World) (H:Hp) (s:Shared) (e:Value) (s':Shared),CX w [] H s (fun _ _ _=>False) e s'→False):
  PySem.W.WalkO q loose XP YP l.row.toRowW d [] (fun f vs=>PySem.call f vs):=by
 refine Att.attach_call hn hdf fun w s₀ s₁ mg mb fa o pm cd doc a vs ns G Y ho hd hcd hmg hobj hints hlen hg=>?_
 have KX:=hY w _ Y
 obtain ⟨fd,hb,hF⟩:=F w mg fa _ KX G.T.g hmg
 exact pA KX G.T.g G.T.b G.T.builtins G.T.nolimit hg hobj hints (Nat.le_trans hlen hn2) hr hF hb (fun H hO hS=>hsp w H a ns hlen hO hS) fun H e s'=>hCX w H s₁ e s'
noncomputable def i5 (s:Stmt) (j:Nat):Stmt:=match s with
 | .ClassDef _ _ _ body _ _ _ _ _ _ _=>body.getD j (.Pass ⟨0,0,0,0⟩)
 | _=> .Pass ⟨0,0,0,0⟩
noncomputable def aP (s:Stmt):Arguments:=match s with
 | .FunctionDef _ a _ _ _ _ _ _ _ _=>a
 | _=>{posonlyargs:=[],args:=[],vararg:=none,kwonlyargs:=[],kw_defaults:=[],kwarg:=none,defaults:=[]}
noncomputable def aN (s:Stmt):List Stmt:=match s with
 | .FunctionDef _ _ b _ _ _ _ _ _ _=>b
 | _=>[]
noncomputable def ag (s:Stmt):Scope:=match s with
 | .FunctionDef _ _ _ _ _ _ sc _ _ _=>sc
 | _=>{kind:= .function,names:=[],isGenerator:=false,isCoroutine:=false}
noncomputable abbrev CX0:CXT:=fun _ _ _ _ _ _=>False
noncomputable abbrev E0:XK:=fun _ _ _=>False
theorem bC {X:Cx}:iE CX0 X E0:=fun _ _ _ _ _ _ _ h=>h.elim
structure Fun (K:PySem.W.Frag) (x qual:Str) (st:Stmt) (f:Addr) (fd:FuncData):Prop where
 ex:∃ (oc:Value) (od:Option Addr) (kV doc pm:Value) (an:Option Addr) (cdv ct:Value) (osl:Array (Option Value)),
  fd=PySem.W.fnOf x qual (aP st) (aN st) (ag st) .none kV doc pm an cdv ct∧K.lookup f=some ⟨oc,od,.func fd,osl⟩∧PySem.W.codeIn K cdv qual=true
 kp:PySem.W.keepIn K (.ref f)=true
section
variable {P:Program} {w:World} {K:PySem.W.Frag} {mg:Str→Option Value} {base:Heap}
theorem Fun.ok {x qual:Str} {st:Stmt} {f:Addr} {fd:FuncData} {N ps:List Str} {k:Nat} {sp:Sp} (F:Fun K x qual st f fd) (S:aT N ps (ag st)) (len:∀ vs H Q E,sp vs H Q E→vs.length=ps.length)
  (hbody:∀ (cdv:Value) (A:Around) (outer:List Env) (s:Shared) (H:Hp) (vs:List V) (Q:VK) (E:XK),Room k (A.deeper (envOfC qual (ag st) s.heap.objs.size f cdv))→sp vs H Q E→
   ∃ t,PSs (cxOf CX0 P w K mg base N qual (ag st) f cdv A outer s H E).nox (aN st) t∧t {nx:=fun _ H'=>Q .non H',rt:=Q} (start N vs) H):FnOk P w K mg base CX0 (k + 1) f fd ps sp:=by
 obtain ⟨oc,od,kV,doc,pm,an,cdv,ct,osl,rfl,lk,hcd⟩:=F.ex
 refine u1 lk hcd S len fun A outer s H vs Q E hr hsp=>?_
 obtain ⟨t,h,q⟩:=hbody cdv A outer s H vs Q E hr hsp
 exact ⟨t,h.nox,q⟩
theorem Fun.binds {x qual:Str} {st:Stmt} {f:Addr} {fd:FuncData} {ps:List Str} (F:Fun K x qual st f fd)
  (h:∀ (kV doc pm:Value) (an:Option Addr) (cdv ct:Value) (us:List Value),us.length=ps.length→bindArgs (PySem.W.fnOf x qual (aP st) (aN st) (ag st) .none kV doc pm an cdv ct) ⟨us,[]⟩=pure (ps.zip us)):cn K fd ps []:=by
 obtain ⟨oc,od,kV,doc,pm,an,cdv,ct,osl,rfl,lk,hcd⟩:=F.ex
 exact .all (h kV doc pm an cdv ct)
theorem b9 {x qual:Str} {st:Stmt} {f:Addr} {oc:Value} {od an:Option Addr} {osl:Array (Option Value)} {kV doc pm cdv ct:Value} (l:K.lookup f=some ⟨oc,od,.func (PySem.W.fnOf x qual (aP st) (aN st) (ag st) .none kV doc pm an cdv ct),osl⟩)
  (c:PySem.W.codeIn K cdv qual=true) (k:PySem.W.keepIn K (.ref f)=true):Fun K x qual st f (PySem.W.fnOf x qual (aP st) (aN st) (ag st) .none kV doc pm an cdv ct):=⟨⟨oc,od,kV,doc,pm,an,cdv,ct,osl,rfl,l,c⟩,k⟩
end
theorem pD {A:Around} {k:Nat} (hr:Room k A):A.units + 1 < cLine:=Nat.lt_of_le_of_lt (Nat.add_le_add_left (by decide:1≤64) _) hr.units
theorem dR {n:Nat} (h:n≤1000):n < sizeLine:=Nat.lt_of_le_of_lt h (by decide)
section
variable {X:Cx}
theorem pv (i:Nat) {x:Str} {pos:Pos} (hN:X.N[i]? =some x:=by rfl) (hv:Vis X.env.scope x:=by first | exact Or.inl rfl | exact Or.inr (Or.inl rfl) | exact Or.inr (Or.inr rfl)) (hd:(x == ("__debug__":Str))=false:=by decide)
  (hcd:(x == ("__classdict__":Str))=false:=by decide):PE X (.Name x pos) (tVar i):=tD hN hv hd hcd
end
theorem ite2 {c A B:Prop} [Decidable c] (h1:c→A) (h2:¬ c→B):if c then A else B:=by
 by_cases h:c
 ·rw [if_pos h]
  exact h1 h
 ·rw [if_neg h]
  exact h2 h
noncomputable def Same (H H':Hp):Prop:=∀ b o,H b=some o→H' b=some o
theorem Same.refl (H:Hp):Same H H:=fun _ _ h=>h
theorem Same.trans {H H1 H2:Hp} (a:Same H H1) (b:Same H1 H2):Same H H2:=fun c o h=>b c o (a c o h)
theorem Same.free {H H':Hp} (e:Same H H') {l:Addr} (h:H' l=Option.none):H l=Option.none:=by
 cases q:H l with
 | none=>rfl
 | some o=>
   rw [e l o q] at h
   cases h
theorem Same.seq {K:PySem.W.Frag} {H H':Hp} {a:Addr} {xs:List V} (e:Same H H') (h:SqL K H a xs):SqL K H' a xs:=by
 rcases h with (h | ⟨o,h⟩) | h
 ·exact .inl (.inl (e _ _ h))
 ·exact .inl (.inr ⟨o,e _ _ h⟩)
 ·exact .inr h
section
variable {κ:Type} [DecidableEq κ]
noncomputable def valV (kvs:List (κ×V)) (k:κ):Option V:=(kvs.find? fun kv=>decide (kv.1=k)).map (·.2)
noncomputable def putK (kvs:List (κ×V)) (k:κ) (v:V):List (κ×V):=
 if (kvs.any fun kv=>decide (kv.1=k))=true then kvs.map (fun kv=>if kv.1=k then (kv.1,v) else kv) else kvs++[(k,v)]
theorem gb {p:κ×V} {r:List (κ×V)} {k:κ} (e:p.1=k):valV (p::r) k=some p.2:=by simp [valV,List.find?_cons,e]
theorem gc {p:κ×V} {r:List (κ×V)} {k:κ} (e:¬ p.1=k):valV (p::r) k=valV r k:=by simp [valV,List.find?_cons,e]
theorem iG (k:κ):∀ kvs:List (κ×V),(kvs.any fun kv=>decide (kv.1=k))=(valV kvs k).isSome
 | []=>rfl
 | p::r=>by
   rw [List.any_cons]
   by_cases e:p.1=k
   ·simp only [gb e,decide_eq_true e,Bool.true_or,Option.isSome_some]
   ·rw [gc e,decide_eq_false e,Bool.false_or];exact iG k r
theorem gN (kvs:List (κ×V)) (k:κ) (v:V):(putK kvs k v).length≤kvs.length + 1:=by
 unfold putK
 split
 ·rw [List.length_map];omega
 ·rw [List.length_append,List.length_cons,List.length_nil];omega
theorem RelO.isSome_eq {o:Option V} {u:Option Value} (r:RelO o u):o.isSome=u.isSome:=by
 cases o with
 | none=>cases u with
   | none=>rfl
   | some _=>exact (show False from r).elim
 | some _=>cases u with
   | none=>exact (show False from r).elim
   | some _=>rfl
theorem KV.val {kvs:List (κ×V)} {vs:List (κ×Value)} (r:KV kvs vs) (k:κ):RelO (valV kvs k) (valueAt vs k):=by
 unfold KV at r
 induction r with
 | nil=>exact True.intro
 | @cons p q ps qs h t ih=>
   obtain ⟨h1,h2⟩:=h
   by_cases e:p.1=k
   ·have e':q.1=k:=h1.symm.trans e
    have b:valueAt (q::qs) k=some q.2:=by simp [valueAt,List.find?_cons,e']
    rw [gb e,b];exact h2
   ·have e':¬ q.1=k:=fun z=>e (h1.trans z)
    have b:valueAt (q::qs) k=valueAt qs k:=by simp [valueAt,List.find?_cons,e']
    rw [gc e,b];exact ih
theorem KV.any {kvs:List (κ×V)} {vs:List (κ×Value)} (r:KV kvs vs) (k:κ):(kvs.any fun kv=>decide (kv.1=k))=vs.any fun kv=>decide (kv.1=k):=by
 unfold KV at r
 induction r with
 | nil=>rfl
 | cons h t ih=>rw [List.any_cons,List.any_cons,ih,h.1]
theorem KV.repl {kvs:List (κ×V)} {vs:List (κ×Value)} (r:KV kvs vs) (k:κ) {y:V} {u:Value} (ry:RelV y u):
  KV (kvs.map fun kv=>if kv.1=k then (kv.1,y) else kv) (vs.map fun kv=>if kv.1=k then (kv.1,u) else kv):=by
 unfold KV at r ⊢
 induction r with
 | nil=>exact .nil
 | @cons p q ps qs h t ih=>
   rw [List.map_cons,List.map_cons]
   refine .cons ?_ ih
   obtain ⟨h1,h2⟩:=h
   by_cases e:p.1=k
   ·rw [if_pos e,if_pos (h1.symm.trans e)];exact ⟨h1,ry⟩
   ·rw [if_neg e,if_neg (fun z=>e (h1.trans z))];exact ⟨h1,h2⟩
theorem KV.put {kvs:List (κ×V)} {vs:List (κ×Value)} (r:KV kvs vs) (k:κ) {y:V} {u:Value} (ry:RelV y u):KV (putK kvs k y) (stored vs k u):=by
 unfold putK stored
 rw [r.any k]
 by_cases e:(vs.any fun kv=>decide (kv.1=k))=true
 ·rw [if_pos e,if_pos e];exact r.repl k ry
 ·rw [if_neg e,if_neg e];exact Paired.snoc r ⟨rfl,ry⟩
theorem KV.keys {kvs:List (κ×V)} {vs:List (κ×Value)} (r:KV kvs vs):kvs.map (·.1)=vs.map (·.1):=by
 unfold KV at r
 induction r with
 | nil=>rfl
 | cons h t ih=>rw [List.map_cons,List.map_cons,ih,h.1]
theorem KV.length {kvs:List (κ×V)} {vs:List (κ×Value)} (r:KV kvs vs):kvs.length=vs.length:=Paired.length r
end
theorem pC {P:Program} {w:World} {k:Key} {u:Value} (r:RelV (kV k) u):(aW P w).is k u=true:=by
 cases k with
 | inl i=>obtain ⟨t,e⟩:=(show ∃ t,u=Value.int i t from r);subst e;exact kF P w i t
 | inr x=>obtain ⟨t,e⟩:=(show ∃ t,u=Value.str x t from r);subst e;exact kE P w x t
theorem jN {P:Program} {w:World}:∀ {ks:List Key} {us:List Value},Vals (ks.map kV) us→ItemsAre (aW P w) ks us
 | [],_,r=>by rw [List.map_nil] at r;cases r;exact .nil
 | k::ks,_,r=>by
   rw [List.map_cons] at r
   cases r with
   | cons h t=>exact .cons (pC h) (jN t)
noncomputable abbrev KT (H:Hp):List (List Key×V)→List (List Key×Addr×Value)→Prop:=Paired fun p q=>p.1=q.1∧H q.2.1=some (.tup (p.1.map kV))∧RelV p.2 q.2.2
theorem KT.val {H:Hp} {kvs:List (List Key×V)} {xs:List (List Key×Addr×Value)} (r:KT H kvs xs) (k:List Key):RelO (valV kvs k) ((atKey xs k).map (·.2)):=by
 induction r with
 | nil=>exact True.intro
 | @cons p q ps qs h t ih=>
   obtain ⟨h1,_,h2⟩:=h
   by_cases e:p.1=k
   ·have e':q.1=k:=h1.symm.trans e
    have b:atKey (q::qs) k=some q.2:=by simp [atKey,List.find?_cons,e']
    rw [gb e,b];exact h2
   ·have e':¬ q.1=k:=fun z=>e (h1.trans z)
    have b:atKey (q::qs) k=atKey qs k:=by simp [atKey,List.find?_cons,e']
    rw [gc e,b];exact ih
theorem KT.repl {H:Hp} {kvs:List (List Key×V)} {xs:List (List Key×Addr×Value)} (r:KT H kvs xs) (k:List Key) {y:V} {u:Value} (ry:RelV y u):
  KT H (kvs.map fun kv=>if kv.1=k then (kv.1,y) else kv) (xs.map (putAt k u)):=by
 induction r with
 | nil=>exact .nil
 | @cons p q ps qs h t ih=>
   rw [List.map_cons,List.map_cons]
   refine .cons ?_ ih
   obtain ⟨h1,h2,h3⟩:=h
   unfold putAt
   by_cases e:p.1=k
   ·rw [if_pos e,if_pos (h1.symm.trans e)];exact ⟨h1,h2,ry⟩
   ·rw [if_neg e,if_neg (fun z=>e (h1.trans z))];exact ⟨h1,h2,h3⟩
theorem KT.put {H:Hp} {kvs:List (List Key×V)} {xs:List (List Key×Addr×Value)} (r:KT H kvs xs) (k:List Key) {b:Addr} {y:V} {u:Value} (hb:H b=some (.tup (k.map kV))) (ry:RelV y u):
  KT H (putK kvs k y) (storedH xs k b u):=by
 have e:(kvs.any fun kv=>decide (kv.1=k))=(atKey xs k).isSome:=by
  rw [iG,(r.val k).isSome_eq,Option.isSome_map]
 unfold putK storedH
 rw [e]
 by_cases q:(atKey xs k).isSome=true
 ·rw [if_pos q,if_pos q];exact r.repl k ry
 ·rw [if_neg q,if_neg q];exact Paired.snoc r ⟨rfl,hb,ry⟩
theorem KT.keeps {H H':Hp} {kvs:List (List Key×V)} {xs:List (List Key×Addr×Value)} (r:KT H kvs xs) (ht:∀ b ys,H b=some (.tup ys)→H' b=some (.tup ys)):KT H' kvs xs:=
 Paired.mapP r fun _ _ z=>⟨z.1,ht _ _ z.2.1,z.2.2⟩
section
variable {P:Program} {w:World} {H:Hp} {h:Heap} {a:Addr}
theorem ti {u:HO} (ok:HOk P w H h) (e:Rd H a u):cj P w H h a u:=e.ok ok
theorem pM {kvs:List (Key×V)} (ok:HOk P w H h) (e:Rd H a (.dK kvs)):kvs.length≤sizeLine∧(a == sysModules)=false∧∃ vs,KV kvs vs∧h.DictOf (aW P w) a vs:=
 show cj P w H h a (.dK kvs) from ti ok e
theorem pN {kvs:List (Key×V)} (ok:HOk P w H h) (e:H a=some (.dK kvs)):kvs.length≤sizeLine∧(a == sysModules)=false∧∃ vs,KV kvs vs∧h.DictOf (aW P w) a vs:=pM ok (.inl e)
theorem lJ {ks:List Key} (ok:HOk P w H h) (e:H a=some (.tup (ks.map kV))):(tupleKind (aW P w)).is h ks a:=by
 obtain ⟨_,its,r,o,h1,h2,n,h3⟩:=(show cj P w H h a (.tup (ks.map kV)) from ok a _ e)
 exact ⟨o,its.toArray,n,h1,h2,h3,by simpa using jN r⟩
theorem pL {kvs:List (List Key×V)} (ok:HOk P w H h) (e:Rd H a (.dT kvs)):kvs.length≤sizeLine∧(a == sysModules)=false∧
  ∃ xs,KT H kvs xs∧h.DictOfH (tupleKind (aW P w)) a xs:=by
 obtain ⟨z,y,xs,r,o,es,ep,h1,h2,h3,h4,h5⟩:=(show cj P w H h a (.dT kvs) from ti ok e)
 refine ⟨z,y,xs,r,o,es,ep,h1,h2,h3,h4,fun x hx=>?_,h5⟩
 have all:∀ {l:List (List Key×V)} {m:List (List Key×Addr×Value)},KT H l m→∀ x∈m,(tupleKind (aW P w)).is h x.1 x.2.1:=by
  intro l m q
  induction q with
  | nil=>intro x hx;exact nomatch hx
  | @cons p q ps qs hq t ih=>
    intro x hx
    rcases List.mem_cons.mp hx with e | hx
    ·subst e
     exact lJ ok (by rw [← hq.1];exact hq.2.1)
    ·exact ih x hx
 exact all r x hx
theorem u7 {kvs:List (List Key×V)} (ok:HOk P w H h) (e:H a=some (.dT kvs)):kvs.length≤sizeLine∧(a == sysModules)=false∧
  ∃ xs,KT H kvs xs∧h.DictOfH (tupleKind (aW P w)) a xs:=pL ok (.inl e)
end
noncomputable def DGet (H:Hp) (a:Addr) (y:V) (r:Option V):Prop:=
 (∃ kvs k,Rd H a (.dK kvs)∧y=kV k∧r=valV kvs k)∨∃ kvs k b,Rd H a (.dT kvs)∧y= .ref b∧H b=some (.tup (k.map kV))∧r=valV kvs k
noncomputable def DPut (H:Hp) (a:Addr) (y v:V) (H':Hp):Prop:=
 (∃ kvs k,H a=some (.dK kvs)∧y=kV k∧kvs.length < sizeLine∧H'=upd H a (.dK (putK kvs k v)))∨
 ∃ kvs k b,H a=some (.dT kvs)∧y= .ref b∧H b=some (.tup (k.map kV))∧kvs.length < sizeLine∧H'=upd H a (.dT (putK kvs k v))
theorem DGet.k {H:Hp} {a:Addr} {kvs:List (Key×V)} {k:Key} (e:H a=some (.dK kvs)):DGet H a (kV k) (valV kvs k):= .inl ⟨kvs,k,.inl e,rfl,rfl⟩
theorem DPut.k {H:Hp} {a:Addr} {kvs:List (Key×V)} {k:Key} {v:V} (e:H a=some (.dK kvs)) (hl:kvs.length < sizeLine):DPut H a (kV k) v (upd H a (.dK (putK kvs k v))):= .inl ⟨kvs,k,e,rfl,hl,rfl⟩
section
variable {X:Cx} {pins:List (Addr×Obj)} {σ:St} {H:Hp} {s:Shared} {a:Addr} {y v:V} {u r:Value} {o:Option V} {A:Around} {E:Value→Shared→Prop}
theorem Inv.big (I:Inv X pins σ H s):sysModules < s.heap.objs.size:=by
 have h:mainGlobals < s.heap.objs.size:=(I.mod.glob.keeps I.bk).lt
 exact Nat.lt_trans (by decide) h
theorem oo {Q:Value→Shared→Prop} (hu:A.units + 1 < cLine) (I:Inv X pins σ H s) (g:DGet H a y (some v)) (ry:RelV y u) (h:∀ w' s',Inv X pins σ H s'→RelV v w'→Q w' s'):
  wpAny (model X.prog X.w) A (getItem (.ref a) u) Q E s:=by
 rcases g with ⟨kvs,k,e,ey,l⟩ | ⟨kvs,k,b,e,ey,eb,l⟩
 ·subst ey
  obtain ⟨z,hd,vs,rel,dd⟩:=pM I.hok e
  obtain ⟨w',hw,rw'⟩:=RelO.some_of (v:=v) (o:=valueAt vs k) (by rw [l];exact rel.val k)
  exact wpAny_getItem_of (pC ry) dd.mapOf hw (h w' _ (I.tok _) rw')
 ·subst ey
  cases (show u=Value.ref b from ry)
  obtain ⟨z,hd,xs,rel,dd⟩:=pL I.hok e
  obtain ⟨w',hw,rw'⟩:=RelO.some_of (v:=v) (o:=(atKey xs k).map (·.2)) (by rw [l];exact rel.val k)
  obtain ⟨p,hp,hp2⟩:=Option.map_eq_some_iff.mp hw
  refine wpAny_getItem_heap (tupleKind_room_in1 hu) (lJ I.hok eb) dd hp ?_
  rw [hp2]
  exact h w' _ (I.tok _) rw'
theorem d_in {Q:Value→Shared→Prop} (hu:A.units + 1 < cLine) (I:Inv X pins σ H s) (g:DGet H a y o) (ry:RelV y u) (h:∀ s',Inv X pins σ H s'→Q (.bool o.isSome) s'):
  wpAny (model X.prog X.w) A (compareOp .In u (.ref a)) Q E s:=by
 rcases g with ⟨kvs,k,e,ey,l⟩ | ⟨kvs,k,b,e,ey,eb,l⟩
 ·subst ey
  obtain ⟨z,hd,vs,rel,dd⟩:=pM I.hok e
  refine wpAny_in_of (pC ry) hd dd.mapOf ?_
  rw [← (rel.val k).isSome_eq,← l]
  exact h _ (I.tok _)
 ·subst ey
  cases (show u=Value.ref b from ry)
  obtain ⟨z,hd,xs,rel,dd⟩:=pL I.hok e
  refine wpAny_in_heap (tupleKind_room_in1 hu) (lJ I.hok eb) hd dd ?_
  have q:=(rel.val k).isSome_eq
  rw [Option.isSome_map] at q
  rw [← q,← l]
  exact h _ (I.tok _)
theorem oj {h':Heap} {t':Nat} {ob:HO} (I:Inv X pins σ H s) (mu:Mut (H a)) (hs:Heap.SameBut a s.heap h') (he:∃ q,h'.get? a=some q) (new:cj X.prog X.w (upd H a ob) h' a ob):
  Inv X pins σ (upd H a ob) {s with heap:=h',toks:=t'}:=
 I.write (x:=a) (e:=a) mu (.inl rfl) (fun b q hb z=>(hs.2 b hb).trans z) he new
theorem ue {P:Program} {w:World} {H':Hp} {h':Heap} {kvs:List (Key×V)} {vs:List (Key×Value)} (z:kvs.length≤sizeLine) (hd:(a == sysModules)=false) (rel:KV kvs vs) (dd:h'.DictOf (aW P w) a vs):
  cj P w H' h' a (.dK kvs):=⟨z,hd,vs,rel,dd⟩
theorem om {H':Hp} {Q:Unit→Shared→Prop} (hu:A.units + 1 < cLine) (I:Inv X pins σ H s) (g:DPut H a y v H') (ry:RelV y u) (rv:RelV v r) (h:∀ s',Inv X pins σ H' s'→Q () s'):
  wpAny (model X.prog X.w) A (setItem (.ref a) u r) Q E s:=by
 rcases g with ⟨kvs,k,e,ey,l,eH⟩ | ⟨kvs,k,b,e,ey,eb,l,eH⟩
 ·subst ey eH
  obtain ⟨z,hd,vs,rel,dd⟩:=pN I.hok e
  have hz:vs.length≤sizeLine:=by rw [← rel.length];exact z
  have hl:(putK kvs k v).length≤sizeLine:=by have:=gN kvs k v;omega
  refine wpAny_setItem_pairs (hsz:=hz) (pC ry) dd fun h' dd' hs=>h _ ?_
  have he:∃ q,h'.get? a=some q:=let ⟨q,_,_,hq,_⟩:=dd';⟨q,hq⟩
  exact oj I (by rw [e];exact True.intro) hs he (ue hl hd (rel.put k rv) dd')
 ·subst ey eH
  cases (show u=Value.ref b from ry)
  obtain ⟨z,hd,xs,rel,dd⟩:=u7 I.hok e
  have hz:xs.length≤sizeLine:=by rw [← Paired.length rel];exact z
  have hl:(putK kvs k v).length≤sizeLine:=by have:=gN kvs k v;omega
  refine wpAny_setItem_heap (hsz:=hz) (tupleKind_room_in1 hu) (lJ I.hok eb) dd fun h' dd' hs=>h _ ?_
  obtain ⟨q,es,ep,hq,h2,h3,h4,_,h5⟩:=dd'
  refine oj I (by rw [e];exact True.intro) hs ⟨q,hq⟩ ⟨hl,hd,_,(rel.put k eb rv).keeps fun c ys ec=>?_,q,es,ep,hq,h2,h3,h4,h5⟩
  rw [az (dI ec e (fun z=>nomatch z))]
  exact ec
end
noncomputable def NoSl (i:Expr):Prop:=∀ ov iv,subscripted i false ov iv=operate [ov,iv] (getItem ov iv)
theorem qz {prog:Program} {w:World} {A:Around} {E:Value→Shared→Prop} {s:Shared} {env:Env} {value slice:Expr} {pos:Pos} {T id:String} {Q:Value→Shared→Prop}
  (hl:typeLookup (.type T) "__getitem__"=pure (some (.builtin id))) (hs:NoSl slice)
  (h:wpAny (model prog w) A (eval value env) (fun o s₁=>wpAny (model prog w) A (eval slice env) (fun i s₂=>s₂.TypeIs o T∧wpAny (model prog w) A (getItem o i) Q E s₂) E s₁) E s):
  wpAny (model prog w) A (eval (.Subscript value slice pos) env) Q E s:=by
 refine Subscript_ (wpAny_mono h (fun o s₁ h₁=>wpAny_mono h₁ (fun i s₂ h₂=>?_) fun _ _ x=>x) fun _ _ x=>x)
 obtain ⟨hT,h₂⟩:=h₂
 unfold subscriptTail
 refine wpAny_bind ?_
 rw [getitemInPython_of_ne hT.not_modules]
 refine wpAny_bind (wpAny_specialOf hT hl ?_)
 have fin:wpAny (model prog w) A (subscripted slice false o i) (fun r s₃=>wpAny (model prog w) A (letTemporaryGo value o r >>=fun _=>pure r) Q E s₃) E s₂:=by
  rw [hs o i]
  exact wpAny_operating (wpAny_mono h₂ (fun r s₃ h₃=>wpAny_bind (wpAny_letTemporaryGo (wpAny_pure h₃))) fun _ _ x=>x)
 first
  | exact wpAny_pure (wpAny_bind fin)
  | exact wpAny_bind (wpAny_pure (wpAny_bind fin))
  | exact wpAny_bind fin
theorem kO {X:Cx} {pins:List (Addr×Obj)} {σ:St} {H:Hp} {s:Shared} {a:Addr} {y:V} {o:Option V} (I:Inv X pins σ H s) (g:DGet H a y o):s.TypeIs (.ref a) "dict":=by
 rcases g with ⟨kvs,k,e,_,_⟩ | ⟨kvs,k,b,e,_,_,_⟩
 ·obtain ⟨_,_,vs,_,dd⟩:=pM I.hok e
  exact dd.typeIs
 ·obtain ⟨_,_,xs,_,dd⟩:=pL I.hok e
  exact dd.typeIs
noncomputable def sk (td ty:TE):TE:=fun σ H Q=>td σ H fun x H1=>ty σ H1 fun y H2=>∃ a v,x= .ref a∧DGet H2 a y (some v)∧Q v H2
noncomputable def tDIn (ty td:TE):TE:=fun σ H Q=>ty σ H fun y H1=>td σ H1 fun x H2=>∃ a o,x= .ref a∧DGet H2 a y o∧Q (.bl o.isSome) H2
noncomputable def tf (td ty tv:TE):TS:=fun D σ H=>tv σ H fun v H1=>td σ H1 fun x H2=>ty σ H2 fun y H3=>∃ a H4,x= .ref a∧DPut H3 a y v H4∧D.nx σ H4
section
variable {X:Cx} {o i e value:Expr} {pos pos' tpos:Pos} {td ty tv:TE}
theorem nq (hu:X.A.units + 1 < cLine) (ho:PE X o td) (hi:PE X i ty) (hs:NoSl i):PE X (.Subscript o i pos) (sk td ty):=by
 intro pins s σ H Q I h
 refine qz PySem.F.slot_dict_getitem.lookup hs (thn (ho pins s σ H _ I h) fun u s1 ⟨x,H1,I1,rx,q1⟩=>thn (hi pins s1 σ H1 _ I1 q1) fun iv s2 ⟨y,H2,I2,ry,a,v,ex,g,q2⟩=>?_)
 subst ex
 obtain rfl:u=Value.ref a:=rx
 exact ⟨kO I2 g,oo hu I2 g ry fun w' s3 I3 rw'=>⟨v,H2,I3,rw',q2⟩⟩
theorem tH (hu:X.A.units + 1 < cLine) (hi:PE X i ty) (ho:PE X o td):PC X .In i o (tDIn ty td):=by
 intro pins s σ H Q I h
 refine thn (hi pins s σ H _ I h) fun iv s1 ⟨y,H1,I1,ry,q1⟩=>thn (ho pins s1 σ H1 _ I1 q1) fun u s2 ⟨x,H2,I2,rx,a,ov,ex,g,q2⟩=>?_
 subst ex
 obtain rfl:u=Value.ref a:=rx
 exact d_in hu I2 g ry fun s3 I3=>⟨.bl ov.isSome,H2,I3,rfl,q2⟩
theorem qU (hu:X.A.units + 1 < cLine) (ho:PE X o td) (hi:PE X i ty) (hv:PE X value tv) (hs:swapsWith value (some (.Subscript o i pos')) pos.line X.env=pure false):
  PS X (.Assign [.Subscript o i pos'] value pos) (tf td ty tv):=by
 intro pins s σ H D I h
 refine wpAny_Assign_Subscript (thn (hv pins s σ H _ I h) fun r s1 ⟨v,H1,I1,rv,q1⟩=>thn (ho pins s1 σ H1 _ I1 q1) fun u s2 ⟨x,H2,I2,rx,q2⟩=>thn (hi pins s2 σ H2 _ I2 q2) fun iv s3 ⟨y,H3,I3,ry,a,H4,ex,g,q3⟩=>?_) hs
 subst ex
 obtain rfl:u=Value.ref a:=rx
 exact om hu I3 g ry rv fun s4 I4=>⟨σ,H4,I4,q3⟩
end
theorem pO {P:Program} {w:World} {H:Hp} (h:Heap) (hb:sysModules < h.objs.size):cj P w H (h.push {cls:= .type "dict",data:= .dict #[]}) h.objs.size (.dK []):=
 ⟨Nat.zero_le _,beq_eq_false_iff_ne.mpr (Ne.symm (Nat.ne_of_lt hb)),[],.nil,Heap.DictOf.new h⟩
noncomputable def pX:TE:=fun _ H Q=>∀ p,H p=none→Q (.ref p) (upd H p (.dK []))
section
variable {X:Cx} {pos:Pos}
theorem pd:PE X (.Dict [] [] pos) pX:=fun pins s σ H Q I h=>
 wpAny_Dict_empty ⟨.ref s.heap.objs.size,_,I.laid (a:=s.heap.objs.size) (o:= .dK []) (t':=s.toks) (fun _ _ q=>Heap.get?_push_of_some _ q) (Nat.le_refl _) (pO s.heap I.big),rfl,h _ (I.hok.fresh (Nat.le_refl _))⟩
end
structure M1 (X:Cx) (o:Expr) (m:Str) (apos:Pos) (e:Expr) (cpos:Pos):Prop where
 base:attributeBase o m X.env (eval o X.env)=eval o X.env
 few:((backTo cpos (starEach [e] X.env)).all (fun x=> !x.1)&&(backToKw cpos (keywordEach [] X.env)).all (fun x=>x.1.isSome)
  &&decide (([e]:List Expr).length + ([]:List Keyword).length + (if ([]:List Keyword).isEmpty then 0 else 1) < 30))=true
 line:(apos.endLine == cpos.line)=true
 trees:backTo cpos (starEach [e] X.env)=[(false,eval e X.env)]
structure M2 (X:Cx) (o:Expr) (m:Str) (apos:Pos) (e f:Expr) (cpos:Pos):Prop where
 base:attributeBase o m X.env (eval o X.env)=eval o X.env
 few:((backTo cpos (starEach [e,f] X.env)).all (fun x=> !x.1)&&(backToKw cpos (keywordEach [] X.env)).all (fun x=>x.1.isSome)
  &&decide (([e,f]:List Expr).length + ([]:List Keyword).length + (if ([]:List Keyword).isEmpty then 0 else 1) < 30))=true
 line:(apos.endLine == cpos.line)=true
 trees:backTo cpos (starEach [e,f] X.env)=[(false,eval e X.env),(false,eval f X.env)]
end L2
set_option maxHeartbeats 4000000
namespace L2
open PySem PySem.Spec PyProof.Rows
section
variable {P0:Program} {w0:World} {A0:Around} {R0:Result→Shared→Prop} {t0:Shared}
theorem mC {elt tg iter:Expr} {ifs:List Expr} {sc:Scope} {pos:Pos} {it acc:Value} {ce:Env} (J:Nat→Shared→Prop)
  (turn:∀ n s,J n s→wpAny (model P0 w0) A0 (pyNext it) (fun r s₁=>match r with
   | none=>R0 (.ok .next) s₁
   | some v=>wpAny (model P0 w0) A0 (letOwnedTupleGo tg it v) (fun _ s₂=>wpAny (model P0 w0) A0 (assign tg ce v) (fun _ s₃=>
     wpAny (model P0 w0) A0 (forIn ifs true fun c r=>if r=true then do let ok ← isTrue c ce (eval c ce);pure (ForInStep.yield ok) else pure (ForInStep.yield r)) (fun ok s₄=>
      if ok=true then wpAny (model P0 w0) A0 (eval elt ce) (fun x s₅=>
       wpAny (model P0 w0) A0 (call (.builtin "list.append") [acc,x]) (fun _ s₆=>∃ m,m < n∧J m s₆) (fun _ _=>False) s₅) (fun _ _=>False) s₄
      else ∃ m,m < n∧J m s₄) (fun _ _=>False) s₃) (fun _ _=>False) s₂) (fun _ _=>False) s₁) (fun _ _=>False) s)
  (n:Nat) (h:J n t0):
  codeAny (model P0 w0) A0 (.compLoop (.ListComp elt [⟨tg,iter,ifs,0⟩] sc pos) 0 it acc ce) R0 t0:=by
 have no:∀ {α:Type} {t:Sem α} {Q:α→Shared→Prop} {E:Value→Shared→Prop} {s:Shared},wpAny (model P0 w0) A0 t Q (fun _ _=>False) s→wpAny (model P0 w0) A0 t Q E s:=
  fun h=>wpAny_mono h (fun _ _ q=>q) fun _ _ z=>z.elim
 refine codeAny_loop rfl J (fun n s hJ=>?_) n h
 show wpAny _ A0 ((compTurn (.ListComp elt [⟨tg,iter,ifs,0⟩] sc pos) 0 it acc ce).onRaise (fun x=>do noteFrame x ce;theTreesLotGoes x)) _ _ s
 refine wpAny_noted ?_
 rw [compTurn_list]
 refine wpAny_bind (wpAny_standAt (wpAny_bind (thn (no (turn n s hJ)) fun r s₁ h₁=>?_)))
 cases r with
 | none=>exact wpAny_pure h₁
 | some v=>
   refine wpAny_bind (thn (no h₁) fun _ s₂ h₂=>?_)
   refine wpAny_bind (thn (no h₂) fun _ s₃ h₃=>wpAny_bind (thn (no h₃) fun ok s₄ h₄=>?_))
   cases ok with
   | false=>exact wpAny_pure ⟨rfl,h₄⟩
   | true=>
     rw [if_pos rfl] at h₄
     refine wpAny_bind (wpAny_bind (thn (no h₄) fun x s₅ h₅=>?_))
     refine wpAny_bind (thn (no h₅) fun _ s₆ h₆=>?_)
     exact wpAny_pure (wpAny_pure ⟨rfl,h₆⟩)
end
theorem ff (env:Env):∀ (l:List (Str×NameKind)) (cs:List (Str×Addr)),(∀ y∈l,y.2= .free→∃ c,env.cells.lookup y.1=some c)→
  ∃ r:List (Str×Addr),(forIn l cs (fun (x:Str×NameKind) (r:List (Str×Addr))=>if x.2 == NameKind.free then (do let c ← cellOf env x.1;pure (ForInStep.yield ((x.1,c)::r))) else pure (ForInStep.yield r)):Sem (List (Str×Addr)))=pure r∧
   (∀ p∈r,p∈cs∨env.cells.lookup p.1=some p.2)∧(∀ p∈cs,p∈r)∧(∀ y∈l,y.2= .free→∃ c,(y.1,c)∈r)
 | [],cs,_=>⟨cs,rfl,fun p hp=> .inl hp,fun p hp=>hp,fun y hy=>nomatch hy⟩
 | (x,k)::l,cs,h=>by
   by_cases hk:k= .free
   ·subst hk
    obtain ⟨c,hc⟩:=h (x,.free) List.mem_cons_self rfl
    obtain ⟨r,e,h1,h2,h3⟩:=ff env l ((x,c)::cs) fun y hy=>h y (List.mem_cons_of_mem _ hy)
    refine ⟨r,?_,fun p hp=>?_,fun p hp=>h2 p (List.mem_cons_of_mem _ hp),fun y hy hf=>?_⟩
    ·rw [List.forIn_cons]
     have e2:cellOf env x=pure c:=by unfold cellOf;rw [hc]
     simp only [beq_self_eq_true,if_true,e2,pure_bind]
     exact e
    ·rcases h1 p hp with q | q
     ·rcases List.mem_cons.mp q with z | z
      ·subst z;exact .inr hc
      ·exact .inl z
     ·exact .inr q
    ·rcases List.mem_cons.mp hy with z | z
     ·subst z;exact ⟨c,h2 _ List.mem_cons_self⟩
     ·exact h3 y z hf
   ·obtain ⟨r,e,h1,h2,h3⟩:=ff env l cs fun y hy=>h y (List.mem_cons_of_mem _ hy)
    refine ⟨r,?_,h1,h2,fun y hy hf=>?_⟩
    ·rw [List.forIn_cons]
     have hb:(k == NameKind.free)=false:=by cases k<;>first | rfl | exact absurd rfl hk
     simp only [hb,Bool.false_eq_true,if_false,pure_bind]
     exact e
    ·rcases List.mem_cons.mp hy with z | z
     ·subst z;exact absurd hf hk
     ·exact h3 y z hf
theorem iB (sc:Scope) (env:Env) (h:∀ y∈sc.names,y.2= .free→∃ c,env.cells.lookup y.1=some c):
  ∃ cl,closureFor sc env=pure cl∧(∀ p∈cl,env.cells.lookup p.1=some p.2)∧∀ y∈sc.names,y.2= .free→∃ c,(y.1,c)∈cl:=by
 obtain ⟨r,e,h1,h2,h3⟩:=ff env sc.names [] h
 refine ⟨r,?_,fun p hp=>(h1 p hp).resolve_left (fun z=>nomatch z),h3⟩
 unfold closureFor
 have:=e
 simp only [bind_pure] at *
 exact e
theorem iZ {κ β:Type} [BEq κ] [LawfulBEq κ]:∀ {l:List (κ×β)} {x:κ} {c:β},(x,c)∈l→∃ c',l.lookup x=some c'
 | [],_,_,h=>nomatch h
 | (y,d)::l,x,c,h=>by
   by_cases e:x=y
   ·subst e;exact ⟨d,by simp [List.lookup_cons]⟩
   ·have hb:(x == y)=false:=beq_eq_false_iff_ne.mpr e
    rcases List.mem_cons.mp h with z | z
    ·exact absurd (congrArg Prod.fst z) e
    ·obtain ⟨c',q⟩:=iZ z
     exact ⟨c',by rw [List.lookup_cons,hb];exact q⟩
theorem dU {env:Env}:∀ {names:List (Str×NameKind)} {x:Str} {k':NameKind},
  (names.map fun (n,k)=>if (k == NameKind.free&&env.scope.kind == .function&&env.kindOf n == some .cell) then (n,NameKind.cell) else (n,k)).lookup x=some k'→∃ k,(x,k)∈names∧(k'=k∨k= .free)
 | [],_,_,h=>by cases h
 | (y,k)::l,x,k',h=>by
   rw [List.map_cons,List.lookup_cons] at h
   by_cases e:x=y
   ·subst e
    by_cases hc:(k == NameKind.free&&env.scope.kind == .function&&env.kindOf x == some .cell)=true
    ·refine ⟨k,List.mem_cons_self,.inr ?_⟩
     rw [Bool.and_eq_true,Bool.and_eq_true] at hc
     exact eq_of_beq hc.1.1
    ·refine ⟨k,List.mem_cons_self,.inl ?_⟩
     simp only [if_neg hc,beq_self_eq_true] at h
     exact (Option.some.inj h).symm
   ·have hb:(x == y)=false:=beq_eq_false_iff_ne.mpr e
    have h':(l.map fun (n,k)=>if (k == NameKind.free&&env.scope.kind == .function&&env.kindOf n == some .cell) then (n,NameKind.cell) else (n,k)).lookup x=some k':=by
     by_cases hc:(k == NameKind.free&&env.scope.kind == .function&&env.kindOf y == some .cell)=true
     ·simp only [if_pos hc,hb] at h;exact h
     ·simp only [if_neg hc,hb] at h;exact h
    obtain ⟨q,hm,z⟩:=dU h'
    exact ⟨q,List.mem_cons_of_mem _ hm,z⟩
theorem fo {env:Env}:∀ {names:List (Str×NameKind)} {x:Str},names.lookup x=some .free→
  (names.map fun (n,k)=>if (k == NameKind.free&&env.scope.kind == .function&&env.kindOf n == some .cell) then (n,NameKind.cell) else (n,k)).lookup x=some .cell∨
  (names.map fun (n,k)=>if (k == NameKind.free&&env.scope.kind == .function&&env.kindOf n == some .cell) then (n,NameKind.cell) else (n,k)).lookup x=some .free
 | [],_,h=>by cases h
 | (y,k)::l,x,h=>by
   rw [List.lookup_cons] at h
   rw [List.map_cons,List.lookup_cons]
   by_cases e:x=y
   ·subst e
    simp only [beq_self_eq_true] at h
    cases h
    by_cases hc:(NameKind.free == NameKind.free&&env.scope.kind == .function&&env.kindOf x == some .cell)=true
    ·refine .inl ?_
     rw [if_pos hc]
     simp only [beq_self_eq_true]
    ·refine .inr ?_
     rw [if_neg hc]
     simp only [beq_self_eq_true]
   ·have hb:(x == y)=false:=beq_eq_false_iff_ne.mpr e
    simp only [hb] at h
    have q:=fo (env:=env) h
    by_cases hc:(k == NameKind.free&&env.scope.kind == .function&&env.kindOf y == some .cell)=true
    ·simp only [if_pos hc,hb];exact q
    ·simp only [if_neg hc,hb];exact q
structure cN (osc:Scope) (ON N:List Str) (n:Nat) (fx:List Nat) (sc:Scope):Prop where
 kind:sc.kind= .function
 noc:∀ y∈sc.names,y.2≠.cell
 own:∀ y∈sc.names,y.2= .local→sc.names.lookup y.1=some .local
 fre:∀ y∈sc.names,y.2= .free→osc.names.lookup y.1=some .cell∨osc.names.lookup y.1=some .free
 len:N.length=n + fx.length
 frn:∀ k,k < fx.length→∃ x j,N[n + k]? =some x∧fx[k]? =some j∧ON[j]? =some x∧sc.names.lookup x=some .free
noncomputable def pG (ON:List Str) (sc:Scope):List Str→List Nat→Bool
 | [],[]=>true
 | x::xs,j::js=>decide (ON[j]? =some x)&&decide (sc.names.lookup x=some .free)&&pG ON sc xs js
 | _,_=>false
theorem jP {ON:List Str} {sc:Scope}:∀ {xs:List Str} {js:List Nat},pG ON sc xs js=true→xs.length=js.length∧∀ k,k < js.length→∃ x j,xs[k]? =some x∧js[k]? =some j∧ON[j]? =some x∧sc.names.lookup x=some .free
 | [],[],_=>⟨rfl,fun k h=>absurd h (Nat.not_lt_zero k)⟩
 | [],_::_,h=>by cases h
 | _::_,[],h=>by cases h
 | x::xs,j::js,h=>by
   simp only [pG,Bool.and_eq_true,decide_eq_true_eq] at h
   obtain ⟨l,q⟩:=jP h.2
   refine ⟨congrArg Nat.succ l,fun k hk=>?_⟩
   cases k with
   | zero=>exact ⟨x,j,rfl,rfl,h.1.1,h.1.2⟩
   | succ k=>
     obtain ⟨x',j',a,b,c⟩:=q k (Nat.lt_of_succ_lt_succ hk)
     exact ⟨x',j',by simpa using a,by simpa using b,c⟩
noncomputable def lO (osc:Scope) (ON N:List Str) (n:Nat) (fx:List Nat) (sc:Scope):Bool:=
 decide (sc.kind= .function)&&decide (∀ y∈sc.names,y.2≠.cell)&&decide (∀ y∈sc.names,y.2= .local→sc.names.lookup y.1=some .local)&&
 decide (∀ y∈sc.names,y.2= .free→osc.names.lookup y.1=some .cell∨osc.names.lookup y.1=some .free)&&decide (n≤N.length)&&pG ON sc (N.drop n) fx
theorem cN.of {osc:Scope} {ON N:List Str} {n:Nat} {fx:List Nat} {sc:Scope} (h:lO osc ON N n fx sc=true):cN osc ON N n fx sc:=by
 simp only [lO,Bool.and_eq_true,decide_eq_true_eq] at h
 obtain ⟨⟨⟨⟨⟨h1,h2⟩,h3⟩,h4⟩,h5⟩,h6⟩:=h
 obtain ⟨l,q⟩:=jP h6
 refine ⟨h1,h2,h3,h4,?_,fun k hk=>?_⟩
 ·rw [List.length_drop] at l;omega
 ·obtain ⟨x,j,a,b⟩:=q k hk
  exact ⟨x,j,by rw [List.getElem?_drop] at a;exact a,b⟩
noncomputable def c3 (X:Cx) (N:List Str) (sc:Scope) (cl:List (Str×Addr)) (C:Addr) (fp:List Addr) (s:Shared) (H:Hp):Cx where
 prog:=X.prog
 w:=X.w
 K:=X.K
 mg:=X.mg
 base:=X.base
 A:=X.A
 N:=N
 s₀:=s
 H₀:=H
 env:=compEnvC sc cl C X.env
 outer:=X.stack
 stack:=X.stack
 ex:=fp
 fn:=fun _=>false
 calm:=X.calm
 pn:=[]
 xe:=fun _ _=>False
noncomputable def cx (n:Nat) (fx:List Nat) (σ:St):St:=List.replicate n none++fx.map fun j=>(σ[j]?).join
noncomputable def pT (n:Nat) (g:TG):Prop:=∀ v σ H (Q Q':St→Hp→Prop),(∀ σ' H',Q σ' H'→σ'.drop n=σ.drop n→σ'.length=σ.length→Q' σ' H')→g v σ H Q→g v σ H Q'
theorem nZ {n i:Nat} (h:i < n):pT n (n4 i):=fun v σ H Q Q' k q=>k _ _ q (by rw [List.drop_set_of_lt h]) (by rw [List.length_set])
noncomputable def PTs (X:Cx) (ifs:List Expr) (t:TT):Prop:=
 ∀ (pins:List (Addr×Obj)) (s:Shared) (σ:St) (H:Hp) (Q:Bool→Hp→Prop),Inv X pins σ H s→t σ H Q→
  wpAny (model X.prog X.w) X.A (forIn ifs true fun c r=>if r=true then do let ok ← isTrue c X.env (eval c X.env);pure (ForInStep.yield ok) else pure (ForInStep.yield r)) (TP X pins σ Q) X.xe s
theorem ng {X:Cx} {c:Expr} {t:TT} (h:PT X c t):PTs X [c] t:=fun pins s σ H Q I q=>wpAny_tests_one (h pins s σ H Q I q)
noncomputable def oQ (n:Nat) (fx:List Nat) (wi:TI) (g:TG) (tc:TT) (te:TE):TE:=fun σ H Q=>wi σ H fun J H1=>∀ D,H1 D=none→
 ∃ W:Nat→Nat→List V→Hp→Prop,(∃ m,W 0 m [] (upd H1 D (.lst [])))∧∀ i m ys H2,W i m ys H2→(J.stop i H2∧Q (.ref D) H2)∨
   (J.go i H2∧∃ N:List V→Hp→Prop,(∀ ys' H',N ys' H'→∃ m',m' < m∧W (i + 1) m' ys' H')∧∀ x H3,J.yld i H2 x H3→g x (cx n fx σ) H3 fun σ4 H4=>tc σ4 H4 fun b H5=>
    if b=true then te σ4 H5 fun v H6=>H6 D=some (.lst ys)∧ys.length < sizeLine∧N (ys++[v]) (upd H6 D (.lst (ys++[v]))) else N ys H5)
section
variable {X:Cx} {pins:List (Addr×Obj)} {σ:St} {H:Hp} {s:Shared}
theorem mD {n:Nat} {fx:List Nat}:(cx n fx σ).length=n + fx.length:=by unfold cx;simp
theorem iA {n:Nat} {fx:List Nat} {i:Nat} {v:V} (e:(cx n fx σ)[i]? =some (some v)):∃ k j,i=n + k∧fx[k]? =some j∧σ[j]? =some (some v):=by
 unfold cx at e
 by_cases h:i < n
 ·rw [List.getElem?_append_left (by simpa using h),List.getElem?_replicate,if_pos h] at e
  cases e
 ·rw [List.getElem?_append_right (by simpa using h),List.length_replicate,List.getElem?_map] at e
  cases q:fx[i - n]? with
  | none=>rw [q] at e;cases e
  | some j=>
    rw [q] at e
    have e':(σ[j]?).join=some v:=Option.some.inj e
    refine ⟨i - n,j,by omega,q,?_⟩
    cases z:σ[j]? with
    | none=>rw [z] at e';cases e'
    | some o=>rw [z] at e';have:o=some v:=e';rw [this]
theorem pP {osc:Scope} {ON N:List Str} {n:Nat} {fx:List Nat} {sc:Scope} {cl:List (Str×Addr)} {fp:List Addr} {h4:Heap} {tk:Nat}
  (ho:X.env.scope=osc) (hN:X.N=ON) (S:cN osc ON N n fx sc)
  (hcl1:∀ p∈cl,X.env.cells.lookup p.1=some p.2) (hcl2:∀ y∈sc.names,y.2= .free→∃ c,(y.1,c)∈cl)
  (I:Inv X pins σ H s) (hf:∀ b∈fp,FpOk X pins H b) (hfo:∀ b∈fp,b < s.heap.objs.size)
  (hns:∃ m,h4.Ns s.heap.objs.size m) (old:∀ b o,s.heap.get? b=some o→h4.get? b=some o):
  Inv (c3 X N sc cl s.heap.objs.size fp s H) [] (cx n fx σ) H {s with heap:=h4,toks:=tk}:=by
 have look:∀ {x:Str} {c:Addr},cl.lookup x=some c→X.env.cells.lookup x=some c:=fun {x c} e=>hcl1 (x,c) (PySem.mem_of_lookup e)
 have ok:(c3 X N sc cl s.heap.objs.size fp s H).Ok:=by
  refine ⟨I.ok.mod,S.kind,I.ok.glob,I.ok.blt,Nat.le_refl _,fun x y c h1 h2=>I.ok.inj x y c (look h1) (look h2),fun x hx=>?_,fun x c z=>(by cases z),I.ok.hd,I.ok.frames,.inl rfl,fun b hb=>⟨Nat.ne_of_lt (hfo b hb),fun x c e=>(hf b hb).2.2.2.2.1 x c (look e)⟩,
   I.bs,Nat.le_trans I.ok.bsz I.sz,fun b o e hb=>?_,fun b hb z=>?_,I.stack,I.stkFree⟩
  ·have hx':∃ k',(k'=NameKind.cell∨k'=NameKind.free)∧(sc.names.map fun (n,k)=>if (k == NameKind.free&&X.env.scope.kind == .function&&X.env.kindOf n == some .cell) then (n,NameKind.cell) else (n,k)).lookup x=some k':=by
    rcases hx with hx | hx
    ·exact ⟨_,.inl rfl,hx⟩
    ·exact ⟨_,.inr rfl,hx⟩
   obtain ⟨k',hk,e⟩:=hx'
   obtain ⟨k,hm,z⟩:=dU e
   have kf:k= .free:=by
    rcases z with z | z
    ·subst z
     rcases hk with q | q
     ·exact absurd q (S.noc _ hm)
     ·exact q
    ·exact z
   subst kf
   obtain ⟨c,hc⟩:=hcl2 _ hm rfl
   exact iZ hc
  ·rcases (hf b hb).2.2.2.1 with z | z
   ·exact I.ok.noex b o e z
   ·exact absurd (Nat.lt_of_lt_of_le (Heap.lt_size (I.ok.bs b o e).1) z) (Nat.lt_irrefl _)
  ·rcases List.mem_cons.mp (I.stkSub b z) with q | q
   ·exact (hf b hb).2.1 q
   ·exact (hf b hb).2.2.1 q
 obtain ⟨m,hns⟩:=hns
 refine ⟨ok,rfl,I.bare,Un.kept old,⟨m,hns,fun i x v e1 e2 e3=>?_⟩,fun x c e=>?_,I.hok.fresh (Nat.le_refl _),fun x c e=>I.freeC x c (look e),fun p hp=>absurd (show p∈([]:List (Addr×Obj)) from hp) (by simp),I.hok.kept old,?_⟩
 ·obtain ⟨k,j,rfl,hj,hv⟩:=iA e2
  obtain ⟨x',j',a1,a2,a3,a4⟩:=S.frn k (List.getElem?_eq_some_iff.mp hj).1
  have ex:x'=x:=Option.some.inj (a1.symm.trans e1)
  have ej:j'=j:=Option.some.inj (a2.symm.trans hj)
  subst ex;subst ej
  obtain ⟨m',_,hl⟩:=I.loc
  have hk:X.env.scope.names.lookup x'=some .cell∨X.env.scope.names.lookup x'=some .free:=by rw [ho];exact S.fre _ (PySem.mem_of_lookup a4) rfl
  have vis:Vis X.env.scope x':=by rcases hk with z | z;exact .inr (.inl z);exact .inr (.inr z)
  obtain ⟨u,r,q⟩:=hl j' x' v (by rw [hN];exact a3) hv vis
  rcases q with ⟨z,_⟩ | ⟨_,c,ec,ic⟩
  ·have z':X.env.scope.names.lookup x'=some .local:=z
   rcases hk with q | q<;>(rw [q] at z';cases z')
  ·refine ⟨u,r,.inr ⟨fo a4,c,?_,ic.keeps old⟩⟩
   obtain ⟨c0,hc0⟩:=hcl2 _ (PySem.mem_of_lookup a4) rfl
   obtain ⟨c1,hc1⟩:=iZ hc0
   have:=look hc1
   rw [ec] at this
   cases this
   exact hc1
 ·obtain ⟨v,q⟩:=I.cell x c (look e)
  exact ⟨v,q.keeps old⟩
 ·show _=N.length
  rw [mD,S.len]
theorem jW {osc:Scope} {ON N:List Str} {n:Nat} {fx:List Nat} {sc:Scope} {cl:List (Str×Addr)} {elt tg iter:Expr} {ifs:List Expr} {pos:Pos} {wi:TI} {g:TG} {tc:TT} {te:TE} {Q:VK} {RR:Value→Addr→Result→Shared→Prop}
  (hcalm:X.calm=true) (ho:X.env.scope=osc) (hN:X.N=ON) (S:cN osc ON N n fx sc)
  (hcl1:∀ p∈cl,X.env.cells.lookup p.1=some p.2) (hcl2:∀ y∈sc.names,y.2= .free→∃ c,(y.1,c)∈cl)
  (hi:PI X tg iter wi) (gk:pT n g) (hb:∀ cl C fp s H,PG (c3 X N sc cl C fp s H) tg g∧PTs (c3 X N sc cl C fp s H) ifs tc∧PE (c3 X N sc cl C fp s H) elt te)
  (I:Inv X pins σ H s) (h:oQ n fx wi g tc te σ H Q)
  (hRR:∀ D C H' s',Inv X pins σ H' s'→(∃ m,s'.heap.Ns C m)→FpOk X pins H' C→Q (.ref D) H'→RR (.ref D) C (.ok .next) s'):
  wpAny (model X.prog X.w) X.A (eval iter X.env) (fun x s₁=>wpAny (model X.prog X.w) X.A (pyIter x) (fun it s₂=>wpAny (model X.prog X.w) X.A (newList []) (fun acc s₃=>
   wpAny (model X.prog X.w) X.A (newFunctionEnv sc X.env.globals cl [] X.env.qual none .none (some X.env)) (fun cenv s₄=>
    codeAny (model X.prog X.w) X.A (.compStart (.ListComp elt [⟨tg,iter,ifs,0⟩] sc pos) 0 it acc {cenv with scope:=relabel sc X.env}) (RR acc cenv.locals) s₄) X.xe s₃) X.xe s₂) X.xe s₁) X.xe s:=by
 refine thn (hi pins s σ H _ I h) fun v s1 h1=>thn h1 fun itv s2 h2=>?_
 obtain ⟨it,fp,tn,J,H2,e2,I2,T,st2,f2,hW⟩:=h2
 subst e2
 obtain ⟨W,⟨m0,w0⟩,hturn⟩:=hW s2.heap.objs.size I2.fresh
 refine wpAny_newObj_type ?_
 have I3:Inv X pins σ (upd H2 s2.heap.objs.size (.lst [])) {s2 with heap:=s2.heap.push {cls:= .type "list",data:= .seq ([]:List Value).toArray}}:=I2.lnew (t':=s2.toks) (its:=[]) .nil (Nat.zero_le _)
 have f3:∀ b∈fp,FpOk X pins (upd H2 s2.heap.objs.size (.lst [])) b∧b < s2.heap.objs.size:=fun b hb=>by
  obtain ⟨o,e,_⟩:=T.obj _ _ st2 b hb
  have l:=Heap.lt_size e
  obtain ⟨a1,a2⟩:=f2 b hb
  exact ⟨⟨by rw [az (Nat.ne_of_lt l)];exact a1,a2⟩,l⟩
 have sz:({s2 with heap:=s2.heap.push {cls:= .type "list",data:= .seq ([]:List Value).toArray}}:Shared).heap.objs.size=s2.heap.objs.size + 1:=Heap.size_push ..
 generalize hs3:({s2 with heap:=s2.heap.push {cls:= .type "list",data:= .seq ([]:List Value).toArray}}:Shared)=s3 at I3 sz ⊢
 generalize hH3:upd H2 s2.heap.objs.size (.lst [])=H3 at I3 f3 w0
 have old3:∀ b o,s2.heap.get? b=some o→s3.heap.get? b=some o:=fun b o e=>by rw [← hs3];exact Heap.get?_push_of_some _ e
 refine wpAny_newFunctionEnv (fun y hy=>S.noc y hy) (fun y hy=>nomatch hy) (fun h4 hns hsb=>?_) S.kind
 have old4:∀ b o,s3.heap.get? b=some o→h4.get? b=some o:=fun b o e=>hsb.extBut b o (Nat.ne_of_lt (Heap.lt_size e)) (Heap.get?_push_of_some _ e)
 have I4:=pP (tk:=s3.toks + ([]:List (Str×Value)).length) ho hN S hcl1 hcl2 I3 (fun b hb=>(f3 b hb).1) (fun b hb=>by rw [sz];exact Nat.lt_succ_of_lt (f3 b hb).2) ⟨_,hns⟩ old4
 have hb':=hb cl s3.heap.objs.size fp s3 H3
 generalize hY:c3 X N sc cl s3.heap.objs.size fp s3 H3=Y at I4 hb'
 have stat:∀ {H':Hp},(∀ b∈fp,H' b=none)→∀ b∈fp,FpOk Y [] H' b:=fun {H'} hn b hb=>by
  subst hY
  obtain ⟨⟨a1,a2,a3,a4,a5,a6⟩,l⟩:=f3 b hb
  refine ⟨hn b hb,Nat.ne_of_lt (show b < s3.heap.objs.size by rw [sz];exact Nat.lt_succ_of_lt l),fun z=>?_,.inl hb,fun x c e=>a5 x c (hcl1 (x,c) (PySem.mem_of_lookup e)),fun p hp=>absurd (show p∈([]:List (Addr×Obj)) from hp) (by simp)⟩
  rcases List.mem_cons.mp (I3.stkSub b z) with q | q
  ·exact a2 q
  ·exact a3 q
 have fin:∀ {σ6:St} {H6:Hp} {s6:Shared},Inv Y [] σ6 H6 s6→Q (.ref s2.heap.objs.size) H6→RR (.ref s2.heap.objs.size) s3.heap.objs.size (.ok .next) s6:=fun {σ6 H6 s6} I6 q=>by
  subst hY
  refine hRR _ _ H6 s6 ?_ (let ⟨m,hm,_⟩:=I6.loc;⟨m,hm⟩) (I3.fpOk (Nat.le_refl _) I6.free) q
  obtain ⟨hh,gg,dd,tt,os'⟩:=s6
  obtain rfl:os'=s3.os:=I6.os
  exact I3.call (h':=hh) (g':=gg) (d':=dd) (t':=tt) (ch:=fp) I6.base I6.hok I6.bare fun b hb=>by
   obtain ⟨⟨a1,a2,a3,a4,a5,a6⟩,l⟩:=f3 b hb
   exact ⟨a4,a2,a5,a6⟩
 have pY:Y.prog=X.prog:=by subst hY;rfl
 have wY:Y.w=X.w:=by subst hY;rfl
 have kY:Y.K=X.K:=by subst hY;rfl
 have aY:Y.A=X.A:=by subst hY;rfl
 have cY:Y.calm=true:=by subst hY;exact hcalm
 have eY:Y.env=compEnvC sc cl s3.heap.objs.size X.env:=by subst hY;rfl
 have xY:Y.xe=fun _ _=>False:=by subst hY;rfl
 have T':Turn Y.prog Y.w Y.K tg J fp it tn:=by rw [pY,wY,kY];exact T
 have tn4:tn 0 h4:=T.keep _ _ _ st2 fun b hb o e=>old4 b o (old3 b o e)
 have loop:codeAny (model X.prog X.w) X.A (.compLoop (.ListComp elt [⟨tg,iter,ifs,0⟩] sc pos) 0 (.ref it) (.ref s2.heap.objs.size) (compEnvC sc cl s3.heap.objs.size X.env)) (RR (.ref s2.heap.objs.size) s3.heap.objs.size)
   {s3 with heap:=h4,toks:=s3.toks + ([]:List (Str×Value)).length}:=by
  rw [← pY,← wY,← aY,← eY]
  refine mC (fun k s'=>∃ i ys σ' H',Inv Y [] σ' H' s'∧σ'.drop n=(cx n fx σ).drop n∧σ'.length=(cx n fx σ).length∧tn i s'.heap∧(∀ b∈fp,H' b=none)∧W i k ys H') ?_ m0 ⟨0,[],_,H3,I4,rfl,rfl,tn4,fun b hb=>(f3 b hb).1.1,w0⟩
  rintro k s5 ⟨i,ys,σ5,H5,I5,ed,el,st5,fr5,w5⟩
  have I5:Inv Y [] (cx n fx σ) H5 s5:=I5.weak el.symm fun j v e=>by
   obtain ⟨k',j',rfl,_,_⟩:=iA e
   have q:=congrArg (fun l=>l[k']?) ed
   simp only [List.getElem?_drop] at q
   rw [q];exact e
  rcases hturn i k ys H5 w5 with ⟨stop,q⟩ | ⟨go,N',hN',step⟩
  ·refine wpAny_mono (T'.done Y rfl rfl rfl cY i [] s5 _ H5 (fun _ _=>False) I5 (stat fr5) st5 stop) (fun r s6 ⟨hr,I6⟩=>?_) fun _ _ z=>z
   subst hr
   exact fin I6 q
  ·rw [← xY]
   refine thn (T'.item Y rfl rfl rfl cY i [] s5 _ H5 Y.xe I5 (stat fr5) st5 go) fun r s6 ⟨u,hr,h6⟩=>?_
   subst hr
   show wpAny _ _ _ _ _ _
   refine thn h6 fun _ s7 ⟨x,H7,I7,r7,y7,st7,fr7⟩=>?_
   have I7':=I7.pinned (stat fr7) (T.obj _ _ st7)
   refine thn (hb'.1 _ s7 _ H7 x u _ I7' r7 (gk _ _ _ _ _ (fun σ' H' q e l=>(⟨q,e,l⟩:_∧_∧_)) (step x H7 y7))) fun _ s8 ⟨σ8,H8,I8,q8,ed8,el8⟩=>?_
   refine thn (hb'.2.1 _ s8 σ8 H8 _ I8 q8) fun ok s9 ⟨H9,I9,q9⟩=>?_
   have again:∀ {H10:Hp} {s10:Shared} {zs:List V},Inv Y ([]++jt fp s7.heap) σ8 H10 s10→N' zs H10→
     ∃ m,m < k∧∃ i ys σ' H',Inv Y [] σ' H' s10∧σ'.drop n=(cx n fx σ).drop n∧σ'.length=(cx n fx σ).length∧tn i s10.heap∧(∀ b∈fp,H' b=none)∧W i m ys H':=fun {H10 s10 zs} I10 n10=>by
    obtain ⟨m',hm,w10⟩:=hN' _ _ n10
    refine ⟨m',hm,i + 1,zs,σ8,H10,I10.unpinned,ed8,el8,T.keep _ _ _ st7 fun b hb o e=>(I10.pin (b,o) (List.mem_append_right _ (List.mem_append_right _ (dr hb e)))).1,fun b hb=>?_,w10⟩
    obtain ⟨o,e,d⟩:=T.obj _ _ st7 b hb
    exact (I10.pin (b,o) (List.mem_append_right _ (List.mem_append_right _ (dr hb e)))).2.1
   cases ok with
   | false=>exact again I9 q9
   | true=>
     rw [if_pos rfl]
     refine thn (hb'.2.2 _ s9 σ8 H9 _ I9 q9) fun y s10 ⟨v',H10,I10,r10,hD10,hl10,n10⟩=>?_
     refine thn (c7 (X:=Y) _ s10 σ8 H10 (.ref s2.heap.objs.size) [v'] (.ref s2.heap.objs.size) [y] (fun _ H'=>H'=upd H10 s2.heap.objs.size (.lst (ys++[v']))) I10 rfl (.cons r10 .nil) ⟨_,ys,v',rfl,rfl,hD10,hl10,rfl⟩) fun _ s11 ⟨_,H11,I11,_,e11⟩=>?_
     subst e11
     exact again I11 n10
 exact codeAny_compStart_list loop (T.self X.A 0 _ _ _ tn4 loop)
theorem q0 {osc:Scope} {ON N:List Str} {n:Nat} {fx:List Nat} {sc:Scope} {elt tg iter:Expr} {ifs:List Expr} {pos:Pos} {wi:TI} {g:TG} {tc:TT} {te:TE}
  (hcalm:X.calm=true) (ho:X.env.scope=osc) (hN:X.N=ON) (S:lO osc ON N n fx sc=true) (hi:PI X tg iter wi) (gk:pT n g)
  (hb:∀ cl C fp s H,PG (c3 X N sc cl C fp s H) tg g∧PTs (c3 X N sc cl C fp s H) ifs tc∧PE (c3 X N sc cl C fp s H) elt te)
  (hs:∀ x,foldedSetIterable iter X.env x=pure x:=by intro _;rfl):PE X (.ListComp elt [⟨tg,iter,ifs,0⟩] sc pos) (oQ n fx wi g tc te):=by
 intro pins s σ H Q I h
 have S:=cN.of S
 obtain ⟨cl,hcl,hcl1,hcl2⟩:=iB sc X.env fun y hy hf=>I.ok.has y.1 (by show X.env.scope.names.lookup y.1=some .cell∨X.env.scope.names.lookup y.1=some .free;rw [ho];exact S.fre y hy hf)
 rw [eval_ListComp]
 refine wpAny_comprehension_free (use:=none) rfl hs hcl S.kind S.own (jW (RR:=fun acc C=>compPost (model X.prog X.w) X.A X.xe none (EP X pins σ Q) acc C) hcalm ho hN S hcl1 hcl2 hi gk hb I h ?_)
 intro D C H' s' I' hm hf q
 obtain ⟨m,hm⟩:=hm
 obtain ⟨f0,f1,f2,f3,f4,f5⟩:=hf
 exact ⟨m,hm,fun h' hsb=>⟨.ref D,H',I'.turned (t':=s'.toks) (fun b o hb e=>(hsb.2 b hb).trans e) f0 f1 f3 f4 f5,rfl,q⟩⟩
theorem qV {i:Nat} {x:Str} {px:Pos} {spos:Pos} {osc:Scope} {ON N:List Str} {n:Nat} {fx:List Nat} {sc:Scope} {elt tg iter:Expr} {ifs:List Expr} {pos:Pos} {wi:TI} {g:TG} {tc:TT} {te:TE}
  (hnd:X.N.Nodup) (hx:X.N[i]? =some x) (hl:X.env.scope.names.lookup x=some .local) (hsw:swapsWith (.ListComp elt [⟨tg,iter,ifs,0⟩] sc pos) (some (.Name x px)) spos.line X.env=pure true)
  (hcalm:X.calm=true) (ho:X.env.scope=osc) (hN:X.N=ON) (S:lO osc ON N n fx sc=true) (hi:PI X tg iter wi) (gk:pT n g)
  (hb:∀ cl C fp s H,PG (c3 X N sc cl C fp s H) tg g∧PTs (c3 X N sc cl C fp s H) ifs tc∧PE (c3 X N sc cl C fp s H) elt te)
  (hs:∀ x,foldedSetIterable iter X.env x=pure x:=by intro _;rfl):PS X (.Assign [.Name x px] (.ListComp elt [⟨tg,iter,ifs,0⟩] sc pos) spos) (tAsg (oQ n fx wi g tc te) (n4 i)):=by
 intro pins s σ H D I h
 have S:=cN.of S
 obtain ⟨cl,hcl,hcl1,hcl2⟩:=iB sc X.env fun y hy hf=>I.ok.has y.1 (by show X.env.scope.names.lookup y.1=some .cell∨X.env.scope.names.lookup y.1=some .free;rw [ho];exact S.fre y hy hf)
 rw [exec_Assign_Name_used _ _ _ _ hsw]
 refine wpAny_bind (wpAny_standAt (wpAny_bind ?_))
 show wpAny _ X.A (do let _ ← comprehension (.ListComp elt [⟨tg,iter,ifs,0⟩] sc pos) sc X.env _ (newList []) false (eval iter X.env) (some (assign (.Name x px) X.env))) _ _ s
 refine wpAny_bind (thn (wpAny_comprehension_free (use:=some (assign (.Name x px) X.env)) (Q:=fun _ s'=>SP X pins D .next s') rfl hs hcl S.kind S.own
  (jW (RR:=fun acc C=>compPost (model X.prog X.w) X.A X.xe (some (assign (.Name x px) X.env)) (fun _ s'=>SP X pins D .next s') acc C) hcalm ho hN S hcl1 hcl2 hi gk hb I h ?_)) fun _ s' q=>wpAny_pure (wpAny_pure q))
 intro D' C H' s' I' hm hf q
 obtain ⟨m,hm⟩:=hm
 obtain ⟨f0,f1,f2,f3,f4,f5⟩:=hf
 show wpAny _ X.A (assign (.Name x px) X.env (.ref D')) _ _ _
 refine wpAny_assign_Name (jg I' hnd hx (.inl hl) (v:= .ref D') rfl (fun s2 I2 hch=>?_) (.inr hl))
 obtain ⟨a,hsb,ha⟩:=hch
 have hCa:C≠a:=by
  rcases ha with z | z
  ·rw [z];exact f1
  ·exact fun e=>f4 _ _ z e.symm
 exact ⟨m,hm.sameBut hsb hCa,fun h' hsb'=>⟨_,H',I2.turned (t':=s2.toks) (fun b o hb e=>(hsb'.2 b hb).trans e) f0 f1 f3 f4 f5,q⟩⟩
end
section
variable {K:PySem.W.Frag} {n:Nat} {fx:List Nat} {g:TG} {tc:TT} {te:TE} {σ:St} {H1:Hp} {D:Addr} {Q:Hp→Prop}
theorem iz {lo:Int} {k:Nat} (Pv:Nat→List V→Hp→Prop) (h0:Pv 0 [] (upd H1 D (.lst [])))
  (hs:∀ i ys H,i < k→Pv i ys H→g (.int (lo + i)) (cx n fx σ) H fun σ4 H4=>tc σ4 H4 fun b H5=>if b=true then te σ4 H5 fun v H6=>H6 D=some (.lst ys)∧ys.length < sizeLine∧Pv (i + 1) (ys++[v]) (upd H6 D (.lst (ys++[v]))) else Pv (i + 1) ys H5)
  (hd:∀ ys H,Pv k ys H→Q H):
  ∃ W:Nat→Nat→List V→Hp→Prop,(∃ m,W 0 m [] (upd H1 D (.lst [])))∧∀ i m ys H2,W i m ys H2→((Itr lo k).stop i H2∧Q H2)∨
    ((Itr lo k).go i H2∧∃ N:List V→Hp→Prop,(∀ ys' H',N ys' H'→∃ m',m' < m∧W (i + 1) m' ys' H')∧∀ x H3,(Itr lo k).yld i H2 x H3→g x (cx n fx σ) H3 fun σ4 H4=>tc σ4 H4 fun b H5=>
      if b=true then te σ4 H5 fun v H6=>H6 D=some (.lst ys)∧ys.length < sizeLine∧N (ys++[v]) (upd H6 D (.lst (ys++[v]))) else N ys H5):=by
 refine ⟨fun i m ys H=>m=k - i∧i≤k∧Pv i ys H,⟨k,by simp,Nat.zero_le _,h0⟩,?_⟩
 rintro i m ys H ⟨rfl,hi,p⟩
 by_cases hlt:i < k
 ·refine .inr ⟨hlt,Pv (i + 1),fun ys' H' p'=>⟨k - (i + 1),by omega,rfl,hlt,p'⟩,fun x H' y=>?_⟩
  obtain ⟨e,y⟩:=y
  subst e;subst y
  exact hs i ys _ hlt p
 ·have e:i=k:=by omega
  subst e
  exact .inl ⟨Nat.le_refl _,hd ys H p⟩
end
noncomputable def tS (K:PySem.W.Frag) (H:Hp) (x:V) (k:String):Prop:=match x with
 | .non=>k="NoneType"
 | .bl _=>k="bool"
 | .int _=>k="int"
 | .str _=>k="str"
 | .ref p=>(k="list"∧∃ xs,SqL K H p xs)∨(k="tuple"∧∃ xs,SqT K H p xs)∨(k="dict"∧∃ kvs,Rd H p (.dK kvs))
 | _=>False
noncomputable def subB (k T:String):Bool:=k == T||(k == "bool"&&T == "int")
noncomputable def rIsi (K:PySem.W.Frag):List V→Hp→VK→Prop:=fun xs H Q=>∃ x k T,xs=[x,.ty T]∧tS K H x k∧T∈["int","bool","str","list","tuple","dict"]∧Q (.bl (subB k T)) H
section
variable {X:Cx}
theorem pR:je X (.builtin "isinstance") (rIsi X.K):=by
 intro pins s σ H xs us Q I r h
 obtain ⟨x,k,T,rfl,hk,hT,q⟩:=h
 obtain ⟨u,v,rfl,rx,rt⟩:=uB r
 cases rt
 have f0:∀ b,b=subB k T→EP X pins σ Q (.bool b) s:=fun b e=>⟨.bl b,H,I,rfl,by rw [e];exact q⟩
 have f1:∀ b,b=subB k T→EP X pins σ Q (.bool b) {s with toks:=s.toks + 1}:=fun b e=>⟨.bl b,H,I.tok _,rfl,by rw [e];exact q⟩
 simp only [List.mem_cons,List.not_mem_nil,or_false] at hT
 cases x with
 | non=>
   cases rx;cases hk
   rcases hT with rfl | rfl | rfl | rfl | rfl | rfl
   ·exact IsiPair.NoneType_int (f1 _ (by decide))
   ·exact IsiPair.NoneType_bool (f1 _ (by decide))
   ·exact IsiPair.NoneType_str (f1 _ (by decide))
   ·exact IsiPair.NoneType_list (f1 _ (by decide))
   ·exact IsiPair.NoneType_tuple (f1 _ (by decide))
   ·exact IsiPair.NoneType_dict (f1 _ (by decide))
 | bl b=>
   cases rx;cases hk
   rcases hT with rfl | rfl | rfl | rfl | rfl | rfl
   ·exact IsiPair.bool_int (f0 _ (by decide))
   ·exact IsiPair.bool_bool (f0 _ (by decide))
   ·exact IsiPair.bool_str (f1 _ (by decide))
   ·exact IsiPair.bool_list (f1 _ (by decide))
   ·exact IsiPair.bool_tuple (f1 _ (by decide))
   ·exact IsiPair.bool_dict (f1 _ (by decide))
 | int i=>
   obtain ⟨t,rfl⟩:=rx;cases hk
   rcases hT with rfl | rfl | rfl | rfl | rfl | rfl
   ·exact IsiPair.int_int (f0 _ (by decide))
   ·exact IsiPair.int_bool (f1 _ (by decide))
   ·exact IsiPair.int_str (f1 _ (by decide))
   ·exact IsiPair.int_list (f1 _ (by decide))
   ·exact IsiPair.int_tuple (f1 _ (by decide))
   ·exact IsiPair.int_dict (f1 _ (by decide))
 | str z=>
   obtain ⟨t,rfl⟩:=rx;cases hk
   rcases hT with rfl | rfl | rfl | rfl | rfl | rfl
   ·exact IsiPair.str_int (f1 _ (by decide))
   ·exact IsiPair.str_bool (f1 _ (by decide))
   ·exact IsiPair.str_str (f0 _ (by decide))
   ·exact IsiPair.str_list (f1 _ (by decide))
   ·exact IsiPair.str_tuple (f1 _ (by decide))
   ·exact IsiPair.str_dict (f1 _ (by decide))
 | ref p=>
   cases rx
   rcases hk with ⟨rfl,xs,hq⟩ | ⟨rfl,xs,hq⟩ | ⟨rfl,kvs,hq⟩
   ·obtain ⟨its,_,pl,_⟩:=I.list hq
    obtain ⟨o,ho,hc,_⟩:=pl.isList
    rcases hT with rfl | rfl | rfl | rfl | rfl | rfl
    ·exact IsiPair.list_int ho hc (f1 _ (by decide))
    ·exact IsiPair.list_bool ho hc (f1 _ (by decide))
    ·exact IsiPair.list_str ho hc (f1 _ (by decide))
    ·exact IsiPair.list_list ho hc (f0 _ (by decide))
    ·exact IsiPair.list_tuple ho hc (f1 _ (by decide))
    ·exact IsiPair.list_dict ho hc (f1 _ (by decide))
   ·obtain ⟨its,_,pl,_⟩:=I.tuple hq
    obtain ⟨o,ho,hc,_⟩:=pl
    rcases hT with rfl | rfl | rfl | rfl | rfl | rfl
    ·exact IsiPair.tuple_int ho hc (f1 _ (by decide))
    ·exact IsiPair.tuple_bool ho hc (f1 _ (by decide))
    ·exact IsiPair.tuple_str ho hc (f1 _ (by decide))
    ·exact IsiPair.tuple_list ho hc (f1 _ (by decide))
    ·exact IsiPair.tuple_tuple ho hc (f0 _ (by decide))
    ·exact IsiPair.tuple_dict ho hc (f1 _ (by decide))
   ·obtain ⟨_,_,_,_,o,_,_,ho,ex,_⟩:=hq.ok I.hok
    have hc:o.cls= .type "dict":=ex.1
    rcases hT with rfl | rfl | rfl | rfl | rfl | rfl
    ·exact IsiPair.dict_int ho hc (f1 _ (by decide))
    ·exact IsiPair.dict_bool ho hc (f1 _ (by decide))
    ·exact IsiPair.dict_str ho hc (f1 _ (by decide))
    ·exact IsiPair.dict_list ho hc (f1 _ (by decide))
    ·exact IsiPair.dict_tuple ho hc (f1 _ (by decide))
    ·exact IsiPair.dict_dict ho hc (f0 _ (by decide))
 | _=>exact False.elim hk
noncomputable def tj:V→List V→Hp→VK→Prop:=fun x xs H Q=>∃ i,x= .int i∧xs=[]∧Q (.int (Builtin.Int.intBits i:Nat)) H
theorem eQ:MtR X "int.bit_length" tj:=by
 intro pins s σ H x xs v us Q I rx rs h
 obtain ⟨i,rfl,rfl,q⟩:=h
 obtain ⟨t,rfl⟩:=rx
 cases rs
 exact call_int_bit_length ⟨.int _,H,I.tok _,⟨_,rfl⟩,q⟩
noncomputable def eqVs (xs ys:List V):Bool:=xs.length == ys.length&&(List.range xs.length).all fun j=>eqV (xs.getD j .non) (ys.getD j .non)
noncomputable def rEqL (K:PySem.W.Frag) (neg:Bool):R2:=fun x y H Q=>∃ a b xs ys,x= .ref a∧y= .ref b∧SqL K H a xs∧SqL K H b ys∧xs.all gX=true∧ys.all gX=true∧Q (.bl (if neg then !eqVs xs ys else eqVs xs ys)) H
theorem mS {xs:List V} {us:List Value} (r:Vals xs us) {j:Nat} (h:j < us.toArray.size):RelV (xs.getD j .non) (us.toArray[j]):=by
 have hl:=r.length
 have h':j < us.length:=by simpa using h
 obtain ⟨u,e,ru⟩:=r.get (i:=j) (x:=xs.getD j .non) (by rw [List.getD_eq_getElem?_getD,List.getElem?_eq_getElem (by omega)];rfl)
 have e2:us.toArray[j]=u:=by
  rw [List.getElem?_eq_getElem h'] at e
  have:=Option.some.inj e
  simpa using this
 rw [e2];exact ru
theorem kN {xs:List V} (f:xs.all gX=true) (j:Nat):gX (xs.getD j .non)=true:=by
 rw [List.getD_eq_getElem?_getD]
 cases e:xs[j]? with
 | none=>rfl
 | some x=>exact List.all_eq_true.mp f x (List.mem_of_getElem? e)
theorem o4 {pins:List (Addr×Obj)} {σ:St} {H:Hp} {s:Shared} {a b:Addr} {xs ys:List V} {A:Around} (hu:A.units < cLine) (I:Inv X pins σ H s) (ha:SqL X.K H a xs) (hb:SqL X.K H b ys) (fx:xs.all gX=true) (fy:ys.all gX=true):
  SeqAt.RcAt A s (.ref a) (.ref b) (eqVs xs ys)∧SeqAt.RcNeAt A s (.ref a) (.ref b) (!eqVs xs ys):=by
 obtain ⟨its,r,pl,_⟩:=I.list ha
 obtain ⟨jts,r',pl',_⟩:=I.list hb
 have l1:=r.length
 have l2:=r'.length
 by_cases hl:xs.length=ys.length
 ·have e:eqVs xs ys=(List.range its.toArray.size).all fun j=>eqV (xs.getD j .non) (ys.getD j .non):=by
   unfold eqVs
   rw [hl,beq_self_eq_true,Bool.true_and,List.size_toArray,← l1,hl]
  rw [e]
  have hz:its.toArray.size=jts.toArray.size:=by simp;omega
  have he:∀ j (h1:j < its.toArray.size) (h2:j < jts.toArray.size),SeqAt.EqAt A.in1 s its.toArray[j] jts.toArray[j] (eqV (xs.getD j .non) (ys.getD j .non)):=fun j h1 h2=>
   ud (mS r h1) (mS r' h2) (kN fx j) (kN fy j)
  exact ⟨SeqAt.RcAt.lists pl.isList pl'.isList hz hu he,SeqAt.RcNeAt.lists pl.isList pl'.isList hz hu he⟩
 ·have e:eqVs xs ys=false:=by
   unfold eqVs
   rw [beq_eq_false_iff_ne.mpr hl,Bool.false_and]
  rw [e]
  have hz:(its.toArray.size != jts.toArray.size)=true:=by simp;omega
  exact ⟨SeqAt.RcAt.lists_lengths pl.isList pl'.isList hz hu,SeqAt.RcNeAt.lists_lengths pl.isList pl'.isList hz hu⟩
theorem tJ (hu:X.A.units < cLine):OpR X (compareOp .NotEq) (rEqL X.K true):=by
 intro pins s σ H x y v u Q I rx ry h
 obtain ⟨a,b,xs,ys,rfl,rfl,ha,hb,fx,fy,q⟩:=h
 cases rx;cases ry
 exact (o4 hu I ha hb fx fy).2 X.prog X.w X.xe _ ⟨.bl _,H,I,rfl,q⟩
end
theorem oa {xs:List V} (f:xs.all gX=true):eqVs xs xs=true:=by
 unfold eqVs
 rw [beq_self_eq_true,Bool.true_and,List.all_eq_true]
 intro j _
 have:=kN f j
 generalize xs.getD j .non=x at this
 cases x<;>first | rfl | exact beq_self_eq_true _ | cases this
theorem bO (a b:Nat):Builtin.bitAnd (a:Int) (b:Int)=((a&&&b:Nat):Int):=by
 unfold Builtin.bitAnd
 rw [decide_eq_true (Int.natCast_nonneg a),decide_eq_true (Int.natCast_nonneg b)]
 simp
section
variable {X:Cx} {K:PySem.W.Frag}
theorem gp (h:X.K=K):IxR X (rIxL K):=by subst h;exact rB
theorem bb (h:X.K=K):IxR X (rIxT K):=by subst h;exact tY
theorem oS (h:X.K=K):SlR X (rSlL K):=by subst h;exact qH
theorem rb (h:X.K=K) (hu:X.A.units < cLine):OpR X (compareOp .NotEq) (rEqL K true):=by subst h;exact tJ hu
theorem cK (h:X.K=K):je X (.builtin "isinstance") (rIsi K):=by subst h;exact pR
noncomputable def rLen (K:PySem.W.Frag):List V→Hp→VK→Prop:=fun xs H Q=>∃ x n,xs=[x]∧LenV K x H n∧Q (.int n) H
theorem di (h:X.K=K):je X (.builtin "len") (rLen K):=by subst h;exact pQ
noncomputable def m9 (K:PySem.W.Frag):List V→Hp→VK→Prop:=fun xs H Q=>∃ p ys,xs=[.ref p]∧(SqL K H p ys∨SqT K H p ys)∧∀ l,H l=none→Q (.ref l) (upd H l (.lst ys))
theorem mE (h:X.K=K):je X (.type "list") (m9 K):=by subst h;exact jY
theorem gj {tg l:Expr} {tl:TE} (h:X.K=K) (hl:PE X l tl):PI X tg l (tZ K tl):=by subst h;exact qY hl
theorem eK {o:Expr} {to:TE} {name:Str} {apos cpos:Pos} {T id:String} {r:V→List V→Hp→VK→Prop} (h:X.K=K) (pa:PlainAttrs T) (slot:Slot T name id) (hty:typeOf (.builtin id)=pure (.type "method_descriptor")) (hm:MtR X id r) (ho:PE X o to)
  (hbase:attributeBase o name X.env (eval o X.env)=eval o X.env:=by rfl) (hline:(apos.endLine == cpos.line)=true:=by rfl):PE X (.Call (.Attribute o name apos) [] [] cpos) (tBM0 K T r to):=by subst h;exact tG pa slot hty hm ho hbase hline
theorem lF {o e:Expr} {es:List Expr} {to:TE} {t:TA} {name:Str} {apos cpos:Pos} {T id:String} {r:V→List V→Hp→VK→Prop} (h:X.K=K) (pa:PlainAttrs T) (slot:Slot T name id) (hty:typeOf (.builtin id)=pure (.type "method_descriptor")) (hm:MtR X id r) (ho:PE X o to) (ha:PA X (e::es) t)
  (hbase:attributeBase o name X.env (eval o X.env)=eval o X.env:=by rfl)
  (hfew:((backTo cpos (starEach (e::es) X.env)).all (fun x=> !x.1)&&(backToKw cpos (keywordEach [] X.env)).all (fun x=>x.1.isSome)
   &&decide ((e::es).length + ([]:List Keyword).length + (if ([]:List Keyword).isEmpty then 0 else 1) < 30))=true:=by rfl)
  (hline:(apos.endLine == cpos.line)=true:=by rfl) (hs:starEach (e::es) X.env=(false,eval e X.env)::starEach es X.env:=by rfl) (hplain:(backTo cpos (starEach es X.env)).any (·.1)=false:=by rfl):
  PE X (.Call (.Attribute o name apos) (e::es) [] cpos) (tBM K T r to t):=by subst h;exact uW pa slot hty hm ho ha hbase hfew hline hs hplain
end
inductive Dt where
 | non | bl (b:Bool) | int (i:Int) | str (x:Str) | lst (xs:List Dt) | tup (xs:List Dt)
inductive Rep (K:PySem.W.Frag) (H:Hp):V→Dt→Prop where
 | non:Rep K H .non .non
 | bl (b:Bool):Rep K H (.bl b) (.bl b)
 | int (i:Int):Rep K H (.int i) (.int i)
 | str (x:Str):Rep K H (.str x) (.str x)
 | lst {p:Addr} {xs:List V} {ds:List Dt} (h:SqL K H p xs) (l:xs.length=ds.length) (r:∀ (i:Nat) x d,xs[i]? =some x→ds[i]? =some d→Rep K H x d):Rep K H (.ref p) (.lst ds)
 | tup {p:Addr} {xs:List V} {ds:List Dt} (h:SqT K H p xs) (l:xs.length=ds.length) (r:∀ (i:Nat) x d,xs[i]? =some x→ds[i]? =some d→Rep K H x d):Rep K H (.ref p) (.tup ds)
mutual
noncomputable def eqD:Dt→Dt→Bool
 | .non,.non=>true
 | .bl a,.bl b=>a == b
 | .bl a,.int b=>(if a then 1 else 0) == b
 | .int a,.bl b=>a == (if b then 1 else 0)
 | .int a,.int b=>a == b
 | .str a,.str b=>a == b
 | .lst xs,.lst ys=>eqDs xs ys
 | .tup xs,.tup ys=>eqDs xs ys
 | _,_=>false
noncomputable def eqDs:List Dt→List Dt→Bool
 | [],[]=>true
 | x::xs,y::ys=>eqD x y&&eqDs xs ys
 | _,_=>false
end
mutual
noncomputable def depD:Dt→Nat
 | .lst xs=>rK xs + 1
 | .tup xs=>rK xs + 1
 | _=>0
noncomputable def rK:List Dt→Nat
 | []=>0
 | x::xs=>max (depD x) (rK xs)
end
inductive mL:St→Nat→Option V→St→Prop where
 | z {a v:Option V} {l:St}:mL (a::l) 0 v (v::l)
 | s {a v:Option V} {l l':St} {i:Nat}:mL l i v l'→mL (a::l) (i + 1) v (a::l')
theorem mL.eq {l l':St} {i:Nat} {v:Option V} (h:mL l i v l'):l.set i v=l':=by
 induction h with
 | z=>rfl
 | s _ ih=>rw [List.set_cons_succ,ih]
inductive mM:St→Nat→V→Prop where
 | z {v:V} {l:St}:mM (some v::l) 0 v
 | s {a:Option V} {v:V} {l:St} {i:Nat}:mM l i v→mM (a::l) (i + 1) v
theorem mM.eq {l:St} {i:Nat} {v:V} (h:mM l i v):l[i]? =some (some v):=by
 induction h with
 | z=>rfl
 | s _ ih=>rw [List.getElem?_cons_succ];exact ih
section
variable {σ σ':St} {H:Hp} {Q:VK} {D:Ends} {ta tb tc te:TE} {t u:TS} {tt tt':TT} {r r':R2} {x y v:V}
theorem bo {N:List Str} {vs:List V} {t:TS} (e:start N vs=σ') (h:t D σ' H):t D (start N vs) H:=by rw [e];exact h
theorem uH {i:Nat} (e:mM σ i v) (h:Q v H):tVar i σ H Q:=⟨v,e.eq,h⟩
theorem s_rI {C:Int→Int→Prop} {g:Int→Int→V} {i j:Int} (c:C i j) (h:Q (g i j) H):rI C g (.int i) (.int j) H Q:=⟨i,j,rfl,rfl,c,h⟩
theorem uL {g:Int→Int→V} {i j:Int} (h:Q (g i j) H):rI0 g (.int i) (.int j) H Q:=⟨i,j,rfl,rfl,h⟩
theorem s_rU {g:Int→V} {i:Int} (h:Q (g i) H):rU g (.int i) H Q:=⟨i,rfl,h⟩
theorem uM (e:scal x y=true) (h:Q (.bl (decide (x=y))) H):rEq x y H Q:=⟨e,h⟩
theorem uK (e:scal x y=true) (h:Q (.bl (!decide (x=y))) H):rNe x y H Q:=⟨e,h⟩
theorem sI (h:D.nx σ H):sh D σ H:=h
theorem qN {i:Nat} {Q:St→Hp→Prop} (e:mL σ i (some v) σ') (h:Q σ' H):n4 i v σ H Q:=by show Q (σ.set i (some v)) H;rw [e.eq];exact h
theorem sS {Q:St→Hp→Prop} (h:Q σ H):gNil [] σ H Q:=⟨rfl,h⟩
theorem qO {g:TG} {gs:TGs} {vs:List V} {Q:St→Hp→Prop} (h:g v σ H fun σ' H'=>gs vs σ' H' Q):uc g gs (v::vs) σ H Q:=⟨v,vs,rfl,h⟩
theorem sR {K:PySem.W.Frag} {n:Nat} {gs:TGs} {p:Addr} {xs:List V} {Q:St→Hp→Prop} (e:SqT K H p xs) (l:xs.length=n) (h:gs xs σ H Q):gTup K n gs (.ref p) σ H Q:=⟨p,xs,rfl,e,l,h⟩
noncomputable def NewT (Q:VK) (xs:List V) (H:Hp):Prop:=xs.length≤sizeLine∧∀ p,H p=none→Q (.ref p) (upd H p (.tup xs))
noncomputable def NewL (Q:VK) (xs:List V) (H:Hp):Prop:=xs.length≤sizeLine∧∀ p,H p=none→Q (.ref p) (upd H p (.lst xs))
theorem uI {tr:TA} (h:tr σ H (NewT Q)):tTup tr σ H Q:=h
theorem uN {tr:TA} (h:tr σ H (NewL Q)):tLst tr σ H Q:=h
theorem gf {H:Hp} {D:Addr} {o:HO} (h:H D=none):Same H (upd H D o):=fun b u e=>by rw [az (ao e h)];exact e
theorem dD {o:HO} (h:∀ p H2,H p=none→Same H H2→H2 p=some o→Q (.ref p) H2):∀ p,H p=none→Q (.ref p) (upd H p o):=fun p hp=>h p _ hp (gf hp) be
theorem Same.get {H H':Hp} (e:Same H H') {b:Addr} {o:HO} (h:H b=some o):H' b=some o:=e b o h
theorem sJ {xs:List V} (l:xs.length≤sizeLine) (h:∀ p H2,H p=none→Same H H2→H2 p=some (.tup xs)→Q (.ref p) H2):NewT Q xs H:=⟨l,dD h⟩
theorem sL {xs:List V} (l:xs.length≤sizeLine) (h:∀ p H2,H p=none→Same H H2→H2 p=some (.lst xs)→Q (.ref p) H2):NewL Q xs H:=⟨l,dD h⟩
theorem qR {sp:Sp} {E:XK} {tr:TA} (h:tr σ H fun vs H1=>sp vs H1 Q E):qy sp [] E tr σ H Q:=by unfold qy;simp only [List.append_nil];exact h
theorem uJ {K:PySem.W.Frag} {p:Addr} {xs:List V} {lo hi:Option Int} (e:SqL K H p xs) (h:∀ q H2,H q=none→Same H H2→H2 q=some (.lst (cutV xs lo hi))→Q (.ref q) H2):rSlL K (.ref p) lo hi H Q:=⟨p,xs,rfl,e,dD h⟩
theorem qL {K:PySem.W.Frag} {p:Addr} {xs:List V} {i:Int} (e:SqL K H p xs) (a:atI xs i=some v) (h:Q v H):rIxL K (.ref p) (.int i) H Q:=⟨p,xs,i,v,rfl,rfl,e,a,h⟩
theorem uO {K:PySem.W.Frag} {p:Addr} {xs:List V} {i:Int} (e:SqT K H p xs) (a:atI xs i=some v) (h:Q v H):rIxT K (.ref p) (.int i) H Q:=⟨p,xs,i,v,rfl,rfl,e,a,h⟩
theorem nJ {n:Nat} (h:n≤1000):n≤sizeLine:=Nat.le_of_lt (dR h)
theorem s_ty {K:PySem.W.Frag} {T:String} {A:Prop} (e:tyV K T x H) (h:A):tyV K T x H∧A:=⟨e,h⟩
theorem sZ {i:Int} (h:Q (.int (Builtin.Int.intBits i:Nat)) H):tj (.int i) [] H Q:=⟨i,rfl,rfl,h⟩
theorem sP {K:PySem.W.Frag} {p:Addr} {xs:List V} (e:SqL K H p xs) (h:Q (.int xs.length) H):rLen K [.ref p] H Q:=⟨_,_,rfl,.inl ⟨xs,e,rfl⟩,h⟩
theorem sO {K:PySem.W.Frag} {p:Addr} {xs:List V} (e:SqT K H p xs) (h:Q (.int xs.length) H):rLen K [.ref p] H Q:=⟨_,_,rfl,.inr ⟨xs,e,rfl⟩,h⟩
theorem uP {K:PySem.W.Frag} {T k:String} (e:tS K H x k) (m:T∈["int","bool","str","list","tuple","dict"]) (h:Q (.bl (subB k T)) H):rIsi K [x,.ty T] H Q:=⟨x,k,T,rfl,e,m,h⟩
theorem sV (h:∀ p H2,H p=none→Same H H2→H2 p=some (.dK [])→Q (.ref p) H2):pX σ H Q:=dD h
theorem uR {wi:TI} {g:TG} {tb:TS} (h:wi σ H fun J H1=>∃ W:Nat→Nat→St→Hp→Prop,(∃ m,W 0 m σ H1)∧∀ i m σ H,W i m σ H→(J.stop i H∧D.nx σ H)∨(J.go i H∧∃ N:St→Hp→Prop,(∀ σ' H',N σ' H'→∃ m',m' < m∧W (i + 1) m' σ' H')∧∀ x H',J.yld i H x H'→g x σ H' fun σ2 H2=>tb {D with nx:=N,ct:=N,bk:=D.nx} σ2 H2)):tFor wi g tb D σ H:=h
theorem sF {A B:Prop} (h:A):if true=true then A else B:=by rw [if_pos rfl];exact h
theorem qP {A B:Prop} (h:B):if false=true then A else B:=by rw [if_neg Bool.false_ne_true];exact h
theorem sQ {c:Bool} {A B:Prop} (e:c=true) (h:A):if c=true then A else B:=by rw [if_pos e];exact h
theorem uQ {c:Bool} {A B:Prop} (e:c=false) (h:B):if c=true then A else B:=by rw [e,if_neg Bool.false_ne_true];exact h
theorem sY {n:Nat} {fx:List Nat} {wi:TI} {g:TG} (h:wi σ H fun J H1=>∀ D,H1 D=none→
 ∃ W:Nat→Nat→List V→Hp→Prop,(∃ m,W 0 m [] (upd H1 D (.lst [])))∧∀ i m ys H2,W i m ys H2→(J.stop i H2∧Q (.ref D) H2)∨
   (J.go i H2∧∃ N:List V→Hp→Prop,(∀ ys' H',N ys' H'→∃ m',m' < m∧W (i + 1) m' ys' H')∧∀ x H3,J.yld i H2 x H3→g x (cx n fx σ) H3 fun σ4 H4=>tt σ4 H4 fun b H5=>
    if b=true then te σ4 H5 fun v H6=>H6 D=some (.lst ys)∧ys.length < sizeLine∧N (ys++[v]) (upd H6 D (.lst (ys++[v]))) else N ys H5)):oQ n fx wi g tt te σ H Q:=h
theorem oZ {j:Int} {A:Prop} (h1: -(2 ^ 62)≤j) (h2:j < 2 ^ 62) (h:A): -(2 ^ 62)≤j∧j < 2 ^ 62∧A:=⟨h1,h2,h⟩
end
noncomputable def tCut (t u:TS):TS:=fun D σ H=>∃ P:St→Hp→Prop,t {D with nx:=P} σ H∧∀ σ' H',P σ' H'→u D σ' H'
theorem iL {X:Cx} {st:Stmt} {rest:List Stmt} {t u:TS} (h1:PS X st t) (h2:PSs X rest u):PSs X (st::rest) (tCut t u):=by
 intro pins s σ H D I ⟨P,a,b⟩
 refine wpAny_execs_cons (thn (h1 pins s σ H {D with nx:=P} I a) fun f s1 q=>?_)
 cases f with
 | next=>obtain ⟨σ1,H1,I1,q1⟩:=q;exact h2 pins s1 σ1 H1 D I1 (b σ1 H1 q1)
 | brk=>exact q
 | cont=>exact q
 | ret v=>exact q
theorem oY {t u:TS} {D:Ends} {σ:St} {H:Hp} (P:St→Hp→Prop) (h:t {D with nx:=P} σ H) (k:∀ σ' H',P σ' H'→u D σ' H'):tCut t u D σ H:=⟨P,h,k⟩
section
variable {K:PySem.W.Frag} {n:Nat} {fx:List Nat} {g:TG} {tc:TT} {te:TE} {σ:St} {H1:Hp} {D:Addr} {Q:Hp→Prop}
structure Cs (Pv:Nat→List V→Prop) (H1:Hp) (D:Addr) (i:Nat) (ys:List V) (H:Hp):Prop where
 pv:Pv i ys
 same:Same H1 H
 at':H D=some (.lst ys)
 len:ys.length≤i
theorem Cs.put {Pv:Nat→List V→Prop} {i:Nat} {ys:List V} {v:V} {H6:Hp} (f:H1 D=none) (s:Same H1 H6) (e:H6 D=some (.lst ys)) (l:ys.length≤i) (hi:i < 16777216) (p:Pv (i + 1) (ys++[v])):
  H6 D=some (.lst ys)∧ys.length < sizeLine∧Cs Pv H1 D (i + 1) (ys++[v]) (upd H6 D (.lst (ys++[v]))):=
 ⟨e,by rw [sizeLine_eq];omega,p,fun b o h=>by rw [az (ao h f)];exact s b o h,be,by rw [List.length_append];simpa using l⟩
theorem Cs.skip {Pv:Nat→List V→Prop} {i:Nat} {ys:List V} {H6:Hp} (s:Same H1 H6) (e:H6 D=some (.lst ys)) (l:ys.length≤i) (p:Pv (i + 1) ys):Cs Pv H1 D (i + 1) ys H6:=⟨p,s,e,by omega⟩
theorem Cs.zero {Pv:Nat→List V→Prop} (f:H1 D=none) (p:Pv 0 []):Cs Pv H1 D 0 [] (upd H1 D (.lst [])):=⟨p,gf f,be,Nat.le_refl _⟩
end
structure vh (K:PySem.W.Frag) (C:Addr) (m:Str) (f:Addr):Prop where
 ga:PySem.W.specialIn K (.ref C) "__getattribute__"=some (some (.builtin "type.__getattribute__"))
 rd:PySem.W.readsIn K C (.type "type")=true
 fd:PySem.W.findCls K (.ref C) (.type "type") m=some (.val (.ref f))
 hd:PySem.W.handedIn (.ref f)=true
 kp:PySem.W.keepIn K (.ref f)=true
structure vb (K:PySem.W.Frag) (D:Addr):Prop where
 cls:Cls K D
 ha:PySem.W.findIn K (.ref D) "__class__"=some (some (.builtin "object.__class__"))
 hn:PySem.W.specialIn K (.builtin "object.__class__") "__get__"=some (some (.builtin "getset_descriptor.__get__"))
 tk:PySem.W.takesIn K (.builtin "object.__class__")=some true
 hm:PySem.W.mroIn K D (.type "object")=some true
section
variable {X:Cx} {K:PySem.W.Frag}
theorem dF {e:Expr} {ta:TE} {f:Str} {pos:Pos} (h:X.K=K) (he:PE X e ta) (hb:attributeBase e f X.env (eval e X.env)=eval e X.env):PE X (.Attribute e f pos) (tFld K ta f):=by subst h;exact tF he hb
theorem ko {o value:Expr} {ta tv:TE} {f:Str} {pos pos':Pos} (h:X.K=K) (ha:PE X o ta) (hv:PE X value tv) (hs:swapsWith value (some (.Attribute o f pos')) pos.line X.env=pure false):PS X (.Assign [.Attribute o f pos'] value pos) (sFld K ta tv f):=by subst h;exact tw ha hv hs
end
section
variable {σ:St} {H:Hp} {Q:VK} {D:Ends} {te tv ta:TE} {x y v:V}
noncomputable def uu (K:PySem.W.Frag) (f:Str) (Q:VK) (x:V) (H:Hp):Prop:=∃ a C dx fs v,x= .ref a∧H a=some (.ins C dx fs)∧Cls K C∧cM K C f∧fs.lookup f=some v∧Q v H
theorem uS {K:PySem.W.Frag} {f:Str} (h:te σ H (uu K f Q)):tFld K te f σ H Q:=h
theorem dC {K:PySem.W.Frag} {f:Str} {p C dx:Addr} {fs:List (Str×V)} (e:H p=some (.ins C dx fs)) (c:Cls K C) (n:cM K C f) (l:fs.lookup f=some v) (h:Q v H):uu K f Q (.ref p) H:=⟨p,C,dx,fs,v,rfl,e,c,n,l,h⟩
structure Upd (H H':Hp) (p:Addr) (o:HO):Prop where
 at':H' p=some o
 oth:∀ b u,b≠p→H b=some u→H' b=some u
 non:∀ b,b≠p→H b=none→H' b=none
theorem Upd.of {H:Hp} {p:Addr} {o:HO}:Upd H (upd H p o) p o:=⟨be,fun b u n h=>by rw [az n];exact h,fun b n h=>by rw [az n];exact h⟩
noncomputable def uo (K:PySem.W.Frag) (f:Str) (y:V) (D:Ends) (σ:St) (x:V) (H:Hp):Prop:=∃ a C dx fs,x= .ref a∧H a=some (.ins C dx fs)∧Cls K C∧cM K C f∧fs.length < 1000∧D.nx σ (upd H a (.ins C dx (putF f y fs)))
theorem oW {K:PySem.W.Frag} {f:Str} (h:tv σ H fun y H1=>te σ H1 (uo K f y D σ)):sFld K te tv f D σ H:=h
theorem kl {K:PySem.W.Frag} {f:Str} {p C dx:Addr} {fs fs':List (Str×V)} (e:H p=some (.ins C dx fs)) (c:Cls K C) (n:cM K C f) (l:fs.length < 1000) (ef:putF f y fs=fs') (h:∀ H2,Upd H H2 p (.ins C dx fs')→D.nx σ H2):
  uo K f y D σ (.ref p) H:=⟨p,C,dx,fs,rfl,e,c,n,l,by rw [ef];exact h _ Upd.of⟩
noncomputable def qj (C:Addr) (sp:Sp) (E:XK) (Q:VK) (vs:List V) (H:Hp):Prop:=∀ x dx,H x=none→H dx=none→dx≠x→sp (.ref x::(vs++[])) (upd (upd H dx (.own x)) x (.ins C dx [])) (fun v H2=>v= .non∧Q (.ref x) H2) E
theorem sN {C:Addr} {sp:Sp} {E:XK} {tr:TA} (h:tr σ H (qj C sp E Q)):sj C sp [] E tr σ H Q:=h
theorem oX {C:Addr} {sp:Sp} {E:XK} {vs:List V} (h:∀ x dx H2,H x=none→Same H H2→H2 x=some (.ins C dx [])→sp (.ref x::vs) H2 (fun v H2=>v= .non∧Q (.ref x) H2) E):qj C sp E Q vs H:=by
 intro x dx f1 f2 n
 rw [List.append_nil]
 exact h x dx _ f1 (fun b o e=>by rw [az (ao e f1),az (ao e f2)];exact e) be
end
theorem Inv.laidCh {X:Cx} {pins:List (Addr×Obj)} {σ:St} {H:Hp} {s:Shared} {h':Heap} {a:Addr} {o:HO} {t':Nat} {ch:List Addr} (I:Inv X pins σ H s) (k:∀ b u,b∉ch→s.heap.get? b=some u→h'.get? b=some u) (hp:s.heap.objs.size≤a)
  (new:cj X.prog X.w (upd H a o) h' a o) (fp:∀ b∈ch,FpOk X pins H b):Inv X pins σ (upd H a o) {s with heap:=h',toks:=t'}:=by
 have fr:H a=none:=I.hok.fresh hp
 have nit:∀ b u,H b=some u→b∉ch:=fun b u e z=>by rw [(fp b z).1] at e;cases e
 refine I.step (g':=s.gens) (d':=s.drawn) (ch:=ch) (fun b hb=>?_) (fun b ob _ _ hc e _=>k b ob hc e) (fun b ob _ _ hc e _=>⟨ob.slots,k b ob hc e⟩) (fun b ob _ e n=>?_) (fun b ob hc e=>⟨ob,k b ob hc e⟩)
  (fun b xs e=>by rw [az (ao e fr)];exact e) (fun b ob u e=>by rw [az (ao e fr)];exact e) (fun b ps e=>⟨#[],by rw [az (ao e fr),e];simp⟩) (fun m hm=>?_) (fun b u e=>?_) I.bare
 ·obtain ⟨f0,f1,f2,f3,f4,f5⟩:=fp b hb
  exact ⟨f3,f1,f4,f5⟩
 ·rw [az (Nat.ne_of_lt (Nat.lt_of_lt_of_le (Heap.lt_size e) hp))];exact n
 ·obtain ⟨ob,es,ep,ho,r⟩:=hm
  exact ⟨ob,es,ep,k _ ob (fun z=>(fp _ z).2.1 rfl) ho,r⟩
 ·by_cases hb:b=a
  ·subst hb;rw [be] at e;cases e;exact new
  ·rw [az hb] at e
   refine (I.hok b u e).stay (fun c v hc q=>k c v ?_ q) (fun c q=>by rw [az (ao q fr)];exact q) fun c xs q=>by rw [az (ao q fr)];exact q
   rcases hc with z | z
   ·rw [z];exact nit b u e
   ·exact nit c _ z
theorem Inv.turnedCh {X:Cx} {pins:List (Addr×Obj)} {σ:St} {H:Hp} {s:Shared} {h':Heap} {t':Nat} {ch:List Addr} (I:Inv X pins σ H s) (k:∀ b u,b∉ch→s.heap.get? b=some u→h'.get? b=some u)
  (fp:∀ b∈ch,FpOk X pins H b):Inv X pins σ H {s with heap:=h',toks:=t'}:=by
 have nit:∀ b u,H b=some u→b∉ch:=fun b u e z=>by rw [(fp b z).1] at e;cases e
 refine I.step (g':=s.gens) (d':=s.drawn) (ch:=ch) (fun b hb=>?_) (fun b ob _ _ hc e _=>k b ob hc e) (fun b ob _ _ hc e _=>⟨ob.slots,k b ob hc e⟩) (fun b ob _ e n=>n) (fun b ob hc e=>⟨ob,k b ob hc e⟩)
  (fun b xs e=>e) (fun b ob u e=>e) (fun b ps e=>⟨#[],by rw [e];simp⟩) (fun m hm=>?_) (fun b u e=>?_) I.bare
 ·obtain ⟨f0,f1,f2,f3,f4,f5⟩:=fp b hb
  exact ⟨f3,f1,f4,f5⟩
 ·obtain ⟨ob,es,ep,ho,r⟩:=hm
  exact ⟨ob,es,ep,k _ ob (fun z=>(fp _ z).2.1 rfl) ho,r⟩
 ·refine (I.hok b u e).stay (fun c v hc q=>k c v ?_ q) (fun c q=>q) fun c xs q=>q
  rcases hc with z | z
  ·rw [z];exact nit b u e
  ·exact nit c _ z
noncomputable def Ite (K:PySem.W.Frag) (a:Addr):It:=
 ⟨fun i H=>∃ xs x,SqL K H a xs∧xs[i]? =some x,fun i H x H'=>∃ p v,H p=none∧x= .ref p∧H'=upd H p (.tup [.int i,v])∧∀ xs,SqL K H a xs→xs[i]? =some v,fun i H=>∃ xs,SqL K H a xs∧xs.length=i⟩
noncomputable def Itz (x:Str):It:=⟨fun i _=>i < x.cps.size,fun i H v H'=>∃ p c,H p=none∧v= .ref p∧H'=upd H p (.tup [.int i,.str ⟨#[c]⟩])∧x.cps[i]? =some c,fun i _=>i=x.cps.size⟩
theorem pW:(2:Nat)≤sizeLine:=by rw [sizeLine_eq];decide
theorem lV {P:Program} {w:World} {K:PySem.W.Frag} {elts:List Expr} {k:Nat} {pos:Pos} (a e it:Addr) (hei:e≠it):
  Turn P w K (.Tuple elts k pos) (Ite K a) [e,it] e (fun i h=>(∃ old,IsEnum h e it i old)∧h.IsListIter it a i) where
 mem:=by simp
 obj:=fun i h st b hb=>by
  obtain ⟨⟨old,he⟩,⟨o,ho,hc,hd⟩⟩:=st
  rcases List.mem_cons.mp hb with z | z
  ·subst z;exact ⟨_,he,fun v z=>by cases z⟩
  ·rw [List.mem_singleton.mp z];exact ⟨o,ho,fun v z=>by rw [hd] at z;cases z⟩
 keep:=fun i h h' st k=>⟨let ⟨old,he⟩:=st.1;⟨old,k e (by simp) _ he⟩,st.2.at fun o z=>k it (by simp) o z⟩
 item:=by
  intro X hP hw hK hc i pins s σ H E I hf st hg
  subst hP hw hK
  obtain ⟨xs,x,hq,hx⟩:=hg
  obtain ⟨its,rv,p,hz⟩:=I.list hq
  obtain ⟨⟨old,he⟩,hl⟩:=st
  have hai:a≠it:=fun z=>by
   obtain ⟨o,ho,hcl,_⟩:=hl
   obtain ⟨o',n,ho',hcl',_⟩:=p
   rw [z,ho] at ho';cases ho';rw [hcl] at hcl';exact absurd hcl' (by decide)
  have hae:a≠e:=fun z=>by
   obtain ⟨o',n,ho',hcl',_⟩:=p
   rw [z,he] at ho';cases ho';exact absurd (show Value.type "enumerate"= .type "list" from hcl') (by decide)
  have W:=WalksT.enumerateD (prog:=X.prog) (w:=X.w) (A:=X.A) (Draws.list (A:=X.A.in1) (I.ok.hd hc) it a hai its.toArray) e hei (by simp [hei,Ne.symm hae]) (by simp)
  have hi:i < its.toArray.size:=by have:=rv.length;have:=(List.getElem?_eq_some_iff.mp hx).1;simp;omega
  refine W.item i s _ _ hi ⟨⟨old,he⟩,hl,p.isList⟩ fun T vals h' tk hPt hT htup hmid hk=>⟨_,rfl,W.go elts k pos i T _ _ _ hmid fun h'' hst hk2=>?_⟩
  obtain ⟨t,x',hx',rfl⟩:=hPt
  have hap:=W.apart i T h' hmid
  have ru:RelV x x':=by
   obtain ⟨u,hu,r⟩:=rv.get hx
   have hx'':its[i]? =some x':=by simpa using hx'
   rw [hu] at hx'';cases hx'';exact r
  have kk:∀ b u,b∉[e,it]→s.heap.get? b=some u→h''.get? b=some u:=fun b u hb q=>hk2 b u hb (hk b u hb q)
  have fr:H T=none:=I.hok.fresh hT
  refine ⟨.ref T,upd H T (.tup [.int i,x]),I.laidCh (t':=tk) kk hT ⟨pW,[.int i t,x'],.cons ⟨t,rfl⟩ (.cons ru .nil),?_⟩ hf,rfl,⟨T,x,fr,rfl,rfl,fun ys hy=>by rw [I.list_inj hy hq];exact hx⟩,⟨hst.1,hst.2.1⟩,fun b hb=>?_⟩
  ·obtain ⟨o,ho,r⟩:=htup
   exact ⟨o,hk2 T o hap ho,r⟩
  ·have fb:=(hf b hb)
   rw [az (fun z=>?_)]
   ·exact fb.1
   ·have lt:b < s.heap.objs.size:=by
     rcases List.mem_cons.mp hb with z | z
     ·subst z;exact Heap.lt_size he
     ·rw [List.mem_singleton.mp z];obtain ⟨o,ho,_⟩:=hl;exact Heap.lt_size ho
    rw [z] at lt
    exact absurd (Nat.lt_of_lt_of_le lt hT) (Nat.lt_irrefl _)
 done:=by
  intro X hP hw hK hc i pins s σ H E I hf st hg
  subst hP hw hK
  obtain ⟨xs,hq,hx⟩:=hg
  obtain ⟨its,rv,p,hz⟩:=I.list hq
  obtain ⟨⟨old,he⟩,hl⟩:=st
  have hai:a≠it:=fun z=>by
   obtain ⟨o,ho,hcl,_⟩:=hl
   obtain ⟨o',n,ho',hcl',_⟩:=p
   rw [z,ho] at ho';cases ho';rw [hcl] at hcl';exact absurd hcl' (by decide)
  have hae:a≠e:=fun z=>by
   obtain ⟨o',n,ho',hcl',_⟩:=p
   rw [z,he] at ho';cases ho';exact absurd (show Value.type "enumerate"= .type "list" from hcl') (by decide)
  have W:=WalksT.enumerateD (prog:=X.prog) (w:=X.w) (A:=X.A) (Draws.list (A:=X.A.in1) (I.ok.hd hc) it a hai its.toArray) e hei (by simp [hei,Ne.symm hae]) (by simp)
  have hn:its.toArray.size=i:=by have:=rv.length;simp;omega
  subst hn
  exact W.done s _ _ ⟨⟨old,he⟩,hl,p.isList⟩ fun h' tk hk=>⟨rfl,I.turnedCh hk hf⟩
 self:=fun _ _ _ _ _ st h=>let ⟨_,he⟩:=st.1;wpAny_pyIter_enum he h
theorem lU {P:Program} {w:World} {K:PySem.W.Frag} {elts:List Expr} {k:Nat} {pos:Pos} {x:Str} {t:Tok} {n:String} (e it:Addr) (hei:e≠it)
  (D:∀ A:Around,A.handled=none→Draws P w A it [it] x.cps.size (fun i v=>∃ c u,x.cps[i]? =some c∧v= .str ⟨#[c]⟩ u) (fun i h=>h.IsStrIter it n x t i)):
  Turn P w K (.Tuple elts k pos) (Itz x) [e,it] e (fun i h=>(∃ old,IsEnum h e it i old)∧h.IsStrIter it n x t i) where
 mem:=by simp
 obj:=fun i h st b hb=>by
  obtain ⟨⟨old,he⟩,⟨o,ho,hc,hd⟩⟩:=st
  rcases List.mem_cons.mp hb with z | z
  ·subst z;exact ⟨_,he,fun v z=>by cases z⟩
  ·rw [List.mem_singleton.mp z];exact ⟨o,ho,fun v z=>by rw [hd] at z;cases z⟩
 keep:=fun i h h' st k=>⟨let ⟨old,he⟩:=st.1;⟨old,k e (by simp) _ he⟩,let ⟨o,ho,r⟩:=st.2;⟨o,k it (by simp) o ho,r⟩⟩
 item:=by
  intro X hP hw hK hc i pins s σ H E I hf st hg
  subst hP hw hK
  obtain ⟨⟨old,he⟩,hl⟩:=st
  have W:=WalksT.enumerateD (prog:=X.prog) (w:=X.w) (A:=X.A) (D X.A.in1 (I.ok.hd hc)) e hei (by simp [hei]) (by simp)
  refine W.item i s _ _ hg ⟨⟨old,he⟩,hl⟩ fun T vals h' tk hPt hT htup hmid hk=>⟨_,rfl,W.go elts k pos i T _ _ _ hmid fun h'' hst hk2=>?_⟩
  obtain ⟨t1,x',⟨c,u,hx',rfl⟩,rfl⟩:=hPt
  have hap:=W.apart i T h' hmid
  have kk:∀ b u,b∉[e,it]→s.heap.get? b=some u→h''.get? b=some u:=fun b u hb q=>hk2 b u hb (hk b u hb q)
  have fr:H T=none:=I.hok.fresh hT
  refine ⟨.ref T,upd H T (.tup [.int i,.str ⟨#[c]⟩]),I.laidCh (t':=tk) kk hT ⟨pW,[.int i t1,.str ⟨#[c]⟩ u],.cons ⟨t1,rfl⟩ (.cons ⟨u,rfl⟩ .nil),?_⟩ hf,rfl,⟨T,c,fr,rfl,rfl,hx'⟩,⟨hst.1,hst.2⟩,fun b hb=>?_⟩
  ·obtain ⟨o,ho,r⟩:=htup
   exact ⟨o,hk2 T o hap ho,r⟩
  ·have fb:=(hf b hb)
   rw [az (fun z=>?_)]
   ·exact fb.1
   ·have lt:b < s.heap.objs.size:=by
     rcases List.mem_cons.mp hb with z | z
     ·subst z;exact Heap.lt_size he
     ·rw [List.mem_singleton.mp z];obtain ⟨o,ho,_⟩:=hl;exact Heap.lt_size ho
    rw [z] at lt
    exact absurd (Nat.lt_of_lt_of_le lt hT) (Nat.lt_irrefl _)
 done:=by
  intro X hP hw hK hc i pins s σ H E I hf st hg
  subst hP hw hK
  obtain ⟨⟨old,he⟩,hl⟩:=st
  have W:=WalksT.enumerateD (prog:=X.prog) (w:=X.w) (A:=X.A) (D X.A.in1 (I.ok.hd hc)) e hei (by simp [hei]) (by simp)
  have hg:i=x.cps.size:=hg
  subst hg
  exact W.done s _ _ ⟨⟨old,he⟩,hl⟩ fun h' tk hk=>⟨rfl,I.turnedCh hk hf⟩
 self:=fun _ _ _ _ _ st h=>let ⟨_,he⟩:=st.1;wpAny_pyIter_enum he h
noncomputable def t6 (K:PySem.W.Frag) (tl:TE):TI:=fun σ H R=>tl σ H fun x H1=>(∃ a,x= .ref a∧(∃ xs,SqL K H1 a xs)∧R (Ite K a) H1)∨∃ z,x= .str z∧R (Itz z) H1
section
variable {X:Cx} {K:PySem.W.Frag}
theorem nj {l:Expr} {tl:TE} {elts:List Expr} {k:Nat} {tpos p pos:Pos} (h:X.K=K) (hg:Gl X "enumerate") (hm:X.mg "enumerate"=none) (hl:PE X l tl) (hs:starEach [l] X.env=[(false,eval l X.env)]:=by rfl):
  PI X (.Tuple elts k tpos) (.Call (.Name "enumerate" p) [l] [] pos) (t6 K tl):=by
 subst h
 intro pins s σ H R I h
 refine Call_ (jG I hg hm boot_enumerate (PyProof.Rows.callWith_type1 (thn (aa hl ai hs pos pins s σ H (fun vs H1=>match vs with | [x]=>(∃ a,x= .ref a∧(∃ xs,SqL X.K H1 a xs)∧R (Ite X.K a) H1)∨∃ z,x= .str z∧R (Itz z) H1 | _=>False) I h) fun us s1 ⟨vs,H1,I1,r1,q1⟩=>?_) hs rfl))
 match vs,r1,q1 with
 | [x],r1,q1=>
 obtain ⟨u,rfl,ru⟩:=r1.one
 rcases q1 with ⟨a,rfl,⟨xs,hq⟩,q⟩ | ⟨z,rfl,q⟩
 ·cases ru
  obtain ⟨its,rv,pl,hz⟩:=I1.list hq
  refine call_enumerate_list pl.isList fun h' he hit hsz hk=>wpAny_pyIter_enum he ?_
  refine ⟨s1.heap.objs.size + 1,[s1.heap.objs.size + 1,s1.heap.objs.size],_,_,H1,rfl,I1.kept (t':=s1.toks) hk,lV a _ _ (Nat.ne_of_gt (Nat.lt_succ_self _)),⟨⟨_,he⟩,hit⟩,fun b hb=>?_,q⟩
  have hb':s1.heap.objs.size≤b:=(List.mem_cons.mp hb).elim (fun z=>by rw [z];exact Nat.le_succ _) (fun z=>by rw [List.mem_singleton.mp z];exact Nat.le_refl _)
  exact I1.fpOk hb' (I1.hok.fresh hb')
 ·obtain ⟨t,rfl⟩:=ru
  refine call_enumerate_str fun h' he hit hsz hk=>wpAny_pyIter_enum he ?_
  have fin:∀ n,(h'.IsStrIter s1.heap.objs.size n z t 0)→(∀ A:Around,A.handled=none→Draws X.prog X.w A s1.heap.objs.size [s1.heap.objs.size] z.cps.size (fun i v=>∃ c u,z.cps[i]? =some c∧v= .str ⟨#[c]⟩ u) (fun i h=>h.IsStrIter s1.heap.objs.size n z t i))→
    PIE X pins σ (.Tuple elts k tpos) R (.ref (s1.heap.objs.size + 1)) {s1 with heap:=h'}:=fun n hn D=>by
   refine ⟨s1.heap.objs.size + 1,[s1.heap.objs.size + 1,s1.heap.objs.size],_,_,H1,rfl,I1.kept (t':=s1.toks) hk,lU _ _ (Nat.ne_of_gt (Nat.lt_succ_self _)) D,⟨⟨_,he⟩,hn⟩,fun b hb=>?_,q⟩
   have hb':s1.heap.objs.size≤b:=(List.mem_cons.mp hb).elim (fun z=>by rw [z];exact Nat.le_succ _) (fun z=>by rw [List.mem_singleton.mp z];exact Nat.le_refl _)
   exact I1.fpOk hb' (I1.hok.fresh hb')
  unfold strIterType at hit
  split at hit
  ·exact fin _ hit fun A hA=>Draws.strAscii hA _ z t
  ·exact fin _ hit fun A hA=>Draws.strWide hA _ z t
end
theorem lN {K:PySem.W.Frag} {a:Addr} {xs:List V} {g:TG} {tb:TS} {D:Ends} {σ:St} {H:Hp} (Pv:Nat→St→Hp→Prop) (h0:Pv 0 σ H) (hl:∀ i σ H,i≤xs.length→Pv i σ H→SqL K H a xs)
  (hs:∀ i x σ H p H',xs[i]? =some x→Pv i σ H→H p=none→Same H H'→H' p=some (.tup [.int i,x])→g (.ref p) σ H' fun σ2 H2=>tb {D with nx:=Pv (i + 1),ct:=Pv (i + 1),bk:=D.nx} σ2 H2) (hd:∀ σ H,Pv xs.length σ H→D.nx σ H):
  ∃ W:Nat→Nat→St→Hp→Prop,(∃ m,W 0 m σ H)∧∀ i m σ H,W i m σ H→
    ((Ite K a).stop i H∧D.nx σ H)∨((Ite K a).go i H∧∃ N:St→Hp→Prop,(∀ σ' H',N σ' H'→∃ m',m' < m∧W (i + 1) m' σ' H')∧∀ x H',(Ite K a).yld i H x H'→g x σ H' fun σ2 H2=>tb {D with nx:=N,ct:=N,bk:=D.nx} σ2 H2):=by
 refine ⟨fun i m σ H=>m=xs.length - i∧i≤xs.length∧Pv i σ H,⟨xs.length,by simp,Nat.zero_le _,h0⟩,?_⟩
 rintro i m σ H ⟨rfl,hi,p⟩
 have q:=hl i σ H hi p
 by_cases hlt:i < xs.length
 ·refine .inr ⟨⟨xs,xs[i],q,by simp [hlt]⟩,Pv (i + 1),fun σ' H' p'=>⟨xs.length - (i + 1),by omega,rfl,hlt,p'⟩,fun x H' y=>?_⟩
  obtain ⟨r,v,f,e1,e2,y⟩:=y
  subst e1 e2
  exact hs i v σ H r _ (y xs q) p f (gf f) be
 ·have e:i=xs.length:=by omega
  subst e
  exact .inl ⟨⟨xs,q,rfl⟩,hd σ H p⟩
section
variable {σ:St} {H:Hp} {te:TE} {R:It→Hp→Prop}
theorem qM {K:PySem.W.Frag} (h:te σ H fun x H1=>(∃ a,x= .ref a∧(∃ xs,SqL K H1 a xs)∧R (Ite K a) H1)∨∃ z,x= .str z∧R (Itz z) H1):t6 K te σ H R:=h
end
section
variable {σ:St} {H:Hp} {Q:VK} {D:Ends} {te ty tv td:TE} {x y v:V}
theorem gi {l:Addr} {xs:List V} (e:H l=some (.lst xs)) (hz:xs.length < sizeLine) (h:∀ H2,Upd H H2 l (.lst (xs++[y]))→Q .non H2):nc (.ref l) [y] H Q:=⟨l,xs,y,rfl,rfl,e,hz,h _ Upd.of⟩
noncomputable def qk (v:V) (x:V) (D:Ends) (σ:St) (y:V) (H:Hp):Prop:=∃ a H4,x= .ref a∧DPut H a y v H4∧D.nx σ H4
theorem sU (h:tv σ H fun v H1=>td σ H1 fun x H2=>ty σ H2 (qk v x D σ)):tf td ty tv D σ H:=h
theorem qQ {p:Addr} {kvs:List (Key×V)} {z:Int} (e:H p=some (.dK kvs)) (hl:kvs.length < sizeLine) (h:∀ H2,Upd H H2 p (.dK (putK kvs (Sum.inl z) v))→D.nx σ H2):qk v (.ref p) D σ (.int z) H:=⟨p,_,rfl,DPut.k (k:=Sum.inl z) e hl,h _ Upd.of⟩
noncomputable def ql (x:V) (Q:VK) (y:V) (H:Hp):Prop:=∃ a v,x= .ref a∧DGet H a y (some v)∧Q v H
theorem sX (h:td σ H fun x H1=>ty σ H1 (ql x Q)):sk td ty σ H Q:=h
theorem m7 {p:Addr} {kvs:List (Key×V)} {z:Int} (e:H p=some (.dK kvs)) (l:valV kvs (Sum.inl z)=some v) (h:Q v H):ql (.ref p) Q (.int z) H:=⟨p,v,rfl,by rw [← l];exact DGet.k (k:=Sum.inl z) e,h⟩
noncomputable def qi (C:Addr) (m:Str) (sp:Sp) (E:XK) (tr:TA) (σ:St) (Q:VK) (x:V) (H:Hp):Prop:=∃ a dx fs,x= .ref a∧H a=some (.ins C dx fs)∧fs.lookup m=none∧tr σ H fun vs H2=>sp (x::(vs++[])) H2 Q E
theorem sM {C:Addr} {m:Str} {sp:Sp} {E:XK} {tr:TA} (h:te σ H (qi C m sp E tr σ Q)):si C m sp [] E te tr σ H Q:=h
theorem gh {C dx p:Addr} {m:Str} {fs:List (Str×V)} {sp:Sp} {E:XK} {tr:TA} (e:H p=some (.ins C dx fs)) (l:fs.lookup m=none) (h:tr σ H fun vs H2=>sp (.ref p::vs) H2 Q E):qi C m sp E tr σ Q (.ref p) H:=⟨p,dx,fs,rfl,e,l,by simp only [List.append_nil];exact h⟩
theorem qK {K:PySem.W.Frag} {p:Addr} {xs:List V} (e:SqL K H p xs) (h:∀ q H2,H q=none→Same H H2→H2 q=some (.lst xs)→Q (.ref q) H2):m9 K [.ref p] H Q:=⟨p,xs,rfl,.inl e,dD h⟩
end
noncomputable def vd (h:Heap) (e:Addr) (C:Value) (dx:Option Addr) (T:Option (Addr×Value)):Prop:=
 ∃ oe vs,h.get? e=some oe∧oe.cls=C∧oe.dict=dx∧oe.data= .fields vs∧1 < vs.size∧
   match T with
   | none=>vs[1]? =some .none
   | some (t,fl)=>vs[1]? =some (.ref t)∧t≠e∧∃ oT ts,h.get? t=some oT∧oT.data= .fields ts∧ts[3]? =some fl
section
variable {X:Cx} {pins:List (Addr×Obj)} {σ:St} {H:Hp} {s:Shared}
noncomputable def FpN (X:Cx) (pins:List (Addr×Obj)) (H:Hp) (b:Addr):Prop:=
 H b=none∧b≠X.env.locals∧b∉X.fs∧(b∈X.ex∨X.s₀.heap.get? b=none)∧(∀ x c,X.env.cells.lookup x=some c→c≠b)∧∀ p∈X.pn++pins,p.1≠b
structure Fly (X:Cx) (pins:List (Addr×Obj)) (H:Hp) (e:Addr) (C:Value) (dx:Option Addr) (T:Option (Addr×Value)) (h:Heap):Prop where
 at_:vd h e C dx T
 fe:FpN X pins H e
 ft:∀ t fl,T=some (t,fl)→FpN X pins H t
end
noncomputable abbrev XW:=St→XK
structure XCls (h:Heap) (C:Addr) (bmB:List Value) (newId:String):Prop where
 obj:∃ bm N nm q bs hdct sn sub ab col dd k0 k1 k2 k3 k5 mN,h.get? C=some (excClassObj nm q C N bs bm hdct sn sub ab col dd k0 k1 k2 k3 k5 newId)∧h.Ns N mN∧mN "__init__"=none∧OwnTail h bmB bm
structure ve (K:PySem.W.Frag) (G:Addr):Prop where
 ty:PySem.W.typeIn K (.ref G)=some (.type "type")
 cls:PySem.W.isClsIn K G=true
 base:PySem.W.mroIn K G (.type "BaseException")=some true
noncomputable abbrev Cx.pin (X:Cx) (pins:List (Addr×Obj)):Cx:={X with pn:=X.pn++pins}
structure XIsi (K:PySem.W.Frag) (D:Addr):Prop where
 cls:PySem.W.isClsIn K D=true
 ga:PySem.W.findIn K (.ref D) "__getattribute__"=some (some (.builtin "BaseException.__getattribute__"))
 gr:PySem.W.findIn K (.ref D) "__getattr__"=some none
 ha:PySem.W.findIn K (.ref D) "__class__"=some (some (.builtin "object.__class__"))
 hn:PySem.W.specialIn K (.builtin "object.__class__") "__get__"=some (some (.builtin "getset_descriptor.__get__"))
 tk:PySem.W.takesIn K (.builtin "object.__class__")=some true
 hm:PySem.W.mroIn K D (.type "object")=some true
 base:PySem.W.mroIn K D (.type "BaseException")=some true
noncomputable def dV:V→Value
 | .ref a=> .ref a
 | .ty n=> .type n
 | _=> .none
theorem qS {k:Key} {v:Value} (h:jL k v=true):RelV (kV k) v:=by
 rcases aK h with ⟨i,t,rfl,rfl⟩ | ⟨x,t,rfl,rfl⟩
 ·exact ⟨t,rfl⟩
 ·exact ⟨t,rfl⟩
theorem jw {α β:Type} {F:α→β→Prop}:∀ {l:List α} {m:List β},l.length=m.length→(∀ (i:Nat) (a:α) (b:β),l[i]? =some a→m[i]? =some b→F a b)→Paired F l m
 | [],[],_,_=> .nil
 | a::l,b::m,hl,h=> .cons (h 0 a b rfl rfl) (jw (by simpa using hl) fun i x y hx hy=>h (i + 1) x y (by simpa using hx) (by simpa using hy))
 | [],_::_,hl,_=>by simp at hl
 | _::_,[],hl,_=>by simp at hl
section
variable {σ:St} {H:Hp} {Q:VK} {D:Ends} {te ty tv td:TE} {x y v:V}
noncomputable def uv (y:V) (Q:VK) (x:V) (H:Hp):Prop:=∃ a o,x= .ref a∧DGet H a y o∧Q (.bl o.isSome) H
theorem uT (h:ty σ H fun y H1=>td σ H1 (uv y Q)):tDIn ty td σ H Q:=h
theorem sW {p:Addr} {kvs:List (Key×V)} {z:Int} (e:H p=some (.dK kvs)) (h:Q (.bl (valV kvs (Sum.inl z)).isSome) H):uv (.int z) Q (.ref p) H:=⟨p,_,rfl,DGet.k (k:=Sum.inl z) e,h⟩
theorem uU {l b:Addr} {xs zs:List V} (e:H l=some (.lst xs)) (e':H b=some (.lst zs)) (hz:xs.length + zs.length≤sizeLine) (h:∀ p H2,H p=none→Same H H2→H2 p=some (.lst (xs++zs))→Q (.ref p) H2):rCat (.ref l) (.ref b) H Q:=⟨l,b,xs,zs,rfl,rfl,e,e',hz,dD h⟩
end
theorem lK:∀ {ns:List Int} {us:List Value},Vals (ns.map V.int) us→IntsAre us ns
 | [],us,r=>by cases r;exact .nil
 | n::ns,us,r=>by
   rw [List.map_cons] at r
   cases r with
   | cons h t=>obtain ⟨t',rfl⟩:=h;exact .cons _ _ (lK t)
theorem nV:∀ {ns:List Int} {us:List Value},IntsAre us ns→Vals (ns.map V.int) us:=gx
section
variable {prog:Program} {w:World} {A:Around} {E:Value→Shared→Prop} {s:Shared} {d:Addr} {vs:List (Key×Value)} {ep:Nat}
theorem l4:plainId "list.__iadd__"=true:=by decide +kernel
theorem jX {Q:List Value→Shared→Prop} (hh:A.handled=none) (lo:(d == sysModules)=false) (hat:s.heap.DictAt (aW prog w) d vs ep) (hn:vs.length≤sizeLine)
  (h:∀ h' tk (acc:Array Value),(∀ b o,s.heap.get? b=some o→h'.get? b=some o)→s.heap.objs.size < h'.objs.size→ItemsOf (fun i v=>∃ k x,vs[i]? =some (k,x)∧(aW prog w).is k v=true) acc vs.length→Q acc.toList {s with heap:=h',toks:=tk}):
  wpAny (model prog w) A (collect (.ref d)) Q E s:=by
 unfold collect
 refine wpAny_bind (wpAny_runValue (codeAny_builtin entry_proto_collect' ?_))
 show wpAny _ _ (do again (.builtin "list.__iadd__" ⟨[← newList [],.ref d],[]⟩)) _ _ s
 refine wpAny_bind (wpAny_newList (wpAny_pure ⟨Code.quiet_builtin _ (by decide +kernel),codeAny_builtin entry_list_iadd' ?_⟩))
 rw [Around.under_plainId l4 _]
 show wpAny _ _ (Builtin.List.listExtendWith (.ref s.heap.objs.size) (.ref d) (.ref s.heap.objs.size)) _ _ {s with heap:=s.heap.push (seqObj "list" #[] 0)}
 have hlt:=hat.lt_size
 refine PySem.W.kdl_extend (R:=fun r s'=>match r with
   | Except.ok (Flow.ret v)=>wpAny (model prog w) A (match v with
     | Value.ref a=>do
       let o ← load a
       match o.data with
       | .seq xs _=>pure xs.toList
       | _=>unsupported "internal:collect"
     | _=>unsupported "internal:collect") Q E s'
   | Except.ok _=>False
   | Except.error e=>E e s') (s:={s with heap:=s.heap.push (seqObj "list" #[] 0)}) (PySem.W.kdl_dict (knd:=aW prog w) (kvs:=vs) (ep:=ep) lo) hh (hat.push _) s.heap.objs.size (Nat.ne_of_gt hlt) (Nat.ne_of_gt hlt) _ 0 (Heap.get?_push_size _ rfl) (fun h' tk acc' c' hk hS hacc=>?_) hn
 show wpAny (model prog w) A (do
   let o ← load s.heap.objs.size
   match o.data with
   | .seq xs _=>pure xs.toList
   | _=>unsupported "internal:collect") Q E {s with heap:=h',toks:=tk}
 refine wpAny_bind (wpAny_load hS ?_)
 exact wpAny_pure (h h' tk acc' (fun b o e=>hk b o (Nat.ne_of_lt (Heap.lt_size e)) (Heap.get?_push_of_some _ e)) (Heap.lt_size hS) hacc)
end
section
variable {σ:St} {H:Hp} {D:Ends} {t u:TS}
theorem sG (h:∀ R:St→Hp→Prop,(∀ σ H,u D σ H→R σ H)→t {D with nx:=R} σ H):tSeq t u D σ H:=h _ fun _ _ q=>q
theorem s_go {R X:St→Hp→Prop} (e:∀ σ H,X σ H→R σ H) (h:X σ H):R σ H:=e _ _ h
end
end L2
namespace TS
open PySem PyProof.Rows
noncomputable def gal:Bool→Keyed→Array Keyed→Nat→Nat→Nat→StateT SortSt Sem (Option Nat):=sortPriv% PySem.Builtin.gallop
section
variable {prog:Program} {w:World} {A:Around} {E:Value→Shared→Prop} {s:Shared}
theorem w_lt {st:SortSt} {x y:Keyed} {a b:Int} {t u:Tok} {Q:Option Bool→SortSt→Prop} (hk:kindOf st=oneType') (hx:x.1= .int a t) (hy:y.1= .int b u) (h:Q (some (decide (a < b))) st):wpS (model prog w) A E s (lt' x y) Q st:=by
 rw [lt'_eq]
 refine wpS_bind (wpS_get ?_)
 rw [hk,keyLt'_oneType,hx,hy]
 exact wpS_bind (wpS_lift (wpAny_attempt (oneLt_int ⟨rfl,wpS_pure h⟩)))
theorem au {st:SortSt} {arr:Array Keyed} {i:Nat} {p:Keyed} {Q:Keyed→SortSt→Prop} (e:arr[i]? =some p) (h:Q p st):wpS (model prog w) A E s (elem' arr i) Q st:=by
 rw [elem'_eq,e]
 exact wpS_pure h
noncomputable def IK (arr:Array Keyed):Prop:=∀ (i:Nat) (p:Keyed),arr[i]? =some p→∃ t,p.1= .int (K arr i) t
theorem rD {arr:Array Keyed} (h:IntKeys arr):IK arr:=fun i p e=>by
 obtain ⟨hi,e'⟩:=Array.getElem?_eq_some_iff.mp e
 obtain ⟨n,t,hn⟩:=h p (by rw [← e'];exact Array.getElem_mem_toList hi)
 refine ⟨t,?_⟩
 unfold K
 rw [e]
 show p.1= .int (numOf p.1) t
 rw [hn];rfl
theorem IK.get {arr:Array Keyed} (h:IK arr) {i:Nat} (hi:i < arr.size):∃ p t,arr[i]? =some p∧p.1= .int (K arr i) t:=by
 obtain ⟨t,e⟩:=h i arr[i] (Array.getElem?_eq_getElem hi)
 exact ⟨arr[i],t,Array.getElem?_eq_getElem hi,e⟩
noncomputable def gB (left:Bool) (k x:Int):Bool:=if left then decide (x < k) else !decide (k < x)
theorem rG {left:Bool} {k x y:Int} (h:x≤y) (hy:gB left k y=true):gB left k x=true:=by
 unfold gB at hy ⊢
 cases left
 ·simp only [Bool.false_eq_true,if_false,Bool.not_eq_true',decide_eq_false_iff_not] at hy ⊢;omega
 ·simp only [if_true,decide_eq_true_eq] at hy ⊢;omega
local macro_rules | `(tactic| walk_at "ugal") =>do let n:=Lean.mkIdent (Lean.mkPrivateNameCore `PySem.Builtin.List.W1All `PySem.Builtin.gallop);`(tactic| unfold $n)
theorem dP {st:SortSt} {left:Bool} {key:Keyed} {kn:Int} {kt:Tok} {arr:Array Keyed} {base n hint:Nat} {Q:Option Nat→SortSt→Prop} (hk:kindOf st=oneType') (ik:IK arr) (ek:key.1= .int kn kt) (hn:base + n≤arr.size) (hh:hint < n)
  (so:∀ i j,i≤j→j < n→K arr (base + i)≤K arr (base + j))
  (h:∀ k,k≤n→(∀ i,i < k→gB left kn (K arr (base + i))=true)→(∀ i,k≤i→i < n→gB left kn (K arr (base + i))=false)→Q (some k) st):
  wpS (model prog w) A E s (gal left key arr base n hint) Q st:=by
 have up:∀ {i j},i≤j→j < n→gB left kn (K arr (base + j))=true→gB left kn (K arr (base + i))=true:=fun h1 h2 h3=>rG (so _ _ h1 h2) h3
 have dn:∀ {i j},i≤j→j < n→gB left kn (K arr (base + i))=false→gB left kn (K arr (base + j))=false:=fun {i j} h1 h2 h3=>by
  cases e:gB left kn (K arr (base + j)) with
  | false=>rfl
  | true=>rw [up h1 h2 e] at h3;cases h3
 have hb:∀ (i:Nat) (R:Option Bool→SortSt→Prop),i < n→R (some (gB left kn (K arr (base + i)))) st→wpS (model prog w) A E s (elem' arr (base + i) >>=fun x=>if left=true then lt' x key else lt' key x >>=fun y=>pure (Option.map (fun x=> !x) y)) R st:=fun i R hi hR=>by
  obtain ⟨p,t,e1,e2⟩:=ik.get (i:=base + i) (by omega)
  refine wpS_bind (au e1 ?_)
  unfold gB at hR
  cases left
  ·rw [if_neg (by decide)]
   rw [if_neg (by decide)] at hR
   exact wpS_bind (w_lt hk ek e2 (wpS_pure hR))
  ·rw [if_pos rfl]
   rw [if_pos rfl] at hR
   exact w_lt hk e2 ek hR
 unfold gal
 walk_at "ugal"
 dsimp only
 refine wpS_bind (hb hint _ hh ?_)
 dsimp only
 cases hB:gB left kn (K arr (base + hint)) with
 | true=>
   rw [if_pos rfl]
   refine wpS_bind (wpS_mono (wpS_forRange (I:=fun x c st'=>st'=st∧∃ l o,c=(none,l,o)∧l < o∧x < o∧hint + l < n∧gB left kn (K arr (base + (hint + l)))=true)
    (Q:=fun c st'=>st'=st∧∃ l o,c=(none,l,o)∧l < o∧hint + l < n∧gB left kn (K arr (base + (hint + l)))=true∧(n - hint≤o∨gB left kn (K arr (base + (hint + o)))=false)) ?step ?fin ⟨rfl,0,1,rfl,by omega,by omega,hh,hB⟩) ?post)
   case fin=>
    rintro c st' ⟨rfl,l,o,rfl,a1,a2,a3,a4⟩
    exact ⟨rfl,l,o,rfl,a1,a3,a4,.inl (by omega)⟩
   case step=>
    rintro x c st' _ hx ⟨rfl,l,o,rfl,a1,a2,a3,a4⟩
    dsimp only
    by_cases hge:o≥n - hint
    ·rw [if_pos hge]
     exact wpS_pure ⟨rfl,l,o,rfl,a1,a3,a4,.inl hge⟩
    ·rw [if_neg hge]
     refine wpS_bind (hb _ _ (by omega) ?_)
     dsimp only
     cases e:gB left kn (K arr (base + (hint + o))) with
     | true=>
       rw [if_neg (by decide)]
       exact wpS_pure ⟨rfl,o,2 * o + 1,rfl,by omega,by omega,by omega,e⟩
     | false=>
       rw [if_pos (by decide)]
       exact wpS_pure ⟨rfl,l,o,rfl,a1,a3,a4,.inr e⟩
   case post=>
    rintro c st' ⟨rfl,l,o,rfl,a1,a3,a4,a5⟩
    dsimp only
    have g1:hint + l + 1≤hint + min o (n - hint):=by omega
    have g2:hint + min o (n - hint)≤n:=by omega
    have g3:∀ i,i < hint + l + 1→gB left kn (K arr (base + i))=true:=fun i hi=>up (j:=hint + l) (by omega) a3 a4
    have g4:∀ i,hint + min o (n - hint)≤i→i < n→gB left kn (K arr (base + i))=false:=fun i h1 h2=>by
     rcases a5 with a5 | a5
     ·omega
     ·exact dn (i:=hint + o) (by omega) h2 a5
    refine wpS_bind (wpS_mono (wpS_forRange (I:=fun x c st''=>st''=st'∧∃ l r,c=(none,l,r)∧l≤r∧r≤n∧r - l≤n - x∧(∀ i,i < l→gB left kn (K arr (base + i))=true)∧(∀ i,r≤i→i < n→gB left kn (K arr (base + i))=false))
     (Q:=fun c st''=>st''=st'∧∃ l,c=(none,l,l)∧l≤n∧(∀ i,i < l→gB left kn (K arr (base + i))=true)∧(∀ i,l≤i→i < n→gB left kn (K arr (base + i))=false)) ?step ?fin ⟨rfl,hint + l + 1,hint + min o (n - hint),rfl,g1,g2,by omega,g3,g4⟩) ?post)
    case fin=>
     rintro c st'' ⟨rfl,l,r,rfl,a1,a2,a3,a4,a5⟩
     have:l=r:=by omega
     subst this
     exact ⟨rfl,l,rfl,a2,a4,a5⟩
    case step=>
     rintro x c st'' _ hx ⟨rfl,l,r,rfl,a1,a2,a3,a4,a5⟩
     dsimp only
     by_cases hge:l≥r
     ·rw [if_pos hge]
      have:l=r:=by omega
      subst this
      exact wpS_pure ⟨rfl,l,rfl,a2,a4,a5⟩
     ·rw [if_neg hge]
      refine wpS_bind (hb _ _ (by omega) ?_)
      dsimp only
      cases e:gB left kn (K arr (base + (l + (r - l) / 2))) with
      | true=>
        rw [if_pos rfl]
        exact wpS_pure ⟨rfl,_,_,rfl,by omega,a2,by omega,fun i hi=>up (j:=l + (r - l) / 2) (by omega) (by omega) e,a5⟩
      | false=>
        rw [if_neg (by decide)]
        exact wpS_pure ⟨rfl,_,_,rfl,by omega,by omega,by omega,a4,fun i h1 h2=>dn (i:=l + (r - l) / 2) h1 h2 e⟩
    case post=>
     rintro c st'' ⟨rfl,l,rfl,a2,a4,a5⟩
     exact wpS_pure (h l a2 a4 a5)
 | false=>
   rw [if_neg (by decide)]
   refine wpS_bind (wpS_mono (wpS_forRange (I:=fun x c st'=>st'=st∧∃ l o,c=(none,l,o)∧l < o∧x < o∧l≤hint∧gB left kn (K arr (base + (hint - l)))=false)
    (Q:=fun c st'=>st'=st∧∃ l o,c=(none,l,o)∧l < o∧l≤hint∧gB left kn (K arr (base + (hint - l)))=false∧(hint + 1≤o∨(o≤hint∧gB left kn (K arr (base + (hint - o)))=true))) ?step ?fin ⟨rfl,0,1,rfl,by omega,by omega,by omega,hB⟩) ?post)
   case fin=>
    rintro c st' ⟨rfl,l,o,rfl,a1,a2,a3,a4⟩
    exact ⟨rfl,l,o,rfl,a1,a3,a4,.inl (by omega)⟩
   case step=>
    rintro x c st' _ hx ⟨rfl,l,o,rfl,a1,a2,a3,a4⟩
    dsimp only
    by_cases hge:o≥hint + 1
    ·rw [if_pos hge]
     exact wpS_pure ⟨rfl,l,o,rfl,a1,a3,a4,.inl hge⟩
    ·rw [if_neg hge]
     refine wpS_bind (hb _ _ (by omega) ?_)
     dsimp only
     cases e:gB left kn (K arr (base + (hint - o))) with
     | true=>
       rw [if_pos rfl]
       exact wpS_pure ⟨rfl,l,o,rfl,a1,a3,a4,.inr ⟨by omega,e⟩⟩
     | false=>
       rw [if_neg (by decide)]
       exact wpS_pure ⟨rfl,o,2 * o + 1,rfl,by omega,by omega,by omega,e⟩
   case post=>
    rintro c st' ⟨rfl,l,o,rfl,a1,a3,a4,a5⟩
    dsimp only
    have g1:hint + 1 - min o (hint + 1)≤hint - l:=by omega
    have g2:hint - l≤n:=by omega
    have g3:∀ i,i < hint + 1 - min o (hint + 1)→gB left kn (K arr (base + i))=true:=fun i hi=>by
     rcases a5 with a5 | ⟨a5,a6⟩
     ·omega
     ·exact up (j:=hint - o) (by omega) (by omega) a6
    have g4:∀ i,hint - l≤i→i < n→gB left kn (K arr (base + i))=false:=fun i h1 h2=>dn (i:=hint - l) h1 h2 a4
    refine wpS_bind (wpS_mono (wpS_forRange (I:=fun x c st''=>st''=st'∧∃ l r,c=(none,l,r)∧l≤r∧r≤n∧r - l≤n - x∧(∀ i,i < l→gB left kn (K arr (base + i))=true)∧(∀ i,r≤i→i < n→gB left kn (K arr (base + i))=false))
     (Q:=fun c st''=>st''=st'∧∃ l,c=(none,l,l)∧l≤n∧(∀ i,i < l→gB left kn (K arr (base + i))=true)∧(∀ i,l≤i→i < n→gB left kn (K arr (base + i))=false)) ?step ?fin ⟨rfl,hint + 1 - min o (hint + 1),hint - l,rfl,g1,g2,by omega,g3,g4⟩) ?post)
    case fin=>
     rintro c st'' ⟨rfl,l,r,rfl,a1,a2,a3,a4,a5⟩
     have:l=r:=by omega
     subst this
     exact ⟨rfl,l,rfl,a2,a4,a5⟩
    case step=>
     rintro x c st'' _ hx ⟨rfl,l,r,rfl,a1,a2,a3,a4,a5⟩
     dsimp only
     by_cases hge:l≥r
     ·rw [if_pos hge]
      have:l=r:=by omega
      subst this
      exact wpS_pure ⟨rfl,l,rfl,a2,a4,a5⟩
     ·rw [if_neg hge]
      refine wpS_bind (hb _ _ (by omega) ?_)
      dsimp only
      cases e:gB left kn (K arr (base + (l + (r - l) / 2))) with
      | true=>
        rw [if_pos rfl]
        exact wpS_pure ⟨rfl,_,_,rfl,by omega,a2,by omega,fun i hi=>up (j:=l + (r - l) / 2) (by omega) (by omega) e,a5⟩
      | false=>
        rw [if_neg (by decide)]
        exact wpS_pure ⟨rfl,_,_,rfl,by omega,by omega,by omega,a4,fun i h1 h2=>dn (i:=l + (r - l) / 2) h1 h2 e⟩
    case post=>
     rintro c st'' ⟨rfl,l,rfl,a2,a4,a5⟩
     exact wpS_pure (h l a2 a4 a5)
end
noncomputable abbrev kx (p:Keyed):Int:=numOf p.1
noncomputable abbrev kle (p q:Keyed):Prop:=kx p≤kx q
theorem eC {xs:Array Keyed} {i:Nat} {p:Keyed} (e:xs[i]? =some p):K xs i=kx p:=by unfold K;rw [e]
noncomputable def Gd (a b r:Array Keyed):Prop:=r.toList.Perm (a.toList++b.toList)∧r.toList.Pairwise kle
structure Rn (a b:Array Keyed):Prop where
 ia:IK a
 ib:IK b
 sa:∀ i j,i≤j→j < a.size→K a i≤K a j
 sb:∀ i j,i≤j→j < b.size→K b i≤K b j
 na:0 < a.size
 nb:0 < b.size
 lo:K b 0 < K a 0
 hi:K b (b.size - 1) < K a (a.size - 1)
theorem bf {a:Array Keyed} (h:∀ i j,i≤j→j < a.size→K a i≤K a j):a.toList.Pairwise kle:=by
 refine List.pairwise_iff_getElem.mpr fun i j hi hj hij=>?_
 rw [Array.length_toList] at hi hj
 have:=h i j (by omega) hj
 rw [eC (Array.getElem?_eq_getElem hi),eC (Array.getElem?_eq_getElem hj)] at this
 simpa using this
theorem cu {a:Array Keyed} {i:Nat} {x:Keyed} (h:x∈a.toList.drop i):∃ j,i≤j∧j < a.size∧K a j=kx x:=by
 obtain ⟨k,hk,e⟩:=List.mem_iff_getElem.mp h
 rw [List.length_drop,Array.length_toList] at hk
 rw [List.getElem_drop] at e
 refine ⟨i + k,by omega,by omega,?_⟩
 rw [eC (Array.getElem?_eq_getElem (by omega)),← e]
 simp
theorem lH {a:Array Keyed} {i k:Nat} {x:Keyed} (h:x∈(a.toList.drop i).take k):∃ j,i≤j∧j < i + k∧j < a.size∧K a j=kx x:=by
 obtain ⟨n,hn,e⟩:=List.mem_iff_getElem.mp h
 rw [List.length_take,List.length_drop,Array.length_toList] at hn
 rw [List.getElem_take,List.getElem_drop] at e
 refine ⟨i + n,by omega,by omega,by omega,?_⟩
 rw [eC (Array.getElem?_eq_getElem (by omega)),← e]
 simp
structure Ml (a b out:Array Keyed) (ia ib:Nat):Prop where
 perm:(out.toList++(a.toList.drop ia++b.toList.drop ib)).Perm (a.toList++b.toList)
 so:out.toList.Pairwise kle
 low:∀ x∈out.toList,∀ y∈a.toList.drop ia++b.toList.drop ib,kle x y
theorem cH {l:List Keyed} {i k:Nat}:(l.drop i).take k++l.drop (i + k)=l.drop i:=by
 rw [← List.drop_drop,List.take_append_drop]
theorem Ml.mvA {a b out out':Array Keyed} {ia ib k:Nat} (R:Rn a b) (m:Ml a b out ia ib) (e:out'.toList=out.toList++(a.toList.drop ia).take k) (h:∀ i j,ia≤i→i < ia + k→i < a.size→ib≤j→j < b.size→K a i≤K b j):Ml a b out' (ia + k) ib where
 perm:=by
  rw [e,List.append_assoc,← List.append_assoc (List.take k _),cH]
  exact m.perm
 so:=by
  rw [e]
  refine List.pairwise_append.mpr ⟨m.so,((bf R.sa).sublist (List.drop_sublist _ _)).sublist (List.take_sublist _ _),fun x hx y hy=>m.low x hx y ?_⟩
  exact List.mem_append_left _ (List.mem_of_mem_take hy)
 low:=fun x hx y hy=>by
  rw [e] at hx
  rcases List.mem_append.mp hx with hx | hx
  ·refine m.low x hx y ?_
   rcases List.mem_append.mp hy with hy | hy
   ·rw [← cH (l:=a.toList) (i:=ia) (k:=k)]
    exact List.mem_append_left _ (List.mem_append_right _ hy)
   ·exact List.mem_append_right _ hy
  ·obtain ⟨i,h1,h2,h3,h4⟩:=lH hx
   rcases List.mem_append.mp hy with hy | hy
   ·obtain ⟨j,g1,g2,g3⟩:=cu hy
    show kx x≤kx y
    rw [← h4,← g3]
    exact R.sa i j (by omega) g2
   ·obtain ⟨j,g1,g2,g3⟩:=cu hy
    show kx x≤kx y
    rw [← h4,← g3]
    exact h i j h1 h2 h3 g1 g2
theorem Ml.mvB {a b out out':Array Keyed} {ia ib k:Nat} (R:Rn a b) (m:Ml a b out ia ib) (e:out'.toList=out.toList++(b.toList.drop ib).take k) (h:∀ i j,ia≤i→i < a.size→ib≤j→j < ib + k→j < b.size→K b j≤K a i):Ml a b out' ia (ib + k) where
 perm:=by
  rw [e,List.append_assoc]
  refine List.Perm.trans ?_ m.perm
  refine List.Perm.append_left _ ?_
  rw [← List.append_assoc]
  refine (List.perm_append_comm.append_right _).trans ?_
  rw [List.append_assoc,cH]
 so:=by
  rw [e]
  refine List.pairwise_append.mpr ⟨m.so,((bf R.sb).sublist (List.drop_sublist _ _)).sublist (List.take_sublist _ _),fun x hx y hy=>m.low x hx y ?_⟩
  exact List.mem_append_right _ (List.mem_of_mem_take hy)
 low:=fun x hx y hy=>by
  rw [e] at hx
  rcases List.mem_append.mp hx with hx | hx
  ·refine m.low x hx y ?_
   rcases List.mem_append.mp hy with hy | hy
   ·exact List.mem_append_left _ hy
   ·rw [← cH (l:=b.toList) (i:=ib) (k:=k)]
    exact List.mem_append_right _ (List.mem_append_right _ hy)
  ·obtain ⟨i,h1,h2,h3,h4⟩:=lH hx
   rcases List.mem_append.mp hy with hy | hy
   ·obtain ⟨j,g1,g2,g3⟩:=cu hy
    show kx x≤kx y
    rw [← h4,← g3]
    exact h j i g1 g2 h1 h2 h3
   ·obtain ⟨j,g1,g2,g3⟩:=cu hy
    show kx x≤kx y
    rw [← h4,← g3]
    exact R.sb i j (by omega) g2
theorem r9 {a:Array Keyed} {i:Nat} {x:Keyed} (e:a[i]? =some x):(a.toList.drop i).take 1=[x]:=by
 obtain ⟨h,e⟩:=Array.getElem?_eq_some_iff.mp e
 rw [List.drop_eq_getElem_cons (by rw [Array.length_toList];exact h),List.take_succ_cons,List.take_zero]
 simpa using e
theorem Ml.pushA {a b out:Array Keyed} {ia ib:Nat} {x:Keyed} (R:Rn a b) (m:Ml a b out ia ib) (e:a[ia]? =some x) (h:∀ j,ib≤j→j < b.size→K a ia≤K b j):Ml a b (out.push x) (ia + 1) ib:=
 m.mvA R (k:=1) (by rw [Array.toList_push,r9 e]) fun i j h1 h2 _ h3 h4=>by
  have:i=ia:=by omega
  rw [this];exact h j h3 h4
theorem Ml.pushB {a b out:Array Keyed} {ia ib:Nat} {x:Keyed} (R:Rn a b) (m:Ml a b out ia ib) (e:b[ib]? =some x) (h:∀ i,ia≤i→i < a.size→K b ib≤K a i):Ml a b (out.push x) ia (ib + 1):=
 m.mvB R (k:=1) (by rw [Array.toList_push,r9 e]) fun i j h1 h2 h3 h4 _=>by
  have:j=ib:=by omega
  rw [this];exact h i h1 h2
theorem gv (a:Array Keyed) (i k:Nat):(a.extract i (i + k)).toList=(a.toList.drop i).take k:=by
 rw [Array.toList_extract,List.extract_eq_take_drop,Nat.add_sub_cancel_left]
theorem cw (a:Array Keyed) (i:Nat):(a.extract i).toList=a.toList.drop i:=by
 rw [Array.toList_extract,List.extract_eq_take_drop]
 exact List.take_of_length_le (by rw [List.length_drop,Array.length_toList];omega)
theorem Ml.appA {a b out:Array Keyed} {ia ib k:Nat} (R:Rn a b) (m:Ml a b out ia ib) (h:∀ i j,ia≤i→i < ia + k→i < a.size→ib≤j→j < b.size→K a i≤K b j):Ml a b (out++a.extract ia (ia + k)) (ia + k) ib:=
 m.mvA R (by rw [Array.toList_append,gv]) h
theorem Ml.appB {a b out:Array Keyed} {ia ib k:Nat} (R:Rn a b) (m:Ml a b out ia ib) (h:∀ i j,ia≤i→i < a.size→ib≤j→j < ib + k→j < b.size→K b j≤K a i):Ml a b (out++b.extract ib (ib + k)) ia (ib + k):=
 m.mvB R (by rw [Array.toList_append,gv]) h
theorem Ml.done {a b out:Array Keyed} {ia ib:Nat} (R:Rn a b) (m:Ml a b out ia ib) (h:ib=b.size∨ia=a.size):Gd a b (out++a.extract ia++b.extract ib):=by
 refine ⟨?_,?_⟩
 ·rw [Array.toList_append,Array.toList_append,cw,cw,List.append_assoc];exact m.perm
 ·rw [Array.toList_append,Array.toList_append,cw,cw,List.append_assoc]
  refine List.pairwise_append.mpr ⟨m.so,?_,m.low⟩
  rcases h with h | h
  ·rw [h,← Array.length_toList,List.drop_length,List.append_nil]
   exact (bf R.sa).sublist (List.drop_sublist _ _)
  ·rw [h,← Array.length_toList,List.drop_length,List.nil_append]
   exact (bf R.sb).sublist (List.drop_sublist _ _)
theorem Ml.last {a b out:Array Keyed} {ia ib:Nat} (R:Rn a b) (m:Ml a b out ia ib) (h:ia + 1=a.size):Gd a b (out++b.extract ib++a.extract ia):=by
 refine ⟨?_,?_⟩
 ·rw [Array.toList_append,Array.toList_append,cw,cw,List.append_assoc]
  exact (List.Perm.append_left _ List.perm_append_comm).trans m.perm
 ·rw [Array.toList_append,Array.toList_append,cw,cw,List.append_assoc]
  refine List.pairwise_append.mpr ⟨m.so,List.pairwise_append.mpr ⟨(bf R.sb).sublist (List.drop_sublist _ _),(bf R.sa).sublist (List.drop_sublist _ _),fun x hx y hy=>?_⟩,fun x hx y hy=>m.low x hx y ?_⟩
  ·obtain ⟨j,g1,g2,g3⟩:=cu hx
   obtain ⟨i,f1,f2,f3⟩:=cu hy
   have hi:=R.hi
   have h1:=R.sb j (b.size - 1) (by omega) (by omega)
   have:i=a.size - 1:=by omega
   rw [this] at f3
   show kx x≤kx y
   omega
  ·rcases List.mem_append.mp hy with hy | hy
   ·exact List.mem_append_right _ hy
   ·exact List.mem_append_left _ hy
theorem Ml.start {a b:Array Keyed} {x:Keyed} (R:Rn a b) (e:b[0]? =some x):Ml a b #[x] 0 1:=by
 have m:Ml a b #[] 0 0:=⟨by simp,by simp,fun _ h=>by simp at h⟩
 exact m.pushB R e fun i _ hi=>by
  have:=R.lo
  have:=R.sa 0 i (by omega) hi
  omega
noncomputable def mlo:Array Keyed→Array Keyed→StateT SortSt Sem (Array Keyed):=sortPriv% PySem.Builtin.mergeLo
noncomputable def smg:Nat→StateT SortSt Sem Unit:=sortPriv% PySem.Builtin.setMinGallop
local macro_rules | `(tactic| walk_at "umlo") =>do let n:=Lean.mkIdent (Lean.mkPrivateNameCore `PySem.Builtin.List.W1All `PySem.Builtin.mergeLo);`(tactic| unfold $n)
structure Sg (st st':SortSt):Prop where
 k:kindOf st'=kindOf st
 a:arrOf st'=arrOf st
 p:pendingOf st'=pendingOf st
 f:failedOf st'=failedOf st
theorem Sg.refl (st:SortSt):Sg st st:=⟨rfl,rfl,rfl,rfl⟩
section
variable {prog:Program} {w:World} {A:Around} {E:Value→Shared→Prop} {s:Shared}
theorem lR {st st0:SortSt} {g:Nat} {Q:Unit→SortSt→Prop} (sg:Sg st0 st) (h:∀ st',Sg st0 st'→Q () st'):wpS (model prog w) A E s (smg g) Q st:=by
 show wpS (model prog w) A E s (modify fun s=>SortSt.mk' (kindOf s) (arrOf s) (pendingOf s) g (failedOf s)) Q st
 exact wpS_modify (h _ ⟨sg.k,sg.a,sg.p,sg.f⟩)
structure Wl (a b out:Array Keyed) (ia ib x:Nat) (st0 st:SortSt):Prop where
 m:Ml a b out ia ib
 la:ia + 1 < a.size
 lb:ib < b.size
 x:x≤ia + ib
 sg:Sg st0 st
theorem uz {st0:SortSt} {a b:Array Keyed} {Q:Array Keyed→SortSt→Prop} (R:Rn a b) (hk:kindOf st0=oneType') (h:∀ r st',Sg st0 st'→Gd a b r→Q r st'):wpS (model prog w) A E s (mlo a b) Q st0:=by
 have na:=R.na
 have nb:=R.nb
 unfold mlo
 walk_at "umlo"
 dsimp only
 refine wpS_bind (wpS_lift (wpAny_rule ⟨rfl,?_⟩))
 obtain ⟨p0,t0,e0,_⟩:=R.ib.get (i:=0) nb
 refine wpS_bind (au e0 ?_)
 have m0:=Ml.start R e0
 by_cases h1:b.size=1
 ·rw [if_pos (by rw [h1];rfl)]
  exact wpS_pure (h _ _ (Sg.refl _) (m0.done R (.inl h1.symm)))
 rw [if_neg (by simpa using fun z=>h1 z.symm)]
 by_cases h2:a.size=1
 ·rw [if_pos (by rw [h2];rfl)]
  exact wpS_pure (h _ _ (Sg.refl _) (m0.last R (by omega)))
 rw [if_neg (by simpa using fun z=>h2 z.symm)]
 refine wpS_bind (wpS_get ?_)
 refine wpS_bind (wpS_mono (wpS_forRange (I:=fun x c st=>∃ out ia ib mg,c=(none,out,ia,ib,mg)∧Wl a b out ia ib (x + 1) st0 st)
  (Q:=fun c st=>∃ r y,c=(some r,y)∧Gd a b r∧Sg st0 st) ?step ?fin ⟨_,_,_,_,rfl,m0,by omega,by omega,by omega,Sg.refl _⟩) ?post)
 case post=>
  rintro c st ⟨r,y,rfl,g,sg⟩
  exact wpS_pure (h r st sg g)
 case fin=>
  rintro c st ⟨out,ia,ib,mg,rfl,W⟩
  have:=W.la
  have:=W.lb
  have:=W.x
  omega
 case step=>
  rintro x c st _ hx ⟨out,ia,ib,mg,rfl,W⟩
  dsimp only
  refine wpS_bind (wpS_mono (wpS_forRange (I:=fun y c st=>∃ out ia ib ac bc,c=(none,out,ia,ib,ac,bc)∧Wl a b out ia ib (x + 1 + y) st0 st)
   (Q:=fun c st=>(∃ r y,c=(some r,y)∧Gd a b r∧Sg st0 st)∨∃ out ia ib ac bc,c=(none,out,ia,ib,ac,bc)∧Wl a b out ia ib (x + 2) st0 st) ?step1 ?fin1 ⟨_,_,_,_,_,rfl,W⟩) ?post1)
  case fin1=>
   rintro c st ⟨out,ia,ib,ac,bc,rfl,W⟩
   have:=W.la
   have:=W.lb
   have:=W.x
   omega
  case step1=>
   rintro y c st _ hy ⟨out,ia,ib,ac,bc,rfl,W⟩
   have la:=W.la
   have lb:=W.lb
   have wx:=W.x
   have sg:=W.sg
   dsimp only
   obtain ⟨pb,tb,eb,nb'⟩:=R.ib.get lb
   obtain ⟨pa,ta,ea,na'⟩:=R.ia.get (i:=ia) (by omega)
   refine wpS_bind (au eb (wpS_bind (au ea (wpS_bind (w_lt (sg.k.trans hk) nb' na' ?_)))))
   dsimp only
   by_cases hlt:K b ib < K a ia
   ·rw [decide_eq_true hlt,if_pos rfl]
    refine wpS_bind (au eb ?_)
    have m1:=W.m.pushB R eb fun i h1 h2=>by have:=R.sa ia i h1 h2;omega
    by_cases hz:ib + 1=b.size
    ·rw [if_pos (by simpa using hz)]
     exact wpS_pure (.inl ⟨_,_,rfl,m1.done R (.inl hz),sg⟩)
    ·rw [if_neg (by simpa using hz)]
     split
     ·exact wpS_pure (.inr ⟨_,_,_,_,_,rfl,m1,la,by omega,by omega,sg⟩)
     ·exact wpS_pure ⟨_,_,_,_,_,rfl,m1,la,by omega,by omega,sg⟩
   ·rw [decide_eq_false hlt,if_neg (by decide)]
    refine wpS_bind (au ea ?_)
    have m1:=W.m.pushA R ea fun j h1 h2=>by have:=R.sb ib j h1 h2;omega
    by_cases hz:ia + 1 + 1=a.size
    ·rw [if_pos (by simpa using hz)]
     exact wpS_pure (.inl ⟨_,_,rfl,m1.last R hz,sg⟩)
    ·rw [if_neg (by simpa using hz)]
     split
     ·exact wpS_pure (.inr ⟨_,_,_,_,_,rfl,m1,by omega,lb,by omega,sg⟩)
     ·exact wpS_pure ⟨_,_,_,_,_,rfl,m1,by omega,lb,by omega,sg⟩
  case post1=>
   clear W
   rintro c st (⟨r,y,rfl,g,sg⟩ | ⟨out,ia,ib,ac,bc,rfl,W⟩)
   ·exact wpS_pure ⟨_,_,rfl,g,sg⟩
   dsimp only
   refine wpS_bind (wpS_lift (wpAny_rule ⟨rfl,?_⟩))
   refine wpS_bind (wpS_mono (wpS_forRange (I:=fun y c st=>∃ out ia ib mg ac bc,c=(none,out,ia,ib,mg,ac,bc)∧Wl a b out ia ib (x + 2 + y) st0 st)
    (Q:=fun c st=>(∃ r y,c=(some r,y)∧Gd a b r∧Sg st0 st)∨∃ out ia ib mg ac bc,c=(none,out,ia,ib,mg,ac,bc)∧Wl a b out ia ib (x + 2) st0 st) ?step2 ?fin2 ⟨_,_,_,_,_,_,rfl,W⟩) ?post2)
   case fin2=>
    rintro c st ⟨out,ia,ib,mg,ac,bc,rfl,W⟩
    have:=W.la
    have:=W.lb
    have:=W.x
    omega
   case post2=>
    rintro c st (⟨r,y,rfl,g,sg⟩ | ⟨out,ia,ib,mg,ac,bc,rfl,W⟩)
    ·exact wpS_pure ⟨_,_,rfl,g,sg⟩
    ·dsimp only
     exact wpS_bind (lR W.sg fun st' sg=>wpS_pure ⟨_,_,_,_,rfl,W.m,W.la,W.lb,W.x,sg⟩)
   case step2=>
    clear W
    rintro y c st _ hy ⟨out,ia,ib,mg,ac,bc,rfl,W⟩
    have la:=W.la
    have lb:=W.lb
    have wx:=W.x
    have m:=W.m
    obtain ⟨pb,tb,eb,nb'⟩:=R.ib.get lb
    dsimp only
    by_cases hmg:mg > 1
    ·rw [if_pos hmg]
     refine wpS_bind (lR W.sg fun st2 sg=>?_)
     refine wpS_bind (au eb ?_)
     refine wpS_bind (dP (sg.k.trans hk) R.ia nb' (by omega) (by omega) (fun i j h1 h2=>R.sa _ _ (by omega) (by omega)) fun k hk1 hk2 hk3=>?_)
     dsimp only
     have le1:∀ i j,ia≤i→i < ia + k→i < a.size→ib≤j→j < b.size→K a i≤K b j:=fun i j h1 h2 h3 h4 h5=>by
      have:=hk2 (i - ia) (by omega)
      unfold gB at this
      simp only [Bool.false_eq_true,if_false,Bool.not_eq_true',decide_eq_false_iff_not,show ia + (i - ia)=i by omega] at this
      have:=R.sb ib j h4 h5
      omega
     have gt1:∀ i,ia + k≤i→i < a.size→K b ib≤K a i:=fun i h1 h2=>by
      have:=hk3 (i - ia) (by omega) (by omega)
      unfold gB at this
      simp only [Bool.false_eq_true,if_false,Bool.not_eq_false',decide_eq_true_eq,show ia + (i - ia)=i by omega] at this
      omega
     have m1:=m.appA R le1
     clear le1 hk2 hk3
     by_cases hk0:k > 0
     ·rw [if_pos hk0]
      by_cases hz:ia + k + 1=a.size
      ·rw [if_pos (by simpa using hz)]
       exact wpS_pure (.inl ⟨_,_,rfl,m1.last R hz,sg⟩)
      rw [if_neg (by simpa using hz)]
      by_cases hz2:ia + k=a.size
      ·rw [if_pos (by simpa using hz2)]
       exact wpS_pure (.inl ⟨_,_,rfl,m1.done R (.inr hz2),sg⟩)
      rw [if_neg (by simpa using hz2)]
      have la1:ia + k + 1 < a.size:=by omega
      have wx1:x + 2 + y≤ia + k + ib:=by omega
      clear hz hz2 hk0 hk1 la wx m W
      generalize out++a.extract ia (ia + k)=out1 at m1
      generalize ia + k=ia1 at m1 la1 wx1 gt1
      refine wpS_bind (au eb ?_)
      have m2:=m1.pushB R eb fun i h1 h2=>gt1 i h1 h2
      by_cases hz:ib + 1=b.size
      ·rw [if_pos (by simpa using hz)]
       exact wpS_pure (.inl ⟨_,_,rfl,m2.done R (.inl hz),sg⟩)
      rw [if_neg (by simpa using hz)]
      obtain ⟨pa,ta,ea,na'⟩:=R.ia.get (i:=ia1) (by omega)
      refine wpS_bind (au ea ?_)
      refine wpS_bind (dP (sg.k.trans hk) R.ib na' (by omega) (by omega) (fun i j h1 h2=>R.sb _ _ (by omega) (by omega)) fun k2 hk1 hk2 hk3=>?_)
      dsimp only
      have le2:∀ i j,ia1≤i→i < a.size→ib + 1≤j→j < ib + 1 + k2→j < b.size→K b j≤K a i:=fun i j h1 h2 h3 h4 h5=>by
       have:=hk2 (j - (ib + 1)) (by omega)
       unfold gB at this
       simp only [if_true,decide_eq_true_eq,show ib + 1 + (j - (ib + 1))=j by omega] at this
       have:=R.sa ia1 i h1 h2
       omega
      have gt2:∀ j,ib + 1 + k2≤j→j < b.size→K a ia1≤K b j:=fun j h1 h2=>by
       have:=hk3 (j - (ib + 1)) (by omega) (by omega)
       unfold gB at this
       simp only [if_true,decide_eq_false_iff_not,show ib + 1 + (j - (ib + 1))=j by omega] at this
       omega
      have m3:=m2.appB R le2
      by_cases hk20:k2 > 0
      ·rw [if_pos hk20]
       by_cases hz2:ib + 1 + k2=b.size
       ·rw [if_pos (by simpa using hz2)]
        exact wpS_pure (.inl ⟨_,_,rfl,m3.done R (.inl hz2),sg⟩)
       rw [if_neg (by simpa using hz2)]
       refine wpS_bind (au ea ?_)
       have m4:=m3.pushA R ea gt2
       by_cases hz3:ia1 + 1 + 1=a.size
       ·rw [if_pos (by simpa using hz3)]
        exact wpS_pure (.inl ⟨_,_,rfl,m4.last R hz3,sg⟩)
       rw [if_neg (by simpa using hz3)]
       by_cases hz4:(decide (k < 7)&&decide (k2 < 7))=true
       ·rw [if_pos hz4]
        exact wpS_pure (.inr ⟨_,_,_,_,_,_,rfl,m4,by omega,by omega,by omega,sg⟩)
       ·rw [if_neg hz4]
        exact wpS_pure ⟨_,_,_,_,_,_,rfl,m4,by omega,by omega,by omega,sg⟩
      ·rw [if_neg hk20]
       have k20:k2=0:=by omega
       refine wpS_bind (au ea ?_)
       have m4:=m2.pushA R ea fun j h1 h2=>gt2 j (by omega) h2
       by_cases hz3:ia1 + 1 + 1=a.size
       ·rw [if_pos (by simpa using hz3)]
        exact wpS_pure (.inl ⟨_,_,rfl,m4.last R hz3,sg⟩)
       rw [if_neg (by simpa using hz3)]
       by_cases hz4:(decide (k < 7)&&decide (k2 < 7))=true
       ·rw [if_pos hz4]
        exact wpS_pure (.inr ⟨_,_,_,_,_,_,rfl,m4,by omega,by omega,by omega,sg⟩)
       ·rw [if_neg hz4]
        exact wpS_pure ⟨_,_,_,_,_,_,rfl,m4,by omega,by omega,by omega,sg⟩
     ·rw [if_neg hk0]
      have k0:k=0:=by omega
      have la1:=la
      have wx1:=wx
      have m1:=m
      have gt1:∀ i,ia≤i→i < a.size→K b ib≤K a i:=fun i h1 h2=>gt1 i (by omega) h2
      refine wpS_bind (au eb ?_)
      have m2:=m1.pushB R eb fun i h1 h2=>gt1 i h1 h2
      by_cases hz:ib + 1=b.size
      ·rw [if_pos (by simpa using hz)]
       exact wpS_pure (.inl ⟨_,_,rfl,m2.done R (.inl hz),sg⟩)
      rw [if_neg (by simpa using hz)]
      obtain ⟨pa,ta,ea,na'⟩:=R.ia.get (i:=ia) (by omega)
      refine wpS_bind (au ea ?_)
      refine wpS_bind (dP (sg.k.trans hk) R.ib na' (by omega) (by omega) (fun i j h1 h2=>R.sb _ _ (by omega) (by omega)) fun k2 hk1 hk2 hk3=>?_)
      dsimp only
      have le2:∀ i j,ia≤i→i < a.size→ib + 1≤j→j < ib + 1 + k2→j < b.size→K b j≤K a i:=fun i j h1 h2 h3 h4 h5=>by
       have:=hk2 (j - (ib + 1)) (by omega)
       unfold gB at this
       simp only [if_true,decide_eq_true_eq,show ib + 1 + (j - (ib + 1))=j by omega] at this
       have:=R.sa ia i h1 h2
       omega
      have gt2:∀ j,ib + 1 + k2≤j→j < b.size→K a ia≤K b j:=fun j h1 h2=>by
       have:=hk3 (j - (ib + 1)) (by omega) (by omega)
       unfold gB at this
       simp only [if_true,decide_eq_false_iff_not,show ib + 1 + (j - (ib + 1))=j by omega] at this
       omega
      have m3:=m2.appB R le2
      by_cases hk20:k2 > 0
      ·rw [if_pos hk20]
       by_cases hz2:ib + 1 + k2=b.size
       ·rw [if_pos (by simpa using hz2)]
        exact wpS_pure (.inl ⟨_,_,rfl,m3.done R (.inl hz2),sg⟩)
       rw [if_neg (by simpa using hz2)]
       refine wpS_bind (au ea ?_)
       have m4:=m3.pushA R ea gt2
       by_cases hz3:ia + 1 + 1=a.size
       ·rw [if_pos (by simpa using hz3)]
        exact wpS_pure (.inl ⟨_,_,rfl,m4.last R hz3,sg⟩)
       rw [if_neg (by simpa using hz3)]
       by_cases hz4:(decide (k < 7)&&decide (k2 < 7))=true
       ·rw [if_pos hz4]
        exact wpS_pure (.inr ⟨_,_,_,_,_,_,rfl,m4,by omega,by omega,by omega,sg⟩)
       ·rw [if_neg hz4]
        exact wpS_pure ⟨_,_,_,_,_,_,rfl,m4,by omega,by omega,by omega,sg⟩
      ·rw [if_neg hk20]
       have k20:k2=0:=by omega
       refine wpS_bind (au ea ?_)
       have m4:=m2.pushA R ea fun j h1 h2=>gt2 j (by omega) h2
       by_cases hz3:ia + 1 + 1=a.size
       ·rw [if_pos (by simpa using hz3)]
        exact wpS_pure (.inl ⟨_,_,rfl,m4.last R hz3,sg⟩)
       rw [if_neg (by simpa using hz3)]
       by_cases hz4:(decide (k < 7)&&decide (k2 < 7))=true
       ·rw [if_pos hz4]
        exact wpS_pure (.inr ⟨_,_,_,_,_,_,rfl,m4,by omega,by omega,by omega,sg⟩)
       ·rw [if_neg hz4]
        exact wpS_pure ⟨_,_,_,_,_,_,rfl,m4,by omega,by omega,by omega,sg⟩
    ·rw [if_neg hmg]
     refine wpS_bind (lR W.sg fun st2 sg=>?_)
     refine wpS_bind (au eb ?_)
     refine wpS_bind (dP (sg.k.trans hk) R.ia nb' (by omega) (by omega) (fun i j h1 h2=>R.sa _ _ (by omega) (by omega)) fun k hk1 hk2 hk3=>?_)
     dsimp only
     have le1:∀ i j,ia≤i→i < ia + k→i < a.size→ib≤j→j < b.size→K a i≤K b j:=fun i j h1 h2 h3 h4 h5=>by
      have:=hk2 (i - ia) (by omega)
      unfold gB at this
      simp only [Bool.false_eq_true,if_false,Bool.not_eq_true',decide_eq_false_iff_not,show ia + (i - ia)=i by omega] at this
      have:=R.sb ib j h4 h5
      omega
     have gt1:∀ i,ia + k≤i→i < a.size→K b ib≤K a i:=fun i h1 h2=>by
      have:=hk3 (i - ia) (by omega) (by omega)
      unfold gB at this
      simp only [Bool.false_eq_true,if_false,Bool.not_eq_false',decide_eq_true_eq,show ia + (i - ia)=i by omega] at this
      omega
     have m1:=m.appA R le1
     clear le1 hk2 hk3
     by_cases hk0:k > 0
     ·rw [if_pos hk0]
      by_cases hz:ia + k + 1=a.size
      ·rw [if_pos (by simpa using hz)]
       exact wpS_pure (.inl ⟨_,_,rfl,m1.last R hz,sg⟩)
      rw [if_neg (by simpa using hz)]
      by_cases hz2:ia + k=a.size
      ·rw [if_pos (by simpa using hz2)]
       exact wpS_pure (.inl ⟨_,_,rfl,m1.done R (.inr hz2),sg⟩)
      rw [if_neg (by simpa using hz2)]
      have la1:ia + k + 1 < a.size:=by omega
      have wx1:x + 2 + y≤ia + k + ib:=by omega
      clear hz hz2 hk0 hk1 la wx m W
      generalize out++a.extract ia (ia + k)=out1 at m1
      generalize ia + k=ia1 at m1 la1 wx1 gt1
      refine wpS_bind (au eb ?_)
      have m2:=m1.pushB R eb fun i h1 h2=>gt1 i h1 h2
      by_cases hz:ib + 1=b.size
      ·rw [if_pos (by simpa using hz)]
       exact wpS_pure (.inl ⟨_,_,rfl,m2.done R (.inl hz),sg⟩)
      rw [if_neg (by simpa using hz)]
      obtain ⟨pa,ta,ea,na'⟩:=R.ia.get (i:=ia1) (by omega)
      refine wpS_bind (au ea ?_)
      refine wpS_bind (dP (sg.k.trans hk) R.ib na' (by omega) (by omega) (fun i j h1 h2=>R.sb _ _ (by omega) (by omega)) fun k2 hk1 hk2 hk3=>?_)
      dsimp only
      have le2:∀ i j,ia1≤i→i < a.size→ib + 1≤j→j < ib + 1 + k2→j < b.size→K b j≤K a i:=fun i j h1 h2 h3 h4 h5=>by
       have:=hk2 (j - (ib + 1)) (by omega)
       unfold gB at this
       simp only [if_true,decide_eq_true_eq,show ib + 1 + (j - (ib + 1))=j by omega] at this
       have:=R.sa ia1 i h1 h2
       omega
      have gt2:∀ j,ib + 1 + k2≤j→j < b.size→K a ia1≤K b j:=fun j h1 h2=>by
       have:=hk3 (j - (ib + 1)) (by omega) (by omega)
       unfold gB at this
       simp only [if_true,decide_eq_false_iff_not,show ib + 1 + (j - (ib + 1))=j by omega] at this
       omega
      have m3:=m2.appB R le2
      by_cases hk20:k2 > 0
      ·rw [if_pos hk20]
       by_cases hz2:ib + 1 + k2=b.size
       ·rw [if_pos (by simpa using hz2)]
        exact wpS_pure (.inl ⟨_,_,rfl,m3.done R (.inl hz2),sg⟩)
       rw [if_neg (by simpa using hz2)]
       refine wpS_bind (au ea ?_)
       have m4:=m3.pushA R ea gt2
       by_cases hz3:ia1 + 1 + 1=a.size
       ·rw [if_pos (by simpa using hz3)]
        exact wpS_pure (.inl ⟨_,_,rfl,m4.last R hz3,sg⟩)
       rw [if_neg (by simpa using hz3)]
       by_cases hz4:(decide (k < 7)&&decide (k2 < 7))=true
       ·rw [if_pos hz4]
        exact wpS_pure (.inr ⟨_,_,_,_,_,_,rfl,m4,by omega,by omega,by omega,sg⟩)
       ·rw [if_neg hz4]
        exact wpS_pure ⟨_,_,_,_,_,_,rfl,m4,by omega,by omega,by omega,sg⟩
      ·rw [if_neg hk20]
       have k20:k2=0:=by omega
       refine wpS_bind (au ea ?_)
       have m4:=m2.pushA R ea fun j h1 h2=>gt2 j (by omega) h2
       by_cases hz3:ia1 + 1 + 1=a.size
       ·rw [if_pos (by simpa using hz3)]
        exact wpS_pure (.inl ⟨_,_,rfl,m4.last R hz3,sg⟩)
       rw [if_neg (by simpa using hz3)]
       by_cases hz4:(decide (k < 7)&&decide (k2 < 7))=true
       ·rw [if_pos hz4]
        exact wpS_pure (.inr ⟨_,_,_,_,_,_,rfl,m4,by omega,by omega,by omega,sg⟩)
       ·rw [if_neg hz4]
        exact wpS_pure ⟨_,_,_,_,_,_,rfl,m4,by omega,by omega,by omega,sg⟩
     ·rw [if_neg hk0]
      have k0:k=0:=by omega
      have la1:=la
      have wx1:=wx
      have m1:=m
      have gt1:∀ i,ia≤i→i < a.size→K b ib≤K a i:=fun i h1 h2=>gt1 i (by omega) h2
      refine wpS_bind (au eb ?_)
      have m2:=m1.pushB R eb fun i h1 h2=>gt1 i h1 h2
      by_cases hz:ib + 1=b.size
      ·rw [if_pos (by simpa using hz)]
       exact wpS_pure (.inl ⟨_,_,rfl,m2.done R (.inl hz),sg⟩)
      rw [if_neg (by simpa using hz)]
      obtain ⟨pa,ta,ea,na'⟩:=R.ia.get (i:=ia) (by omega)
      refine wpS_bind (au ea ?_)
      refine wpS_bind (dP (sg.k.trans hk) R.ib na' (by omega) (by omega) (fun i j h1 h2=>R.sb _ _ (by omega) (by omega)) fun k2 hk1 hk2 hk3=>?_)
      dsimp only
      have le2:∀ i j,ia≤i→i < a.size→ib + 1≤j→j < ib + 1 + k2→j < b.size→K b j≤K a i:=fun i j h1 h2 h3 h4 h5=>by
       have:=hk2 (j - (ib + 1)) (by omega)
       unfold gB at this
       simp only [if_true,decide_eq_true_eq,show ib + 1 + (j - (ib + 1))=j by omega] at this
       have:=R.sa ia i h1 h2
       omega
      have gt2:∀ j,ib + 1 + k2≤j→j < b.size→K a ia≤K b j:=fun j h1 h2=>by
       have:=hk3 (j - (ib + 1)) (by omega) (by omega)
       unfold gB at this
       simp only [if_true,decide_eq_false_iff_not,show ib + 1 + (j - (ib + 1))=j by omega] at this
       omega
      have m3:=m2.appB R le2
      by_cases hk20:k2 > 0
      ·rw [if_pos hk20]
       by_cases hz2:ib + 1 + k2=b.size
       ·rw [if_pos (by simpa using hz2)]
        exact wpS_pure (.inl ⟨_,_,rfl,m3.done R (.inl hz2),sg⟩)
       rw [if_neg (by simpa using hz2)]
       refine wpS_bind (au ea ?_)
       have m4:=m3.pushA R ea gt2
       by_cases hz3:ia + 1 + 1=a.size
       ·rw [if_pos (by simpa using hz3)]
        exact wpS_pure (.inl ⟨_,_,rfl,m4.last R hz3,sg⟩)
       rw [if_neg (by simpa using hz3)]
       by_cases hz4:(decide (k < 7)&&decide (k2 < 7))=true
       ·rw [if_pos hz4]
        exact wpS_pure (.inr ⟨_,_,_,_,_,_,rfl,m4,by omega,by omega,by omega,sg⟩)
       ·rw [if_neg hz4]
        exact wpS_pure ⟨_,_,_,_,_,_,rfl,m4,by omega,by omega,by omega,sg⟩
      ·rw [if_neg hk20]
       have k20:k2=0:=by omega
       refine wpS_bind (au ea ?_)
       have m4:=m2.pushA R ea fun j h1 h2=>gt2 j (by omega) h2
       by_cases hz3:ia + 1 + 1=a.size
       ·rw [if_pos (by simpa using hz3)]
        exact wpS_pure (.inl ⟨_,_,rfl,m4.last R hz3,sg⟩)
       rw [if_neg (by simpa using hz3)]
       by_cases hz4:(decide (k < 7)&&decide (k2 < 7))=true
       ·rw [if_pos hz4]
        exact wpS_pure (.inr ⟨_,_,_,_,_,_,rfl,m4,by omega,by omega,by omega,sg⟩)
       ·rw [if_neg hz4]
        exact wpS_pure ⟨_,_,_,_,_,_,rfl,m4,by omega,by omega,by omega,sg⟩
end
theorem cQ {a:Array Keyed} {n:Nat} {x:Keyed} (h:x∈a.toList.take n):∃ j,j < n∧j < a.size∧K a j=kx x:=by
 obtain ⟨k,hk,e⟩:=List.mem_iff_getElem.mp h
 rw [List.length_take,Array.length_toList] at hk
 rw [List.getElem_take] at e
 refine ⟨k,by omega,by omega,?_⟩
 rw [eC (Array.getElem?_eq_getElem (by omega)),← e]
 simp
structure Mh (a b out:Array Keyed) (na nb:Nat):Prop where
 perm:((a.toList.take na++b.toList.take nb)++out.toList.reverse).Perm (a.toList++b.toList)
 so:out.toList.reverse.Pairwise kle
 top:∀ x∈a.toList.take na++b.toList.take nb,∀ y∈out.toList,kle x y
theorem dQ {l:List Keyed} {i n:Nat} (h:i≤n):l.take i++(l.take n).drop i=l.take n:=by
 rw [show l.take i=(l.take n).take i by rw [List.take_take,Nat.min_eq_left h],List.take_append_drop]
theorem iY {a:Array Keyed} {i n:Nat} {x:Keyed} (h:x∈(a.toList.take n).drop i):∃ j,i≤j∧j < n∧j < a.size∧K a j=kx x:=by
 obtain ⟨k,hk,e⟩:=List.mem_iff_getElem.mp h
 rw [List.length_drop,List.length_take,Array.length_toList] at hk
 rw [List.getElem_drop,List.getElem_take] at e
 refine ⟨i + k,by omega,by omega,by omega,?_⟩
 rw [eC (Array.getElem?_eq_getElem (by omega)),← e]
 simp
theorem Mh.mvA {a b out out':Array Keyed} {n na nb:Nat} (R:Rn a b) (m:Mh a b out na nb) (hn:n≤na) (e:out'.toList.reverse=(a.toList.take na).drop n++out.toList.reverse) (h:∀ i j,n≤i→i < na→i < a.size→j < nb→j < b.size→K b j≤K a i):Mh a b out' n nb where
 perm:=by
  rw [e]
  refine List.Perm.trans ?_ m.perm
  rw [← List.append_assoc]
  refine List.Perm.append_right _ ?_
  rw [List.append_assoc]
  refine (List.Perm.append_left _ List.perm_append_comm).trans ?_
  rw [← List.append_assoc,dQ hn]
 so:=by
  rw [e]
  refine List.pairwise_append.mpr ⟨((bf R.sa).sublist (List.take_sublist _ _)).sublist (List.drop_sublist _ _),m.so,fun x hx y hy=>m.top x ?_ y (List.mem_reverse.mp hy)⟩
  exact List.mem_append_left _ (List.mem_of_mem_drop hx)
 top:=fun x hx y hy=>by
  rw [← List.mem_reverse,e] at hy
  rcases List.mem_append.mp hy with hy | hy
  ·obtain ⟨i,h1,h2,h3,h4⟩:=iY hy
   rcases List.mem_append.mp hx with hx | hx
   ·obtain ⟨j,g1,g2,g3⟩:=cQ hx
    show kx x≤kx y
    rw [← h4,← g3]
    exact R.sa j i (by omega) h3
   ·obtain ⟨j,g1,g2,g3⟩:=cQ hx
    show kx x≤kx y
    rw [← h4,← g3]
    exact h i j h1 h2 h3 g1 g2
  ·refine m.top x ?_ y (List.mem_reverse.mp hy)
   rcases List.mem_append.mp hx with hx | hx
   ·rw [← dQ (l:=a.toList) hn]
    exact List.mem_append_left _ (List.mem_append_left _ hx)
   ·exact List.mem_append_right _ hx
theorem Mh.mvB {a b out out':Array Keyed} {n na nb:Nat} (R:Rn a b) (m:Mh a b out na nb) (hn:n≤nb) (e:out'.toList.reverse=(b.toList.take nb).drop n++out.toList.reverse) (h:∀ i j,i < na→i < a.size→n≤j→j < nb→j < b.size→K a i≤K b j):Mh a b out' na n where
 perm:=by
  rw [e]
  refine List.Perm.trans ?_ m.perm
  rw [← List.append_assoc]
  refine List.Perm.append_right _ ?_
  rw [List.append_assoc,dQ hn]
 so:=by
  rw [e]
  refine List.pairwise_append.mpr ⟨((bf R.sb).sublist (List.take_sublist _ _)).sublist (List.drop_sublist _ _),m.so,fun x hx y hy=>m.top x ?_ y (List.mem_reverse.mp hy)⟩
  exact List.mem_append_right _ (List.mem_of_mem_drop hx)
 top:=fun x hx y hy=>by
  rw [← List.mem_reverse,e] at hy
  rcases List.mem_append.mp hy with hy | hy
  ·obtain ⟨i,h1,h2,h3,h4⟩:=iY hy
   rcases List.mem_append.mp hx with hx | hx
   ·obtain ⟨j,g1,g2,g3⟩:=cQ hx
    show kx x≤kx y
    rw [← h4,← g3]
    exact h j i g1 g2 h1 h2 h3
   ·obtain ⟨j,g1,g2,g3⟩:=cQ hx
    show kx x≤kx y
    rw [← h4,← g3]
    exact R.sb j i (by omega) h3
  ·refine m.top x ?_ y (List.mem_reverse.mp hy)
   rcases List.mem_append.mp hx with hx | hx
   ·exact List.mem_append_left _ hx
   ·rw [← dQ (l:=b.toList) hn]
    exact List.mem_append_right _ (List.mem_append_left _ hx)
theorem mid1 {a:Array Keyed} {i:Nat} {x:Keyed} (e:a[i]? =some x):(a.toList.take (i + 1)).drop i=[x]:=by
 obtain ⟨h,e⟩:=Array.getElem?_eq_some_iff.mp e
 have hl:i < a.toList.length:=by rw [Array.length_toList];exact h
 rw [List.take_add_one,List.getElem?_eq_getElem hl,Option.toList_some,List.drop_append_of_le_length (by rw [List.length_take];omega),List.drop_eq_nil_of_le (by rw [List.length_take];omega),List.nil_append]
 simpa using e
theorem Mh.pushA {a b out:Array Keyed} {na nb:Nat} {x:Keyed} (R:Rn a b) (m:Mh a b out (na + 1) nb) (e:a[na]? =some x) (h:∀ j,j < nb→j < b.size→K b j≤K a na):Mh a b (out.push x) na nb:=
 m.mvA R (Nat.le_succ na) (by rw [Array.toList_push,List.reverse_append,mid1 e];rfl) fun i j h1 h2 _ h3 h4=>by
  have:i=na:=by omega
  rw [this];exact h j h3 h4
theorem Mh.pushB {a b out:Array Keyed} {na nb:Nat} {x:Keyed} (R:Rn a b) (m:Mh a b out na (nb + 1)) (e:b[nb]? =some x) (h:∀ i,i < na→i < a.size→K a i≤K b nb):Mh a b (out.push x) na nb:=
 m.mvB R (Nat.le_succ nb) (by rw [Array.toList_push,List.reverse_append,mid1 e];rfl) fun i j h1 h2 h3 h4 _=>by
  have:j=nb:=by omega
  rw [this];exact h i h1 h2
theorem eX (a:Array Keyed) (i n:Nat):(a.extract i n).toList=(a.toList.take n).drop i:=by
 rw [Array.toList_extract,List.extract_eq_take_drop,List.drop_take]
theorem cv (a:Array Keyed) (n:Nat):(a.extract 0 n).toList=a.toList.take n:=by
 rw [eX,List.drop_zero]
theorem Mh.appA {a b out:Array Keyed} {n na nb:Nat} (R:Rn a b) (m:Mh a b out na nb) (hn:n≤na) (h:∀ i j,n≤i→i < na→i < a.size→j < nb→j < b.size→K b j≤K a i):Mh a b (out++(a.extract n na).reverse) n nb:=
 m.mvA R hn (by rw [Array.toList_append,Array.toList_reverse,List.reverse_append,List.reverse_reverse,eX]) h
theorem Mh.appB {a b out:Array Keyed} {n na nb:Nat} (R:Rn a b) (m:Mh a b out na nb) (hn:n≤nb) (h:∀ i j,i < na→i < a.size→n≤j→j < nb→j < b.size→K a i≤K b j):Mh a b (out++(b.extract n nb).reverse) na n:=
 m.mvB R hn (by rw [Array.toList_append,Array.toList_reverse,List.reverse_append,List.reverse_reverse,eX]) h
theorem Mh.done {a b out:Array Keyed} {na nb:Nat} (R:Rn a b) (m:Mh a b out na nb) (h:na=0∨nb=0):Gd a b (a.extract 0 na++b.extract 0 nb++out.reverse):=by
 refine ⟨?_,?_⟩
 ·rw [Array.toList_append,Array.toList_append,Array.toList_reverse,cv,cv];exact m.perm
 ·rw [Array.toList_append,Array.toList_append,Array.toList_reverse,cv,cv]
  refine List.pairwise_append.mpr ⟨?_,m.so,fun x hx y hy=>m.top x hx y (List.mem_reverse.mp hy)⟩
  rcases h with h | h
  ·rw [h,List.take_zero,List.nil_append]
   exact (bf R.sb).sublist (List.take_sublist _ _)
  ·rw [h,List.take_zero,List.append_nil]
   exact (bf R.sa).sublist (List.take_sublist _ _)
theorem Mh.first {a b out:Array Keyed} {na nb:Nat} (R:Rn a b) (m:Mh a b out na nb) (h:nb=1):Gd a b (b.extract 0 nb++a.extract 0 na++out.reverse):=by
 refine ⟨?_,?_⟩
 ·rw [Array.toList_append,Array.toList_append,Array.toList_reverse,cv,cv]
  exact (List.perm_append_comm.append_right _).trans m.perm
 ·rw [Array.toList_append,Array.toList_append,Array.toList_reverse,cv,cv]
  refine List.pairwise_append.mpr ⟨List.pairwise_append.mpr ⟨(bf R.sb).sublist (List.take_sublist _ _),(bf R.sa).sublist (List.take_sublist _ _),fun x hx y hy=>?_⟩,m.so,fun x hx y hy=>m.top x ?_ y (List.mem_reverse.mp hy)⟩
  ·obtain ⟨j,g1,g2,g3⟩:=cQ hx
   obtain ⟨i,f1,f2,f3⟩:=cQ hy
   have lo:=R.lo
   have h1:=R.sa 0 i (by omega) f2
   have:j=0:=by omega
   rw [this] at g3
   show kx x≤kx y
   omega
  ·rcases List.mem_append.mp hx with hx | hx
   ·exact List.mem_append_right _ hx
   ·exact List.mem_append_left _ hx
theorem Mh.start {a b:Array Keyed} {x:Keyed} (R:Rn a b) (e:a[a.size - 1]? =some x):Mh a b #[x] (a.size - 1) b.size:=by
 have na:=R.na
 have m:Mh a b #[] (a.size - 1 + 1) b.size:=⟨by rw [Nat.sub_add_cancel na];simp [← Array.length_toList],by simp,fun _ _ y h=>by simp at h⟩
 exact m.pushA R e fun j _ hj=>by
  have:=R.hi
  have:=R.sb j (b.size - 1) (by omega) (by omega)
  omega
noncomputable def mhi:Array Keyed→Array Keyed→StateT SortSt Sem (Array Keyed):=sortPriv% PySem.Builtin.mergeHi
local macro_rules | `(tactic| walk_at "umhi") =>do let n:=Lean.mkIdent (Lean.mkPrivateNameCore `PySem.Builtin.List.W1All `PySem.Builtin.mergeHi);`(tactic| unfold $n)
theorem Mh.pushA' {a b out:Array Keyed} {na nb:Nat} {x:Keyed} (R:Rn a b) (m:Mh a b out na nb) (h1:1≤na) (e:a[na - 1]? =some x) (h:∀ j,j < nb→j < b.size→K b j≤K a (na - 1)):Mh a b (out.push x) (na - 1) nb:=
 Mh.pushA R (by rw [Nat.sub_add_cancel h1];exact m) e h
theorem Mh.pushB' {a b out:Array Keyed} {na nb:Nat} {x:Keyed} (R:Rn a b) (m:Mh a b out na nb) (h1:1≤nb) (e:b[nb - 1]? =some x) (h:∀ i,i < na→i < a.size→K a i≤K b (nb - 1)):Mh a b (out.push x) na (nb - 1):=
 Mh.pushB R (by rw [Nat.sub_add_cancel h1];exact m) e h
section
variable {prog:Program} {w:World} {A:Around} {E:Value→Shared→Prop} {s:Shared}
structure Wh (a b out:Array Keyed) (na nb x:Nat) (st0 st:SortSt):Prop where
 m:Mh a b out na nb
 la:1≤na
 lb:2≤nb
 ha:na≤a.size
 hb:nb≤b.size
 x:x + na + nb≤a.size + b.size
 sg:Sg st0 st
theorem uA {st0:SortSt} {a b:Array Keyed} {Q:Array Keyed→SortSt→Prop} (R:Rn a b) (hk:kindOf st0=oneType') (h:∀ r st',Sg st0 st'→Gd a b r→Q r st'):wpS (model prog w) A E s (mhi a b) Q st0:=by
 have na0:=R.na
 have nb0:=R.nb
 unfold mhi
 walk_at "umhi"
 dsimp only
 refine wpS_bind (wpS_lift (wpAny_rule ⟨rfl,?_⟩))
 obtain ⟨p0,t0,e0,_⟩:=R.ia.get (i:=a.size - 1) (by omega)
 refine wpS_bind (au e0 ?_)
 have m0:=Mh.start R e0
 by_cases h1:a.size - 1=0
 ·rw [if_pos (by rw [h1];rfl)]
  exact wpS_pure (h _ _ (Sg.refl _) (m0.done R (.inl h1)))
 rw [if_neg (by simpa using h1)]
 by_cases h2:b.size=1
 ·rw [if_pos (by rw [h2];rfl)]
  exact wpS_pure (h _ _ (Sg.refl _) (m0.first R h2))
 rw [if_neg (by simpa using h2)]
 refine wpS_bind (wpS_get ?_)
 refine wpS_bind (wpS_mono (wpS_forRange (I:=fun x c st=>∃ na nb out mg,c=(none,na,nb,out,mg)∧Wh a b out na nb (x + 1) st0 st)
  (Q:=fun c st=>∃ r y,c=(some r,y)∧Gd a b r∧Sg st0 st) ?step ?fin ⟨_,_,_,_,rfl,m0,by omega,by omega,by omega,by omega,by omega,Sg.refl _⟩) ?post)
 case post=>
  rintro c st ⟨r,y,rfl,g,sg⟩
  exact wpS_pure (h r st sg g)
 case fin=>
  rintro c st ⟨na,nb,out,mg,rfl,W⟩
  have:=W.la
  have:=W.lb
  have:=W.x
  omega
 case step=>
  rintro x c st _ hx ⟨na,nb,out,mg,rfl,W⟩
  dsimp only
  refine wpS_bind (wpS_mono (wpS_forRange (I:=fun y c st=>∃ na nb out ac bc,c=(none,na,nb,out,ac,bc)∧Wh a b out na nb (x + 1 + y) st0 st)
   (Q:=fun c st=>(∃ r y,c=(some r,y)∧Gd a b r∧Sg st0 st)∨∃ na nb out ac bc,c=(none,na,nb,out,ac,bc)∧Wh a b out na nb (x + 2) st0 st) ?step1 ?fin1 ⟨_,_,_,_,_,rfl,W⟩) ?post1)
  case fin1=>
   rintro c st ⟨na,nb,out,ac,bc,rfl,W⟩
   have:=W.la
   have:=W.lb
   have:=W.x
   omega
  case step1=>
   rintro y c st _ hy ⟨na,nb,out,ac,bc,rfl,W⟩
   have la:=W.la
   have lb:=W.lb
   have ha:=W.ha
   have hb:=W.hb
   have wx:=W.x
   have sg:=W.sg
   dsimp only
   obtain ⟨pb,tb,eb,nb'⟩:=R.ib.get (i:=nb - 1) (by omega)
   obtain ⟨pa,ta,ea,na'⟩:=R.ia.get (i:=na - 1) (by omega)
   refine wpS_bind (au eb (wpS_bind (au ea (wpS_bind (w_lt (sg.k.trans hk) nb' na' ?_)))))
   dsimp only
   by_cases hlt:K b (nb - 1) < K a (na - 1)
   ·rw [decide_eq_true hlt,if_pos rfl]
    refine wpS_bind (au ea ?_)
    have m1:=W.m.pushA' R la ea fun j h1 h2=>by have:=R.sb j (nb - 1) (by omega) (by omega);omega
    by_cases hz:na - 1=0
    ·rw [if_pos (by simpa using hz)]
     exact wpS_pure (.inl ⟨_,_,rfl,m1.done R (.inl hz),sg⟩)
    ·rw [if_neg (by simpa using hz)]
     by_cases hz4:ac + 1≥mg
     ·rw [if_pos hz4]
      exact wpS_pure (.inr ⟨_,_,_,_,_,rfl,m1,by omega,by omega,by omega,by omega,by omega,sg⟩)
     ·rw [if_neg hz4]
      exact wpS_pure ⟨_,_,_,_,_,rfl,m1,by omega,by omega,by omega,by omega,by omega,sg⟩
   ·rw [decide_eq_false hlt,if_neg (by decide)]
    refine wpS_bind (au eb ?_)
    have m1:=W.m.pushB' R (by omega) eb fun i h1 h2=>by have:=R.sa i (na - 1) (by omega) (by omega);omega
    by_cases hz:nb - 1=1
    ·rw [if_pos (by simpa using hz)]
     exact wpS_pure (.inl ⟨_,_,rfl,m1.first R hz,sg⟩)
    ·rw [if_neg (by simpa using hz)]
     by_cases hz4:bc + 1≥mg
     ·rw [if_pos hz4]
      exact wpS_pure (.inr ⟨_,_,_,_,_,rfl,m1,by omega,by omega,by omega,by omega,by omega,sg⟩)
     ·rw [if_neg hz4]
      exact wpS_pure ⟨_,_,_,_,_,rfl,m1,by omega,by omega,by omega,by omega,by omega,sg⟩
  case post1=>
   clear W
   rintro c st (⟨r,y,rfl,g,sg⟩ | ⟨na,nb,out,ac,bc,rfl,W⟩)
   ·exact wpS_pure ⟨_,_,rfl,g,sg⟩
   dsimp only
   refine wpS_bind (wpS_lift (wpAny_rule ⟨rfl,?_⟩))
   refine wpS_bind (wpS_mono (wpS_forRange (I:=fun y c st=>∃ na nb out mg ac bc,c=(none,na,nb,out,mg,ac,bc)∧Wh a b out na nb (x + 2 + y) st0 st)
    (Q:=fun c st=>(∃ r y,c=(some r,y)∧Gd a b r∧Sg st0 st)∨∃ na nb out mg ac bc,c=(none,na,nb,out,mg,ac,bc)∧Wh a b out na nb (x + 2) st0 st) ?step2 ?fin2 ⟨_,_,_,_,_,_,rfl,W⟩) ?post2)
   case fin2=>
    rintro c st ⟨na,nb,out,mg,ac,bc,rfl,W⟩
    have:=W.la
    have:=W.lb
    have:=W.x
    omega
   case post2=>
    rintro c st (⟨r,y,rfl,g,sg⟩ | ⟨na,nb,out,mg,ac,bc,rfl,W⟩)
    ·exact wpS_pure ⟨_,_,rfl,g,sg⟩
    ·dsimp only
     exact wpS_bind (lR W.sg fun st' sg=>wpS_pure ⟨_,_,_,_,rfl,W.m,W.la,W.lb,W.ha,W.hb,W.x,sg⟩)
   case step2=>
    clear W
    rintro y c st _ hy ⟨na,nb,out,mg,ac,bc,rfl,W⟩
    have la:=W.la
    have lb:=W.lb
    have ha:=W.ha
    have hb:=W.hb
    have wx:=W.x
    have m:=W.m
    obtain ⟨pb,tb,eb,nb'⟩:=R.ib.get (i:=nb - 1) (by omega)
    dsimp only
    by_cases hmg:mg > 1
    ·rw [if_pos hmg]
     refine wpS_bind (lR W.sg fun st2 sg=>?_)
     refine wpS_bind (au eb ?_)
     refine wpS_bind (dP (base:=0) (sg.k.trans hk) R.ia nb' (by omega) (by omega) (fun i j h1 h2=>R.sa _ _ (by omega) (by omega)) fun k hk1 hk2 hk3=>?_)
     dsimp only
     have le1:∀ i,i < k→i < a.size→K a i≤K b (nb - 1):=fun i h1 h2=>by
      have:=hk2 i h1
      unfold gB at this
      simp only [Bool.false_eq_true,if_false,Bool.not_eq_true',decide_eq_false_iff_not,Nat.zero_add] at this
      omega
     have gt1:∀ i j,k≤i→i < na→i < a.size→j < nb→j < b.size→K b j≤K a i:=fun i j h1 h2 h3 h4 h5=>by
      have:=hk3 i h1 h2
      unfold gB at this
      simp only [Bool.false_eq_true,if_false,Bool.not_eq_false',decide_eq_true_eq,Nat.zero_add] at this
      have:=R.sb j (nb - 1) (by omega) (by omega)
      omega
     have m1:=m.appA R hk1 gt1
     clear hk2 hk3
     by_cases hk0:na - k > 0
     ·rw [if_pos hk0]
      by_cases hz:k=0
      ·rw [if_pos (by simpa using hz)]
       exact wpS_pure (.inl ⟨_,_,rfl,m1.done R (.inl hz),sg⟩)
      rw [if_neg (by simpa using hz)]
      refine wpS_bind (au eb ?_)
      have m2:=m1.pushB' R (by omega) eb le1
      by_cases hz:nb - 1=1
      ·rw [if_pos (by simpa using hz)]
       exact wpS_pure (.inl ⟨_,_,rfl,m2.first R hz,sg⟩)
      rw [if_neg (by simpa using hz)]
      obtain ⟨pa,ta,ea,na'⟩:=R.ia.get (i:=k - 1) (by omega)
      refine wpS_bind (au ea ?_)
      refine wpS_bind (dP (base:=0) (sg.k.trans hk) R.ib na' (by omega) (by omega) (fun i j h1 h2=>R.sb _ _ (by omega) (by omega)) fun k2 hk1' hk2 hk3=>?_)
      dsimp only
      have le2:∀ j,j < k2→j < b.size→K b j≤K a (k - 1):=fun j h1 h2=>by
       have:=hk2 j h1
       unfold gB at this
       simp only [if_true,decide_eq_true_eq,Nat.zero_add] at this
       omega
      have gt2:∀ i j,i < k→i < a.size→k2≤j→j < nb - 1→j < b.size→K a i≤K b j:=fun i j h0 h1 h2 h3 h4=>by
       have:=hk3 j h2 h3
       unfold gB at this
       simp only [if_true,decide_eq_false_iff_not,Nat.zero_add] at this
       have:=R.sa i (k - 1) (by omega) (by omega)
       omega
      have m3:=m2.appB R hk1' gt2
      by_cases hk20:nb - 1 - k2 > 0
      ·rw [if_pos hk20]
       by_cases hz2:k2=1
       ·rw [if_pos (by simpa using hz2)]
        exact wpS_pure (.inl ⟨_,_,rfl,m3.first R hz2,sg⟩)
       rw [if_neg (by simpa using hz2)]
       by_cases hz5:k2=0
       ·rw [if_pos (by simpa using hz5)]
        exact wpS_pure (.inl ⟨_,_,rfl,m3.done R (.inr hz5),sg⟩)
       rw [if_neg (by simpa using hz5)]
       refine wpS_bind (au ea ?_)
       have m4:=m3.pushA' R (by omega) ea le2
       by_cases hz3:k - 1=0
       ·rw [if_pos (by simpa using hz3)]
        exact wpS_pure (.inl ⟨_,_,rfl,m4.done R (.inl hz3),sg⟩)
       rw [if_neg (by simpa using hz3)]
       by_cases hz4:(decide (na - k < 7)&&decide (nb - 1 - k2 < 7))=true
       ·rw [if_pos hz4]
        exact wpS_pure (.inr ⟨_,_,_,_,_,_,rfl,m4,by omega,by omega,by omega,by omega,by omega,sg⟩)
       ·rw [if_neg hz4]
        exact wpS_pure ⟨_,_,_,_,_,_,rfl,m4,by omega,by omega,by omega,by omega,by omega,sg⟩
      ·rw [if_neg hk20]
       have k20:k2=nb - 1:=by omega
       refine wpS_bind (au ea ?_)
       have m4:=m2.pushA' R (by omega) ea fun j h1 h2=>le2 j (by omega) h2
       by_cases hz3:k - 1=0
       ·rw [if_pos (by simpa using hz3)]
        exact wpS_pure (.inl ⟨_,_,rfl,m4.done R (.inl hz3),sg⟩)
       rw [if_neg (by simpa using hz3)]
       by_cases hz4:(decide (na - k < 7)&&decide (nb - 1 - k2 < 7))=true
       ·rw [if_pos hz4]
        exact wpS_pure (.inr ⟨_,_,_,_,_,_,rfl,m4,by omega,by omega,by omega,by omega,by omega,sg⟩)
       ·rw [if_neg hz4]
        exact wpS_pure ⟨_,_,_,_,_,_,rfl,m4,by omega,by omega,by omega,by omega,by omega,sg⟩
     ·rw [if_neg hk0]
      have k0:k=na:=by omega
      have m1:=m
      have le1:∀ i,i < na→i < a.size→K a i≤K b (nb - 1):=fun i h1 h2=>le1 i (by omega) h2
      refine wpS_bind (au eb ?_)
      have m2:=m1.pushB' R (by omega) eb le1
      by_cases hz:nb - 1=1
      ·rw [if_pos (by simpa using hz)]
       exact wpS_pure (.inl ⟨_,_,rfl,m2.first R hz,sg⟩)
      rw [if_neg (by simpa using hz)]
      obtain ⟨pa,ta,ea,na'⟩:=R.ia.get (i:=na - 1) (by omega)
      refine wpS_bind (au ea ?_)
      refine wpS_bind (dP (base:=0) (sg.k.trans hk) R.ib na' (by omega) (by omega) (fun i j h1 h2=>R.sb _ _ (by omega) (by omega)) fun k2 hk1' hk2 hk3=>?_)
      dsimp only
      have le2:∀ j,j < k2→j < b.size→K b j≤K a (na - 1):=fun j h1 h2=>by
       have:=hk2 j h1
       unfold gB at this
       simp only [if_true,decide_eq_true_eq,Nat.zero_add] at this
       omega
      have gt2:∀ i j,i < na→i < a.size→k2≤j→j < nb - 1→j < b.size→K a i≤K b j:=fun i j h0 h1 h2 h3 h4=>by
       have:=hk3 j h2 h3
       unfold gB at this
       simp only [if_true,decide_eq_false_iff_not,Nat.zero_add] at this
       have:=R.sa i (na - 1) (by omega) (by omega)
       omega
      have m3:=m2.appB R hk1' gt2
      by_cases hk20:nb - 1 - k2 > 0
      ·rw [if_pos hk20]
       by_cases hz2:k2=1
       ·rw [if_pos (by simpa using hz2)]
        exact wpS_pure (.inl ⟨_,_,rfl,m3.first R hz2,sg⟩)
       rw [if_neg (by simpa using hz2)]
       by_cases hz5:k2=0
       ·rw [if_pos (by simpa using hz5)]
        exact wpS_pure (.inl ⟨_,_,rfl,m3.done R (.inr hz5),sg⟩)
       rw [if_neg (by simpa using hz5)]
       refine wpS_bind (au ea ?_)
       have m4:=m3.pushA' R (by omega) ea le2
       by_cases hz3:na - 1=0
       ·rw [if_pos (by simpa using hz3)]
        exact wpS_pure (.inl ⟨_,_,rfl,m4.done R (.inl hz3),sg⟩)
       rw [if_neg (by simpa using hz3)]
       by_cases hz4:(decide (na - k < 7)&&decide (nb - 1 - k2 < 7))=true
       ·rw [if_pos hz4]
        exact wpS_pure (.inr ⟨_,_,_,_,_,_,rfl,m4,by omega,by omega,by omega,by omega,by omega,sg⟩)
       ·rw [if_neg hz4]
        exact wpS_pure ⟨_,_,_,_,_,_,rfl,m4,by omega,by omega,by omega,by omega,by omega,sg⟩
      ·rw [if_neg hk20]
       have k20:k2=nb - 1:=by omega
       refine wpS_bind (au ea ?_)
       have m4:=m2.pushA' R (by omega) ea fun j h1 h2=>le2 j (by omega) h2
       by_cases hz3:na - 1=0
       ·rw [if_pos (by simpa using hz3)]
        exact wpS_pure (.inl ⟨_,_,rfl,m4.done R (.inl hz3),sg⟩)
       rw [if_neg (by simpa using hz3)]
       by_cases hz4:(decide (na - k < 7)&&decide (nb - 1 - k2 < 7))=true
       ·rw [if_pos hz4]
        exact wpS_pure (.inr ⟨_,_,_,_,_,_,rfl,m4,by omega,by omega,by omega,by omega,by omega,sg⟩)
       ·rw [if_neg hz4]
        exact wpS_pure ⟨_,_,_,_,_,_,rfl,m4,by omega,by omega,by omega,by omega,by omega,sg⟩
    ·rw [if_neg hmg]
     refine wpS_bind (lR W.sg fun st2 sg=>?_)
     refine wpS_bind (au eb ?_)
     refine wpS_bind (dP (base:=0) (sg.k.trans hk) R.ia nb' (by omega) (by omega) (fun i j h1 h2=>R.sa _ _ (by omega) (by omega)) fun k hk1 hk2 hk3=>?_)
     dsimp only
     have le1:∀ i,i < k→i < a.size→K a i≤K b (nb - 1):=fun i h1 h2=>by
      have:=hk2 i h1
      unfold gB at this
      simp only [Bool.false_eq_true,if_false,Bool.not_eq_true',decide_eq_false_iff_not,Nat.zero_add] at this
      omega
     have gt1:∀ i j,k≤i→i < na→i < a.size→j < nb→j < b.size→K b j≤K a i:=fun i j h1 h2 h3 h4 h5=>by
      have:=hk3 i h1 h2
      unfold gB at this
      simp only [Bool.false_eq_true,if_false,Bool.not_eq_false',decide_eq_true_eq,Nat.zero_add] at this
      have:=R.sb j (nb - 1) (by omega) (by omega)
      omega
     have m1:=m.appA R hk1 gt1
     clear hk2 hk3
     by_cases hk0:na - k > 0
     ·rw [if_pos hk0]
      by_cases hz:k=0
      ·rw [if_pos (by simpa using hz)]
       exact wpS_pure (.inl ⟨_,_,rfl,m1.done R (.inl hz),sg⟩)
      rw [if_neg (by simpa using hz)]
      refine wpS_bind (au eb ?_)
      have m2:=m1.pushB' R (by omega) eb le1
      by_cases hz:nb - 1=1
      ·rw [if_pos (by simpa using hz)]
       exact wpS_pure (.inl ⟨_,_,rfl,m2.first R hz,sg⟩)
      rw [if_neg (by simpa using hz)]
      obtain ⟨pa,ta,ea,na'⟩:=R.ia.get (i:=k - 1) (by omega)
      refine wpS_bind (au ea ?_)
      refine wpS_bind (dP (base:=0) (sg.k.trans hk) R.ib na' (by omega) (by omega) (fun i j h1 h2=>R.sb _ _ (by omega) (by omega)) fun k2 hk1' hk2 hk3=>?_)
      dsimp only
      have le2:∀ j,j < k2→j < b.size→K b j≤K a (k - 1):=fun j h1 h2=>by
       have:=hk2 j h1
       unfold gB at this
       simp only [if_true,decide_eq_true_eq,Nat.zero_add] at this
       omega
      have gt2:∀ i j,i < k→i < a.size→k2≤j→j < nb - 1→j < b.size→K a i≤K b j:=fun i j h0 h1 h2 h3 h4=>by
       have:=hk3 j h2 h3
       unfold gB at this
       simp only [if_true,decide_eq_false_iff_not,Nat.zero_add] at this
       have:=R.sa i (k - 1) (by omega) (by omega)
       omega
      have m3:=m2.appB R hk1' gt2
      by_cases hk20:nb - 1 - k2 > 0
      ·rw [if_pos hk20]
       by_cases hz2:k2=1
       ·rw [if_pos (by simpa using hz2)]
        exact wpS_pure (.inl ⟨_,_,rfl,m3.first R hz2,sg⟩)
       rw [if_neg (by simpa using hz2)]
       by_cases hz5:k2=0
       ·rw [if_pos (by simpa using hz5)]
        exact wpS_pure (.inl ⟨_,_,rfl,m3.done R (.inr hz5),sg⟩)
       rw [if_neg (by simpa using hz5)]
       refine wpS_bind (au ea ?_)
       have m4:=m3.pushA' R (by omega) ea le2
       by_cases hz3:k - 1=0
       ·rw [if_pos (by simpa using hz3)]
        exact wpS_pure (.inl ⟨_,_,rfl,m4.done R (.inl hz3),sg⟩)
       rw [if_neg (by simpa using hz3)]
       by_cases hz4:(decide (na - k < 7)&&decide (nb - 1 - k2 < 7))=true
       ·rw [if_pos hz4]
        exact wpS_pure (.inr ⟨_,_,_,_,_,_,rfl,m4,by omega,by omega,by omega,by omega,by omega,sg⟩)
       ·rw [if_neg hz4]
        exact wpS_pure ⟨_,_,_,_,_,_,rfl,m4,by omega,by omega,by omega,by omega,by omega,sg⟩
      ·rw [if_neg hk20]
       have k20:k2=nb - 1:=by omega
       refine wpS_bind (au ea ?_)
       have m4:=m2.pushA' R (by omega) ea fun j h1 h2=>le2 j (by omega) h2
       by_cases hz3:k - 1=0
       ·rw [if_pos (by simpa using hz3)]
        exact wpS_pure (.inl ⟨_,_,rfl,m4.done R (.inl hz3),sg⟩)
       rw [if_neg (by simpa using hz3)]
       by_cases hz4:(decide (na - k < 7)&&decide (nb - 1 - k2 < 7))=true
       ·rw [if_pos hz4]
        exact wpS_pure (.inr ⟨_,_,_,_,_,_,rfl,m4,by omega,by omega,by omega,by omega,by omega,sg⟩)
       ·rw [if_neg hz4]
        exact wpS_pure ⟨_,_,_,_,_,_,rfl,m4,by omega,by omega,by omega,by omega,by omega,sg⟩
     ·rw [if_neg hk0]
      have k0:k=na:=by omega
      have m1:=m
      have le1:∀ i,i < na→i < a.size→K a i≤K b (nb - 1):=fun i h1 h2=>le1 i (by omega) h2
      refine wpS_bind (au eb ?_)
      have m2:=m1.pushB' R (by omega) eb le1
      by_cases hz:nb - 1=1
      ·rw [if_pos (by simpa using hz)]
       exact wpS_pure (.inl ⟨_,_,rfl,m2.first R hz,sg⟩)
      rw [if_neg (by simpa using hz)]
      obtain ⟨pa,ta,ea,na'⟩:=R.ia.get (i:=na - 1) (by omega)
      refine wpS_bind (au ea ?_)
      refine wpS_bind (dP (base:=0) (sg.k.trans hk) R.ib na' (by omega) (by omega) (fun i j h1 h2=>R.sb _ _ (by omega) (by omega)) fun k2 hk1' hk2 hk3=>?_)
      dsimp only
      have le2:∀ j,j < k2→j < b.size→K b j≤K a (na - 1):=fun j h1 h2=>by
       have:=hk2 j h1
       unfold gB at this
       simp only [if_true,decide_eq_true_eq,Nat.zero_add] at this
       omega
      have gt2:∀ i j,i < na→i < a.size→k2≤j→j < nb - 1→j < b.size→K a i≤K b j:=fun i j h0 h1 h2 h3 h4=>by
       have:=hk3 j h2 h3
       unfold gB at this
       simp only [if_true,decide_eq_false_iff_not,Nat.zero_add] at this
       have:=R.sa i (na - 1) (by omega) (by omega)
       omega
      have m3:=m2.appB R hk1' gt2
      by_cases hk20:nb - 1 - k2 > 0
      ·rw [if_pos hk20]
       by_cases hz2:k2=1
       ·rw [if_pos (by simpa using hz2)]
        exact wpS_pure (.inl ⟨_,_,rfl,m3.first R hz2,sg⟩)
       rw [if_neg (by simpa using hz2)]
       by_cases hz5:k2=0
       ·rw [if_pos (by simpa using hz5)]
        exact wpS_pure (.inl ⟨_,_,rfl,m3.done R (.inr hz5),sg⟩)
       rw [if_neg (by simpa using hz5)]
       refine wpS_bind (au ea ?_)
       have m4:=m3.pushA' R (by omega) ea le2
       by_cases hz3:na - 1=0
       ·rw [if_pos (by simpa using hz3)]
        exact wpS_pure (.inl ⟨_,_,rfl,m4.done R (.inl hz3),sg⟩)
       rw [if_neg (by simpa using hz3)]
       by_cases hz4:(decide (na - k < 7)&&decide (nb - 1 - k2 < 7))=true
       ·rw [if_pos hz4]
        exact wpS_pure (.inr ⟨_,_,_,_,_,_,rfl,m4,by omega,by omega,by omega,by omega,by omega,sg⟩)
       ·rw [if_neg hz4]
        exact wpS_pure ⟨_,_,_,_,_,_,rfl,m4,by omega,by omega,by omega,by omega,by omega,sg⟩
      ·rw [if_neg hk20]
       have k20:k2=nb - 1:=by omega
       refine wpS_bind (au ea ?_)
       have m4:=m2.pushA' R (by omega) ea fun j h1 h2=>le2 j (by omega) h2
       by_cases hz3:na - 1=0
       ·rw [if_pos (by simpa using hz3)]
        exact wpS_pure (.inl ⟨_,_,rfl,m4.done R (.inl hz3),sg⟩)
       rw [if_neg (by simpa using hz3)]
       by_cases hz4:(decide (na - k < 7)&&decide (nb - 1 - k2 < 7))=true
       ·rw [if_pos hz4]
        exact wpS_pure (.inr ⟨_,_,_,_,_,_,rfl,m4,by omega,by omega,by omega,by omega,by omega,sg⟩)
       ·rw [if_neg hz4]
        exact wpS_pure ⟨_,_,_,_,_,_,rfl,m4,by omega,by omega,by omega,by omega,by omega,sg⟩
end
structure TB (a₀:Array Keyed) (p:Array (Nat×Nat×Nat)) (st:SortSt):Prop where
 perm:(arrOf st).Perm a₀
 kind:kindOf st=oneType'
 failed:failedOf st=none
 pend:pendingOf st=p
noncomputable def Dk (a:Array Keyed):Prop:=(a.toList.map kx).Nodup
noncomputable def So (xs:Array Keyed) (lo hi:Nat):Prop:=∀ i j,lo≤i→i≤j→j < hi→K xs i≤K xs j
theorem So.one (xs:Array Keyed) (lo:Nat):So xs lo (lo + 1):=fun i j h1 h2 h3=>by
 have:i=j:=by omega
 rw [this];exact Int.le_refl _
theorem So.more {xs:Array Keyed} {lo x:Nat} (so:So xs lo (lo + x)) (hx:1≤x) (h:K xs (lo + x - 1)≤K xs (lo + x)):So xs lo (lo + (x + 1)):=fun i j h1 h2 h3=>by
 by_cases e:j=lo + x
 ·subst e
  by_cases e2:i=lo + x
  ·rw [e2];exact Int.le_refl _
  ·have:=so i (lo + x - 1) h1 (by omega) (by omega)
   omega
 ·exact so i j h1 h2 (by omega)
theorem TB.size {a₀:Array Keyed} {p:Array (Nat×Nat×Nat)} {st:SortSt} (B:TB a₀ p st):(arrOf st).size=a₀.size:=B.perm.size_eq
theorem d8 {a b:Array Keyed} (h:a.Perm b) (hb:IntKeys b):IntKeys a:=fun q hq=>hb q ((Array.perm_iff_toList_perm.mp h).mem_iff.mp hq)
theorem rJ {a b:Array Keyed} (h:a.Perm b) (hb:Dk b):Dk a:=((Array.perm_iff_toList_perm.mp h).map kx).nodup_iff.mpr hb
theorem Dk.ne {a:Array Keyed} (h:Dk a) {i j:Nat} (hij:i < j) (hj:j < a.size):K a i≠K a j:=fun e=>by
 have:=List.pairwise_iff_getElem.mp h i j (by rw [List.length_map,Array.length_toList];omega) (by rw [List.length_map,Array.length_toList];exact hj) hij
 rw [eC (Array.getElem?_eq_getElem (show i < a.size by omega)),eC (Array.getElem?_eq_getElem hj)] at e
 rw [List.getElem_map,List.getElem_map] at this
 exact this (by simpa using e)
theorem TB.setArr {a₀:Array Keyed} {p:Array (Nat×Nat×Nat)} {st:SortSt} (B:TB a₀ p st) {xs:Array Keyed} (h:xs.Perm (arrOf st)):TB a₀ p (setArr st xs):=⟨h.trans B.perm,B.kind,B.failed,B.pend⟩
section
variable {prog:Program} {w:World} {A:Around} {E:Value→Shared→Prop} {s:Shared} {a₀:Array Keyed} {p:Array (Nat×Nat×Nat)}
theorem TB.lt {st:SortSt} {i j:Nat} {Q:Option Bool→SortSt→Prop} (B:TB a₀ p st) (h0:IntKeys a₀) (hi:i < a₀.size) (hj:j < a₀.size) (h:Q (some (decide (K (arrOf st) i < K (arrOf st) j))) st):wpS (model prog w) A E s (ltAt' i j) Q st:=by
 have ik:=rD (d8 B.perm h0)
 obtain ⟨x,t,e1,e2⟩:=ik.get (i:=i) (by rw [B.size];exact hi)
 obtain ⟨y,u,f1,f2⟩:=ik.get (i:=j) (by rw [B.size];exact hj)
 have e1':(arrOf st)[i]? =some (.int (K (arrOf st) i) t,x.2):=by rw [e1];exact congrArg some (Prod.ext e2 rfl)
 have f1':(arrOf st)[j]? =some (.int (K (arrOf st) j) u,y.2):=by rw [f1];exact congrArg some (Prod.ext f2 rfl)
 exact wpS_ltAt B.kind e1' f1' h
theorem w_cr {st:SortSt} {lo nrem:Nat} {Q:Option Nat→SortSt→Prop} (h0:IntKeys a₀) (hd:Dk a₀) (hn:lo + nrem≤a₀.size) (h1:1≤nrem) (B:TB a₀ p st)
  (h:∀ m st',TB a₀ p st'→1≤m→m≤nrem→So (arrOf st') lo (lo + m)→(∀ i,i < lo→K (arrOf st') i=K (arrOf st) i)→Q (some m) st'):wpS (model prog w) A E s (countRun' lo nrem) Q st:=by
 have dk:=rJ B.perm hd
 have sz:=B.size
 rw [countRun'_eq]
 dsimp only
 refine wpS_bind (wpS_mono (wpS_forRange (I:=fun x c st'=>st'=st∧c=(none,x)∧So (arrOf st) lo (lo + x))
  (Q:=fun c st'=>st'=st∧∃ n,c=(none,n)∧1≤n∧n≤nrem∧So (arrOf st) lo (lo + n)∧(n=nrem∨K (arrOf st) (lo + n) < K (arrOf st) (lo + n - 1))) ?step ?fin ⟨rfl,rfl,So.one _ _⟩) ?post)
 case fin=>
  rintro c st' ⟨rfl,rfl,so⟩
  rw [show max 1 nrem=nrem by omega] at so ⊢
  exact ⟨rfl,nrem,rfl,by omega,Nat.le_refl _,so,.inl rfl⟩
 case step=>
  rintro x c st' h3 h4 ⟨rfl,rfl,so⟩
  dsimp only
  refine wpS_bind (B.lt h0 (by omega) (by omega) ?_)
  dsimp only
  by_cases hl:K (arrOf st') (lo + x) < K (arrOf st') (lo + x - 1)
  ·rw [decide_eq_true hl,if_pos rfl]
   exact wpS_pure ⟨rfl,x,rfl,h3,by omega,so,.inr hl⟩
  ·rw [decide_eq_false hl,if_neg (by decide)]
   exact wpS_pure ⟨rfl,rfl,so.more (by omega) (by omega)⟩
 case post=>
  rintro c st' ⟨rfl,n,rfl,g1,g2,so,g3⟩
  dsimp only
  by_cases hz:n=nrem
  ·rw [if_pos (by simpa using hz)]
   exact wpS_pure (h n st' B g1 g2 so fun _ _=>rfl)
  rw [if_neg (by simpa using hz)]
  have hlt:=g3.resolve_left hz
  by_cases hz2:n > 1
  ·rw [if_pos hz2]
   refine wpS_bind (B.lt h0 (by omega) (by omega) ?_)
   dsimp only
   have:K (arrOf st') lo < K (arrOf st') (lo + n - 1):=by
    have e1:=so lo (lo + n - 1) (Nat.le_refl _) (by omega) (by omega)
    have e2:=dk.ne (i:=lo) (j:=lo + n - 1) (by omega) (by omega)
    omega
   rw [decide_eq_true this,if_pos rfl]
   exact wpS_pure (h n st' B g1 g2 so fun _ _=>rfl)
  rw [if_neg hz2]
  have n1:n=1:=by omega
  subst n1
  refine wpS_bind (wpS_lift (wpAny_rule ⟨rfl,?_⟩))
  refine wpS_bind (wpS_mono (wpS_forRange (I:=fun x c st2=>st2=st'∧c=(none,x,0)∧∀ i j,lo≤i→i≤j→j < lo + x→K (arrOf st') j≤K (arrOf st') i)
   (Q:=fun c st2=>st2=st'∧∃ x,c=(none,x,0)∧2≤x∧x≤nrem∧∀ i j,lo≤i→i≤j→j < lo + x→K (arrOf st') j≤K (arrOf st') i) ?step ?fin ⟨rfl,rfl,?init⟩) ?post)
  case init=>
   intro i j h1 h2 h3
   by_cases e:i=j
   ·rw [e];exact Int.le_refl _
   ·have e1:i=lo:=by omega
    have e2:j=lo + 1:=by omega
    rw [e1,e2]
    have:lo + 1 - 1=lo:=by omega
    rw [this] at hlt
    omega
  case fin=>
   rintro c st2 ⟨rfl,rfl,so2⟩
   rw [show max (1 + 1) nrem=nrem by omega] at so2 ⊢
   exact ⟨rfl,nrem,rfl,by omega,Nat.le_refl _,so2⟩
  case step=>
   rintro x c st2 h3 h4 ⟨rfl,rfl,so2⟩
   dsimp only
   refine wpS_bind (B.lt h0 (by omega) (by omega) ?_)
   dsimp only
   by_cases hl:K (arrOf st2) (lo + x) < K (arrOf st2) (lo + x - 1)
   ·rw [decide_eq_true hl,if_pos rfl,if_neg (by omega)]
    refine wpS_pure ⟨rfl,rfl,fun i j h1 h2 h3=>?_⟩
    by_cases e:j=lo + x
    ·subst e
     by_cases e2:i=lo + x
     ·rw [e2];exact Int.le_refl _
     ·have:=so2 i (lo + x - 1) h1 (by omega) (by omega)
      omega
    ·exact so2 i j h1 h2 (by omega)
   ·rw [decide_eq_false hl,if_neg (by decide)]
    refine wpS_bind (B.lt h0 (by omega) (by omega) ?_)
    dsimp only
    have:K (arrOf st2) (lo + x - 1) < K (arrOf st2) (lo + x):=by
     have e2:=dk.ne (i:=lo + x - 1) (j:=lo + x) (by omega) (by omega)
     omega
    rw [decide_eq_true this,if_pos rfl]
    exact wpS_pure ⟨rfl,x,rfl,h3,by omega,so2⟩
  case post=>
   rintro c st2 ⟨rfl,x,rfl,x1,x2,so2⟩
   dsimp only
   rw [if_neg (by omega)]
   refine wpS_bind (wpS_reverse ?_)
   have B2:=B.setArr (mirror_perm (arrOf st2) lo (lo + x) ((lo + x - lo) / 2))
   have kk:=K_mirror (xs:=arrOf st2) (i:=lo) (j:=lo + x) (by omega)
   have so3:So (mirror (arrOf st2) lo (lo + x) ((lo + x - lo) / 2)) lo (lo + x):=fun i j h1 h2 h3=>by
    rw [kk,kk,if_pos (by omega),if_pos (by omega)]
    exact so2 _ _ (by omega) (by omega) (by omega)
   have low:∀ i,i < lo→K (mirror (arrOf st2) lo (lo + x) ((lo + x - lo) / 2)) i=K (arrOf st2) i:=fun i hi=>by rw [kk,if_neg (by omega)]
   have sz2:=B2.size
   clear kk so2
   obtain ⟨st3,e3⟩:∃ st3,st3=setArr st2 (mirror (arrOf st2) lo (lo + x) ((lo + x - lo) / 2)):=⟨_,rfl⟩
   have so3:So (arrOf st3) lo (lo + x):=by rw [e3];exact so3
   have low:∀ i,i < lo→K (arrOf st3) i=K (arrOf st2) i:=by rw [e3];exact low
   rw [← e3] at B2 sz2 ⊢
   refine wpS_bind (wpS_mono (wpS_forRange (I:=fun y c st'=>st'=st3∧c=(none,y)∧So (arrOf st3) lo (lo + y))
    (Q:=fun c st'=>st'=st3∧∃ n,c=(none,n)∧x≤n∧n≤nrem∧So (arrOf st3) lo (lo + n)) ?step ?fin ⟨rfl,rfl,so3⟩) ?post)
   case fin=>
    rintro c st' ⟨rfl,rfl,so⟩
    rw [show max x nrem=nrem by omega] at so ⊢
    exact ⟨rfl,nrem,rfl,by omega,Nat.le_refl _,so⟩
   case step=>
    rintro y c st' h3 h4 ⟨rfl,rfl,so⟩
    dsimp only
    refine wpS_bind (B2.lt h0 (by omega) (by omega) ?_)
    dsimp only
    by_cases hl:K (arrOf st') (lo + y) < K (arrOf st') (lo + y - 1)
    ·rw [decide_eq_true hl,if_pos rfl]
     exact wpS_pure ⟨rfl,y,rfl,h3,by omega,so⟩
    ·rw [decide_eq_false hl,if_neg (by decide)]
     exact wpS_pure ⟨rfl,rfl,so.more (by omega) (by omega)⟩
   case post=>
    rintro c st' ⟨rfl,n,rfl,g1,g2,so⟩
    exact wpS_pure (h n st' B2 (by omega) g2 so low)
end
section
variable {prog:Program} {w:World} {A:Around} {E:Value→Shared→Prop} {s:Shared} {a₀:Array Keyed} {p:Array (Nat×Nat×Nat)}
theorem w_bs {st:SortSt} {lo n ok:Nat} {Q:Bool→SortSt→Prop} (h0:IntKeys a₀) (hn:lo + n≤a₀.size) (h1:1≤ok) (hok:ok≤n) (B:TB a₀ p st) (so:So (arrOf st) lo (lo + ok))
  (h:∀ st',TB a₀ p st'→So (arrOf st') lo (lo + n)→(∀ i,i < lo→K (arrOf st') i=K (arrOf st) i)→Q true st'):wpS (model prog w) A E s (binarySort' lo n ok) Q st:=by
 rw [binarySort'_eq]
 dsimp only
 refine wpS_bind (wpS_mono (wpS_forRange (I:=fun k c st'=>c=(none,())∧TB a₀ p st'∧So (arrOf st') lo (lo + k)∧∀ i,i < lo→K (arrOf st') i=K (arrOf st) i)
  (Q:=fun c st'=>c=(none,())∧TB a₀ p st'∧So (arrOf st') lo (lo + n)∧∀ i,i < lo→K (arrOf st') i=K (arrOf st) i) ?step ?fin ?init) ?post)
 case post=>
  rintro c st' ⟨rfl,B',so',low⟩
  exact wpS_pure (h st' B' so' low)
 case init=>exact ⟨rfl,B,by rw [Nat.max_eq_left h1];exact so,fun _ _=>rfl⟩
 case fin=>
  rintro c st' ⟨rfl,B',so',low⟩
  rw [show max (max ok 1) n=n by omega] at so'
  exact ⟨rfl,B',so',low⟩
 case step=>
  rintro k c st' hk1 hk2 ⟨rfl,B',so',low⟩
  have sz:=B'.size
  refine wpS_bind (wpS_mono (wpS_forRange (I:=fun x c st2=>st2=st'∧∃ l r,c=(none,l,r)∧l≤r∧r≤k∧r - l≤k - x∧(∀ i,i < l→K (arrOf st') (lo + i)≤K (arrOf st') (lo + k))∧(∀ i,r≤i→i < k→K (arrOf st') (lo + k)≤K (arrOf st') (lo + i)))
   (Q:=fun c st2=>st2=st'∧∃ l,c=(none,l,l)∧l≤k∧(∀ i,i < l→K (arrOf st') (lo + i)≤K (arrOf st') (lo + k))∧(∀ i,l≤i→i < k→K (arrOf st') (lo + k)≤K (arrOf st') (lo + i))) ?istep ?ifin ⟨rfl,0,k,rfl,Nat.zero_le _,Nat.le_refl _,by omega,fun i h=>by omega,fun i h1 h2=>by omega⟩) ?ipost)
  case ifin=>
   rintro c st2 ⟨rfl,l,r,rfl,a1,a2,a3,a4,a5⟩
   have:l=r:=by omega
   subst this
   exact ⟨rfl,l,rfl,a2,a4,a5⟩
  case istep=>
   rintro x c st2 _ hx ⟨rfl,l,r,rfl,a1,a2,a3,a4,a5⟩
   dsimp only
   by_cases hge:l≥r
   ·rw [if_pos hge]
    have:l=r:=by omega
    subst this
    exact wpS_pure ⟨rfl,l,rfl,a2,a4,a5⟩
   ·rw [if_neg hge]
    refine wpS_bind (B'.lt h0 (by omega) (by omega) ?_)
    dsimp only
    by_cases hl:K (arrOf st2) (lo + k) < K (arrOf st2) (lo + (l + r) / 2)
    ·rw [decide_eq_true hl,if_pos rfl]
     refine wpS_pure ⟨rfl,l,(l + r) / 2,rfl,by omega,by omega,by omega,a4,fun i h1 h2=>?_⟩
     have:=so' (lo + (l + r) / 2) (lo + i) (by omega) (by omega) (by omega)
     omega
    ·rw [decide_eq_false hl,if_neg (by decide)]
     refine wpS_pure ⟨rfl,(l + r) / 2 + 1,r,rfl,by omega,by omega,by omega,fun i h1=>?_,a5⟩
     have:=so' (lo + i) (lo + (l + r) / 2) (by omega) (by omega) (by omega)
     omega
  case ipost=>
   rintro c st2 ⟨rfl,l,rfl,a2,a4,a5⟩
   dsimp only
   rw [moveDown'_eq]
   refine wpS_bind (wpS_modify (wpS_pure ⟨rfl,B'.setArr (bubble_perm _ _ _),?_,fun i hi=>?_⟩))
   ·have kk:=K_bubble (xs:=arrOf st2) (src:=lo + k) (d:=lo + k - (lo + l)) (by omega) (by omega)
    show So (bubble (arrOf st2) (lo + k) (lo + k - (lo + l))) lo (lo + (k + 1))
    intro i j h1 h2 h3
    rw [kk,kk,show lo + k - (lo + k - (lo + l))=lo + l by omega]
    have b4:∀ i,lo≤i→i < lo + l→K (arrOf st2) i≤K (arrOf st2) (lo + k):=fun i h1 h2=>by
     have:=a4 (i - lo) (by omega)
     rwa [show lo + (i - lo)=i by omega] at this
    have b5:∀ i,lo + l≤i→i < lo + k→K (arrOf st2) (lo + k)≤K (arrOf st2) i:=fun i h1 h2=>by
     have:=a5 (i - lo) (by omega) (by omega)
     rwa [show lo + (i - lo)=i by omega] at this
    repeat' split
    all_goals first
     | (exfalso;omega)
     | exact Int.le_refl _
     | exact b4 _ (by omega) (by omega)
     | exact b5 _ (by omega) (by omega)
     | exact so' _ _ (by omega) (by omega) (by omega)
   ·show K (bubble (arrOf st2) (lo + k) (lo + k - (lo + l))) i=_
    rw [K_bubble (by omega) (by omega),if_neg (by omega),if_neg (by omega)]
    exact low i hi
end
local macro_rules | `(tactic| walk_at "uma") =>do let n:=Lean.mkIdent (Lean.mkPrivateNameCore `PySem.Builtin.List.W1All `PySem.Builtin.mergeAt);`(tactic| unfold $n)
theorem qG {a:Array Keyed} (h:a.toList.Pairwise kle):So a 0 a.size:=fun i j _ h2 h3=>by
 rw [eC (Array.getElem?_eq_getElem (show i < a.size by omega)),eC (Array.getElem?_eq_getElem h3)]
 by_cases e:i=j
 ·subst e;exact Int.le_refl _
 ·have:=List.pairwise_iff_getElem.mp h i j (by rw [Array.length_toList];omega) (by rw [Array.length_toList];exact h3) (by omega)
  simpa using this
noncomputable def laid (off:Nat) (xs:Array Keyed) (r:List (Keyed×Nat)):Array Keyed:=r.foldl (fun a x=>a.setIfInBounds (off + x.2) x.1) xs
theorem lI (off:Nat):∀ (r:List Keyed) (n:Nat) (xs:Array Keyed) (i:Nat),off + n + r.length≤xs.size→(laid off xs (r.zipIdx n))[i]? =if off + n≤i∧i < off + n + r.length then r[i - (off + n)]? else xs[i]?
 | [],n,xs,i,_=>by
   rw [if_neg (by rw [List.length_nil];omega)];rfl
 | x::r,n,xs,i,h=>by
   rw [List.length_cons] at h
   show (laid off (xs.setIfInBounds (off + n) x) (r.zipIdx (n + 1)))[i]? =_
   rw [lI off r (n + 1) _ i (by rw [Array.size_setIfInBounds];omega),Array.getElem?_setIfInBounds,List.length_cons]
   by_cases h1:off + (n + 1)≤i∧i < off + (n + 1) + r.length
   ·rw [if_pos h1,if_pos (by omega),show i - (off + n)=i - (off + (n + 1)) + 1 by omega,List.getElem?_cons_succ]
   ·rw [if_neg h1]
    by_cases h2:off + n=i
    ·rw [if_pos h2,if_pos (by omega),if_pos (by omega),show i - (off + n)=0 by omega];rfl
    ·rw [if_neg h2,if_neg (by omega)]
theorem nL {off:Nat} {xs:Array Keyed} {r:List Keyed} (h:off + r.length≤xs.size):(laid off xs (r.zipIdx 0)).toList=xs.toList.take off++(r++xs.toList.drop (off + r.length)):=by
 have hl:xs.toList.length=xs.size:=Array.length_toList ..
 apply List.ext_getElem?
 intro i
 rw [Array.getElem?_toList,lI off r 0 xs i (by omega)]
 rw [Nat.add_zero]
 by_cases h1:i < off
 ·rw [if_neg (by omega),List.getElem?_append_left (by rw [List.length_take,hl];omega),List.getElem?_take_of_lt h1,Array.getElem?_toList]
 ·rw [List.getElem?_append_right (by rw [List.length_take,hl];omega),List.length_take,hl,Nat.min_eq_left (by omega)]
  by_cases h2:i < off + r.length
  ·rw [if_pos (by omega),List.getElem?_append_left (by omega)]
  ·rw [if_neg (by omega),List.getElem?_append_right (by omega),List.getElem?_drop,Array.getElem?_toList]
   congr 1;omega
theorem uq {xs:Array Keyed} {i j n:Nat} (h:i + n < j) (hj:j≤xs.size):K (xs.extract i j) n=K xs (i + n):=by
 apply K_congr
 rw [Array.getElem?_extract,if_pos (by omega)]
theorem gu {xs:Array Keyed} {i j:Nat} (hj:j≤xs.size):(xs.extract i j).size=j - i:=by rw [Array.size_extract];omega
theorem qf {xs:Array Keyed} {i j:Nat} (h:IntKeys xs):IK (xs.extract i j):=rD fun p hp=>by
 refine h p ?_
 rw [eX] at hp
 exact List.mem_of_mem_take (List.mem_of_mem_drop hp)
section
variable {prog:Program} {w:World} {A:Around} {E:Value→Shared→Prop} {s:Shared} {a₀:Array Keyed}
theorem uy {st st':SortSt} {Q:PUnit→SortSt→Prop} (h:Q ⟨⟩ st'):wpS (model prog w) A E s (set st':StateT SortSt Sem PUnit) Q st:=by
 unfold wpS;rw [StateT.run_set];exact wpAny_pure ⟨rfl,h⟩
theorem nM {xs r:Array Keyed} {n1 k m N:Nat} (hN:xs.size=N) (h1:k < n1) (h2:n1 + m≤N) (hm:0 < m) (s1:So xs 0 n1) (s2:So xs n1 N) (k1:∀ i,i < k→K xs i≤K xs n1) (k2:∀ i,k≤i→i < n1→K xs n1 < K xs i)
  (m1:∀ j,j < m→K xs (n1 + j) < K xs (n1 - 1)) (m2:∀ j,m≤j→n1 + j < N→K xs (n1 - 1)≤K xs (n1 + j)) (g:Gd (xs.extract k n1) (xs.extract n1 (n1 + m)) r):
  (laid k xs (r.toList.zipIdx 0)).Perm xs∧So (laid k xs (r.toList.zipIdx 0)) 0 N:=by
 have rl:r.toList.length=n1 + m - k:=by
  have:=g.1.length_eq
  rw [List.length_append,Array.length_toList,Array.length_toList,Array.length_toList,gu (by omega),gu (by omega)] at this
  rw [Array.length_toList];omega
 have ll:=nL (off:=k) (xs:=xs) (r:=r.toList) (by omega)
 have mid:(xs.extract k n1).toList++(xs.extract n1 (n1 + m)).toList++xs.toList.drop (k + r.toList.length)=xs.toList.drop k:=by
  rw [rl,show k + (n1 + m - k)=n1 + m by omega,show n1=k + (n1 - k) by omega,gv,gv,List.append_assoc,cH,cH]
 have pm:(laid k xs (r.toList.zipIdx 0)).toList.Perm xs.toList:=by
  rw [ll]
  refine List.Perm.trans (List.Perm.append_left _ (g.1.append_right _)) ?_
  rw [mid,List.take_append_drop]
 have hi:∀ x∈r.toList,K xs n1≤kx x∧kx x≤K xs (n1 - 1):=fun x hx=>by
  rcases List.mem_append.mp (g.1.mem_iff.mp hx) with h | h
  ·rw [eX] at h
   obtain ⟨j,g1,g2,g3,g4⟩:=iY h
   have:=k2 j g1 g2
   have:=s1 j (n1 - 1) (by omega) (by omega) (by omega)
   omega
  ·rw [eX] at h
   obtain ⟨j,g1,g2,g3,g4⟩:=iY h
   have:=m1 (j - n1) (by omega)
   rw [show n1 + (j - n1)=j by omega] at this
   have:=s2 n1 j (by omega) g1 (by omega)
   omega
 have sx:∀ {l:List Keyed},l.Sublist (xs.toList.take n1)→l.Pairwise kle:=fun {l} h=>by
  refine List.Pairwise.sublist h ?_
  refine List.pairwise_iff_getElem.mpr fun i j hi hj hij=>?_
  rw [List.length_take,Array.length_toList] at hi hj
  have:=s1 i j (by omega) (by omega) (by omega)
  rw [eC (Array.getElem?_eq_getElem (show i < xs.size by omega)),eC (Array.getElem?_eq_getElem (show j < xs.size by omega))] at this
  rw [List.getElem_take,List.getElem_take]
  simpa using this
 have sy:(xs.toList.drop (n1 + m)).Pairwise kle:=by
  refine List.pairwise_iff_getElem.mpr fun i j hi hj hij=>?_
  rw [List.length_drop,Array.length_toList] at hi hj
  have:=s2 (n1 + m + i) (n1 + m + j) (by omega) (by omega) (by omega)
  rw [eC (Array.getElem?_eq_getElem (show n1 + m + i < xs.size by omega)),eC (Array.getElem?_eq_getElem (show n1 + m + j < xs.size by omega))] at this
  rw [List.getElem_drop,List.getElem_drop]
  simpa using this
 refine ⟨Array.perm_iff_toList_perm.mpr pm,?_⟩
 have sz:(laid k xs (r.toList.zipIdx 0)).size=N:=by
  have:=pm.length_eq
  rw [Array.length_toList,Array.length_toList] at this
  omega
 have e:=qG (a:=laid k xs (r.toList.zipIdx 0)) ?_
 ·rw [sz] at e;exact e
 rw [ll,rl,show k + (n1 + m - k)=n1 + m by omega]
 refine List.pairwise_append.mpr ⟨sx (List.take_sublist_take_left (by omega)),List.pairwise_append.mpr ⟨g.2,sy,fun x hx y hy=>?_⟩,fun x hx y hy=>?_⟩
 ·obtain ⟨j,g1,g2,g3⟩:=cu hy
  have:=m2 (j - n1) (by omega) (by omega)
  rw [show n1 + (j - n1)=j by omega] at this
  have:=(hi x hx).2
  show kx x≤kx y
  omega
 ·obtain ⟨i,f1,f2,f3⟩:=cQ hx
  have:=k1 i f1
  show kx x≤kx y
  rcases List.mem_append.mp hy with h | h
  ·have:=(hi y h).1
   omega
  ·obtain ⟨j,g1,g2,g3⟩:=cu h
   have:=s2 n1 j (by omega) (by omega) (by omega)
   omega
theorem w_ma {st:SortSt} {n1 pw:Nat} {Q:Bool→SortSt→Prop} (h0:IntKeys a₀) (B:TB a₀ #[(0,n1,pw),(n1,a₀.size - n1,0)] st) (hn:1≤n1) (hn2:n1 < a₀.size) (s1:So (arrOf st) 0 n1) (s2:So (arrOf st) n1 a₀.size)
  (h:∀ st',TB a₀ #[(0,a₀.size,pw)] st'→So (arrOf st') 0 a₀.size→Q true st'):wpS (model prog w) A E s (mergeAt' 0) Q st:=by
 have sz:=B.size
 have ik:=rD (d8 B.perm h0)
 have eP:((#[(0,n1,pw),(n1,a₀.size - n1,0)]:Array (Nat×Nat×Nat)).setIfInBounds 0 (0,n1 + (a₀.size - n1),pw)).eraseIdxIfInBounds (0 + 1)=#[(0,a₀.size,pw)]:=by
  rw [show n1 + (a₀.size - n1)=a₀.size by omega];simp [Array.setIfInBounds,Array.eraseIdxIfInBounds,Array.eraseIdx]
 unfold mergeAt'
 walk_at "uma"
 dsimp only
 refine wpS_bind (wpS_get ?_)
 have hp:(sortPriv% PySem.Builtin.SortState.pending) st=#[(0,n1,pw),(n1,a₀.size - n1,0)]:=B.pend
 rw [hp,show (#[(0,n1,pw),(n1,a₀.size - n1,0)]:Array (Nat×Nat×Nat))[0]? =some (0,n1,pw) from rfl,show (#[(0,n1,pw),(n1,a₀.size - n1,0)]:Array (Nat×Nat×Nat))[0 + 1]? =some (n1,a₀.size - n1,0) from rfl]
 dsimp only
 refine wpS_bind (uy ?_)
 rw [eP]
 obtain ⟨st1,e1⟩:∃ st1,st1=SortSt.mk' (kindOf st) (arrOf st) #[(0,a₀.size,pw)] (gallopOf st) (failedOf st):=⟨_,rfl⟩
 have B1:TB a₀ #[(0,a₀.size,pw)] st1:=by rw [e1];exact ⟨B.perm,B.kind,B.failed,rfl⟩
 have ea:arrOf st1=arrOf st:=by rw [e1]
 rw [← ea] at s1 s2 sz ik
 change wpS (model prog w) A E s _ Q (SortSt.mk' (kindOf st) (arrOf st) #[(0,a₀.size,pw)] (gallopOf st) (failedOf st))
 rw [← e1]
 have ea':(sortPriv% PySem.Builtin.SortState.a) st=arrOf st1:=ea.symm
 rw [ea']
 obtain ⟨x1,t1,f1,f2⟩:=ik.get (i:=n1) (by omega)
 refine wpS_bind (au f1 ?_)
 refine wpS_bind (dP (base:=0) B1.kind ik f2 (by omega) (by omega) (fun i j h1 h2=>s1 _ _ (by omega) (by omega) (by omega)) fun k hk1 hk2 hk3=>?_)
 dsimp only
 have k1:∀ i,i < k→K (arrOf st1) i≤K (arrOf st1) n1:=fun i hi=>by
  have:=hk2 i hi
  unfold gB at this
  simp only [Bool.false_eq_true,if_false,Bool.not_eq_true',decide_eq_false_iff_not,Nat.zero_add] at this
  omega
 have k2:∀ i,k≤i→i < n1→K (arrOf st1) n1 < K (arrOf st1) i:=fun i h1 h2=>by
  have:=hk3 i h1 h2
  unfold gB at this
  simp only [Bool.false_eq_true,if_false,Bool.not_eq_false',decide_eq_true_eq,Nat.zero_add] at this
  omega
 by_cases hz:n1 - k=0
 ·rw [if_pos (by simpa using hz)]
  refine wpS_pure (h st1 B1 fun i j h1 h2 h3=>?_)
  by_cases c1:j < n1
  ·exact s1 i j h1 h2 c1
  ·by_cases c2:n1≤i
   ·exact s2 i j c2 h2 h3
   ·have a1:=k1 i (by omega)
    have a2:=s2 n1 j (by omega) (by omega) h3
    omega
 rw [if_neg (by simpa using hz),show 0 + k + (n1 - k) - 1=n1 - 1 by omega]
 obtain ⟨x2,t2,f3,f4⟩:=ik.get (i:=n1 - 1) (by omega)
 refine wpS_bind (au f3 ?_)
 refine wpS_bind (dP B1.kind ik f4 (by omega) (by omega) (fun i j h1 h2=>s2 _ _ (by omega) (by omega) (by omega)) fun m hm1 hm2 hm3=>?_)
 dsimp only
 have m1:∀ j,j < m→K (arrOf st1) (n1 + j) < K (arrOf st1) (n1 - 1):=fun j hj=>by
  have:=hm2 j hj
  unfold gB at this
  simp only [if_true,decide_eq_true_eq] at this
  omega
 have m2:∀ j,m≤j→n1 + j < a₀.size→K (arrOf st1) (n1 - 1)≤K (arrOf st1) (n1 + j):=fun j h1 h2=>by
  have:=hm3 j h1 (by omega)
  unfold gB at this
  simp only [if_true,decide_eq_false_iff_not] at this
  omega
 by_cases hz2:m=0
 ·rw [if_pos (by simpa using hz2)]
  refine wpS_pure (h st1 B1 fun i j h1 h2 h3=>?_)
  by_cases c1:j < n1
  ·exact s1 i j h1 h2 c1
  ·by_cases c2:n1≤i
   ·exact s2 i j c2 h2 h3
   ·have a1:=s1 i (n1 - 1) (by omega) (by omega) (by omega)
    have a2:=m2 (j - n1) (by omega) (by omega)
    rw [show n1 + (j - n1)=j by omega] at a2
    omega
 rw [if_neg (by simpa using hz2),Nat.zero_add]
 have R:Rn ((arrOf st1).extract k n1) ((arrOf st1).extract n1 (n1 + m)):=by
  have z1:((arrOf st1).extract k n1).size=n1 - k:=gu (by omega)
  have z2:((arrOf st1).extract n1 (n1 + m)).size=m:=by rw [gu (by omega)];omega
  have ka:∀ i,i < n1 - k→K ((arrOf st1).extract k n1) i=K (arrOf st1) (k + i):=fun i hi=>uq (by omega) (by omega)
  have kb:∀ i,i < m→K ((arrOf st1).extract n1 (n1 + m)) i=K (arrOf st1) (n1 + i):=fun i hi=>uq (by omega) (by omega)
  refine ⟨qf (d8 B1.perm h0),qf (d8 B1.perm h0),fun i j h1 h2=>?_,fun i j h1 h2=>?_,by omega,by omega,?_,?_⟩
  ·rw [ka i (by omega),ka j (by omega)];exact s1 _ _ (by omega) (by omega) (by omega)
  ·rw [kb i (by omega),kb j (by omega)];exact s2 _ _ (by omega) (by omega) (by omega)
  ·rw [ka 0 (by omega),kb 0 (by omega)];exact k2 _ (by omega) (by omega)
  ·rw [z1,z2,ka _ (by omega),kb _ (by omega),show k + (n1 - k - 1)=n1 - 1 by omega];exact m1 _ (by omega)
 have fin:∀ (r:Array Keyed) (st2:SortSt),Sg st1 st2→Gd ((arrOf st1).extract k n1) ((arrOf st1).extract n1 (n1 + m)) r→Q true (SortSt.mk' (kindOf st2) (laid k (arrOf st2) (r.toList.zipIdx 0)) (pendingOf st2) (gallopOf st2) (failedOf st2))∧(failedOf st2).isNone=true:=fun r st2 sg g=>by
  obtain ⟨g1,g2⟩:=nM (xs:=arrOf st1) sz (by omega) (by omega) (by omega) s1 s2 k1 k2 m1 m2 g
  refine ⟨h _ ⟨?_,sg.k.trans B1.kind,sg.f.trans B1.failed,sg.p.trans B1.pend⟩ ?_,by rw [sg.f,B1.failed];rfl⟩
  ·show (laid k (arrOf st2) (r.toList.zipIdx 0)).Perm a₀
   rw [sg.a];exact g1.trans B1.perm
  ·show So (laid k (arrOf st2) (r.toList.zipIdx 0)) 0 a₀.size
   rw [sg.a];exact g2
 by_cases hle:n1 - k≤m
 ·rw [if_pos hle]
  refine wpS_bind (uz R B1.kind fun r st2 sg g=>?_)
  obtain ⟨g1,g2⟩:=fin r st2 sg g
  refine wpS_bind (wpS_modify (wpS_bind (wpS_get (wpS_pure ?_))))
  have g2':Option.isNone ((sortPriv% PySem.Builtin.SortState.failed) st2)=true:=g2
  show Q (Option.isNone ((sortPriv% PySem.Builtin.SortState.failed) st2)) _
  rw [g2']
  exact g1
 ·rw [if_neg hle]
  refine wpS_bind (uA R B1.kind fun r st2 sg g=>?_)
  obtain ⟨g1,g2⟩:=fin r st2 sg g
  refine wpS_bind (wpS_modify (wpS_bind (wpS_get (wpS_pure ?_))))
  have g2':Option.isNone ((sortPriv% PySem.Builtin.SortState.failed) st2)=true:=g2
  show Q (Option.isNone ((sortPriv% PySem.Builtin.SortState.failed) st2)) _
  rw [g2']
  exact g1
end
theorem uY {N:Nat} (h1:64≤N) (h2:N≤65):∃ mr,minRun' N N 0=mr∧N≤2 * mr∧mr < N:=by
 rcases (show N=64∨N=65 by omega) with rfl | rfl
 ·exact ⟨32,by decide +kernel,by decide,by decide⟩
 ·exact ⟨33,by decide +kernel,by decide,by decide⟩
section
variable {prog:Program} {w:World} {A:Around} {E:Value→Shared→Prop} {s:Shared} {a₀:Array Keyed}
noncomputable def Dn (a₀:Array Keyed) (st:SortSt):Prop:=(∃ pw,TB a₀ #[(0,a₀.size,pw)] st∧So (arrOf st) 0 a₀.size)∨∃ n1 pw,1≤n1∧n1 < a₀.size∧TB a₀ #[(0,n1,pw),(n1,a₀.size - n1,0)] st∧So (arrOf st) 0 n1∧So (arrOf st) n1 a₀.size
theorem w_sr {st:SortSt} {Q:Unit→SortSt→Prop} (h0:IntKeys a₀) (hd:Dk a₀) (B:TB a₀ #[] st) (h1:64≤a₀.size) (h2:a₀.size≤65)
  (h:∀ st',(arrOf st').Perm a₀→failedOf st'=none→SortedTo (arrOf st') a₀.size→Q () st'):wpS (model prog w) A E s sortRuns' Q st:=by
 obtain ⟨mr,emr,m1,m2⟩:=uY h1 h2
 rw [sortRuns'_eq]
 dsimp only
 refine wpS_bind (wpS_get ?_)
 rw [B.size,emr]
 clear emr
 refine wpS_bind (wpS_mono (wpS_forRange (I:=fun x c st'=>(x=0∧c=(none,0)∧TB a₀ #[] st')∨(1≤x∧∃ n1,mr≤n1∧n1 < a₀.size∧x=1∧c=(none,n1)∧TB a₀ #[(0,n1,0)] st'∧So (arrOf st') 0 n1)∨(1≤x∧c=(none,a₀.size)∧Dn a₀ st'))
  (Q:=fun c st'=>c=(none,a₀.size)∧Dn a₀ st') ?step ?fin (.inl ⟨rfl,rfl,B⟩)) ?post)
 case fin=>
  rintro c st' (⟨hx,_⟩ | ⟨_,n1,_,_,hx,_⟩ | ⟨_,hc,hD⟩)
  ·omega
  ·omega
  ·exact ⟨hc,hD⟩
 case step=>
  rintro x c st' _ hx (⟨rfl,rfl,B'⟩ | ⟨hx1,n1,n11,n12,rfl,rfl,B',so⟩ | ⟨hx1,rfl,hD⟩)
  ·dsimp only
   rw [if_neg (by omega)]
   refine wpS_bind (w_cr h0 hd (by omega) (by omega) B' fun m st2 B2 g1 g2 so2 _=>?_)
   dsimp only
   rw [Nat.zero_add] at so2
   have back:∀ {st3:SortSt},TB a₀ #[] st3→(pendingOf st3).back? =none:=fun B3=>by rw [B3.pend];rfl
   have put:∀ {st3:SortSt} {n:Nat},TB a₀ #[] st3→TB a₀ #[(0,n,0)] (setPending st3 ((pendingOf st3).push (0,n,0))):=fun {st3 n} B3=>⟨B3.perm,B3.kind,B3.failed,by show (pendingOf st3).push (0,n,0)=_;rw [B3.pend];rfl⟩
   by_cases hlt:m < mr
   ·rw [if_pos hlt]
    refine wpS_bind (wpS_lift (wpAny_rule ⟨rfl,?_⟩))
    rw [show min (a₀.size - 0) mr=mr by omega]
    refine wpS_bind (w_bs h0 (by omega) g1 (by omega) B2 (by rw [Nat.zero_add];exact so2) fun st3 B3 so3 _=>?_)
    rw [if_neg (by decide)]
    refine wpS_bind (wpS_get ?_)
    rw [back B3]
    dsimp only
    rw [Nat.zero_add] at so3
    exact wpS_bind (wpS_modify (wpS_pure (.inr (.inl ⟨by omega,mr,Nat.le_refl _,m2,rfl,by rw [Nat.zero_add],put B3,so3⟩))))
   ·rw [if_neg hlt]
    refine wpS_bind (wpS_get ?_)
    rw [back B2]
    dsimp only
    by_cases hz:m=a₀.size
    ·refine wpS_bind (wpS_modify (wpS_pure (.inr (.inr ⟨by omega,by rw [Nat.zero_add,hz],.inl ⟨0,?_,?_⟩⟩))))
     ·rw [← hz];exact put B2
     ·rw [← hz];exact so2
    ·exact wpS_bind (wpS_modify (wpS_pure (.inr (.inl ⟨by omega,m,by omega,by omega,rfl,by rw [Nat.zero_add],put B2,so2⟩))))
  ·dsimp only
   rw [if_neg (by omega)]
   refine wpS_bind (w_cr h0 hd (by omega) (by omega) B' fun m st2 B2 g1 g2 so2 low=>?_)
   dsimp only
   have so1:So (arrOf st2) 0 n1:=fun i j a1 a2 a3=>by rw [low i (by omega),low j a3];exact so i j a1 a2 a3
   have rest:∀ {st3:SortSt} {n:Nat},n=a₀.size - n1→TB a₀ #[(0,n1,0)] st3→So (arrOf st3) 0 n1→So (arrOf st3) n1 a₀.size→∀ pw,Dn a₀ (setPending (setPending st3 ((pendingOf st3).modify ((pendingOf st3).size - 1) fun x=>(x.1,x.2.1,pw))) ((pendingOf (setPending st3 ((pendingOf st3).modify ((pendingOf st3).size - 1) fun x=>(x.1,x.2.1,pw)))).push (n1,n,0))):=fun {st3 n} en B3 e1 e2 pw=>by
    refine .inr ⟨n1,pw,by omega,n12,⟨B3.perm,B3.kind,B3.failed,?_⟩,e1,e2⟩
    show ((pendingOf st3).modify ((pendingOf st3).size - 1) fun x=>(x.1,x.2.1,pw)).push (n1,n,0)=_
    rw [B3.pend,en];rfl
   by_cases hlt:m < mr
   ·rw [if_pos hlt]
    refine wpS_bind (wpS_lift (wpAny_rule ⟨rfl,?_⟩))
    rw [show min (a₀.size - n1) mr=a₀.size - n1 by omega]
    refine wpS_bind (w_bs h0 (by omega) g1 g2 B2 so2 fun st3 B3 so3 low3=>?_)
    rw [if_neg (by decide)]
    have so13:So (arrOf st3) 0 n1:=fun i j a1 a2 a3=>by rw [low3 i (by omega),low3 j a3];exact so1 i j a1 a2 a3
    rw [show n1 + (a₀.size - n1)=a₀.size by omega] at so3
    refine wpS_bind (wpS_get ?_)
    rw [show (pendingOf st3).back? =some (0,n1,0) from by rw [B3.pend];rfl]
    dsimp only
    refine wpS_bind (wpS_mono (wpS_forRange (I:=fun _ c st4=>st4=st3∧c=(none,())) (Q:=fun c st4=>st4=st3∧c=(none,())) ?st ?fi ⟨rfl,rfl⟩) ?po)
    case fi=>exact fun _ _ hh=>hh
    case st=>
     rintro y c st4 _ _ ⟨rfl,rfl⟩
     refine wpS_bind (wpS_get ?_)
     rw [if_neg (by rw [B3.pend];show ¬ (1 > 1);decide)]
     exact wpS_pure ⟨rfl,rfl⟩
    case po=>
     rintro c st4 ⟨rfl,rfl⟩
     dsimp only
     refine wpS_bind (wpS_modify (wpS_bind (wpS_modify (wpS_pure (.inr (.inr ⟨by omega,by rw [show n1 + (a₀.size - n1)=a₀.size by omega],rest (by omega) B3 so13 so3 _⟩))))))
   ·rw [if_neg hlt]
    have em:m=a₀.size - n1:=by omega
    rw [show n1 + m=a₀.size by omega] at so2
    refine wpS_bind (wpS_get ?_)
    rw [show (pendingOf st2).back? =some (0,n1,0) from by rw [B2.pend];rfl]
    dsimp only
    refine wpS_bind (wpS_mono (wpS_forRange (I:=fun _ c st4=>st4=st2∧c=(none,())) (Q:=fun c st4=>st4=st2∧c=(none,())) ?st ?fi ⟨rfl,rfl⟩) ?po)
    case fi=>exact fun _ _ hh=>hh
    case st=>
     rintro y c st4 _ _ ⟨rfl,rfl⟩
     refine wpS_bind (wpS_get ?_)
     rw [if_neg (by rw [B2.pend];show ¬ (1 > 1);decide)]
     exact wpS_pure ⟨rfl,rfl⟩
    case po=>
     rintro c st4 ⟨rfl,rfl⟩
     dsimp only
     refine wpS_bind (wpS_modify (wpS_bind (wpS_modify (wpS_pure (.inr (.inr ⟨by omega,by rw [show n1 + m=a₀.size by omega],rest (by omega) B2 so1 so2 _⟩))))))
  ·dsimp only
   rw [if_pos (Nat.le_refl _)]
   exact wpS_pure ⟨rfl,hD⟩
 case post=>
  rintro c st' ⟨rfl,hD⟩
  dsimp only
  refine wpS_bind (wpS_mono (wpS_forRange (I:=fun x c st2=>c=(none,())∧Dn a₀ st2∧(1≤x→∃ pw,TB a₀ #[(0,a₀.size,pw)] st2∧So (arrOf st2) 0 a₀.size))
   (Q:=fun c st2=>c=(none,())∧∃ pw,TB a₀ #[(0,a₀.size,pw)] st2∧So (arrOf st2) 0 a₀.size) ?st ?fi ⟨rfl,hD,fun z=>by omega⟩) ?po)
  case fi=>
   rintro c st2 ⟨rfl,_,hh⟩
   exact ⟨rfl,hh (by omega)⟩
  case po=>
   rintro c st2 ⟨rfl,pw,B2,so2⟩
   exact wpS_pure (h st2 B2.perm B2.failed fun i j a1 a2=>so2 i j (Nat.zero_le _) a1 a2)
  case st=>
   rintro x c st2 _ _ ⟨rfl,hD2,hh⟩
   refine wpS_bind (wpS_get ?_)
   rcases hD2 with ⟨pw,B2,so2⟩ | ⟨n1,pw,g1,g2,B2,s1,s2⟩
   ·rw [if_pos (by rw [B2.pend];exact Nat.le_refl 1)]
    exact wpS_pure ⟨rfl,pw,B2,so2⟩
   ·rw [B2.pend]
    rw [if_neg (by show ¬ (2≤1);decide)]
    refine wpS_bind (w_ma h0 B2 g1 g2 s1 s2 fun st3 B3 so3=>?_)
    rw [if_neg (by decide)]
    exact wpS_pure ⟨rfl,.inl ⟨pw,B3,so3⟩,fun _=>⟨pw,B3,so3⟩⟩
end
section
variable {prog:Program} {w:World} {A:Around} {E:Value→Shared→Prop} {s:Shared}
theorem pN {vs:List Value} {ns:List Int} (hI:IntsAre vs ns) (nd:ns.Nodup):Dk (pairsOf vs):=by
 unfold Dk
 have:(pairsOf vs).toList.map kx=ns:=by
  rw [pairsOf_toList]
  induction hI with
  | nil=>rfl
  | cons n t h ih=>rw [List.zip_cons_cons,List.map_cons,ih (List.nodup_cons.mp nd).2];rfl
 rw [this];exact nd
theorem sort_tree {a:Addr} {vs:List Value} {ns:List Int} {n:Nat} {P:Fin→Shared→Prop} (ho:s.heap.get? a=some (seqObj "list" vs.toArray n)) (hI:IntsAre vs ns) (nd:ns.Nodup) (h66:vs.length < 66)
  (h:∀ (out:Array Value) (ns':List Int),IntsAre out.toList ns'→ns'.Perm ns→ns'.Pairwise (·≤·)→P (.done (.ret .none)) {s with heap:=sortedHeap s.heap a vs out}):
  wpAny (model prog w) A (Builtin.«list.sort» ⟨[.ref a],[]⟩) P E s:=by
 by_cases h64:vs.length < 64
 ·exact list_sort_tree ho hI h64 h
 have la:=Heap.lt_size ho
 have sz:vs.toArray.size=vs.length:=List.size_toArray ..
 rw [list_sort_plain]
 refine wpAny_bind (listItems_at ho rfl (wpAny_bind (listUpdate_at ho rfl ?_)))
 obtain ⟨c,hc⟩:∃ c,(s.heap.update a (Obj.mapSeq fun _=>#[])).get? a=some (seqObj "list" #[] c):=⟨_,get?_update_seq ho (fun _=>#[])⟩
 refine wpAny_bind (seqEpoch_at hc rfl (wpAny_bind (wpAny_newTuple (wpAny_bind (wpAny_newList (wpAny_holding ?_))))))
 obtain ⟨hp,ehp⟩:∃ hp:Heap,hp=((s.heap.update a (Obj.mapSeq fun _=>#[])).push (seqObj "tuple" vs.toArray 0)).push (seqObj "list" #[] 0):=⟨_,rfl⟩
 have hc2:hp.get? a=some (seqObj "list" #[] c):=by
  rw [ehp]
  exact Heap.get?_push_of_some _ (Heap.get?_push_of_some _ hc)
 change wpAny (model prog w) A _ P E {s with heap:=((s.heap.update a (Obj.mapSeq fun _=>#[])).push (seqObj "tuple" vs.toArray 0)).push (seqObj "list" #[] 0)}
 rw [← ehp]
 dsimp only
 rw [if_neg (by omega),if_neg (by omega)]
 obtain ⟨v1,v2,r,rfl⟩:∃ v1 v2 r,vs=v1::v2::r:=by
  match vs,h64 with
  | [],z=>exact absurd (show 0 < 64 by decide) z
  | [_],z=>exact absurd (show 1 < 64 by decide) z
  | v1::v2::r,_=>exact ⟨v1,v2,r,rfl⟩
 rw [keyKind_ints hI]
 refine wpAny_bind (wpAny_pure ?_)
 have zz:=pairsOf_size (v1::v2::r)
 refine wpAny_bind (wpAny_mono (w_sr (a₀:=pairsOf (v1::v2::r)) (st:=SortSt.mk' oneType' ((v1::v2::r).toArray.zip (v1::v2::r).toArray) #[] 7 none) (Q:=fun _ st'=>(arrOf st').Perm (pairsOf (v1::v2::r))∧failedOf st'=none∧SortedTo (arrOf st') (pairsOf (v1::v2::r)).size) hI.intKeys (pN hI nd) ⟨Array.Perm.refl _,rfl,rfl,rfl⟩ (by omega) (by omega) fun st' a1 a2 a3=>⟨a1,a2,a3⟩) ?_ fun _ _ e=>e)
 rintro ⟨_,st'⟩ s' ⟨rfl,p1,p2,p3⟩
 dsimp only
 refine wpAny_bind (seqEpoch_at hc2 rfl (wpAny_bind (listUpdate_at hc2 rfl ?_ (hsz2:=?_))))
 ·rw [p2]
  simp only [bne_self_eq_false,Bool.false_eq_true,if_false]
  obtain ⟨ns',q1,q2,q3⟩:=sorted_out hI p1 p3
  have:=h _ ns' q1 q2 q3
  unfold sortedHeap at this
  rw [← ehp] at this
  exact wpAny_pure this
 ·have:=(Array.size_map (f:=fun x:Keyed=>x.2) (xs:=arrOf st')).trans (p1.size_eq.trans zz)
  rw [this,sizeLine_eq];omega
end
end TS
namespace L2
open PySem PySem.Spec PyProof.Rows
section
variable {prog:Program} {w:World} {A:Around} {E:Value→Shared→Prop} {s:Shared} {d:Addr} {vs:List (Key×Value)} {ep:Nat}
theorem jh {Q:Value→Shared→Prop} {ks:List Int} (hh:A.handled=none) (lo:(d == sysModules)=false) (hat:s.heap.DictAt (aW prog w) d vs ep) (hn:vs.length≤sizeLine) (hk:vs.map (·.1)=ks.map Sum.inl) (nd:ks.Nodup) (h64:vs.length < 66)
  (h:∀ h' tk a (out:Array Value) (e:Nat) (ns':List Int),(∀ b o,s.heap.get? b=some o→h'.get? b=some o)→s.heap.objs.size≤a→h'.get? a=some (seqObj "list" out e)→IntsAre out.toList ns'→ns'.Perm ks→ns'.Pairwise (·≤·)→Q (.ref a) {s with heap:=h',toks:=tk}):
  wpAny (model prog w) A (call (.builtin "sorted") [.ref d]) Q E s:=by
 refine Calls.call_function_entry kind_sorted plain_sorted entry_sorted (args_sorted1 _) ?_
 unfold Builtin.«sorted»
 refine wpAny_bind (m:=checkCount "sorted" 1 1 _) (wpAny_pure ?_)
 refine wpAny_bind (jX (by exact hh) lo hat hn fun h' tk acc hk' hsz hacc=>?_)
 have hlen:(ks.map V.int).length=acc.toList.length:=by
  have e1:=congrArg List.length hk
  rw [List.length_map,List.length_map] at e1
  have e2:acc.toList.length=vs.length:=by rw [Array.length_toList];exact hacc.1
  rw [List.length_map];omega
 have hI:IntsAre acc.toList ks:=by
  refine lK (jw hlen fun i a b ha hb=>?_)
  rw [List.getElem?_map] at ha
  obtain ⟨k,hki,rfl⟩:=Option.map_eq_some_iff.mp ha
  rw [Array.getElem?_toList] at hb
  obtain ⟨k',x,hx,hki'⟩:=hacc.2 i b hb
  have e1:(vs.map (·.1))[i]? =some k':=by rw [List.getElem?_map,hx];rfl
  rw [hk,List.getElem?_map,hki] at e1
  have e1:=Option.some.inj e1
  subst e1
  exact qS (show jL (Sum.inl k) b=true from hki')
 have hal:acc.toList.length < 66:=by rw [Array.length_toList,hacc.1];exact h64
 refine wpAny_bind (wpAny_newList ?_)
 have hoL:(h'.push (seqObj "list" acc.toList.toArray 0)).get? h'.objs.size=some (seqObj "list" acc.toList.toArray 0):=Heap.get?_push_size _ rfl
 show wpAny _ _ _ _ _ {s with heap:=h'.push (seqObj "list" acc.toList.toArray 0),toks:=tk}
 refine wpAny_bind (wpAny_holding (wpAny_call_entry slot_list_sort ⟨_,hoL,rfl⟩ entry_list_sort (TS.sort_tree hoL hI nd hal fun out ns' a1 a2 a3=>⟨_,rfl,?_⟩) (args_list_sort _)))
 obtain ⟨e,he⟩:=sortedHeap_at (out:=out) hoL
 refine wpAny_pure ⟨_,rfl,h _ tk h'.objs.size out e ns' (fun b o hb=>?_) ?_ he a1 a2 a3⟩
 ·have hlt:=Heap.lt_size (hk' b o hb)
  rw [sortedHeap_old (Nat.ne_of_lt hlt) (by rw [size_push'];exact Nat.lt_succ_of_lt hlt)]
  exact Heap.get?_push_of_some _ (hk' b o hb)
 ·exact Nat.le_of_lt hsz
end
noncomputable def m8:List V→Hp→VK→Prop:=fun xs H Q=>∃ (p:Addr) (ks:List Int) (kvs:List (Key×V)),xs=[.ref p]∧H p=some (.dK kvs)∧kvs.map (·.1)=ks.map Sum.inl∧ks.Nodup∧kvs.length < 66∧
 ∀ (l:Addr) (ns:List Int),H l=none→ns.Perm ks→ns.Pairwise (·≤·)→Q (.ref l) (upd H l (.lst (ns.map V.int)))
theorem kU {X:Cx} (hc:X.calm=true):je X (.builtin "sorted") m8:=by
 intro pins s σ H xs us Q I r h
 obtain ⟨p,ks,kvs,rfl,hp,hk,nd,h64,q⟩:=h
 obtain ⟨u,rfl,rx⟩:=qx r
 cases rx
 obtain ⟨hz,lo,vs,rel,dd⟩:=pN I.hok hp
 obtain ⟨ep,hat⟩:=dd.dictAt
 refine jh (ks:=ks) (I.ok.hd hc) lo hat (by rw [← rel.length];exact hz) (by rw [← rel.keys];exact hk) nd (by rw [← rel.length];exact h64) fun h' tk a out e ns' kp ha he hi hpm hpw=>?_
 have rv:=nV hi
 have hl:(ns'.map V.int).length≤sizeLine:=by
  have e1:=congrArg List.length hk
  rw [List.length_map,List.length_map] at e1
  rw [List.length_map,hpm.length_eq,← e1]
  exact hz
 refine ⟨.ref a,_,I.laid (t':=tk) kp ha (show cj X.prog X.w _ h' _ (.lst (ns'.map V.int)) from ⟨hl,out.toList,e,rv,by simpa using he⟩),rfl,q _ ns' (I.hok.fresh ha) hpm hpw⟩
section
variable {H:Hp} {Q:VK}
theorem oU {p:Addr} {kvs:List (Key×V)} {ks:List Int} (e:H p=some (.dK kvs)) (hk:kvs.map (·.1)=ks.map Sum.inl) (nd:ks.Nodup) (h64:kvs.length < 66) (h:∀ (l:Addr) (ns:List Int) (H2:Hp),H l=none→Same H H2→H2 l=some (.lst (ns.map V.int))→ns.Perm ks→ns.Pairwise (·≤·)→Q (.ref l) H2):m8 [.ref p] H Q:=
 ⟨p,ks,kvs,rfl,e,hk,nd,h64,fun l ns hl hp hw=>h l ns _ hl (gf hl) be hp hw⟩
end
end L2
set_option autoImplicit false
namespace M
theorem rE (a b:Nat):(a||| b) / 2=a / 2||| b / 2:=by
 apply Nat.eq_of_testBit_eq;intro i
 simp [Nat.testBit_div_two,Nat.testBit_or]
theorem lM (a b:Nat):(a&&&b) / 2=a / 2&&&b / 2:=by
 apply Nat.eq_of_testBit_eq;intro i
 simp [Nat.testBit_div_two,Nat.testBit_and]
theorem lL (a b:Nat):(a^^^b) / 2=a / 2^^^b / 2:=by
 apply Nat.eq_of_testBit_eq;intro i
 simp [Nat.testBit_div_two,Nat.testBit_xor]
theorem or_sum (a:Nat):∀ b:Nat,a||| b=(a^^^b) + (a&&&b):=by
 induction a using Nat.strongRecOn with
 | ind a ih=>
   intro b
   by_cases ha:a=0
   ·subst ha;simp
   ·have h:=ih (a / 2) (by omega) (b / 2)
    have e1:=Nat.div_add_mod (a||| b) 2
    have e2:=Nat.div_add_mod (a^^^b) 2
    have e3:=Nat.div_add_mod (a&&&b) 2
    rw [rE] at e1
    rw [lL] at e2
    rw [lM] at e3
    have m1:(a||| b) % 2=(a % 2||| b % 2):=by have:=@Nat.or_mod_two_pow a b 1;simpa using this
    have m2:(a^^^b) % 2=(a % 2^^^b % 2):=by have:=@Nat.xor_mod_two_pow a b 1;simpa using this
    have m3:(a&&&b) % 2=(a % 2&&&b % 2):=by have:=@Nat.and_mod_two_pow a b 1;simpa using this
    have c:(a % 2||| b % 2)=(a % 2^^^b % 2) + (a % 2&&&b % 2):=by
     rcases Nat.mod_two_eq_zero_or_one a with h1 | h1<;>rcases Nat.mod_two_eq_zero_or_one b with h2 | h2<;>rw [h1,h2]<;>decide
    omega
noncomputable def pb:Nat→Nat→Bool
 | 0,_=>false
 | w + 1,m=>(m.testBit w)^^(pb w m)
theorem p8 (w a b:Nat):pb w (a^^^b)=(pb w a^^pb w b):=by
 induction w with
 | zero=>rfl
 | succ w ih=>
   simp only [pb,Nat.testBit_xor,ih]
   cases a.testBit w<;>cases b.testBit w<;>cases pb w a<;>cases pb w b<;>rfl
theorem iR (h j m:Nat):pb (h + j) m=(pb h m^^pb j (m>>>h)):=by
 induction j with
 | zero=>simp [pb]
 | succ j ih=>
   rw [Nat.add_succ]
   simp only [pb,ih,Nat.testBit_shiftRight]
   cases m.testBit (h + j)<;>cases pb h m<;>cases pb j (m>>>h)<;>rfl
theorem p9 (h m:Nat):pb h (m % 2 ^ h)=pb h m:=by
 suffices ∀ j,j≤h→pb j (m % 2 ^ h)=pb j m from this h (Nat.le_refl h)
 intro j
 induction j with
 | zero=>intro _;rfl
 | succ j ih=>
   intro hj
   simp only [pb]
   rw [ih (by omega),Nat.testBit_mod_two_pow]
   simp [show j < h by omega]
theorem ra (w j m:Nat) (hm:m < 2 ^ w):pb (w + j) m=pb w m:=by
 rw [iR,Nat.shiftRight_eq_div_pow,Nat.div_eq_of_lt hm]
 have:∀ j,pb j 0=false:=by intro j;induction j with
  | zero=>rfl
  | succ j ih=>simp [pb,ih]
 rw [this];simp
theorem pb_up {w w' m:Nat} (hm:m < 2 ^ w) (h:w≤w'):pb w' m=pb w m:=by
 obtain ⟨j,rfl⟩:=Nat.exists_eq_add_of_le h
 exact ra w j m hm
theorem pb_fold (w h m:Nat) (hw:h≤w) (hm:m < 2 ^ w) (h2:w≤2 * h):pb h ((m>>>h)^^^(m&&&(2 ^ h - 1)))=pb w m:=by
 rw [Nat.and_two_pow_sub_one_eq_mod,p8,p9]
 obtain ⟨j,rfl⟩:=Nat.exists_eq_add_of_le hw
 rw [iR]
 have hlt:m>>>h < 2 ^ j:=by
  rw [Nat.shiftRight_eq_div_pow]
  exact Nat.div_lt_of_lt_mul (by rw [← Nat.pow_add];exact hm)
 rw [pb_up hlt (show j≤h by omega)]
 cases pb j (m>>>h)<;>cases pb h m<;>rfl
theorem fold_lt (w h m:Nat) (hm:m < 2 ^ w) (h2:w≤2 * h):(m>>>h)^^^(m&&&(2 ^ h - 1)) < 2 ^ h:=by
 apply Nat.xor_lt_two_pow
 ·rw [Nat.shiftRight_eq_div_pow]
  refine Nat.div_lt_of_lt_mul ?_
  rw [← Nat.pow_add]
  exact Nat.lt_of_lt_of_le hm (Nat.pow_le_pow_right (by decide) (by omega))
 ·rw [Nat.and_two_pow_sub_one_eq_mod]
  exact Nat.mod_lt _ (Nat.two_pow_pos h)
noncomputable def pl (w m:Nat):List Nat:=(List.range w).filter m.testBit
theorem pl_up {w w' m:Nat} (hm:m < 2 ^ w) (h:w≤w'):pl w' m=pl w m:=by
 obtain ⟨j,rfl⟩:=Nat.exists_eq_add_of_le h
 unfold pl
 rw [List.range_add,List.filter_append]
 have:List.filter m.testBit (List.map (fun x=>w + x) (List.range j))=[]:=by
  rw [List.filter_eq_nil_iff]
  intro a ha
  obtain ⟨k,_,rfl⟩:=List.mem_map.mp ha
  rw [Nat.testBit_lt_two_pow (Nat.lt_of_lt_of_le hm (Nat.pow_le_pow_right (by decide) (Nat.le_add_right w k)))]
  simp
 rw [this,List.append_nil]
noncomputable def Span:List Nat→Nat→Prop
 | [],x=>x=0
 | r::rs,x=>Span rs x∨Span rs (x^^^r)
theorem span_zero:∀ rs:List Nat,Span rs 0
 | []=>rfl
 | _::rs=> .inl (span_zero rs)
theorem aF (x r:Nat):x^^^r^^^r=x:=by rw [Nat.xor_assoc,Nat.xor_self,Nat.xor_zero]
theorem bA (a b c:Nat):a^^^b^^^c=a^^^c^^^b:=by rw [Nat.xor_assoc,Nat.xor_comm b c,← Nat.xor_assoc]
theorem cD:∀ (rs:List Nat) (r x:Nat),Span (rs++[r]) x↔Span rs x∨Span rs (x^^^r)
 | [],r,x=>Iff.rfl
 | q::rs,r,x=>by
   show Span (rs++[r]) x∨Span (rs++[r]) (x^^^q)↔(Span rs x∨Span rs (x^^^q))∨(Span rs (x^^^r)∨Span rs (x^^^r^^^q))
   rw [cD rs r x,cD rs r (x^^^q),bA x q r]
   constructor
   ·rintro ((h | h) | (h | h))
    ·exact .inl (.inl h)
    ·exact .inr (.inl h)
    ·exact .inl (.inr h)
    ·exact .inr (.inr h)
   ·rintro ((h | h) | (h | h))
    ·exact .inl (.inl h)
    ·exact .inr (.inl h)
    ·exact .inl (.inr h)
    ·exact .inr (.inr h)
theorem span_xor:∀ {rs:List Nat} {x y:Nat},Span rs x→Span rs y→Span rs (x^^^y)
 | [],x,y,h,k=>by
   have h:x=0:=h
   have k:y=0:=k
   subst h;subst k;exact rfl
 | r::rs,x,y,h,k=>by
   rcases h with h | h<;>rcases k with k | k
   ·exact .inl (span_xor h k)
   ·refine .inr ?_
    have:=span_xor h k
    rwa [← Nat.xor_assoc] at this
   ·refine .inr ?_
    have:=span_xor h k
    rwa [bA] at this
   ·refine .inl ?_
    have:=span_xor h k
    rwa [← Nat.xor_assoc,bA x r y,aF] at this
noncomputable def sm:List Nat→Nat→Nat
 | [],_=>0
 | r::rs,p=>(if p.testBit 0 then r else 0)^^^sm rs (p / 2)
theorem sm_zero:∀ rs:List Nat,sm rs 0=0
 | []=>rfl
 | r::rs=>by show (if (0:Nat).testBit 0 then r else 0)^^^sm rs (0 / 2)=0;rw [show (0:Nat) / 2=0 from rfl,sm_zero rs];simp
theorem xor4 (a b c d:Nat):a^^^b^^^(c^^^d)=a^^^c^^^(b^^^d):=by
 rw [Nat.xor_assoc,← Nat.xor_assoc b c d,Nat.xor_comm b c,Nat.xor_assoc c b d,← Nat.xor_assoc a c]
theorem sm_xor:∀ (rs:List Nat) (p q:Nat),sm rs (p^^^q)=sm rs p^^^sm rs q
 | [],p,q=>by show (0:Nat)=0^^^0;simp
 | r::rs,p,q=>by
   show (if (p^^^q).testBit 0 then r else 0)^^^sm rs ((p^^^q) / 2)=((if p.testBit 0 then r else 0)^^^sm rs (p / 2))^^^((if q.testBit 0 then r else 0)^^^sm rs (q / 2))
   rw [lL,sm_xor rs,Nat.testBit_xor,xor4]
   congr 1
   cases p.testBit 0<;>cases q.testBit 0<;>simp
theorem iH:∀ (rs:List Nat) (r p:Nat),sm (rs++[r]) p=sm rs p^^^(if p.testBit rs.length then r else 0)
 | [],r,p=>by show (if p.testBit 0 then r else 0)^^^0=0^^^_;rw [Nat.xor_zero,Nat.zero_xor];rfl
 | q::rs,r,p=>by
   show (if p.testBit 0 then q else 0)^^^sm (rs++[r]) (p / 2)=((if p.testBit 0 then q else 0)^^^sm rs (p / 2))^^^_
   rw [iH rs r (p / 2),Nat.testBit_div_two,Nat.xor_assoc]
   rfl
theorem cE {rs:List Nat} {r p:Nat} (h:p < 2 ^ rs.length):sm (rs++[r]) p=sm rs p:=by
 rw [iH,Nat.testBit_lt_two_pow h];simp
theorem sD (rs:List Nat) (r:Nat):sm (rs++[r]) (2 ^ rs.length)=r:=by
 rw [iH]
 have e:sm rs (2 ^ rs.length)=0:=by
  have:∀ (rs:List Nat) (k:Nat),rs.length≤k→sm rs (2 ^ k)=0:=by
   intro rs
   induction rs with
   | nil=>intro k _;rfl
   | cons q rs ih=>
     intro k hk
     have hk:rs.length + 1≤k:=hk
     obtain ⟨j,rfl⟩:∃ j,k=j + 1:=⟨k - 1,by omega⟩
     show (if (2 ^ (j + 1)).testBit 0 then q else 0)^^^sm rs (2 ^ (j + 1) / 2)=0
     have e1:(2 ^ (j + 1)) / 2=2 ^ j:=by rw [Nat.pow_succ];omega
     have e2:(2 ^ (j + 1)).testBit 0=false:=by rw [Nat.testBit_two_pow];simp
     rw [e1,e2,ih j (by omega)]
     simp
  exact this rs _ (Nat.le_refl _)
 rw [e,Nat.testBit_two_pow_self];simp
theorem sm_span:∀ (rs:List Nat) (p:Nat),Span rs (sm rs p)
 | [],p=>rfl
 | r::rs,p=>by
   show Span rs _∨Span rs _
   have ih:=sm_span rs (p / 2)
   cases h:p.testBit 0 with
   | true=>refine .inr ?_;rw [show sm (r::rs) p=r^^^sm rs (p / 2) from by show (if p.testBit 0 then r else 0)^^^_=_;rw [h];rfl,Nat.xor_comm r,aF];exact ih
   | false=>refine .inl ?_;rw [show sm (r::rs) p=sm rs (p / 2) from by show (if p.testBit 0 then r else 0)^^^_=_;rw [h];simp];exact ih
theorem nH {x t:Nat} (h1:2 ^ t≤x) (h2:x < 2 ^ (t + 1)):x.log2=t:=by
 have hx:x≠0:=by have:=Nat.two_pow_pos t;omega
 have a:=(Nat.log2_lt hx).mpr h2
 have b:t≤x.log2:=(Nat.le_log2 hx).mpr h1
 omega
theorem eA {x:Nat} (h:x≠0):x.testBit x.log2=true:=by
 have:=Nat.testBit_log2 h
 exact this
theorem xor_lt_pow {x y t:Nat} (h1:x < 2 ^ t) (h2:y < 2 ^ t):x^^^y < 2 ^ t:=Nat.xor_lt_two_pow h1 h2
theorem oO {x y:Nat} (hx:x≠0) (hy:y≠0) (h:x.log2=y.log2):x^^^y < 2 ^ x.log2:=by
 have h1:x^^^y < 2 ^ (x.log2 + 1):=xor_lt_pow Nat.lt_log2_self (by rw [h];exact Nat.lt_log2_self)
 have hb:(x^^^y).testBit x.log2=false:=by
  rw [Nat.testBit_xor,eA hx,show y.testBit x.log2=true by rw [h];exact eA hy];rfl
 apply Nat.lt_pow_two_of_testBit
 intro i hi
 rcases Nat.lt_or_eq_of_le hi with hi | hi
 ·exact Nat.testBit_lt_two_pow (Nat.lt_of_lt_of_le h1 (Nat.pow_le_pow_right (by decide) hi))
 ·rw [← hi];exact hb
theorem xor_less {x y:Nat} (hx:x≠0) (hy:y≠0) (h:x.log2=y.log2):x^^^y < x:=
 Nat.lt_of_lt_of_le (oO hx hy h) (Nat.log2_self_le hx)
theorem dJ {x y:Nat} (hy:y≠0) (h:x < 2 ^ y.log2):(x^^^y).log2=y.log2:=by
 have h1:x^^^y < 2 ^ (y.log2 + 1):=xor_lt_pow (Nat.lt_of_lt_of_le h (Nat.pow_le_pow_right (by decide) (by omega))) Nat.lt_log2_self
 have hb:(x^^^y).testBit y.log2=true:=by rw [Nat.testBit_xor,Nat.testBit_lt_two_pow h,eA hy];rfl
 exact nH (Nat.ge_two_pow_of_testBit hb) h1
theorem kH {x y:Nat} (hx:x≠0) (hy:y≠0) (h:x.log2≠y.log2):(x^^^y).log2=x.log2∨(x^^^y).log2=y.log2:=by
 rcases Nat.lt_or_gt_of_ne h with h | h
 ·exact .inr (dJ hy (Nat.lt_of_lt_of_le Nat.lt_log2_self (Nat.pow_le_pow_right (by decide) h)))
 ·refine .inl ?_
  rw [Nat.xor_comm]
  exact dJ hx (Nat.lt_of_lt_of_le Nat.lt_log2_self (Nat.pow_le_pow_right (by decide) h))
noncomputable def Fre (rows:List Nat) (i:Nat):Prop:=i < rows.length∧¬ Span (rows.take i) (rows.getD i 0)
theorem Fre.snoc {rows:List Nat} {i:Nat} (r:Nat) (h:Fre rows i):Fre (rows++[r]) i:=by
 obtain ⟨hi,hn⟩:=h
 refine ⟨by rw [List.length_append];omega,?_⟩
 rw [List.take_append_of_le_length (Nat.le_of_lt hi),List.getD_eq_getElem?_getD,List.getElem?_append_left hi,← List.getD_eq_getElem?_getD]
 exact hn
theorem Fre.last {rows:List Nat} {r:Nat} (h:¬ Span rows r):Fre (rows++[r]) rows.length:=by
 refine ⟨by rw [List.length_append];simp,?_⟩
 rw [List.take_left,List.getD_eq_getElem?_getD,List.getElem?_append_right (Nat.le_refl _),Nat.sub_self]
 exact h
noncomputable def Frs (rows:List Nat) (q:Nat):Prop:=∀ i,q.testBit i=true→Fre rows i
theorem Frs.zero (rows:List Nat):Frs rows 0:=fun i h=>by rw [Nat.zero_testBit] at h;cases h
theorem Frs.xor {rows:List Nat} {p q:Nat} (hp:Frs rows p) (hq:Frs rows q):Frs rows (p^^^q):=fun i h=>by
 rw [Nat.testBit_xor] at h
 cases h1:p.testBit i with
 | true=>exact hp i h1
 | false=>rw [h1] at h;exact hq i (by simpa using h)
theorem Frs.snoc {rows:List Nat} {q:Nat} (r:Nat) (h:Frs rows q):Frs (rows++[r]) q:=fun i hi=>(h i hi).snoc r
theorem Frs.more {rows:List Nat} {q r:Nat} (h:Frs rows q) (hr:¬ Span rows r):Frs (rows++[r]) (q^^^2 ^ rows.length):=(h.snoc r).xor fun i hi=>by
 rw [Nat.testBit_two_pow] at hi
 have e:rows.length=i:=by simpa using hi
 rw [← e];exact Fre.last hr
structure Ech (es:List (Nat×Nat)) (rows:List Nat):Prop where
 nz:∀ e∈es,e.1≠0
 lt:∀ e∈es,e.2 < 2 ^ rows.length
 sm:∀ e∈es,sm rows e.2=e.1
 nd:(es.map fun e=>e.1.log2).Nodup
 all:∀ y,Span rows y→y≠0→∃ e∈es,e.1.log2=y.log2
 sub:∀ e∈es,Frs rows e.2
theorem Ech.nil:Ech [] []:=⟨fun _ h=>absurd h (by simp),fun _ h=>absurd h (by simp),fun _ h=>absurd h (by simp),.nil,fun y h n=>absurd h n,fun _ h=>absurd h (by simp)⟩
theorem Ech.span {es:List (Nat×Nat)} {rows:List Nat} (I:Ech es rows) {e:Nat×Nat} (h:e∈es):Span rows e.1:=by
 rw [← I.sm e h];exact sm_span _ _
theorem mY {rows:List Nat} {r p:Nat} (h:p < 2 ^ rows.length):sm (rows++[r]) (p^^^2 ^ rows.length)=sm rows p^^^r:=by
 rw [sm_xor,cE h,sD]
theorem nF {n p:Nat} (h:p < 2 ^ n):p^^^2 ^ n < 2 ^ (n + 1):=
 xor_lt_pow (Nat.lt_of_lt_of_le h (Nat.pow_le_pow_right (by decide) (by omega))) (Nat.pow_lt_pow_right (by decide) (by omega))
theorem Ech.null {es:List (Nat×Nat)} {rows:List Nat} (I:Ech es rows) {r q:Nat} (hq:q < 2 ^ rows.length) (e:r^^^M.sm rows q=0):Span rows r∧Ech es (rows++[r]):=by
 have hr:r=M.sm rows q:=by
  have:=congrArg (·^^^M.sm rows q) e
  simpa [aF] using this
 have hs:Span rows r:=by rw [hr];exact sm_span _ _
 refine ⟨hs,I.nz,fun e h=>?_,fun e h=>?_,I.nd,fun y hy n=>?_,fun e h=>(I.sub e h).snoc r⟩
 ·rw [List.length_append];exact Nat.lt_of_lt_of_le (I.lt e h) (Nat.pow_le_pow_right (by decide) (by simp))
 ·rw [cE (I.lt e h)];exact I.sm e h
 ·rcases (cD rows r y).mp hy with hy | hy
  ·exact I.all y hy n
  ·have:=span_xor hy hs
   rw [aF] at this
   exact I.all y this n
theorem Ech.more {es:List (Nat×Nat)} {rows:List Nat} (I:Ech es rows) {r q:Nat} (hq:q < 2 ^ rows.length) (e:r^^^M.sm rows q≠0) (hn:∀ e∈es,e.1.log2≠(r^^^M.sm rows q).log2) (hf:Frs rows q):
  ¬ Span rows r∧Ech (es++[(r^^^M.sm rows q,q^^^2 ^ rows.length)]) (rows++[r]):=by
 have hns:¬ Span rows r:=fun hs=>by
  obtain ⟨x,hx,ex⟩:=I.all _ (span_xor hs (sm_span rows q)) e
  exact hn x hx ex
 refine ⟨hns,fun x h=>?_,fun x h=>?_,fun x h=>?_,?_,fun y hy n=>?_,fun x h=>(List.mem_append.mp h).elim (fun h=>(I.sub x h).snoc r) fun h=>by rw [List.mem_singleton] at h;subst h;exact hf.more hns⟩
 ·rcases List.mem_append.mp h with h | h
  ·exact I.nz x h
  ·rw [List.mem_singleton] at h;subst h;exact e
 ·rw [List.length_append]
  rcases List.mem_append.mp h with h | h
  ·exact Nat.lt_of_lt_of_le (I.lt x h) (Nat.pow_le_pow_right (by decide) (by simp))
  ·rw [List.mem_singleton] at h;subst h;exact nF hq
 ·rcases List.mem_append.mp h with h | h
  ·rw [cE (I.lt x h)];exact I.sm x h
  ·rw [List.mem_singleton] at h;subst h
   show M.sm _ (q^^^_)=r^^^M.sm rows q
   rw [mY hq,Nat.xor_comm]
 ·rw [List.map_append,List.nodup_append]
  refine ⟨I.nd,by simp,fun a ha b hb=>?_⟩
  obtain ⟨x,hx,rfl⟩:=List.mem_map.mp ha
  rw [List.map_singleton,List.mem_singleton] at hb
  subst hb
  exact hn x hx
 ·rcases (cD rows r y).mp hy with hy | hy
  ·obtain ⟨x,hx,ex⟩:=I.all y hy n
   exact ⟨x,List.mem_append_left _ hx,ex⟩
  ·
   have hz:=span_xor hy (sm_span rows q)
   have ey:y=(y^^^r^^^M.sm rows q)^^^(r^^^M.sm rows q):=by
    rw [xor4,Nat.xor_self,Nat.xor_zero,aF]
   generalize hz':y^^^r^^^M.sm rows q=z at hz ey
   by_cases z0:z=0
   ·refine ⟨_,List.mem_append_right _ (List.mem_singleton.mpr rfl),?_⟩
    show (r^^^M.sm rows q).log2=y.log2
    rw [ey,z0,Nat.zero_xor]
   ·obtain ⟨x,hx,ex⟩:=I.all z hz z0
    have ne:z.log2≠(r^^^M.sm rows q).log2:=by rw [← ex];exact hn x hx
    rcases kH z0 e ne with h | h
    ·exact ⟨x,List.mem_append_left _ hx,by rw [ex,ey,h]⟩
    ·refine ⟨_,List.mem_append_right _ (List.mem_singleton.mpr rfl),?_⟩
     show (r^^^M.sm rows q).log2=y.log2
     rw [ey,h]
noncomputable def tt (p:Prop):Bool:=@decide p (Classical.propDecidable p)
theorem rZ {p:Prop} (h:p):tt p=true:=@decide_eq_true _ (Classical.propDecidable _) h
theorem r8 {p:Prop} (h:¬ p):tt p=false:=@decide_eq_false _ (Classical.propDecidable _) h
noncomputable def fr (rows:List Nat):List Nat:=(List.range rows.length).filter fun i=> !tt (Span (rows.take i) (rows.getD i 0))
theorem n5 (rows:List Nat) (r:Nat):fr (rows++[r])=fr rows++(if tt (Span rows r)=true then [] else [rows.length]):=by
 unfold fr
 rw [List.length_append,List.length_singleton,List.range_succ,List.filter_append]
 have e1:(List.range rows.length).filter (fun i=> !tt (Span ((rows++[r]).take i) ((rows++[r]).getD i 0)))=(List.range rows.length).filter (fun i=> !tt (Span (rows.take i) (rows.getD i 0))):=by
  apply List.filter_congr
  intro i hi
  have hi:=List.mem_range.mp hi
  have a:(rows++[r]).take i=rows.take i:=List.take_append_of_le_length (Nat.le_of_lt hi)
  have b:(rows++[r]).getD i 0=rows.getD i 0:=by
   rw [List.getD_eq_getElem?_getD,List.getD_eq_getElem?_getD,List.getElem?_append_left hi]
  rw [a,b]
 rw [e1]
 congr 1
 have a:(rows++[r]).take rows.length=rows:=List.take_left
 have b:(rows++[r]).getD rows.length 0=r:=by
  rw [List.getD_eq_getElem?_getD,List.getElem?_append_right (Nat.le_refl _),Nat.sub_self];rfl
 rw [List.filter_cons,a,b]
 cases tt (Span rows r)<;>rfl
theorem fr_len (rows:List Nat):(fr rows).length≤rows.length:=by
 have:=List.length_filter_le (fun i=> !tt (Span (rows.take i) (rows.getD i 0))) (List.range rows.length)
 rw [List.length_range] at this
 exact this
theorem fr_in {rows:List Nat} {r:Nat} (h:Span rows r):fr (rows++[r])=fr rows:=by rw [n5,rZ h];simp
theorem fr_out {rows:List Nat} {r:Nat} (h:¬ Span rows r):fr (rows++[r])=fr rows++[rows.length]:=by rw [n5,r8 h];rfl
structure Nul (nms rows:List Nat):Prop where
 lt:∀ x∈nms,x < 2 ^ rows.length
 nz:∀ x∈nms,x≠0
 sm:∀ x∈nms,sm rows x=0
 pw:nms.Pairwise fun a b=>a.log2 < b.log2
 len:nms.length + (fr rows).length=rows.length
theorem Nul.nil:Nul [] []:=⟨fun _ h=>absurd h (by simp),fun _ h=>absurd h (by simp),fun _ h=>absurd h (by simp),.nil,rfl⟩
theorem Nul.keep {nms rows:List Nat} (I:Nul nms rows) {r:Nat} (h:¬ Span rows r):Nul nms (rows++[r]) where
 lt:=fun x hx=>by rw [List.length_append];exact Nat.lt_of_lt_of_le (I.lt x hx) (Nat.pow_le_pow_right (by decide) (by simp))
 nz:=I.nz
 sm:=fun x hx=>by rw [cE (I.lt x hx)];exact I.sm x hx
 pw:=I.pw
 len:=by rw [fr_out h,List.length_append,List.length_append,← I.len];simp;omega
theorem gM {n q:Nat} (h:q < 2 ^ n):q^^^2 ^ n≠0∧(q^^^2 ^ n).log2=n:=by
 have e:(2 ^ n:Nat).log2=n:=nH (Nat.le_refl _) (Nat.pow_lt_pow_right (by decide) (by omega))
 have h0:(2 ^ n:Nat)≠0:=by have:=Nat.two_pow_pos n;omega
 have hl:=dJ (x:=q) h0 (by rw [e];exact h)
 refine ⟨fun z=>?_,by rw [hl,e]⟩
 have hb:(q^^^2 ^ n).testBit n=true:=by rw [Nat.testBit_xor,Nat.testBit_lt_two_pow h,Nat.testBit_two_pow_self];rfl
 rw [z] at hb
 simp at hb
theorem log2_under {n q:Nat} (h0:q≠0) (h:q < 2 ^ n):q.log2 < n:=(Nat.log2_lt h0).mpr h
theorem Nul.snoc {nms rows:List Nat} (I:Nul nms rows) {r q:Nat} (hq:q < 2 ^ rows.length) (e:r^^^M.sm rows q=0) (hs:Span rows r):Nul (nms++[q^^^2 ^ rows.length]) (rows++[r]) where
 lt:=fun x hx=>by
  rw [List.length_append]
  rcases List.mem_append.mp hx with hx | hx
  ·exact Nat.lt_of_lt_of_le (I.lt x hx) (Nat.pow_le_pow_right (by decide) (by simp))
  ·rw [List.mem_singleton] at hx;subst hx;exact nF hq
 nz:=fun x hx=>by
  rcases List.mem_append.mp hx with hx | hx
  ·exact I.nz x hx
  ·rw [List.mem_singleton] at hx;subst hx;exact (gM hq).1
 sm:=fun x hx=>by
  rcases List.mem_append.mp hx with hx | hx
  ·rw [cE (I.lt x hx)];exact I.sm x hx
  ·rw [List.mem_singleton] at hx;subst hx;rw [mY hq,Nat.xor_comm];exact e
 pw:=by
  rw [List.pairwise_append]
  refine ⟨I.pw,List.pairwise_singleton _ _,fun a ha b hb=>?_⟩
  rw [List.mem_singleton] at hb
  subst hb
  rw [(gM hq).2]
  exact log2_under (I.nz a ha) (I.lt a ha)
 len:=by rw [fr_in hs,List.length_append,List.length_append,← I.len];simp;omega
structure NulF (nms rows:List Nat):Prop extends Nul nms rows where
 frs:∀ x∈nms,Frs rows (x^^^2 ^ x.log2)
theorem NulF.nil:NulF [] []:=⟨Nul.nil,fun _ h=>absurd h (by simp)⟩
theorem NulF.keep {nms rows:List Nat} (I:NulF nms rows) {r:Nat} (h:¬ Span rows r):NulF nms (rows++[r]):=⟨I.toNul.keep h,fun x hx=>(I.frs x hx).snoc r⟩
theorem NulF.snoc {nms rows:List Nat} (I:NulF nms rows) {r q:Nat} (hq:q < 2 ^ rows.length) (e:r^^^M.sm rows q=0) (hs:Span rows r) (hf:Frs rows q):NulF (nms++[q^^^2 ^ rows.length]) (rows++[r]):=⟨I.toNul.snoc hq e hs,fun x hx=>by
 rcases List.mem_append.mp hx with hx | hx
 ·exact (I.frs x hx).snoc r
 ·rw [List.mem_singleton] at hx
  subst hx
  rw [(gM hq).2,Nat.xor_assoc,Nat.xor_self,Nat.xor_zero]
  exact hf.snoc r⟩
noncomputable def Inj (ws:List Nat):Prop:=∀ p,p < 2 ^ ws.length→sm ws p=0→p=0
theorem span_lt {t:Nat}:∀ {rs:List Nat} {x:Nat},(∀ r∈rs,r < 2 ^ t)→Span rs x→x < 2 ^ t
 | [],x,_,h=>by have h:x=0:=h;rw [h];exact Nat.two_pow_pos t
 | r::rs,x,b,h=>by
   have ih:=fun x=>span_lt (rs:=rs) (x:=x) fun y hy=>b y (List.mem_cons_of_mem _ hy)
   rcases h with h | h
   ·exact ih x h
   ·have:=xor_lt_pow (ih _ h) (b r (List.mem_cons_self ..))
    rwa [aF] at this
structure Sums (ks rows:List Nat):Prop where
 nd:ks.Nodup
 all:∀ x,x∈ks↔Span rows x
theorem Sums.zero:Sums [0] []:=⟨by simp,fun x=>by rw [List.mem_singleton];exact Iff.rfl⟩
theorem qt {a b r:Nat} (h:a^^^r=b^^^r):a=b:=by
 have:=congrArg (·^^^r) h
 simpa [aF] using this
theorem Sums.step {ks rows:List Nat} (S:Sums ks rows) {r:Nat} (h:¬ Span rows r):Sums (ks++ks.map (·^^^r)) (rows++[r]):=by
 refine ⟨?_,fun x=>?_⟩
 ·rw [List.nodup_append]
  refine ⟨S.nd,?_,fun a ha b hb e=>?_⟩
  ·exact List.Pairwise.map _ (fun a b hab e=>hab (qt e)) S.nd
  ·obtain ⟨c,hc,rfl⟩:=List.mem_map.mp hb
   subst e
   have:=span_xor ((S.all _).mp ha) ((S.all _).mp hc)
   rw [bA,Nat.xor_self,Nat.zero_xor] at this
   exact h this
 ·rw [List.mem_append,cD,S.all,List.mem_map]
  constructor
  ·rintro (h | ⟨y,hy,rfl⟩)
   ·exact .inl h
   ·refine .inr ?_;rw [aF];exact (S.all _).mp hy
  ·rintro (h | h)
   ·exact .inl h
   ·exact .inr ⟨x^^^r,(S.all _).mpr h,aF x r⟩
theorem Sums.keep {ks rows:List Nat} (S:Sums ks rows) {r:Nat} (h:Span rows r):Sums ks (rows++[r]):=
 ⟨S.nd,fun x=>by
  rw [S.all,cD]
  refine ⟨.inl,fun q=>q.elim id fun q=>?_⟩
  have:=span_xor q h
  rwa [aF] at this⟩
end M
namespace Sx
open PySem L2
noncomputable abbrev nat (k:Nat):V:= .int (k:Int)
theorem iteB {c:Bool} {A B:Prop} (h1:c=true→A) (h2:c=false→B):if c=true then A else B:=by
 cases c
 ·rw [if_neg Bool.false_ne_true];exact h2 rfl
 ·rw [if_pos rfl];exact h1 rfl
theorem lD (h:Nat):(2:Int) ^ h=((2 ^ h:Nat):Int):=by norm_cast
theorem shl1 (k:Nat):(1:Int) * 2 ^ ((k:Int).toNat)=((2 ^ k:Nat):Int):=by rw [Int.toNat_natCast,Int.one_mul];norm_cast
theorem oB (a b:Nat):Builtin.bitOr (a:Int) (b:Int)=((a||| b:Nat):Int):=by
 have e1:Builtin.bitNot (a:Int)= -(a:Int) - 1:=by first | rfl | (unfold Builtin.bitNot;omega)
 have e2:Builtin.bitNot (b:Int)= -(b:Int) - 1:=by first | rfl | (unfold Builtin.bitNot;omega)
 unfold Builtin.bitOr Builtin.bitAnd
 rw [decide_eq_false (show ¬ (0:Int)≤Builtin.bitNot (a:Int) by rw [e1];omega),decide_eq_false (show ¬ (0:Int)≤Builtin.bitNot (b:Int) by rw [e2];omega)]
 have n:∀ x:Int,Builtin.bitNot (Builtin.bitNot x)=x:=fun x=>by unfold Builtin.bitNot;omega
 simp only [n,Int.toNat_natCast]
theorem bz (a b:Nat):Builtin.bitXor (a:Int) (b:Int)=((a^^^b:Nat):Int):=by
 unfold Builtin.bitXor
 rw [oB,bO]
 have:=M.or_sum a b
 omega
theorem j1:Builtin.Int.intBits ((0:Nat):Int)=0:=by decide
theorem dt {m:Nat} (h:m≠0):Builtin.Int.intBits (m:Int)=m.log2 + 1:=by
 unfold Builtin.Int.intBits
 have e:((m:Int) == 0)=false:=by rw [beq_eq_false_iff_ne];omega
 rw [e,if_neg Bool.false_ne_true,Int.natAbs_natCast]
theorem pS (m i:Nat):Builtin.bitAnd ((m:Int) / 2 ^ ((0 + (i:Int)).toNat)) 1=if m.testBit i then 1 else 0:=by
 have e0:(0 + (i:Int)).toNat=i:=by omega
 rw [e0,lD]
 have e1:(m:Int) / ((2 ^ i:Nat):Int)=((m>>>i:Nat):Int):=by rw [Nat.shiftRight_eq_div_pow];norm_cast
 rw [e1,show (1:Int)=((1:Nat):Int) from rfl,bO,Nat.and_one_is_mod]
 have:m.testBit i=(m>>>i % 2 == 1):=by
  rw [Nat.testBit_eq_decide_div_mod_eq,Nat.shiftRight_eq_div_pow]
  rcases Nat.mod_two_eq_zero_or_one (m / 2 ^ i) with h | h<;>rw [h]<;>rfl
 rw [this]
 rcases Nat.mod_two_eq_zero_or_one (m>>>i) with h | h<;>rw [h]<;>rfl
structure En where
 a:Addr
 m:Nat
 p:Nat
noncomputable def d5 (es:List En):List (Key×V):=es.map fun e=>(Sum.inl ((e.m.log2:Nat):Int),V.ref e.a)
theorem gy:∀ (es:List En) (z:Int),(∃ e∈es,((e.m.log2:Nat):Int)=z∧valV (d5 es) (Sum.inl z)=some (.ref e.a))∨((∀ e∈es,((e.m.log2:Nat):Int)≠z)∧valV (d5 es) (Sum.inl z)=none)
 | [],z=> .inr ⟨fun _ h=>absurd h (by simp),rfl⟩
 | e::es,z=>by
   by_cases h:((e.m.log2:Nat):Int)=z
   ·exact .inl ⟨e,List.mem_cons_self ..,h,gb (by show (Sum.inl _:Key)=_;rw [h])⟩
   ·have hv:valV (d5 (e::es)) (Sum.inl z)=valV (d5 es) (Sum.inl z):=gc (by show ¬ (Sum.inl _:Key)=_;intro q;exact h (Sum.inl.inj q))
    rcases gy es z with ⟨x,hx,e1,e2⟩ | ⟨h1,h2⟩
    ·exact .inl ⟨x,List.mem_cons_of_mem _ hx,e1,by rw [hv];exact e2⟩
    ·refine .inr ⟨fun x hx=>?_,by rw [hv];exact h2⟩
     rcases List.mem_cons.mp hx with rfl | hx
     ·exact h
     ·exact h1 x hx
theorem o8 {kvs:List (Key×V)} {k:Key} {v:V} (h:valV kvs k=none):putK kvs k v=kvs++[(k,v)]:=by
 unfold putK
 rw [iG,h]
 rfl
structure StA (H:Hp) (C p d f n:Addr) (rows:List Nat):Prop where
 ho:∃ dx,H p=some (.ins C dx [("by_top",.ref d),("free_places",.ref f),("null_masks",.ref n)])
 he:∃ es:List En,H d=some (.dK (d5 es))∧(∀ e∈es,H e.a=some (.tup [nat e.m,nat e.p]))∧M.Ech (es.map fun e=>(e.m,e.p)) rows∧es.length=(M.fr rows).length
 hf:H f=some (.lst ((M.fr rows).map nat))
 hn:∃ nms,H n=some (.lst (nms.map nat))∧M.NulF nms rows
 ne:f≠n
theorem StA.same {H H2:Hp} {C p d f n:Addr} {rows:List Nat} (x:StA H C p d f n rows) (s:Same H H2):StA H2 C p d f n rows where
 ho:=let ⟨dx,h⟩:=x.ho;⟨dx,s _ _ h⟩
 he:=let ⟨es,h,t,g,l⟩:=x.he;⟨es,s _ _ h,fun e he=>s _ _ (t e he),g,l⟩
 hf:=s _ _ x.hf
 hn:=let ⟨nms,h,g⟩:=x.hn;⟨nms,s _ _ h,g⟩
 ne:=x.ne
theorem StA.null {H H2:Hp} {C p d f n:Addr} {rows:List Nat} (x:StA H C p d f n rows) {r q:Nat} (hq:q < 2 ^ rows.length) (e:r^^^M.sm rows q=0) (hf:M.Frs rows q) {nms:List Nat} (hn:M.NulF nms rows) (hl:H n=some (.lst (nms.map nat)))
  (u:Upd H H2 n (.lst (nms.map nat++[nat (q^^^2 ^ rows.length)]))):StA H2 C p d f n (rows++[r]):=by
 obtain ⟨dx,ho⟩:=x.ho
 obtain ⟨es,hd,ht,g,l⟩:=x.he
 obtain ⟨hs,g2⟩:=g.null hq e
 refine ⟨⟨dx,u.oth _ _ (dI ho hl (by simp)) ho⟩,⟨es,u.oth _ _ (dI hd hl (by simp)) hd,fun e he=>u.oth _ _ (dI (ht e he) hl (by simp)) (ht e he),g2,by rw [M.fr_in hs];exact l⟩,?_,⟨nms++[q^^^2 ^ rows.length],?_,hn.snoc hq e hs hf⟩,x.ne⟩
 ·rw [M.fr_in hs];exact u.oth _ _ x.ne x.hf
 ·rw [List.map_append];exact u.at'
theorem StA.more {H H2 H3 H4:Hp} {C p d f n t:Addr} {rows:List Nat} (x:StA H C p d f n rows) {r q:Nat} (hq:q < 2 ^ rows.length) (e:r^^^M.sm rows q≠0) (hn:∀ y,M.Span rows y→y≠0→y.log2≠(r^^^M.sm rows q).log2) (hf:M.Frs rows q)
  (u:Upd H H2 f (.lst ((M.fr rows).map nat++[nat rows.length]))) (s:Same H2 H3) (ht:H3 t=some (.tup [nat (r^^^M.sm rows q),nat (q^^^2 ^ rows.length)])) {es:List En} (hd:H d=some (.dK (d5 es))) (ht':∀ e∈es,H e.a=some (.tup [nat e.m,nat e.p])) (g:M.Ech (es.map fun e=>(e.m,e.p)) rows) (l:es.length=(M.fr rows).length)
  (u':Upd H3 H4 d (.dK (putK (d5 es) (Sum.inl (((r^^^M.sm rows q).log2:Nat):Int)) (.ref t)))):StA H4 C p d f n (rows++[r]):=by
 obtain ⟨dx,ho⟩:=x.ho
 obtain ⟨nms,hnn,gn⟩:=x.hn
 have hn':∀ e∈es.map (fun e=>(e.m,e.p)),e.1.log2≠(r^^^M.sm rows q).log2:=fun e he=>hn e.1 (g.span he) (g.nz e he)
 obtain ⟨hs,g2⟩:=g.more hq e hn' hf
 have hd2:=s _ _ (u.oth _ _ (dI hd x.hf (by simp)) hd)
 have hv:valV (d5 es) (Sum.inl (((r^^^M.sm rows q).log2:Nat):Int))=none:=by
  rcases gy es (((r^^^M.sm rows q).log2:Nat):Int) with ⟨z,hz,e1,_⟩ | ⟨_,h⟩
  ·exact absurd (Int.ofNat_inj.mp e1) (hn' (z.m,z.p) (List.mem_map.mpr ⟨z,hz,rfl⟩))
  ·exact h
 have go:∀ (b:Addr) (ob:HO),H b=some ob→b≠f→b≠d→H4 b=some ob:=fun b ob h h1 h2=>u'.oth _ _ h2 (s _ _ (u.oth _ _ h1 h))
 refine ⟨⟨dx,go _ _ ho (dI ho x.hf (by simp)) (dI ho hd (by simp))⟩,⟨es++[⟨t,r^^^M.sm rows q,q^^^2 ^ rows.length⟩],?_,fun e he=>?_,?_,?_⟩,?_,⟨nms,go _ _ hnn (Ne.symm x.ne) (dI hnn hd (by simp)),gn.keep hs⟩,x.ne⟩
 ·rw [u'.at',o8 hv]
  unfold d5
  rw [List.map_append]
  rfl
 ·rcases List.mem_append.mp he with he | he
  ·exact go _ _ (ht' e he) (dI (ht' e he) x.hf (by simp)) (dI (ht' e he) hd (by simp))
  ·rw [List.mem_singleton] at he;subst he
   exact u'.oth _ _ (dI ht hd2 (by simp)) ht
 ·rw [List.map_append];exact g2
 ·rw [M.fr_out hs,List.length_append,List.length_append,l];rfl
 ·rw [M.fr_out hs,List.map_append]
  exact u'.oth _ _ (fun z=>by rw [z] at x;have:=x.hf;rw [hd] at this;cases this) (s _ _ u.at')
noncomputable def sA (C:Addr):Sp:=fun vs H Q _=>∃ p d f n rows x,vs=[.ref p,nat x]∧StA H C p d f n rows∧
 ∀ t H2 q,H t=none→Same H H2→H2 t=some (.tup [nat (x^^^M.sm rows q),nat q])→q < 2 ^ rows.length→(x^^^M.sm rows q≠0→∀ y,M.Span rows y→y≠0→y.log2≠(x^^^M.sm rows q).log2)→M.Frs rows q→Q (.ref t) H2
noncomputable def sC (C:Addr):Sp:=fun vs H Q _=>∃ p d f n rows r,vs=[.ref p,nat rows.length,nat r]∧StA H C p d f n rows∧rows.length≤1000∧
 ∀ H2,(∀ b o,b≠d→b≠f→b≠n→H b=some o→H2 b=some o)→StA H2 C p d f n (rows++[r])→Q .non H2
noncomputable def qC (C:Addr):Sp:=fun vs H Q _=>∃ x dx r rows,vs=[.ref x,.ref r]∧H r=some (.lst (rows.map nat))∧rows.length≤1000∧H x=some (.ins C dx [])∧
 ∀ H2 d f n,(∀ b o,b≠x→H b=some o→H2 b=some o)→StA H2 C x d f n rows→Q .non H2
theorem dc {α:Type} {f:α→V} {ws:List α} {i:Nat} {x:V} (h:(ws.map f)[i]? =some x):∃ k,ws[i]? =some k∧x=f k:=by
 rw [List.getElem?_map] at h
 cases e:ws[i]? with
 | none=>rw [e] at h;cases h
 | some k=>rw [e] at h;exact ⟨k,rfl,(Option.some.inj h).symm⟩
theorem take_succ {α:Type} {ws:List α} {i:Nat} {w:α} (h:ws[i]? =some w):ws.take (i + 1)=ws.take i++[w]:=by rw [List.take_succ,h];rfl
theorem oP {α:Type} {ws:List α} {i:Nat} {w:α} (h:ws[i]? =some w):(ws.take i).length=i:=by
 rw [List.length_take]
 have:=(List.getElem?_eq_some_iff.mp h).1
 omega
theorem gW (ns:List Nat):(ns.map nat).all gX=true:=by simp [gX]
theorem sT {K:PySem.W.Frag} {H:Hp} {Q:VK} {neg:Bool} {p q:Addr} {ns:List Nat} (e:SqL K H p (ns.map nat)) (e':SqL K H q (ns.map nat)) (h:Q (.bl (!neg)) H):rEqL K neg (.ref p) (.ref q) H Q:=by
 refine ⟨p,q,_,_,rfl,rfl,e,e',gW ns,gW ns,?_⟩
 rw [oa (gW ns)]
 cases neg<;>exact h
theorem t7 {A:Around} {k:Nat} (hr:Room k A):A.units < cLine:=by have:=hr.un;omega
noncomputable def pZ:Sp:=fun vs H Q _=>∃ c k,vs=[.int c,.int k]∧0≤k∧k < 100000∧∀ r:Nat,r < 2147483587→Q (nat r) H
noncomputable def lj (K:PySem.W.Frag):Sp:=fun vs H Q _=>∃ (a:Addr) (ns:List Int),vs=[.ref a]∧SqL K H a (ns.map V.int)∧ns.length≤63∧∀ H',Q (.bl true) H'
theorem rO {H:Hp} {Q:VK} {E:XK} {c k:Int} (h0:0≤k) (h1:k < 100000) (q:∀ r:Nat,r < 2147483587→Q (nat r) H):pZ [.int c,.int k] H Q E:=⟨c,k,rfl,h0,h1,q⟩
structure Prs (H:Hp) (ws:List Nat) (D:Addr) (ps:List (Addr×Nat)):Prop where
 l:H D=some (.lst (ps.map fun q=>V.ref q.1))
 t:∀ q∈ps,H q.1=some (.tup [nat q.2,nat (M.sm ws q.2)])
 b:∀ q∈ps,q.2 < 2 ^ ws.length
end Sx
namespace M
theorem il:∀ (l:List Nat) (j:Nat),sm l (2 ^ j)=l.getD j 0
 | [],j=>by simp [sm]
 | r::l,0=>by
   show (if (2 ^ 0).testBit 0 then r else 0)^^^sm l (2 ^ 0 / 2)=r
   rw [show (2 ^ 0:Nat) / 2=0 from rfl,sm_zero]
   simp
 | r::l,j + 1=>by
   show (if (2 ^ (j + 1)).testBit 0 then r else 0)^^^sm l (2 ^ (j + 1) / 2)=l.getD j 0
   have e1:(2 ^ (j + 1)) / 2=2 ^ j:=by rw [Nat.pow_succ];omega
   have e2:(2 ^ (j + 1)).testBit 0=false:=by rw [Nat.testBit_two_pow];simp
   rw [e1,e2,il l j]
   simp
theorem snoc_ind {P:List Nat→Prop} (h0:P []) (hs:∀ l w,P l→P (l++[w])):∀ l,P l:=by
 intro l
 rw [← List.reverse_reverse l]
 generalize l.reverse=k
 induction k with
 | nil=>exact h0
 | cons a k ih=>rw [List.reverse_cons];exact hs _ _ ih
theorem pl_next (i m:Nat):pl (i + 1) m=pl i m++(if m.testBit i then [i] else []):=by
 unfold pl
 rw [List.range_succ,List.filter_append]
 congr 1
 by_cases h:m.testBit i=true
 ·rw [if_pos h];simp [h]
 ·rw [if_neg h];simp [h]
theorem pl_rise (w m:Nat):(pl w m).Pairwise (· < ·):=List.Pairwise.filter _ List.pairwise_lt_range
theorem pl_lt {w m n:Nat} (h:m < 2 ^ n):∀ x∈pl w m,x < n:=by
 intro x hx
 have hb:=(List.mem_filter.mp hx).2
 refine Nat.lt_of_not_le fun hn=>?_
 rw [Nat.testBit_lt_two_pow (Nat.lt_of_lt_of_le h (Nat.pow_le_pow_right (by decide) hn))] at hb
 cases hb
noncomputable def xs (rows ps:List Nat):Nat:=ps.foldl (fun a k=>a^^^rows.getD k 0) 0
theorem xs_snoc (rows ps:List Nat) (k:Nat):xs rows (ps++[k])=xs rows ps^^^rows.getD k 0:=by unfold xs;rw [List.foldl_append];rfl
theorem kg {rows:List Nat} {r:Nat}:∀ (ps:List Nat) (a:Nat),(∀ k∈ps,k < rows.length)→ps.foldl (fun a k=>a^^^(rows++[r]).getD k 0) a=ps.foldl (fun a k=>a^^^rows.getD k 0) a
 | [],a,_=>rfl
 | k::ps,a,h=>by
   have hk:=h k (List.mem_cons_self ..)
   rw [List.foldl_cons,List.foldl_cons,kg ps _ fun x hx=>h x (List.mem_cons_of_mem _ hx)]
   congr 2
   rw [List.getD_eq_getElem?_getD,List.getD_eq_getElem?_getD,List.getElem?_append_left hk]
theorem xs_pl (m:Nat):∀ (rows:List Nat),xs rows (pl rows.length m)=sm rows m:=by
 refine snoc_ind rfl fun rows r ih=>?_
 ·rw [iH,← ih,List.length_append,List.length_singleton,pl_next]
  have hlt:∀ k∈pl rows.length m,k < rows.length:=fun k hk=>List.mem_range.mp (List.mem_filter.mp hk).1
  by_cases h:m.testBit rows.length=true
  ·rw [if_pos h,if_pos h,xs_snoc]
   unfold xs
   rw [kg _ _ hlt]
   congr 1
   rw [List.getD_eq_getElem?_getD,List.getElem?_append_right (Nat.le_refl _),Nat.sub_self];rfl
  ·rw [if_neg h,if_neg h,List.append_nil,Nat.xor_zero]
   unfold xs
   rw [kg _ _ hlt]
end M
namespace Sx
open PySem L2
theorem ro (l:List Nat):l.map nat=(l.map fun (k:Nat)=>(k:Int)).map V.int:=by rw [List.map_map];rfl
theorem oz (m:Nat):m < 2 ^ Builtin.Int.intBits (m:Int):=by
 by_cases h:m=0
 ·subst h;decide
 ·rw [dt h];exact Nat.lt_log2_self
theorem oA {m w:Nat} (hm:m < 2 ^ w):Builtin.Int.intBits (m:Int)≤w:=by
 by_cases h:m=0
 ·subst h;rw [j1];exact Nat.zero_le _
 ·rw [dt h];exact (Nat.log2_lt h).mpr hm
noncomputable def qE:Sp:=fun vs H Q _=>∃ m:Nat,vs=[nat m]∧m < 2 ^ 1000∧∀ D H2,H D=none→Same H H2→H2 D=some (.lst ((M.pl 1000 m).map nat))→Q (.ref D) H2
noncomputable def mV:Sp:=fun vs H Q _=>∃ (D:Addr) (n:Nat) (ps:List Nat),vs=[.ref D,nat n]∧H D=some (.lst (ps.map nat))∧ps.Pairwise (· < ·)∧(∀ x∈ps,x < n)∧Q (.bl true) H
noncomputable def oR (K:PySem.W.Frag):Sp:=fun vs H Q _=>∃ (r D:Addr) (rows ps:List Nat),vs=[.ref r,.ref D]∧SqL K H r (rows.map nat)∧H D=some (.lst (ps.map nat))∧(∀ x∈ps,x < rows.length)∧Q (nat (M.xs rows ps)) H
theorem qp {rows ps:List Nat} {i k:Nat} (h:ps[i]? =some k):M.xs rows (ps.take (i + 1))=M.xs rows (ps.take i)^^^rows.getD k 0:=by rw [take_succ h,M.xs_snoc]
theorem oE {rows:List Nat} {k:Nat} (h:k < rows.length):atI (rows.map nat) (k:Int)=some (nat (rows.getD k 0)):=oF (by rw [List.getElem?_map,List.getElem?_eq_getElem h,List.getD_eq_getElem?_getD,List.getElem?_eq_getElem h];rfl)
end Sx
namespace M
noncomputable abbrev od (m:Nat):Bool:=pb 1000 m
theorem nC (a b:Nat):od (a^^^b)=(od a^^od b):=p8 1000 a b
theorem oH (m a b:Nat):m&&&(a^^^b)=(m&&&a)^^^(m&&&b):=by
 apply Nat.eq_of_testBit_eq;intro i
 simp only [Nat.testBit_and,Nat.testBit_xor]
 cases m.testBit i<;>simp
theorem qv (m a b:Nat):(a^^^b)&&&m=(a&&&m)^^^(b&&&m):=by
 apply Nat.eq_of_testBit_eq;intro i
 simp only [Nat.testBit_and,Nat.testBit_xor]
 cases m.testBit i<;>simp
theorem iQ:∀ w:Nat,pb w 0=false
 | 0=>rfl
 | w + 1=>by show ((0:Nat).testBit w^^pb w 0)=false;rw [iQ w];simp
theorem pb_pow {w t:Nat} (h:t < w):pb w (2 ^ t)=true:=by
 rw [pb_up (w:=t + 1) (Nat.pow_lt_pow_right (by decide) (by omega)) h]
 show ((2 ^ t).testBit t^^pb t (2 ^ t))=true
 have e:pb t (2 ^ t)=false:=by
  rw [← p9,Nat.mod_self,iQ]
 rw [e,Nat.testBit_two_pow_self];rfl
theorem qW (t y:Nat):2 ^ t&&&y=if y.testBit t then 2 ^ t else 0:=by
 apply Nat.eq_of_testBit_eq;intro i
 rw [Nat.testBit_and,Nat.testBit_two_pow]
 by_cases h:t=i
 ·subst h
  cases y.testBit t<;>simp
 ·cases y.testBit t<;>simp [h,Nat.testBit_two_pow]
theorem tM {t:Nat} (h:t < 1000) (y:Nat):od (2 ^ t&&&y)=y.testBit t:=by
 rw [qW]
 cases y.testBit t with
 | true=>rw [if_pos rfl];exact pb_pow h
 | false=>rw [if_neg Bool.false_ne_true];exact iQ 1000
theorem od_zero:od 0=false:=iQ 1000
theorem qc {y k:Nat} (h:y < 2 ^ k):y.testBit k=false:=Nat.testBit_lt_two_pow h
theorem mU {y t k:Nat} (h:y≠0) (e:y.log2=t) (l:t < k):y < 2 ^ k:=Nat.lt_of_lt_of_le (by rw [← e];exact Nat.lt_log2_self) (Nat.pow_le_pow_right (by decide) l)
structure Bar (rows:List Nat) (b m:Nat):Prop where
 ev:∀ y,Span rows y→od (m&&&y)=false
 bit:m.testBit b=true
 low:∀ k,k < b→m.testBit k=false
 oth:∀ k,k≠b→(∀ y,Span rows y→y≠0→y.log2≠k)→m.testBit k=false
 lt:∀ W,(∀ r∈rows,r < 2 ^ W)→b < W→m < 2 ^ W
structure BarI (es:List (Nat×Nat)) (ts:List Nat) (b m:Nat):Prop where
 ev:∀ e∈es,e.1.log2∈ts→od (m&&&e.1)=false
 bit:m.testBit b=true
 low:∀ k,k < b→m.testBit k=false
 oth:∀ k,k≠b→(∀ e∈es,e.1.log2≠k)→m.testBit k=false
 lt:∀ W,(∀ e∈es,e.1 < 2 ^ W)→b < W→m < 2 ^ W
theorem BarI.zero (es:List (Nat×Nat)) (b:Nat):BarI es [] b (2 ^ b) where
 ev:=fun _ _ h=>absurd h (by simp)
 bit:=Nat.testBit_two_pow_self
 low:=fun k h=>by rw [Nat.testBit_two_pow];simp;omega
 oth:=fun k h _=>by rw [Nat.testBit_two_pow];simp;omega
 lt:=fun W _ h=>Nat.pow_lt_pow_right (by decide) h
theorem pz {m y b:Nat} (h:∀ k,k < b→m.testBit k=false) (hy:y < 2 ^ b):m&&&y=0:=by
 apply Nat.eq_of_testBit_eq;intro i
 rw [Nat.testBit_and,Nat.zero_testBit]
 by_cases hi:i < b
 ·rw [h i hi];rfl
 ·rw [Nat.testBit_lt_two_pow (Nat.lt_of_lt_of_le hy (Nat.pow_le_pow_right (by decide) (by omega)))];simp
theorem lg {es:List (Nat×Nat)} (nd:(es.map fun e=>e.1.log2).Nodup) {e f:Nat×Nat} (he:e∈es) (hf:f∈es) (h:e.1.log2=f.1.log2):e=f:=by
 obtain ⟨i,hi,rfl⟩:=List.mem_iff_getElem.mp he
 obtain ⟨j,hj,rfl⟩:=List.mem_iff_getElem.mp hf
 have key:∀ i j (hi:i < es.length) (hj:j < es.length),i < j→es[i].1.log2≠es[j].1.log2:=fun i j hi hj hij=>by
  have:=List.pairwise_iff_getElem.mp nd i j (by rw [List.length_map];exact hi) (by rw [List.length_map];exact hj) hij
  rw [List.getElem_map,List.getElem_map] at this
  exact this
 rcases Nat.lt_trichotomy i j with h1 | h1 | h1
 ·exact absurd h (key i j hi hj h1)
 ·subst h1;rfl
 ·exact absurd h.symm (key j i hj hi h1)
theorem BarI.keep {es:List (Nat×Nat)} {ts:List Nat} {b m:Nat} (I:BarI es ts b m) {e:Nat×Nat} (nd:(es.map fun e=>e.1.log2).Nodup) (he:e∈es) (h:od (m&&&e.1)=false):BarI es (ts++[e.1.log2]) b m where
 ev:=fun f hf hm=>by
  rcases List.mem_append.mp hm with hm | hm
  ·exact I.ev f hf hm
  ·rw [List.mem_singleton] at hm
   rw [lg nd hf he hm];exact h
 bit:=I.bit
 low:=I.low
 oth:=I.oth
 lt:=I.lt
theorem BarI.flip {es:List (Nat×Nat)} {ts:List Nat} {b m:Nat} (I:BarI es ts b m) {e:Nat×Nat} (nd:(es.map fun e=>e.1.log2).Nodup) (nz:∀ e∈es,e.1≠0) (he:e∈es) (h:od (m&&&e.1)=true) (up:∀ t∈ts,t < e.1.log2) (hb:e.1.log2≠b) (h1000:e.1.log2 < 1000):BarI es (ts++[e.1.log2]) b (m^^^2 ^ e.1.log2):=by
 have hgt:b < e.1.log2:=by
  refine Nat.lt_of_le_of_ne (Nat.le_of_not_lt fun hlt=>?_) (Ne.symm hb)
  rw [pz I.low (mU (nz e he) rfl hlt),od_zero] at h
  cases h
 have e0:=nz e he
 refine ⟨fun f hf hm=>?_,?_,fun k hk=>?_,fun k hk hn=>?_,fun W hW hbW=>?_⟩
 ·rw [qv,nC,tM h1000]
  rcases List.mem_append.mp hm with hm | hm
  ·rw [I.ev f hf hm,qc (mU (nz f hf) rfl (up _ hm))];rfl
  ·rw [List.mem_singleton] at hm
   rw [lg nd hf he hm,h,eA e0];rfl
 ·rw [Nat.testBit_xor,I.bit,Nat.testBit_two_pow];simp;omega
 ·rw [Nat.testBit_xor,I.low k hk,Nat.testBit_two_pow];simp;omega
 ·rw [Nat.testBit_xor,I.oth k hk hn,Nat.testBit_two_pow]
  have:=hn e he
  simp;omega
 ·exact xor_lt_pow (I.lt W hW hbW) (Nat.lt_of_le_of_lt (Nat.log2_self_le e0) (hW e he))
theorem Ech.even_all {es:List (Nat×Nat)} {rows:List Nat} (g:Ech es rows) {m:Nat} (h:∀ e∈es,od (m&&&e.1)=false):∀ y,Span rows y→od (m&&&y)=false:=by
 intro y
 induction y using Nat.strongRecOn with
 | ind y ih=>
   intro hy
   by_cases y0:y=0
   ·subst y0;rw [Nat.and_zero,od_zero]
   ·obtain ⟨e,he,el⟩:=g.all y hy y0
    have e0:=g.nz e he
    have hl:=xor_less y0 e0 el.symm
    have h1:=ih _ hl (span_xor hy (g.span he))
    have h2:=h e he
    have h3:od (m&&&(y^^^e.1))=(od (m&&&y)^^od (m&&&e.1)):=by rw [oH,nC]
    rw [h1,h2] at h3
    simpa using h3.symm
theorem BarI.done {es:List (Nat×Nat)} {rows:List Nat} (g:Ech es rows) {ts:List Nat} {b m:Nat} (I:BarI es ts b m) (all:∀ e∈es,e.1.log2∈ts):Bar rows b m where
 ev:=g.even_all fun e he=>I.ev e he (all e he)
 bit:=I.bit
 low:=I.low
 oth:=fun k hk h=>I.oth k hk fun e he=>h e.1 (g.span he) (g.nz e he)
 lt:=fun W hW hb=>I.lt W (fun e he=>span_lt hW (g.span he)) hb
theorem Bar.odd {rows:List Nat} {b m x q:Nat} (B:Bar rows b m) (h0:x^^^sm rows q≠0) (hb:(x^^^sm rows q).log2=b) (h1000:b < 1000):od (m&&&x)=true:=by
 have e1:m&&&x=(m&&&(x^^^sm rows q))^^^(m&&&sm rows q):=by rw [← oH,aF]
 rw [e1,nC,B.ev _ (sm_span rows q)]
 have e2:m&&&(x^^^sm rows q)=2 ^ b:=by
  apply Nat.eq_of_testBit_eq;intro i
  rw [Nat.testBit_and,Nat.testBit_two_pow]
  rcases Nat.lt_trichotomy i b with h | h | h
  ·rw [B.low i h];simp;omega
  ·subst h;rw [B.bit,← hb,eA h0];simp
  ·rw [qc (mU h0 hb h)];simp;omega
 rw [e2]
 show (pb 1000 (2 ^ b)^^false)=true
 rw [pb_pow h1000];rfl
theorem gI:∀ (a b:List Nat),a.Nodup→(∀ x∈a,x∈b)→a.length≤b.length
 | [],b,_,_=>Nat.zero_le _
 | x::a,b,nd,h=>by
   have hx:=h x (List.mem_cons_self ..)
   have nd':=List.nodup_cons.mp nd
   have ih:=gI a (b.erase x) nd'.2 fun y hy=>by
    have hne:y≠x:=fun e=>nd'.1 (e ▸ hy)
    exact (List.mem_erase_of_ne hne).mpr (h y (List.mem_cons_of_mem _ hy))
   rw [List.length_erase_of_mem hx] at ih
   have:=List.length_pos_of_mem hx
   rw [List.length_cons];omega
theorem ig:∀ rows:List Nat,∃ ks,Sums ks rows∧ks.length=2 ^ (fr rows).length:=by
 refine snoc_ind ⟨[0],Sums.zero,rfl⟩ fun rows r ih=>?_
 obtain ⟨ks,S,e⟩:=ih
 by_cases h:Span rows r
 ·exact ⟨ks,S.keep h,by rw [fr_in h];exact e⟩
 ·refine ⟨_,S.step h,?_⟩
  rw [fr_out h,List.length_append,List.length_append,List.length_map,e,List.length_singleton,Nat.pow_succ]
  omega
theorem nu (w m:Nat):pb (w + 1) m=(m.testBit 0^^pb w (m / 2)):=by
 rw [Nat.add_comm,iR 1 w m,Nat.shiftRight_eq_div_pow]
 congr 1
 show (m.testBit 0^^false)=_
 simp
theorem drop_bit:∀ (w m:Nat),0 < m→m < 2 ^ w→pb w (m&&&(m - 1))= !pb w m
 | 0,m,h0,h=>by have:m < 1:=h;omega
 | w + 1,m,h0,h=>by
   rw [nu,nu,lM,Nat.testBit_and]
   have hw:m / 2 < 2 ^ w:=by rw [Nat.pow_succ] at h;omega
   rcases Nat.mod_two_eq_zero_or_one m with hm | hm
   ·have e1:m.testBit 0=false:=by simp [Nat.testBit_zero,hm]
    have e2:(m - 1) / 2=m / 2 - 1:=by omega
    rw [e1,e2,drop_bit w (m / 2) (by omega) hw];simp
   ·have e1:m.testBit 0=true:=by simp [Nat.testBit_zero,hm]
    have e3:(m - 1).testBit 0=false:=by simp [Nat.testBit_zero];omega
    have e2:(m - 1) / 2=m / 2:=by omega
    rw [e1,e2,e3,Nat.and_self];simp
theorem drop_less {m:Nat} (h:0 < m):m&&&(m - 1) < m:=Nat.lt_of_le_of_lt Nat.and_le_right (by omega)
theorem span_mem {l:List Nat} {m:Nat} (h:m∈l):Span l m:=by
 obtain ⟨j,hj,rfl⟩:=List.mem_iff_getElem.mp h
 have:=sm_span l (2 ^ j)
 rw [il,List.getD_eq_getElem?_getD,List.getElem?_eq_getElem hj] at this
 exact this
end M
namespace Sx
open PySem L2
noncomputable def cell (ns:List Int) (k:Int):Int:=if k < ns.length then ns.getD k.toNat 0 else 41 * k + 3
noncomputable def lq (K:PySem.W.Frag):Sp:=fun vs H Q _=>∃ (p:Addr) (ns:List Int) (k:Int),vs=[.ref p,.int k]∧SqL K H p (ns.map V.int)∧0≤k∧Q (.int (cell ns k)) H
theorem kW {K:PySem.W.Frag} {H:Hp} {Q:VK} {E:XK} {p:Addr} {ns:List Int} {k:Int} (e:SqL K H p (ns.map V.int)) (h0:0≤k) (q:Q (.int (cell ns k)) H):lq K [.ref p,.int k] H Q E:=⟨p,ns,k,rfl,e,h0,q⟩
noncomputable def qD:Sp:=fun vs H Q _=>∃ m:Nat,vs=[nat m]∧m < 2 ^ 1000∧Q (.bl (!M.od m)) H
noncomputable def sv:Sp:=fun vs H Q _=>∃ m:Nat,vs=[nat m]∧m < 2 ^ 1000∧Q (.bl (M.od m)) H
theorem n9 (n h:Nat):Builtin.bitXor ((n:Int) / 2 ^ ((h:Int).toNat)) (Builtin.bitAnd (n:Int) (1 * 2 ^ ((h:Int).toNat) - 1))=(((n>>>h)^^^(n&&&(2 ^ h - 1)):Nat):Int):=by
 rw [Int.toNat_natCast,Int.one_mul,lD]
 have e1:(n:Int) / ((2 ^ h:Nat):Int)=((n>>>h:Nat):Int):=by rw [Nat.shiftRight_eq_div_pow];norm_cast
 have e2:((2 ^ h:Nat):Int) - 1=((2 ^ h - 1:Nat):Int):=by have:=Nat.two_pow_pos h;omega
 rw [e1,e2,bO,bz]
theorem nY (wd:Nat):((wd:Int) + 1) / 2=(((wd + 1) / 2:Nat):Int):=by omega
theorem pf {n:Nat} (h:n < 2):decide (nat n=V.int 0)= !M.od n:=by
 have:n=0∨n=1:=by omega
 rcases this with rfl | rfl
 ·rw [M.od_zero];decide
 ·rw [show M.od 1=true from M.pb_pow (t:=0) (by decide)];decide
noncomputable def va (rows:List Nat) (b:Nat):Prop:=∀ y,M.Span rows y→y≠0→y.log2≠b
structure Acr (rows:List Nat) (wd:Nat) (ms:List Nat):Prop where
 len:ms.length + (M.fr rows).length=wd
 inj:M.Inj ms
 lt:∀ m∈ms,m < 2 ^ wd
 ev:∀ m∈ms,∀ y,M.Span rows y→M.od (m&&&y)=false
 all:∀ z,z < 2 ^ wd→(∀ y,M.Span rows y→M.od (z&&&y)=false)→M.Span ms z
theorem pB (es:List En):(d5 es).map (·.1)=(es.map fun e=>((e.m.log2:Nat):Int)).map Sum.inl:=by unfold d5;rw [List.map_map,List.map_map];rfl
theorem kh {es:List En} {ns:List Int} (hp:ns.Perm (es.map fun e=>((e.m.log2:Nat):Int))) (hw:ns.Pairwise (·≤·)) (nd:(es.map fun e=>e.m.log2).Nodup):
  ∃ ts:List Nat,ns=ts.map (fun (k:Nat)=>(k:Int))∧ts.Pairwise (· < ·)∧(∀ t,t∈ts↔∃ e∈es,e.m.log2=t):=by
 have hn:∀ x∈ns,((x.toNat:Nat):Int)=x:=fun x hx=>by
  obtain ⟨e,_,rfl⟩:=List.mem_map.mp (hp.mem_iff.mp hx)
  omega
 have e1:ns=(ns.map Int.toNat).map (fun (k:Nat)=>(k:Int)):=by
  rw [List.map_map]
  exact (List.map_id ns).symm.trans (List.map_congr_left fun x hx=>(hn x hx).symm)
 have hp2:(ns.map Int.toNat).Perm (es.map fun e=>e.m.log2):=by
  have:=hp.map Int.toNat
  rw [List.map_map] at this
  exact this
 refine ⟨ns.map Int.toNat,e1,?_,fun t=>?_⟩
 ·have nd2:(ns.map Int.toNat).Nodup:=hp2.nodup_iff.mpr nd
  have hle:(ns.map Int.toNat).Pairwise (·≤·):=by
   rw [List.pairwise_map]
   exact hw.imp fun h=>by omega
  exact List.Pairwise.imp (R:=fun a b=>a≤b∧a≠b) (fun h=>by omega) (List.Pairwise.and hle nd2)
 ·rw [hp2.mem_iff,List.mem_map]
end Sx
namespace M
noncomputable def pk (s:Nat→Bool) (t:Nat):Nat→Nat
 | 0=>0
 | L + 1=>pk s t L^^^(if s (t + L) then 2 ^ L else 0)
noncomputable def lf (G:Nat):Nat→(Nat→Bool)→Nat→Bool
 | 0,_,_=>false
 | L + 1,s,t=>lf G L s t^^(G.testBit L&&s (t + L))
noncomputable def tr (as:List Nat) (x:Nat):Nat:=pk (fun k=>od (as.getD k 0&&&x)) 0 as.length
noncomputable def tr2 (ps:List (Nat×Nat)) (x r:Nat):Nat:=pk (fun k=>od ((ps.getD k (0,0)).1&&&x)^^od ((ps.getD k (0,0)).2&&&r)) 0 ps.length
noncomputable def zs (ps:List (Nat×Nat)) (x:Nat):Nat→Nat
 | 0=>x
 | n + 1=>tr2 ps (zs ps x n) 0
theorem gd {P:Nat→Prop} (h0:P 0) (hx:∀ a b,P a→P b→P (a^^^b)):∀ {rs:List Nat} {x:Nat},(∀ r∈rs,P r)→Span rs x→P x
 | [],x,_,h=>by have h:x=0:=h;rw [h];exact h0
 | r::rs,x,b,h=>by
   have b':∀ r∈rs,P r:=fun y hy=>b y (List.mem_cons_of_mem _ hy)
   rcases h with h | h
   ·exact gd h0 hx b' h
   ·have:=hx _ _ (gd h0 hx b' h) (b r (List.mem_cons_self ..))
    rwa [aF] at this
theorem rH {a b:List Nat} (h:∀ x,Span a x↔Span b x):(fr a).length=(fr b).length:=by
 obtain ⟨ka,Sa,ea⟩:=ig a
 obtain ⟨kb,Sb,eb⟩:=ig b
 have h1:=gI _ _ Sa.nd fun x hx=>(Sb.all x).mpr ((h x).mp ((Sa.all x).mp hx))
 have h2:=gI _ _ Sb.nd fun x hx=>(Sa.all x).mpr ((h x).mpr ((Sb.all x).mp hx))
 rw [ea,eb] at h1 h2
 exact Nat.le_antisymm ((Nat.pow_le_pow_iff_right (by decide)).mp h1) ((Nat.pow_le_pow_iff_right (by decide)).mp h2)
structure Kern (R ms:List Nat):Prop where
 inj:Inj ms
 lt:∀ m∈ms,m < 2 ^ R.length
 ev:∀ m∈ms,sm R m=0
 all:∀ z,z < 2 ^ R.length→sm R z=0→Span ms z
structure Lft (left rows:List Nat):Prop where
 nz:∀ x∈left,x≠0
 pw:left.Pairwise fun a b=>b.testBit a.log2=false
 sp:∀ x,Span left x↔Span rows x
 len:left.length=(fr rows).length
noncomputable def bm (rows:List Nat) (b:Nat):Nat:=Classical.epsilon (Bar rows b)
noncomputable def cm (a b:Nat):Nat:=if b=0 then 0 else (if b % 2=1 then a else 0)^^^2 * cm a (b / 2)
termination_by b
decreasing_by omega
noncomputable def Dv (d x:Nat):Prop:=∃ q,cm q d=x
structure Rm (d x r:Nat):Prop where
 lt:r < 2 ^ d.log2
 dv:Dv d (x^^^r)
end M
namespace Sx
open PySem L2
end Sx
namespace M
structure Ord (d e:Nat):Prop where
 pos:1≤e
 one:Rm d (2 ^ e) 1
 least:∀ j,1≤j→j < e→¬ Rm d (2 ^ j) 1
 le:e≤2 ^ d.log2
end M
namespace Sx
open PySem L2
theorem gw {c m:Int} (h:0 < m):∃ k:Nat,c % m=(k:Int)∧(k:Int) < m:=by
 obtain ⟨k,hk⟩:=Int.eq_ofNat_of_zero_le (Int.emod_nonneg c (Int.ne_of_gt h))
 exact ⟨k,hk,by rw [← hk];exact Int.emod_lt_of_pos c h⟩
theorem sH {H:Hp} {Q:VK} {l:Addr} {k:Int} {xs:List V} (e:H l=some (.lst xs)) (h0: -(2 ^ 63)≤k) (h1:k < 2 ^ 63) (hz:xs.length * k.toNat≤sizeLine) (h:∀ p H2,H p=none→Same H H2→H2 p=some (.lst (List.replicate k.toNat xs).flatten)→Q (.ref p) H2):rRep (.ref l) (.int k) H Q:=
 ⟨l,k,xs,rfl,rfl,e,h0,h1,hz,dD h⟩
end Sx
namespace M
theorem rank_in {rows rows':List Nat} (h1:∀ r∈rows',r=0∨r∈rows) (h2:∀ r∈rows,r∈rows'):(fr rows').length≤rows.length:=by
 have:=rH (a:=rows') (b:=rows) fun x=>⟨fun h=>gd (P:=Span rows) (span_zero _) (fun a b ha hb=>span_xor ha hb) (fun r hr=>(h1 r hr).elim (fun e=>by rw [e];exact span_zero _) fun e=>span_mem e) h,fun h=>gd (P:=Span rows') (span_zero _) (fun a b ha hb=>span_xor ha hb) (fun r hr=>span_mem (h2 r hr)) h⟩
 rw [this];exact fr_len rows
end M
namespace Sx
open PySem L2
noncomputable def qF (C:Addr):Sp:=fun vs H Q _=>∃ (p d f n:Addr) (rows:List Nat) (b:Nat),vs=[.ref p,nat b]∧StA H C p d f n rows∧b < 1000∧(∀ r∈rows,r < 2 ^ 1000)∧(M.fr rows).length < 66∧va rows b∧
 ∀ m H2,Same H H2→M.Bar rows b m→Q (nat m) H2
noncomputable def oK (H:Hp) (t:Addr) (rows:List Nat) (x:Nat):Prop:=
 (∃ (D:Addr) (q:Nat),H t=some (.tup [.str "sum",.ref D])∧H D=some (.lst ((M.pl 1000 q).map nat))∧q < 2 ^ rows.length∧M.sm rows q=x)∨
 ∃ m:Nat,H t=some (.tup [.str "no",nat m])∧¬ M.Span rows x∧(∀ y,M.Span rows y→M.od (m&&&y)=false)∧M.od (m&&&x)=true∧∀ W,(∀ r∈rows,r < 2 ^ W)→x < 2 ^ W→m < 2 ^ W
theorem oK.same {H H2:Hp} {t:Addr} {rows:List Nat} {x:Nat} (h:oK H t rows x) (s:Same H H2):oK H2 t rows x:=h.imp (fun ⟨D,q,a,b,c⟩=>⟨D,q,s.get a,s.get b,c⟩) fun ⟨m,a,b⟩=>⟨m,s.get a,b⟩
noncomputable def ij:Sp:=fun vs H Q _=>∃ (r:Addr) (rows:List Nat) (x:Nat),vs=[.ref r,nat x]∧H r=some (.lst (rows.map nat))∧rows.length≤1000∧(∀ r∈rows,r < 2 ^ 1000)∧x < 2 ^ 1000∧(M.Span rows x∨(M.fr rows).length < 66)∧
 (∀ (t D:Addr) (H2:Hp) (q:Nat),Same H H2→H2 t=some (.tup [.str "sum",.ref D])→H2 D=some (.lst ((M.pl 1000 q).map nat))→q < 2 ^ rows.length→M.sm rows q=x→Q (.ref t) H2)∧
 (∀ (t:Addr) (H2:Hp) (m:Nat),Same H H2→H2 t=some (.tup [.str "no",nat m])→¬ M.Span rows x→(∀ y,M.Span rows y→M.od (m&&&y)=false)→M.od (m&&&x)=true→(∀ W,(∀ r∈rows,r < 2 ^ W)→x < 2 ^ W→m < 2 ^ W)→Q (.ref t) H2)
theorem g6 {H:Hp} {Q:VK} {E:XK} {r:Addr} {rows:List Nat} {x:Nat} (e:H r=some (.lst (rows.map nat))) (hl:rows.length≤1000) (hb:∀ r∈rows,r < 2 ^ 1000) (hx:x < 2 ^ 1000) (hr:(M.fr rows).length < 66) (h:∀ t H2,Same H H2→oK H2 t rows x→Q (.ref t) H2):ij [.ref r,nat x] H Q E:=
 ⟨r,rows,x,rfl,e,hl,hb,hx,.inr hr,fun t D H2 q s a b c d=>h t H2 s (.inl ⟨D,q,a,b,c,d⟩),fun t H2 m s a b c d f=>h t H2 s (.inr ⟨m,a,b,c,d,f⟩)⟩
theorem nD {es:List En} (nd:(es.map fun e=>e.m.log2).Nodup):(es.map fun e=>((e.m.log2:Nat):Int)).Nodup:=by
 rw [show (es.map fun e=>((e.m.log2:Nat):Int))=(es.map fun e=>e.m.log2).map (fun n:Nat=>(n:Int)) by rw [List.map_map];rfl]
 exact List.pairwise_map.mpr (nd.imp fun {a b} h e=>h (Int.ofNat_inj.mp e))
noncomputable def mX (K:PySem.W.Frag):Sp:=fun vs H Q _=>∃ (p:Addr) (ns:List Int) (wd:Nat),vs=[.ref p,nat wd]∧SqL K H p (ns.map V.int)∧ns.length≤63∧wd≤300∧∀ (D:Addr) (H2:Hp) (rows:List Nat),H D=none→Same H H2→H2 D=some (.lst (rows.map nat))→rows.length≤65→(∀ r∈rows,r < 2 ^ wd)→Q (.ref D) H2
noncomputable def mW (K:PySem.W.Frag):Sp:=fun vs H Q _=>∃ (t r:Addr) (rows:List Nat) (x:Nat),vs=[.ref t,.ref r,nat x]∧H r=some (.lst (rows.map nat))∧rows.length≤1000∧(∀ r∈rows,r < 2 ^ 300)∧x < 2 ^ 300∧oK H t rows x∧∀ H2,Same H H2→Q (.bl true) H2
end Sx
namespace My
open PySem L2 Sx
local macro_rules | `(tactic| walk_at "o") =>`(tactic| first | exact Or.inl rfl | exact Or.inr rfl)
local macro_rules | `(tactic| walk_at "s") =>`(tactic| exact ⟨rfl,rfl,rfl,by decide +kernel,rfl,by decide +kernel,by decide +kernel⟩)
local macro_rules | `(tactic| walk_at "l2side") =>`(tactic| first | assumption | rfl | omega | decide | ((try dsimp only [CDiv,vf,CPow,CMul]);first | omega | decide | (refine ⟨?_,?_⟩<;>first | omega | decide) | (refine ⟨?_,?_,?_⟩<;>first | omega | decide) | (left;refine ⟨?_,?_⟩<;>first | omega | decide) | (right;refine ⟨?_,?_⟩<;>first | omega | decide)))
local macro_rules | `(tactic| walk_at "l2len") =>`(tactic| ((with_reducible show _ + _≤sizeLine);first | assumption | (rw [sizeLine_eq];omega) | omega))
local macro_rules | `(tactic| walk_at "l2at") =>`(tactic| first | assumption | exact be | (refine' Same.get (by assumption) ?h;(case h=>walk_at "l2at")))
local macro_rules | `(tactic| walk_at "l2hp") =>`(tactic| first | walk_at "l2at")
local macro_rules | `(tactic| walk_at "l2hp") =>`(tactic| first | (refine' Same.tup (by assumption) ?h;(case h=>walk_at "l2hp")) | (refine' Rep.same (by assumption) ?h;(case h=>walk_at "l2hp")))
local macro_rules | `(tactic| walk_at "l2hp") =>`(tactic| first | assumption | (refine' SqL.of ?h;(case h=>walk_at "l2at")) | (refine' SqT.of ?h;(case h=>walk_at "l2at")) | (refine' Same.seq (by assumption) ?h;(case h=>walk_at "l2hp")))
local macro_rules | `(tactic| walk_at "l2kind") =>`(tactic| first | assumption | exact rfl | (refine' Or.inl ⟨rfl,_,?e⟩;(case e=>walk_at "l2hp")) | (refine' Or.inr (Or.inl ⟨rfl,_,?e⟩);(case e=>walk_at "l2hp")) | (refine' Or.inr (Or.inr ⟨rfl,_,Or.inl ?e⟩);(case e=>walk_at "l2hp")))
local macro_rules | `(tactic| walk_at "l2step") =>`(tactic| first | ((with_reducible refine' s_go ?e ?_);(case e=>assumption)))
local macro_rules | `(tactic| walk_at "l2step") =>`(tactic| first | (with_reducible refine ⟨_,rfl,?_⟩) | (with_reducible refine ⟨rfl,?_⟩) | ((with_reducible refine' ⟨⟨_,?e⟩,?_⟩);(case e=>walk_at "l2hp")))
local macro_rules | `(tactic| walk_at "l2step") =>`(tactic| first | (with_reducible refine ⟨_,_,rfl,rfl,?_⟩;(with_reducible refine ⟨?l,?_⟩);(case l=>walk_at "l2len")) | (with_reducible refine ⟨_,_,rfl,rfl,?_⟩) | (with_reducible refine Or.inl ⟨_,rfl,?_⟩) | (with_reducible refine Or.inr ⟨_,rfl,?_⟩))
local macro_rules | `(tactic| walk_at "l2step") =>`(tactic| first | (with_reducible refine sY ?_) | ((with_reducible refine' sQ ?e ?_);(case e=>first | rfl | decide | assumption)) | ((with_reducible refine' uQ ?e ?_);(case e=>first | rfl | decide | assumption)) | ((with_reducible refine' oZ ?a ?b ?_);(case a=>omega);(case b=>omega)))
local macro_rules | `(tactic| walk_at "l2step") =>`(tactic| first | (with_reducible refine qP ?_) | (with_reducible refine s_intB ?_) | (with_reducible refine s_inS ?_) | ((with_reducible refine' s_addS ?e ?_);(case e=>walk_at "l2side")))
local macro_rules | `(tactic| walk_at "l2step") =>`(tactic| first | (with_reducible refine sV ?_) | (with_reducible refine uR ?_) | (with_reducible refine s_yes ?_) | (with_reducible refine sF ?_))
local macro_rules | `(tactic| walk_at "l2step") =>`(tactic| first | ((with_reducible refine' sP ?e ?_);(case e=>walk_at "l2hp")) | ((with_reducible refine' sO ?e ?_);(case e=>walk_at "l2hp")) | ((with_reducible refine' s_lenS ?e ?_);(case e=>walk_at "l2side")) | ((with_reducible refine' uP ?e ?m ?_);(case e=>walk_at "l2kind");(case m=>decide)))
local macro_rules | `(tactic| walk_at "l2step") =>`(tactic| first | ((with_reducible refine' qL ?e ?a ?_);(case e=>walk_at "l2hp");(case a=>first | assumption | rfl)) | ((with_reducible refine' uO ?e ?a ?_);(case e=>walk_at "l2hp");(case a=>first | assumption | rfl)) | ((with_reducible refine' s_ty ?e ?_);(case e=>first | exact rfl | (refine' Or.inl ⟨rfl,_,?f⟩;(case f=>walk_at "l2hp")) | (refine' Or.inr (Or.inr (Or.inl ⟨rfl,Or.inl ⟨_,?f⟩⟩));(case f=>walk_at "l2hp")))) | (with_reducible refine sZ ?_))
local macro_rules | `(tactic| walk_at "l2step") =>`(tactic| first | ((with_reducible refine' sL ?l ?_);(case l=>exact nJ (Nat.le_of_ble_eq_true rfl))) | ((with_reducible refine' sJ ?l ?_);(case l=>exact nJ (Nat.le_of_ble_eq_true rfl))) | ((with_reducible refine' uJ ?e ?_);(case e=>walk_at "l2hp")) | ((with_reducible refine' s_slS ?e ?_);(case e=>walk_at "l2side")))
local macro_rules | `(tactic| walk_at "l2step") =>`(tactic| first | (with_reducible refine sS ?_) | ((with_reducible refine' sR ?e ?l ?_);(case e=>walk_at "l2hp");(case l=>rfl)) | (with_reducible refine uI ?_) | (with_reducible refine uN ?_))
local macro_rules | `(tactic| walk_at "l2step") =>`(tactic| first | ((with_reducible refine' uK ?e ?_);(case e=>rfl)) | (with_reducible refine s_leS ?_) | ((with_reducible refine' qN ?e ?_);(case e=>repeat constructor)) | (with_reducible refine qO ?_))
local macro_rules | `(tactic| walk_at "l2step") =>`(tactic| first | (with_reducible refine uL ?_) | ((with_reducible refine' s_rI ?e ?_);(case e=>walk_at "l2side")) | (with_reducible refine s_rU ?_) | ((with_reducible refine' uM ?e ?_);(case e=>rfl)))
local macro_rules | `(tactic| walk_at "l2step") =>`(tactic| first | ((with_reducible refine sG ?_);intro _ _) | (with_reducible refine sI ?_) | ((with_reducible refine' uH ?e ?_);(case e=>repeat constructor)) | (with_reducible refine qR ?_))
local macro_rules | `(tactic| walk_at "l2") =>`(tactic| repeat walk_at "l2step")
local macro_rules | `(tactic| walk_at "l2step") =>`(tactic| first | ((with_reducible refine' s_tupT ?e ?_);(case e=>walk_at "l2hp")))
local macro_rules | `(tactic| walk_at "l2step") =>`(tactic| first | ((with_reducible refine' qK ?e ?_);(case e=>walk_at "l2hp")) | ((with_reducible refine' s_listT ?e ?_);(case e=>walk_at "l2hp")) | ((with_reducible refine' s_tupL ?e ?_);(case e=>walk_at "l2hp")))
local macro_rules | `(tactic| walk_at "l2step") =>`(tactic| first | (with_reducible refine sM ?_) | (with_reducible refine sU ?_) | (with_reducible refine sX ?_) | (with_reducible refine qM ?_))
local macro_rules | `(tactic| walk_at "l2step") =>`(tactic| first | (with_reducible refine oW ?_) | (with_reducible refine uS ?_) | (with_reducible refine sN ?_) | (with_reducible refine oX ?_))
local macro_rules | `(tactic| walk_at "l2step") =>`(tactic| first | (with_reducible refine uT ?_) | (with_reducible refine s_dnot ?_) | (with_reducible refine s_disp1I ?_) | ((with_reducible refine' s_listD ?e ?_);(case e=>walk_at "l2at")))
local macro_rules | `(tactic| walk_at "l2step") =>`(tactic| first | (with_reducible refine s_raise ?_) | (with_reducible refine s_try0 ?_) | (with_reducible refine s_callX ?_))
noncomputable def top (i:Nat):Stmt:=PySem.Challenge.pw_sumwires_k42_sums_and_masks_that_bar_the.main.body.getD i (.Pass ⟨0,0,0,0⟩)
noncomputable abbrev ip:Stmt:=top 1
theorem gz:aT ["number","width","half"] ["number"] (ag ip):=by walk_at "s"
noncomputable abbrev b0:Stmt:=top 2
theorem lZ:aT ["mask"] ["mask"] (ag b0):=by walk_at "s"
noncomputable abbrev aG:Stmt:=i5 (top 4) 0
theorem bK:aT ["self","rows","place","row"] ["self","rows"] (ag aG):=by walk_at "s"
noncomputable abbrev aL:Stmt:=i5 (top 4) 1
theorem aR:aT ["self","mask","places","found"] ["self","mask"] (ag aL):=by walk_at "s"
noncomputable abbrev bM:Stmt:=i5 (top 4) 2
theorem c6:aT ["self","place","row","found","places"] ["self","place","row"] (ag bM):=by walk_at "s"
noncomputable abbrev aM:Stmt:=i5 (top 4) 3
theorem bg:aT ["self","bit","mask","top"] ["self","bit"] (ag aM):=by walk_at "s"
noncomputable abbrev cF:Stmt:=top 5
theorem eI:aT ["rows","wish","steps","found"] ["rows","wish"] (ag cF):=by walk_at "s"
noncomputable abbrev bL:Stmt:=top 7
theorem jl:aT ["_law_script","_law_k"] ["_law_script","_law_k"] (ag bL):=by walk_at "s"
noncomputable abbrev bZ:Stmt:=top 8
theorem dB:aT ["_law_cell_here","_law_k","_law_number"] ["_law_cell_here","_law_k"] (ag bZ):=by walk_at "s"
noncomputable abbrev bY:Stmt:=top 9
theorem cP:aT ["_law_mask","_law_odd_here"] ["_law_mask"] (ag bY):=by walk_at "s"
noncomputable abbrev aC:Stmt:=top 10
theorem aU:aT ["_law_found","_law_many","_law_ahead","_law_place"] ["_law_found","_law_many"] (ag aC):=by walk_at "s"
noncomputable abbrev aZ:Stmt:=top 11
theorem bQ:aT ["_law_rows","_law_places","_law_found","_law_place"] ["_law_rows","_law_places"] (ag aZ):=by walk_at "s"
noncomputable abbrev bw:Stmt:=top 12
theorem aH:aT ["_law_script","_law_width","_law_rows","_law_k","_law_cell_here","_law_row","_law_one"] ["_law_script","_law_width"] (ag bw):=by walk_at "s"
noncomputable abbrev bu:Stmt:=top 13
theorem cO:aT ["_law_told","_law_rows","_law_wish","_law_mask","_law_row"] ["_law_told","_law_rows","_law_wish"] (ag bu):=by walk_at "s"
noncomputable abbrev km:Stmt:=top 14
theorem cV:aT ["_law_script","_law_width","_law_rows","_law_handed","_law_cell_here","_law_some","_law_made","_law_told","_law_wish"] ["_law_script"] (ag km):=by walk_at "s"
set_option genInjectivity false in
set_option genSizeOf false in
structure Ad where
 eg:Addr
 oq:FuncData
 bF:Addr
 gZ:FuncData
 aq:Addr
 bT:FuncData
 av:Addr
 cb:FuncData
 aD:Addr
 dN:FuncData
 aw:Addr
 cf:FuncData
 bE:Addr
 gY:FuncData
 aO:Addr
 dM:FuncData
 a7:Addr
 e9:FuncData
 a0:Addr
 e8:FuncData
 ax:Addr
 bN:FuncData
 aB:Addr
 cR:FuncData
 aJ:Addr
 dh:FuncData
 aI:Addr
 df:FuncData
 jR:Addr
 rM:FuncData
 ar:Addr
open PySem.W in
structure Tx (K:Frag) (mg:Str→Option Value) (a:Ad):Prop where
 lQ:Fun K "even" "even" ip a.eg a.oq
 tX:keepIn K (.ref a.eg)=true
 oC:cn K a.oq ["number"] []
 ub:mg "even"=some (.ref a.eg)
 eF:Fun K "bits_of" "bits_of" b0 a.bF a.gZ
 nR:keepIn K (.ref a.bF)=true
 g9:cn K a.gZ ["mask"] []
 n0:mg "bits_of"=some (.ref a.bF)
 bj:Fun K "__init__" "Steps.__init__" aG a.aq a.bT
 mP:keepIn K (.ref a.aq)=true
 bU:cn K a.bT ["self","rows"] []
 bH:Fun K "lowered" "Steps.lowered" aL a.av a.cb
 nS:keepIn K (.ref a.av)=true
 bG:cn K a.cb ["self","mask"] []
 cU:Fun K "lay" "Steps.lay" bM a.aD a.dN
 rA:keepIn K (.ref a.aD)=true
 dO:cn K a.dN ["self","place","row"] []
 bI:Fun K "barring" "Steps.barring" aM a.aw a.cf
 nT:keepIn K (.ref a.aw)=true
 cg:cn K a.cf ["self","bit"] []
 eE:Fun K "sum_for" "sum_for" cF a.bE a.gY
 gS:keepIn K (.ref a.bE)=true
 dj:cn K a.gY ["rows","wish"] []
 gU:mg "sum_for"=some (.ref a.bE)
 cT:Fun K "_law_cell" "_law_cell" bL a.aO a.dM
 bq:keepIn K (.ref a.aO)=true
 aQ:cn K a.dM ["_law_script","_law_k"] []
 bt:mg "_law_cell"=some (.ref a.aO)
 dy:Fun K "_law_mix" "_law_mix" bZ a.a7 a.e9
 eT:keepIn K (.ref a.a7)=true
 cL:cn K a.e9 ["_law_cell_here","_law_k"] []
 eV:mg "_law_mix"=some (.ref a.a7)
 dw:Fun K "_law_odd" "_law_odd" bY a.a0 a.e8
 ix:keepIn K (.ref a.a0)=true
 du:cn K a.e8 ["_law_mask"] []
 iy:mg "_law_odd"=some (.ref a.a0)
 a8:Fun K "_law_are_places" "_law_are_places" aC a.ax a.bN
 eU:keepIn K (.ref a.ax)=true
 bP:cn K a.bN ["_law_found","_law_many"] []
 eW:mg "_law_are_places"=some (.ref a.ax)
 bX:Fun K "_law_sum_at" "_law_sum_at" aZ a.aB a.cR
 d7:keepIn K (.ref a.aB)=true
 bW:cn K a.cR ["_law_rows","_law_places"] []
 d9:mg "_law_sum_at"=some (.ref a.aB)
 cB:Fun K "_law_drawn" "_law_drawn" bw a.aJ a.dh
 jM:keepIn K (.ref a.aJ)=true
 dm:cn K a.dh ["_law_script","_law_width"] []
 jO:mg "_law_drawn"=some (.ref a.aJ)
 cA:Fun K "_law_shown" "_law_shown" bu a.aI a.df
 c9:keepIn K (.ref a.aI)=true
 bS:cn K a.df ["_law_told","_law_rows","_law_wish"] []
 de:mg "_law_shown"=some (.ref a.aI)
 pU:Fun K "law" "law" km a.jR a.rM
 vi:keepIn K (.ref a.jR)=true
 ui:cn K a.rM ["_law_script"] []
 vj:mg "law"=some (.ref a.jR)
 rF:mg "Steps"=some (.ref a.ar)
 bJ:Cls K a.ar
 vc:vb K a.ar
 rV:Mk K a.ar a.aq
 c8:Meth K a.ar "lowered" a.av
 kG:Meth K a.ar "lay" a.aD
 gK:Meth K a.ar "barring" a.aw
 aS:cM K a.ar "by_top"
 b8:cM K a.ar "free_places"
 cq:cM K a.ar "null_masks"
 qe:mg "bool"=none
 gJ:mg "enumerate"=none
 tP:mg "int"=none
 bx:mg "isinstance"=none
 nE:mg "len"=none
 qd:mg "list"=none
 kD:mg "range"=none
 pj:mg "sorted"=none
 rp:mg "tuple"=none
section
variable {P:Program} {w:World} {K:PySem.W.Frag} {mg:Str→Option Value} {base:Heap} {a:Ad}
theorem cZ (T:Tx K mg a):FnOk P w K mg base CX0 1 a.av a.cb ["self","mask"] (sA a.ar):=by
 refine T.bH.ok aR (fun vs H Q E h=>?_) (fun cdv A outer s H vs Q E hr h=>?_)
 ·obtain ⟨p,d,f,n,rows,x,rfl,_⟩:=h;rfl
 ·obtain ⟨p,d,f,n,rows,x,rfl,st,q⟩:=h
  have hu:=pD hr
  obtain ⟨dx,ho⟩:=st.ho
  obtain ⟨es,hd,ht,g,l⟩:=st.he
  refine ⟨_,((af (ay (i:=2) aR.nd rfl (by walk_at "o") ae)
   (af (iM PassesOwn.never (tu (tH hu (ak iw (eK (K:=K) rfl PySem.F.plainAttrs_int PySem.F.slot_int_bit_length PySem.F.type_int_bit_length eQ (pv 1)) ae) (dF (K:=K) rfl (pv 0) rfl))) (af (ay (i:=3) aR.nd rfl (by walk_at "o") (nq hu (dF (K:=K) rfl (pv 0) rfl) (ak iw (eK (K:=K) rfl PySem.F.plainAttrs_int PySem.F.slot_int_bit_length PySem.F.type_int_bit_length eQ (pv 1)) ae) (fun _ _=>rfl)))
   (af (ay (i:=1) aR.nd rfl (by walk_at "o") (ak fz (pv 1) (cG (bb (K:=K) rfl) (pv 3) ae (fun _ _=>rfl))))
   (aj (ay (i:=2) aR.nd rfl (by walk_at "o") (ak fz (pv 2) (cG (bb (K:=K) rfl) (pv 3) ae (fun _ _=>rfl))))))))
   (aj (a9 (lE (aa (pv 1) (aa (pv 2) ai)))))))),bo (σ':=[some _,some _,none,none]) rfl ?_⟩
  walk_at "l2"
  refine ⟨fun μ σ' H'=>∃ qq v,σ'=[some (.ref p),some (nat (x^^^M.sm rows qq)),some (nat qq),v]∧H'=H∧qq < 2 ^ rows.length∧μ=x^^^M.sm rows qq∧M.Frs rows qq,⟨x,0,none,?_,rfl,Nat.two_pow_pos _,?_,M.Frs.zero _⟩,?_⟩
  ·rw [M.sm_zero,Nat.xor_zero];rfl
  ·rw [M.sm_zero,Nat.xor_zero]
  rintro μ σ' H' ⟨qq,v,rfl,rfl,hq,rfl,hfr⟩
  walk_at "l2"
  refine dC ho T.bJ T.aS rfl ?_
  refine sW hd ?_
  walk_at "l2"
  generalize hm:x^^^M.sm rows qq=m
  refine iteB (fun hc=>?_) (fun hc=>?_)
  ·rcases gy es ((Builtin.Int.intBits (m:Int):Nat) - 1:Int) with ⟨e,he,ez,ev⟩ | ⟨_,hv⟩
   ·have hm0:m≠0:=fun z=>by rw [z,j1] at ez;omega
    have hl2:m.log2=e.m.log2:=by rw [dt hm0] at ez;omega
    have hem:(e.m,e.p)∈es.map (fun e=>(e.m,e.p)):=List.mem_map.mpr ⟨e,he,rfl⟩
    have e0:=g.nz _ hem
    refine ⟨fun σ2 H2=>∃ q2 v,σ2=[some (.ref p),some (nat (x^^^M.sm rows q2)),some (nat q2),v]∧H2=H'∧q2 < 2 ^ rows.length∧x^^^M.sm rows q2 < m∧M.Frs rows q2,fun σ2 H2 ⟨q2,v,h1,h2,h3,h4,h5⟩=>⟨_,h4,q2,v,h1,h2,h3,rfl,h5⟩,?_⟩
    walk_at "l2"
    refine dC ho T.bJ T.aS rfl ?_
    walk_at "l2"
    refine m7 hd ev ?_
    have hte:=ht e he
    walk_at "l2"
    refine ⟨qq^^^e.p,some (.ref e.a),?_,rfl,M.xor_lt_pow hq (g.lt _ hem),?_,hfr.xor (g.sub _ hem)⟩
    ·rw [M.sm_xor,g.sm _ hem,← Nat.xor_assoc,hm,bz,bz]
    ·rw [M.sm_xor,g.sm _ hem,← Nat.xor_assoc,hm];exact M.xor_less hm0 e0 hl2
   ·rw [hv] at hc;cases hc
  ·walk_at "l2"
   intro t H2 f2 s2 e2
   subst hm
   refine q t H2 qq f2 s2 e2 hq (fun m0 y hy y0 hl2=>?_) hfr
   rcases gy es ((Builtin.Int.intBits ((x^^^M.sm rows qq:Nat):Int):Nat) - 1:Int) with ⟨e,he,ez,ev⟩ | ⟨h1,hv⟩
   ·rw [ev] at hc;cases hc
   ·obtain ⟨e,he,ee⟩:=g.all y hy y0
    obtain ⟨e',he',rfl⟩:=List.mem_map.mp he
    refine h1 e' he' ?_
    have ee:e'.m.log2=y.log2:=ee
    rw [dt m0,ee,hl2];omega
theorem jz (T:Tx K mg a):FnOk P w K mg base CX0 2 a.aD a.dN ["self","place","row"] (sC a.ar):=by
 have ck:=@cZ P w K mg base a T
 refine T.cU.ok c6 (fun vs H Q E h=>?_) (fun cdv A outer s H vs Q E hr h=>?_)
 ·obtain ⟨p,d,f,n,rows,r,rfl,_⟩:=h;rfl
 ·obtain ⟨p,d,f,n,rows,r,rfl,st,hl,q⟩:=h
  have hu:=pD hr
  obtain ⟨dx,ho⟩:=st.ho
  refine ⟨_,((af (ay (i:=3) c6.nd rfl (by walk_at "o") (iP (pv 0) T.bJ T.c8 ck (hr.mono (by decide)) T.bG .nil bC (aa (pv 2) ai)))
   (af (ay (i:=4) c6.nd rfl (by walk_at "o") (ak fz (cG (bb (K:=K) rfl) (pv 3) ae (fun _ _=>rfl)) (ak dZ ae (pv 1))))
   (aj (dE (aV gG (cG (bb (K:=K) rfl) (pv 3) ae (fun _ _=>rfl)) ae (bD _)) (aj (gC (lF (K:=K) rfl PySem.F.plainAttrs_list PySem.F.slot_list_append PySem.F.type_list_append c7 (dF (K:=K) rfl (pv 0) rfl) (aa (pv 4) ai)))) (af (gC (lF (K:=K) rfl PySem.F.plainAttrs_list PySem.F.slot_list_append PySem.F.type_list_append c7 (dF (K:=K) rfl (pv 0) rfl) (aa (pv 1) ai)))
   (aj (qU hu (dF (K:=K) rfl (pv 0) rfl) (ak iw (eK (K:=K) rfl PySem.F.plainAttrs_int PySem.F.slot_int_bit_length PySem.F.type_int_bit_length eQ (cG (bb (K:=K) rfl) (pv 3) ae (fun _ _=>rfl))) ae) (lE (aa (cG (bb (K:=K) rfl) (pv 3) ae (fun _ _=>rfl)) (aa (pv 4) ai))) rfl)))))))),bo (σ':=[some _,some _,some _,none,none]) rfl ?_⟩
  walk_at "l2"
  refine gh ho rfl ?_
  walk_at "l2"
  refine ⟨p,d,f,n,rows,r,rfl,st,fun t H2 qq f2 s2 e2 hq hn hfr=>?_⟩
  walk_at "l2"
  rw [shl1,bz]
  have ho2:=s2.get ho
  have st2:=st.same s2
  have lf:=M.fr_len rows
  refine iteB (fun hc=>?_) (fun hc=>?_)
  ·have hz:r^^^M.sm rows qq=0:=by have:=V.int.inj (of_decide_eq_true hc);omega
   obtain ⟨nms,hnn,gn⟩:=st2.hn
   have ln:=gn.len
   walk_at "l2"
   refine dC ho2 T.bJ T.cq rfl ?_
   walk_at "l2"
   refine gi hnn (by rw [List.length_map];exact dR (by omega)) fun H3 u3=>?_
   walk_at "l2"
   exact q H3 (fun b o h1 h2 h3 e=>u3.oth _ _ h3 (s2.get e)) (st2.null hq hz hfr gn hnn u3)
  ·have hz:r^^^M.sm rows qq≠0:=fun z=>by rw [z] at hc;exact absurd hc (by decide)
   obtain ⟨es,hd,ht,g,le⟩:=st2.he
   have hf2:=st2.hf
   walk_at "l2"
   refine dC ho2 T.bJ T.b8 rfl ?_
   walk_at "l2"
   refine gi st2.hf (by rw [List.length_map];exact dR (by omega)) fun H3 u3=>?_
   have e3:=u3.oth _ _ (dI e2 st2.hf (by simp)) e2
   have ho3:=u3.oth _ _ (dI ho2 st2.hf (by simp)) ho2
   have hd3:=u3.oth _ _ (dI hd st2.hf (by simp)) hd
   walk_at "l2"
   intro t' H4 f4 s4 e4
   walk_at "l2"
   refine dC (s4.get ho3) T.bJ T.aS rfl ?_
   walk_at "l2"
   refine qQ (s4.get hd3) (by unfold d5;rw [List.length_map];exact dR (by omega)) fun H5 u5=>?_
   walk_at "l2"
   refine q H5 (fun b o h1 h2 h3 e=>u5.oth _ _ h1 (s4.get (u3.oth _ _ h2 (s2.get e)))) (st2.more hq hz (hn hz) hfr u3 s4 e4 hd ht g le ?_)
   have ez:(((r^^^M.sm rows qq).log2 + 1:Nat):Int) - 1=(((r^^^M.sm rows qq).log2:Nat):Int):=by omega
   rw [dt hz,ez] at u5
   exact u5
theorem eM (T:Tx K mg a):FnOk P w K mg base CX0 3 a.aq a.bT ["self","rows"] (qC a.ar):=by
 have k9:=@jz P w K mg base a T
 refine T.bj.ok bK (fun vs H Q E h=>?_) (fun cdv A outer s H vs Q E hr h=>?_)
 ·obtain ⟨x,dx,r,rows,rfl,_⟩:=h;rfl
 ·obtain ⟨x,dx,r,rows,rfl,hw,hl,hx,q⟩:=h
  have hu:=pD hr
  have rx:r≠x:=dI hw hx (by simp)
  refine ⟨_,((af (ko (K:=K) rfl (pv 0) pd rfl)
   (af (ko (K:=K) rfl (pv 0) (iq ai) rfl)
   (af (ko (K:=K) rfl (pv 0) (iq ai) rfl)
   (aj (gA PassesOwn.never rfl (nj (K:=K) rfl (by rfl) T.gJ (pv 1)) (p5 rfl (gm (b3 (i:=2) bK.nd rfl (by walk_at "o")) (gm (b3 (i:=3) bK.nd rfl (by walk_at "o")) nk))) (aj (gC (iP (pv 0) T.bJ T.kG k9 (hr.mono (by decide)) T.dO .nil bC (aa (pv 2) (aa (pv 3) ai))))))))))),bo (σ':=[some _,some _,none,none]) rfl ?_⟩
  walk_at "l2"
  intro d H1 f1 s1 e1
  walk_at "l2"
  have dx1:d≠x:=fun z=>by rw [z,hx] at f1;cases f1
  refine kl (s1.get hx) T.bJ T.aS (by decide) rfl fun H2 u2=>?_
  walk_at "l2"
  intro f H3 f3 s3 e3
  walk_at "l2"
  have fx1:f≠x:=fun z=>by rw [z,u2.at'] at f3;cases f3
  refine kl (s3.get u2.at') T.bJ T.b8 (by show 1 < 1000;decide) rfl fun H4 u4=>?_
  walk_at "l2"
  intro n H5 f5 s5 e5
  walk_at "l2"
  have nx1:n≠x:=fun z=>by rw [z,u4.at'] at f5;cases f5
  refine kl (s5.get u4.at') T.bJ T.cq (by show 2 < 1000;decide) rfl fun H6 u6=>?_
  have k1:∀ b o,b≠x→H b=some o→H2 b=some o:=fun b o nb e=>u2.oth _ _ nb (s1.get e)
  have k2:∀ b o,b≠x→H b=some o→H4 b=some o:=fun b o nb e=>u4.oth _ _ nb (s3.get (k1 b o nb e))
  have k3:∀ b o,b≠x→H b=some o→H6 b=some o:=fun b o nb e=>u6.oth _ _ nb (s5.get (k2 b o nb e))
  have nd:∀ b o,H b=some o→b≠d:=fun b o e=>ao e f1
  have nf:∀ b o,b≠x→H b=some o→b≠f:=fun b o nb e=>ao (k1 b o nb e) f3
  have nn:∀ b o,b≠x→H b=some o→b≠n:=fun b o nb e=>ao (k2 b o nb e) f5
  have e3':=u4.oth _ _ fx1 e3
  have fn:f≠n:=ao e3' f5
  have hd0:H6 d=some (.dK (d5 [])):=u6.oth _ _ dx1 (s5.get (u4.oth _ _ dx1 (s3.get (u2.oth _ _ dx1 e1))))
  have hw6:=k3 _ _ rx hw
  walk_at "l2"
  refine lN (xs:=rows.map nat) (fun i σ H'=>∃ v v',σ=[some (.ref x),some (.ref r),v,v']∧StA H' a.ar x d f n (rows.take i)∧∀ b o,b≠x→H b=some o→H' b=some o) ?_ ?_ ?_ ?_
  ·refine ⟨none,none,rfl,⟨⟨dx,u6.at'⟩,⟨[],hd0,fun _ h=>absurd h (by simp),M.Ech.nil,rfl⟩,u6.oth _ _ fx1 (s5.get e3'),⟨[],u6.oth _ _ nx1 e5,M.NulF.nil⟩,fn⟩,k3⟩
  ·rintro i σ H' _ ⟨v,v',_,_,k⟩
   exact SqL.of (k _ _ rx hw)
  ·rintro i y σ H' p H7 hy ⟨v,v',rfl,st,k⟩ fp s7 e7
   obtain ⟨ri,hri,rfl⟩:=dc hy
   obtain ⟨dx7,ho7⟩:=(st.same s7).ho
   walk_at "l2"
   refine gh ho7 rfl ?_
   walk_at "l2"
   have tl:=oP hri
   refine ⟨x,d,f,n,rows.take i,ri,by rw [tl],st.same s7,by rw [tl];have:=(List.getElem?_eq_some_iff.mp hri).1;omega,fun H8 fr8 st8=>?_⟩
   walk_at "l2"
   refine ⟨_,_,rfl,by rw [take_succ hri];exact st8,fun b o nb e=>fr8 b o (nd b o e) (nf b o nb e) (nn b o nb e) (s7.get (k b o nb e))⟩
  ·rintro σ H' ⟨v,v',rfl,st,k⟩
   rw [List.length_map,List.take_length] at st
   walk_at "l2"
   exact q H' d f n k st
theorem rh (T:Tx K mg a):FnOk P w K mg base CX0 1 a.eg a.oq ["number"] qD:=by
 refine T.lQ.ok gz (fun vs H Q E h=>?_) (fun cdv A outer s H vs Q E hr h=>?_)
 ·obtain ⟨m,rfl,_⟩:=h;rfl
 ·obtain ⟨m,rfl,hm,q⟩:=h
  refine ⟨_,((af (ay (i:=1) gz.nd rfl (by walk_at "o") (eK (K:=K) rfl PySem.F.plainAttrs_int PySem.F.slot_int_bit_length PySem.F.type_int_bit_length eQ (pv 0)))
   (af (iM PassesOwn.never (aV rg (pv 1) ae (bD _)) (af (ay (i:=2) gz.nd rfl (by walk_at "o") (ak cC (ak cX (pv 1) ae) ae))
   (af (ay (i:=0) gz.nd rfl (by walk_at "o") (ak fz (ak nv (pv 0) (pv 2)) (ak gH (pv 0) (ak iw (ak dZ ae (pv 2)) ae))))
   (aj (ay (i:=1) gz.nd rfl (by walk_at "o") (pv 2))))))
   (aj (a9 (nr gG (pv 0) ae (bD _))))))),bo (σ':=[some _,none,none]) rfl ?_⟩
  walk_at "l2"
  refine ⟨fun μ σ' H'=>∃ n hf,σ'=[some (nat n),some (nat μ),hf]∧H'=H∧n < 2 ^ μ∧μ≤1000∧M.od n=M.od m,⟨Builtin.Int.intBits (m:Int),m,none,rfl,rfl,oz m,oA hm,rfl⟩,?_⟩
  rintro μ σ' H' ⟨n,hf,rfl,rfl,hn,hw,hp⟩
  walk_at "l2"
  refine iteB (fun hc=>?_) (fun hc=>?_)
  ·have hc:=of_decide_eq_true hc
   have hlt:(μ + 1) / 2 < μ:=by omega
   refine ⟨fun σ2 H2=>∃ n2 hf,σ2=[some (nat n2),some (nat ((μ + 1) / 2)),hf]∧H2=H'∧n2 < 2 ^ ((μ + 1) / 2)∧M.od n2=M.od m,fun σ2 H2 ⟨n2,hf2,e1,e2,e3,e4⟩=>⟨(μ + 1) / 2,hlt,n2,hf2,e1,e2,e3,by omega,e4⟩,?_⟩
   walk_at "l2"
   refine ⟨(n>>>((μ + 1) / 2))^^^(n&&&(2 ^ ((μ + 1) / 2) - 1)),some (nat ((μ + 1) / 2)),?_,rfl,M.fold_lt μ _ n hn (by omega),?_⟩
   ·rw [nY,n9]
   ·rw [← hp]
    have f:=M.pb_fold μ ((μ + 1) / 2) n (by omega) hn (by omega)
    show M.pb 1000 _=M.pb 1000 _
    rw [M.pb_up (M.fold_lt μ _ n hn (by omega)) (by omega),f,← M.pb_up hn hw]
  ·have hc:=of_decide_eq_false hc
   have hn2:n < 2:=Nat.lt_of_lt_of_le hn (Nat.pow_le_pow_right (by decide) (show μ≤1 by omega))
   walk_at "l2"
   rw [show decide (V.int (n:Int)=V.int 0)= !M.od n from pf hn2,hp]
   exact q
theorem fH (T:Tx K mg a):FnOk P w K mg base CX0 2 a.aw a.cf ["self","bit"] (qF a.ar):=by
 have ur:=@rh P w K mg base a T
 refine T.bI.ok bg (fun vs H Q E h=>?_) (fun cdv A outer s H vs Q E hr h=>?_)
 ·obtain ⟨p,d,f,n,rows,b,rfl,_⟩:=h;rfl
 ·obtain ⟨p,d,f,n,rows,b,rfl,st,hb,hr1,h64,hnt,q⟩:=h
  have hu:=pD hr
  obtain ⟨dx,ho⟩:=st.ho
  obtain ⟨es,hd,ht,g,l⟩:=st.he
  have nd:(es.map fun e=>e.m.log2).Nodup:=by have:=g.nd;rw [List.map_map] at this;exact this
  refine ⟨_,((af (ay (i:=2) bg.nd rfl (by walk_at "o") (ak dZ ae (pv 1)))
   (af (gA PassesOwn.never rfl (gj (K:=K) rfl (bh (kU rfl) (by rfl) T.pj PyProof.Rows.boot_sorted (aa (dF (K:=K) rfl (pv 0) rfl) ai))) (b3 (i:=3) bg.nd rfl (by walk_at "o")) (aj (dE (fq (dW (aA ur (hr.mono (by decide)) (by rfl) T.ub T.tX T.oC .nil bC (aa (ak gH (pv 2) (cG (bb (K:=K) rfl) (nq hu (dF (K:=K) rfl (pv 0) rfl) (pv 3) (fun _ _=>rfl)) ae (fun _ _=>rfl))) ai)))) (aj (ay (i:=2) bg.nd rfl (by walk_at "o") (ak fz (pv 2) (ak dZ ae (pv 3))))) bB)))
   (aj (a9 (pv 2)))))),bo (σ':=[some _,some _,none,none]) rfl ?_⟩
  walk_at "l2"
  refine dC ho T.bJ T.aS rfl ?_
  walk_at "l2"
  refine oU hd (pB es) (nD nd) (by unfold d5;rw [List.length_map];omega) fun L ns H1 f1 s1 e1 hp hw=>?_
  obtain ⟨ts,rfl,up,mem⟩:=kh hp hw nd
  rw [← ro] at e1
  walk_at "l2"
  rw [shl1]
  refine gq (xs:=ts.map nat) (fun i σ H'=>∃ (m:Nat) (v:Option V),σ=[some (.ref p),some (nat b),some (nat m),v]∧H'=H1∧M.BarI (es.map fun e=>(e.m,e.p)) (ts.take i) b m) ⟨2 ^ b,none,rfl,rfl,M.BarI.zero _ b⟩ (fun i σ H' _ ⟨_,_,_,e,_⟩=>by rw [e];exact SqL.of e1) ?_ ?_
  ·rintro i y σ H' hy ⟨m,v,rfl,rfl,I⟩
   obtain ⟨t,hti,rfl⟩:=dc hy
   obtain ⟨hi,eti⟩:=List.getElem?_eq_some_iff.mp hti
   rcases gy es (t:Int) with ⟨e,he,ez,ev⟩ | ⟨hno,_⟩
   ·have ez:e.m.log2=t:=by omega
    subst ez
    have hem:(e.m,e.p)∈es.map (fun e=>(e.m,e.p)):=List.mem_map.mpr ⟨e,he,rfl⟩
    have hm1:e.m < 2 ^ 1000:=M.span_lt hr1 (g.span hem)
    have ht1:e.m.log2 < 1000:=M.log2_under (g.nz _ hem) hm1
    have hte:=s1.get (ht e he)
    have hup:∀ t∈ts.take i,t < e.m.log2:=fun t hm=>by
     obtain ⟨j,hj,ej⟩:=List.mem_iff_getElem.mp hm
     rw [List.length_take] at hj
     rw [List.getElem_take] at ej
     have:=List.pairwise_iff_getElem.mp up j i (by omega) hi (by omega)
     rw [ej,eti] at this
     exact this
    have ntb:e.m.log2≠b:=hnt e.m (g.span hem) (g.nz _ hem)
    have nd':=g.nd
    walk_at "l2"
    refine dC (s1.get ho) T.bJ T.aS rfl ?_
    walk_at "l2"
    refine m7 (s1.get hd) ev ?_
    walk_at "l2"
    rw [bO]
    refine ⟨m&&&e.m,rfl,Nat.lt_of_le_of_lt Nat.and_le_right hm1,?_⟩
    cases hod:M.od (m&&&e.m) with
    | true=>
      walk_at "l2"
      refine ⟨m^^^2 ^ e.m.log2,some (nat e.m.log2),by rw [shl1,bz],rfl,?_⟩
      rw [take_succ hti]
      exact I.flip (e:=(e.m,e.p)) nd' g.nz hem hod hup ntb ht1
    | false=>
      walk_at "l2"
      rw [take_succ hti]
      exact I.keep (e:=(e.m,e.p)) nd' hem hod
   ·obtain ⟨e,he,ez⟩:=(mem t).mp (List.mem_of_getElem? hti)
    exact absurd (by rw [ez]) (hno e he)
  ·rintro σ H' ⟨m,v,rfl,rfl,I⟩
   rw [List.length_map,List.take_length] at I
   walk_at "l2"
   refine q m H' s1 (I.done g fun e he=>?_)
   obtain ⟨e',he',rfl⟩:=List.mem_map.mp he
   exact (mem _).mpr ⟨e',he',rfl⟩
theorem l7 (T:Tx K mg a):FnOk P w K mg base CX0 1 a.bF a.gZ ["mask"] qE:=by
 refine T.eF.ok lZ (fun vs H Q E h=>?_) (fun cdv A outer s H vs Q E hr h=>?_)
 ·obtain ⟨m,rfl,_⟩:=h;rfl
 ·obtain ⟨m,rfl,hm,q⟩:=h
  have hb:=oA hm
  refine ⟨_,((aj (a9 (q0 (osc:=ag b0) (ON:=["mask"]) (N:=["place","mask"]) (n:=1) (fx:=[0]) rfl rfl rfl (by decide +kernel) (gD (by rfl) T.kD (aa (eK (K:=K) rfl PySem.F.plainAttrs_int PySem.F.slot_int_bit_length PySem.F.type_int_bit_length eQ (pv 0)) ai)) (nZ (by decide)) (fun _ _ _ _ _=>⟨(b3 (i:=0) (show List.Nodup (["place","mask"]:List Str) from by decide +kernel) rfl (by walk_at "o")),(ng (aV gG (ak gH (ak nv (pv 1) (pv 0)) ae) ae (bD _))),(pv 0)⟩))))),bo (σ':=[some _]) rfl ?_⟩
  walk_at "l2"
  intro D hD
  refine iz (fun i ys H'=>Cs (fun i ys=>ys=(M.pl i m).map nat) H D i ys H') (Cs.zero hD rfl) (fun i ys H' hi c=>?_) (fun ys H' c=>?_)
  ·walk_at "l2"
   rw [pS]
   by_cases ht:m.testBit i=true
   ·rw [if_pos ht]
    walk_at "l2"
    refine Cs.put hD c.same c.at' c.len (by omega) ?_
    rw [c.pv,M.pl_next,if_pos ht,List.map_append,Int.zero_add]
    rfl
   ·rw [if_neg ht]
    walk_at "l2"
    refine Cs.skip c.same c.at' c.len ?_
    rw [c.pv,M.pl_next,if_neg ht,List.append_nil]
  ·have e:=c.pv
   rw [Int.toNat_natCast] at e
   refine q D H' hD c.same ?_
   rw [c.at',e,M.pl_up (oz m) hb]
end
section
variable {P:Program} {w:World} {K:PySem.W.Frag} {mg:Str→Option Value} {base:Heap} {a:Ad}
theorem fA (T:Tx K mg a):FnOk P w K mg base CX0 1 a.aO a.dM ["_law_script","_law_k"] (lq K):=by
 refine T.cT.ok jl (fun vs H Q E h=>?_) (fun cdv A outer s H vs Q E hr h=>?_)
 ·obtain ⟨a,ns,k,rfl,_⟩:=h;rfl
 ·obtain ⟨p,ns,k,rfl,hS,h0,q⟩:=h
  refine ⟨_,((af (dE (aV pe (pv 1) (bh (di (K:=K) rfl) (by rfl) T.nE PySem.boot_len (aa (pv 0) ai)) (bD _)) (aj (a9 (cG (gp (K:=K) rfl) (pv 0) (pv 1) (fun _ _=>rfl)))) bB)
   (aj (a9 (ak cX (ak gF ae (pv 1)) ae))))),bo (σ':=[some _,some _]) rfl ?_⟩
  walk_at "l2"
  rw [List.length_map]
  unfold cell at q
  refine ite2 (fun hc=>?_) (fun hc=>?_)
  ·have hc:=of_decide_eq_true hc
   have ha:atI (ns.map V.int) k=some (.int (ns.getD k.toNat 0)):=by
    obtain ⟨j,rfl⟩:=Int.eq_ofNat_of_zero_le h0
    have hj:j < ns.length:=by omega
    exact oF (by rw [List.getElem?_map,List.getElem?_eq_getElem hj,List.getD_eq_getElem?_getD,Int.toNat_natCast,List.getElem?_eq_getElem hj];rfl)
   rw [if_pos hc] at q
   walk_at "l2"
   exact q
  ·have hc:¬ k < ns.length:=fun z=>hc (decide_eq_true z)
   rw [if_neg hc] at q
   walk_at "l2"
   exact q
theorem ky (T:Tx K mg a):FnOk P w K mg base CX0 1 a.a7 a.e9 ["_law_cell_here","_law_k"] pZ:=by
 refine T.dy.ok dB (fun vs H Q E h=>?_) (fun cdv A outer s H vs Q E hr h=>?_)
 ·obtain ⟨c,k,rfl,_⟩:=h;rfl
 ·obtain ⟨c,k,rfl,h0,h1,q⟩:=h
  refine ⟨_,((af (ay (i:=2) dB.nd rfl (by walk_at "o") (ak bR (ak cX (ak cX (ak gF (ak bR (pv 0) ae) ae) (ak gF ae (pv 1))) ae) ae))
   (af (ay (i:=2) dB.nd rfl (by walk_at "o") (ak bR (ak gF (pv 2) (pv 2)) ae))
   (aj (a9 (ak bR (ak gF (pv 2) (ak cX (ak cX (pv 2) (ak gF ae (pv 1))) ae)) ae)))))),bo (σ':=[some _,some _,none]) rfl ?_⟩
  walk_at "l2"
  show Q (.int _) H
  generalize hx:(_:Int) * (_ + 48271 * k + 7)=x
  have r1:0≤x % 2147483587:=Int.emod_nonneg _ (by decide)
  have r2:x % 2147483587 < 2147483587:=Int.emod_lt_of_pos _ (by decide)
  obtain ⟨j,hj⟩:=Int.eq_ofNat_of_zero_le r1
  rw [hj] at r2 ⊢
  exact q j (by omega)
local macro_rules | `(tactic| walk_at "l2step") =>`(tactic| first | ((with_reducible refine' kW ?e ?a ?_);(case e=>walk_at "l2hp");(case a=>walk_at "l2side")) | ((with_reducible refine' rO ?a ?b ?_);(case a=>walk_at "l2side");(case b=>walk_at "l2side");(with_reducible intro _ _)))
theorem m5 {H:Hp} {Q:VK} {c:Int} {b:Nat} (h:0 < b) (q:∀ r:Nat,r < b→Q (nat r) H):rI (fun _ j=>0 < j) (fun i j=>V.int (i % j)) (.int c) (nat b) H Q:=by
 have h0:=Int.emod_nonneg c (show (b:Int)≠0 by omega)
 have h1:=Int.emod_lt_of_pos c (show (0:Int) < (b:Int) by omega)
 refine ⟨_,_,rfl,rfl,by omega,?_⟩
 show Q (V.int (c % (b:Int))) H
 obtain ⟨r,e⟩:=Int.eq_ofNat_of_zero_le h0
 rw [e]
 exact q r (by omega)
theorem ot (ns:List Int):∃ cs:List Int,cutV (ns.map V.int) (some 2) (some 62)=cs.map V.int∧cs.length≤60:=by
 refine ⟨(ns.drop (min 2 ns.length)).take (min 62 ns.length - min 2 ns.length),?_,by rw [List.length_take];omega⟩
 unfold cutV
 rw [List.length_map,show HT.sIx ns.length ns.length (some 62)=min 62 ns.length from HT.sIx_nat _ _ 62,show HT.sIx ns.length 0 (some 2)=min 2 ns.length from HT.sIx_nat _ _ 2,← List.map_drop,← List.map_take]
theorem iT (T:Tx K mg a):FnOk P w K mg base CX0 2 a.aJ a.dh ["_law_script","_law_width"] (mX K):=by
 have aX:=@fA P w K mg base a T
 have fk:=@ky P w K mg base a T
 refine T.cB.ok aH (fun vs H Q E h=>?_) (fun cdv A outer s H vs Q E hr h=>?_)
 ·obtain ⟨p,ns,wd,rfl,_⟩:=h;rfl
 ·obtain ⟨p,ns,wd,rfl,hS,hl,hwd,q⟩:=h
  refine ⟨_,((af (ay (i:=2) aH.nd rfl (by walk_at "o") (iq ai))
   (af (gA PassesOwn.never rfl (nj (K:=K) rfl (by rfl) T.gJ (o9 (oS (K:=K) rfl) (pv 0) (ni ae) (ni ae))) (p5 rfl (gm (b3 (i:=3) aH.nd rfl (by walk_at "o")) (gm (b3 (i:=4) aH.nd rfl (by walk_at "o")) nk))) (af (ay (i:=5) aH.nd rfl (by walk_at "o") (ak bR (ak cC (pv 4) ae) (ak dZ ae (pv 1))))
   (iL (dE (PW.pt (tq (aV gG (ak bR (pv 4) ae) ae (bD _)) (qT (aV rg (pv 3) ae (bD _))))) (aj (ay (i:=5) aH.nd rfl (by walk_at "o") (ak fz (cG (gp (K:=K) rfl) (pv 2) (ak bR (ak cC (pv 4) ae) (pv 3)) (fun _ _=>rfl)) (cG (gp (K:=K) rfl) (pv 2) (ak bR (ak cC (ak cC (pv 4) ae) (pv 3)) (pv 3)) (fun _ _=>rfl))))) bB)
   (aj (gC (lF (K:=K) rfl PySem.F.plainAttrs_list PySem.F.slot_list_append PySem.F.type_list_append c7 (pv 2) (aa (pv 5) ai)))))))
   (af (gA PassesOwn.never rfl (gD (by rfl) T.kD (aa (ak bR (aA fk (hr.mono (by decide)) (by rfl) T.eV T.eT T.cL .nil bC (aa (aA aX (hr.mono (by decide)) (by rfl) T.bt T.bq T.aQ .nil bC (aa (pv 0) (aa ae ai))) (aa ae ai))) ae) ai)) (b3 (i:=3) aH.nd rfl (by walk_at "o")) (af (ay (i:=6) aH.nd rfl (by walk_at "o") (ak cX (ak gF (aA fk (hr.mono (by decide)) (by rfl) T.eV T.eT T.cL .nil bC (aa (aA aX (hr.mono (by decide)) (by rfl) T.bt T.bq T.aQ .nil bC (aa (pv 0) (aa ae ai))) (aa (ak cX ae (pv 3)) ai))) ae) (aA fk (hr.mono (by decide)) (by rfl) T.eV T.eT T.cL .nil bC (aa (aA aX (hr.mono (by decide)) (by rfl) T.bt T.bq T.aQ .nil bC (aa (pv 0) (aa ae ai))) (aa (ak cX ae (pv 3)) ai)))))
   (aj (gC (lF (K:=K) rfl PySem.F.plainAttrs_list PySem.F.slot_list_append PySem.F.type_list_append c7 (pv 2) (aa (ak bR (pv 6) (ak dZ ae (pv 1))) ai))))))
   (aj (a9 (pv 2))))))),bo (σ':=[some _,some _,none,none,none,none,none]) rfl ?_⟩
  walk_at "l2"
  intro D H1 f1 s1 e1
  have hS1:=Same.seq s1 hS
  walk_at "l2"
  intro D2 H2 f2 s2 e2
  obtain ⟨cs,ecs,lcs⟩:∃ cs:List Int,cutV (ns.map V.int) (some 2) (some 62)=cs.map V.int∧cs.length≤60:=ot ns
  rw [ecs] at e2
  clear ecs
  have hS2:=Same.seq s2 hS1
  have e12:=s2.get e1
  have f12:H D2=none:=s1.free f2
  refine .inl ⟨D2,rfl,⟨_,SqL.of e2⟩,?_⟩
  refine lN (xs:=cs.map V.int) (fun i σ H'=>∃ (rows:List Nat) (v1 v2 v3:Option V),σ=[some (.ref p),some (nat wd),some (.ref D),v1,v2,v3,none]∧Same H H'∧H' D=some (.lst (rows.map nat))∧H' D2=some (.lst (cs.map V.int))∧rows.length=i∧∀ r∈rows,r < 2 ^ wd) ⟨[],none,none,none,rfl,s1.trans s2,e12,e2,rfl,fun _ h=>absurd h (by simp)⟩ (fun i σ H' _ ⟨_,_,_,_,_,_,_,e,_⟩=>SqL.of e) ?_ ?_
  ·rintro i y σ H3 pp H4 hy ⟨rows,v1,v2,v3,rfl,s3,eD,eD2,lr,br⟩ fp s4 ep
   obtain ⟨c,hc,rfl⟩:=dc hy
   have hi:=(List.getElem?_eq_some_iff.mp hc).1
   have eD4:=s4.get eD
   have eD24:=s4.get eD2
   have s34:=s3.trans s4
   clear hy hc
   walk_at "l2"
   rw [shl1]
   refine m5 (Nat.two_pow_pos wd) fun r0 hr0=>?_
   walk_at "l2"
   refine oY (fun σ H5=>H4=H5∧∃ r1:Nat,r1 < 2 ^ wd∧σ=[some (.ref p),some (nat wd),some (.ref D),some (.int i),some (.int c),some (nat r1),none]) ?_ ?_
   ·walk_at "l2"
    refine iteB (fun hc=>?_) (fun hc=>?_)
    ·walk_at "l2"
     refine iteB (fun hk=>?_) (fun hk=>?_)
     ·have hk1:0 < i:=by have:=of_decide_eq_true hk;omega
      have ato:∀ k:Nat,k < i→atI (rows.map nat) (k:Int)=some (nat (rows.getD k 0)):=fun k hk=>oE (by omega)
      have bto:∀ k:Nat,k < i→rows.getD k 0 < 2 ^ wd:=fun k hk=>by
       rw [List.getD_eq_getElem?_getD,List.getElem?_eq_getElem (by omega)]
       exact br _ (List.getElem_mem _)
      clear hc hk
      have em:∀ z:Int,∃ k:Nat,z % (i:Int)=(k:Int)∧k < i:=fun z=>by
       obtain ⟨k,e,l⟩:=gw (c:=z) (m:=(i:Int)) (by omega)
       exact ⟨k,e,by omega⟩
      walk_at "l2"
      obtain ⟨k1,ek1,hk1'⟩:=em (c / 4)
      rw [ek1]
      refine qL (SqL.of eD4) (ato k1 hk1') ?_
      walk_at "l2"
      obtain ⟨k2,ek2,hk2'⟩:=em (c / 4 / (i:Int))
      rw [ek2]
      refine qL (SqL.of eD4) (ato k2 hk2') ?_
      walk_at "l2"
      rw [bz]
      exact ⟨_,M.xor_lt_pow (bto k1 hk1') (bto k2 hk2'),rfl⟩
     ·walk_at "l2"
      exact ⟨r0,hr0,rfl⟩
    ·walk_at "l2"
     exact ⟨r0,hr0,rfl⟩
   ·rintro σ H5 ⟨rfl,r1,hr1,rfl⟩
    walk_at "l2"
    refine gi eD4 (by rw [List.length_map,sizeLine_eq];omega) fun H6 u6=>?_
    walk_at "l2"
    refine ⟨rows++[r1],_,_,_,rfl,fun b ob e=>u6.oth _ _ (ao e f1) (s34.get e),by rw [List.map_append];exact u6.at',u6.oth _ _ (ao e1 f2).symm eD24,by rw [List.length_append,lr];rfl,fun r hr=>?_⟩
    rcases List.mem_append.mp hr with h | h
    ·exact br r h
    ·rw [List.mem_singleton.mp h];exact hr1
  ·rintro σ H3 ⟨rows,v1,v2,v3,rfl,s3,eD,eD2,lr,br⟩
   rw [List.length_map] at lr
   have hS3:=Same.seq s3 hS
   walk_at "l2"
   rename_i r6 hr6
   rw [show ((r6:Nat):Int) % 6=((r6 % 6:Nat):Int) from by norm_cast,Int.toNat_natCast]
   have l6:=Nat.mod_lt r6 (show 0 < 6 by decide)
   generalize r6 % 6=n6 at l6
   clear hr6
   refine n8 (fun i σ H'=>∃ (rows:List Nat) (v1 v2 v3 v4:Option V),σ=[some (.ref p),some (nat wd),some (.ref D),v1,v2,v3,v4]∧Same H H'∧H' D=some (.lst (rows.map nat))∧rows.length≤60 + i∧∀ r∈rows,r < 2 ^ wd) ⟨rows,_,_,_,_,rfl,s3,eD,by omega,br⟩ ?_ ?_
   ·rintro i σ H4 hi ⟨rows,v1,v2,v3,v4,rfl,s4,eD4,lr4,br4⟩
    have hS4:=Same.seq s4 hS
    have hi6:i < 6:=by omega
    clear hi l6
    walk_at "l2"
    rw [shl1]
    refine m5 (Nat.two_pow_pos wd) fun r0 hr0=>?_
    walk_at "l2"
    refine gi eD4 (by rw [List.length_map,sizeLine_eq];omega) fun H6 u6=>?_
    walk_at "l2"
    refine ⟨rows++[r0],_,_,_,_,rfl,fun b ob e=>u6.oth _ _ (ao e f1) (s4.get e),by rw [List.map_append];exact u6.at',by rw [List.length_append];show rows.length + 1≤_;omega,fun r hr=>?_⟩
    rcases List.mem_append.mp hr with h | h
    ·exact br4 r h
    ·rw [List.mem_singleton.mp h];exact hr0
   ·rintro σ H4 ⟨rows,v1,v2,v3,v4,rfl,s4,eD4,lr4,br4⟩
    walk_at "l2"
    exact q D H4 rows f1 s4 eD4 (by omega) br4
end
section
variable {P:Program} {w:World} {K:PySem.W.Frag} {mg:Str→Option Value} {base:Heap} {a:Ad}
theorem l5 (T:Tx K mg a):FnOk P w K mg base CX0 5 a.bE a.gY ["rows","wish"] ij:=by
 have f9:=@eM P w K mg base a T
 have ck:=@cZ P w K mg base a T
 have hE:=@fH P w K mg base a T
 have oM:=@l7 P w K mg base a T
 refine T.eE.ok eI (fun vs H Q E h=>?_) (fun cdv A outer s H vs Q E hr h=>?_)
 ·obtain ⟨r,rows,x,rfl,_⟩:=h;rfl
 ·obtain ⟨r,rows,x,rfl,hw,hl,hr1,hx1,h64,qA,qB⟩:=h
  refine ⟨_,((af (ay (i:=2) eI.nd rfl (by walk_at "o") (qZ T.rV f9 (hr.mono (by decide)) (by rfl) T.rF T.bU .nil bC (aa (pv 0) ai)))
   (af (ay (i:=3) eI.nd rfl (by walk_at "o") (iP (pv 2) T.bJ T.c8 ck (hr.mono (by decide)) T.bG .nil bC (aa (pv 1) ai)))
   (af (dE (aV gG (cG (bb (K:=K) rfl) (pv 3) ae (fun _ _=>rfl)) ae (bD _)) (aj (a9 (lE (aa ju (aa (aA oM (hr.mono (by decide)) (by rfl) T.n0 T.nR T.g9 .nil bC (aa (cG (bb (K:=K) rfl) (pv 3) ae (fun _ _=>rfl)) ai)) ai))))) bB)
   (aj (a9 (lE (aa ju (aa (iP (pv 2) T.bJ T.gK hE (hr.mono (by decide)) T.cg .nil bC (aa (ak iw (eK (K:=K) rfl PySem.F.plainAttrs_int PySem.F.slot_int_bit_length PySem.F.type_int_bit_length eQ (cG (bb (K:=K) rfl) (pv 3) ae (fun _ _=>rfl))) ae) ai)) ai))))))))),bo (σ':=[some _,some _,none,none]) rfl ?_⟩
  walk_at "l2"
  intro p dx H2 f2 s2 e2
  refine ⟨p,dx,r,rows,rfl,s2.get hw,hl,e2,fun H3 d f n k st=>⟨rfl,?_⟩⟩
  obtain ⟨dx3,ho⟩:=st.ho
  have hs:Same H H3:=fun b o e=>k b o (ao e f2) (s2.get e)
  walk_at "l2"
  refine gh ho rfl ?_
  walk_at "l2"
  refine ⟨p,d,f,n,rows,x,rfl,st,fun t H4 qq f4 s4 e4 hq hn hfr=>?_⟩
  walk_at "l2"
  refine iteB (fun hc=>?_) (fun hc=>?_)
  ·have hz:x^^^M.sm rows qq=0:=by have:=V.int.inj (of_decide_eq_true hc);omega
   have hsm:M.sm rows qq=x:=by
    have:=congrArg (x^^^·) hz
    simp only [← Nat.xor_assoc,Nat.xor_self,Nat.zero_xor,Nat.xor_zero] at this
    exact this
   walk_at "l2"
   refine ⟨qq,rfl,Nat.lt_of_lt_of_le hq (Nat.pow_le_pow_right (by decide) hl),fun D H5 f5 s5 e5=>?_⟩
   walk_at "l2"
   intro t' H6 f6 s6 e6
   exact qA t' D H6 qq (hs.trans (s4.trans (s5.trans s6))) e6 (s6.get e5) hq hsm
  ·have hz:x^^^M.sm rows qq≠0:=fun z=>by rw [z] at hc;exact absurd hc (by decide)
   have hx1':x^^^M.sm rows qq < 2 ^ 1000:=M.xor_lt_pow hx1 (M.span_lt hr1 (M.sm_span rows qq))
   have hb1:=M.log2_under hz hx1'
   have hns:¬ M.Span rows x:=fun hsp=>hn hz _ (M.span_xor hsp (M.sm_span rows qq)) hz rfl
   have h64':(M.fr rows).length < 66:=h64.resolve_left hns
   have ez:(((x^^^M.sm rows qq).log2 + 1:Nat):Int) - 1=(((x^^^M.sm rows qq).log2:Nat):Int):=by omega
   walk_at "l2"
   refine gh (s4.get ho) rfl ?_
   walk_at "l2"
   rw [dt hz,ez]
   refine ⟨p,d,f,n,rows,(x^^^M.sm rows qq).log2,rfl,st.same s4,hb1,hr1,h64',hn hz,fun m H5 s5 B=>?_⟩
   walk_at "l2"
   intro t' H6 f6 s6 e6
   refine qB t' H6 m (hs.trans (s4.trans (s5.trans s6))) e6 hns B.ev (B.odd hz rfl hb1) fun W hW hxW=>B.lt W hW ?_
   exact M.log2_under hz (M.xor_lt_pow hxW (M.span_lt hW (M.sm_span rows qq)))
end
local macro_rules | `(tactic| walk_at "l2step") =>`(tactic| first | ((with_reducible refine' kW ?e ?a ?_);(case e=>walk_at "l2hp");(case a=>walk_at "l2side")) | ((with_reducible refine' rO ?a ?b ?_);(case a=>walk_at "l2side");(case b=>walk_at "l2side");(with_reducible intro _ _)))
section
variable {P:Program} {w:World} {K:PySem.W.Frag} {mg:Str→Option Value} {base:Heap} {a:Ad}
theorem d0 (T:Tx K mg a):FnOk P w K mg base CX0 1 a.ax a.bN ["_law_found","_law_many"] mV:=by
 refine T.a8.ok aU (fun vs H Q E h=>?_) (fun cdv A outer s H vs Q E hr h=>?_)
 ·obtain ⟨D,n,ps,rfl,_⟩:=h;rfl
 ·obtain ⟨D,n,ps,rfl,hD,hpw,hlt,q⟩:=h
  refine ⟨_,((af (dE (fq (dW (bh (cK (K:=K) rfl) (by rfl) T.bx PyProof.Rows.boot_isinstance (aa (pv 0) (aa (eL (v:= .ty "list") (by rfl) T.qd PyProof.Rows.boot_list rfl) ai))))) (aj (a9 jv)) bB)
   (af (ay (i:=2) aU.nd rfl (by walk_at "o") (uV rY ae))
   (af (gA PassesOwn.never rfl (gj (K:=K) rfl (pv 0)) (b3 (i:=3) aU.nd rfl (by walk_at "o")) (af (dE (PW.pt (jm (fq (dW (bh (cK (K:=K) rfl) (by rfl) T.bx PyProof.Rows.boot_isinstance (aa (pv 3) (aa (eL (v:= .ty "int") (by rfl) T.tP PyProof.Rows.boot_int rfl) ai))))) (jm (dW (bh (cK (K:=K) rfl) (by rfl) T.bx PyProof.Rows.boot_isinstance (aa (pv 3) (aa (eL (v:= .ty "bool") (by rfl) T.qe PyProof.Rows.boot_bool rfl) ai)))) (lB (fq (lC pe pe (pv 2) (pv 3) (pv 1))))))) (aj (a9 jv)) bB)
   (aj (ay (i:=2) aU.nd rfl (by walk_at "o") (pv 3)))))
   (aj (a9 jv)))))),bo (σ':=[some _,some _,none,none]) rfl ?_⟩
  walk_at "l2"
  refine gq (xs:=ps.map nat) (fun i σ H2=>∃ (ah:Int) (v:Option V),σ=[some (.ref D),some (nat n),some (.int ah),v]∧H2=H∧∀ x∈ps.drop i,ah < ((x:Nat):Int)) ⟨-1,none,rfl,rfl,fun x _=>by omega⟩ (fun i σ H2 _ ⟨_,_,_,e,_⟩=>by rw [e];exact SqL.of hD) ?_ ?_
  ·rintro i y σ H2 hy ⟨ah,v,rfl,rfl,ha⟩
   obtain ⟨k,hk,rfl⟩:=dc hy
   obtain ⟨hi,ek⟩:=List.getElem?_eq_some_iff.mp hk
   have hdk:ps.drop i=k::ps.drop (i + 1):=by rw [← ek];exact List.drop_eq_getElem_cons hi
   have h1:ah < (k:Int):=ha k (by rw [hdk];exact List.mem_cons_self ..)
   have h2:(k:Int) < (n:Int):=by have:=hlt k (List.mem_of_getElem? hk);omega
   walk_at "l2"
   rw [decide_eq_true h1]
   walk_at "l2"
   rw [decide_eq_true h2]
   walk_at "l2"
   intro x hx
   have hpd:(ps.drop i).Pairwise (· < ·):=hpw.sublist (List.drop_sublist i ps)
   rw [hdk] at hpd
   have:=(List.pairwise_cons.mp hpd).1 x hx
   omega
  ·rintro σ H2 ⟨ah,v,rfl,rfl,_⟩
   walk_at "l2"
   exact q
theorem dz (T:Tx K mg a):FnOk P w K mg base CX0 1 a.aB a.cR ["_law_rows","_law_places"] (oR K):=by
 refine T.bX.ok bQ (fun vs H Q E h=>?_) (fun cdv A outer s H vs Q E hr h=>?_)
 ·obtain ⟨r,D,rows,ps,rfl,_⟩:=h;rfl
 ·obtain ⟨r,D,rows,ps,rfl,hr',hD,hlt,q⟩:=h
  refine ⟨_,((af (ay (i:=2) bQ.nd rfl (by walk_at "o") ae)
   (af (gA PassesOwn.never rfl (gj (K:=K) rfl (pv 1)) (b3 (i:=3) bQ.nd rfl (by walk_at "o")) (aj (ay (i:=2) bQ.nd rfl (by walk_at "o") (ak fz (pv 2) (cG (gp (K:=K) rfl) (pv 0) (pv 3) (fun _ _=>rfl))))))
   (aj (a9 (pv 2)))))),bo (σ':=[some _,some _,none,none]) rfl ?_⟩
  walk_at "l2"
  refine gq (xs:=ps.map nat) (fun i σ H2=>∃ v:Option V,σ=[some (.ref r),some (.ref D),some (nat (M.xs rows (ps.take i))),v]∧H2=H) ⟨none,rfl,rfl⟩ (fun i σ H2 _ ⟨_,_,e⟩=>by rw [e];exact SqL.of hD) ?_ ?_
  ·rintro i y σ H2 hy ⟨v,rfl,rfl⟩
   obtain ⟨k,hk,rfl⟩:=dc hy
   have ha:=oE (hlt k (List.mem_of_getElem? hk))
   walk_at "l2"
   refine ⟨some (nat k),?_,rfl⟩
   rw [qp hk,bz]
  ·rintro σ H2 ⟨v,rfl,rfl⟩
   rw [List.length_map,List.take_length]
   walk_at "l2"
   exact q
theorem ku (T:Tx K mg a):FnOk P w K mg base CX0 1 a.a0 a.e8 ["_law_mask"] sv:=by
 refine T.dw.ok cP (fun vs H Q E h=>?_) (fun cdv A outer s H vs Q E hr h=>?_)
 ·obtain ⟨m,rfl,_⟩:=h;rfl
 ·obtain ⟨m,rfl,hm,q⟩:=h
  refine ⟨_,((af (ay (i:=1) cP.nd rfl (by walk_at "o") jv)
   (af (iM PassesOwn.never (aV rg (pv 0) ae (bD _)) (af (ay (i:=0) cP.nd rfl (by walk_at "o") (ak gH (pv 0) (ak iw (pv 0) ae)))
   (aj (ay (i:=1) cP.nd rfl (by walk_at "o") (tE (pv 1))))))
   (aj (a9 (pv 1)))))),bo (σ':=[some _,none]) rfl ?_⟩
  walk_at "l2"
  refine ⟨fun μ σ' H'=>∃ o,σ'=[some (nat μ),some (.bl o)]∧H'=H∧μ < 2 ^ 1000∧(o^^M.od μ)=M.od m,⟨m,false,rfl,rfl,hm,by simp⟩,?_⟩
  rintro μ σ' H' ⟨o,rfl,rfl,hμ,ho⟩
  walk_at "l2"
  by_cases h0:0 < μ
  ·refine sQ (decide_eq_true (by omega)) ?_
   refine ⟨fun σ2 H2=>∃ (n:Nat) (o:Bool),σ2=[some (nat n),some (.bl o)]∧H2=H'∧n < μ∧(o^^M.od n)=M.od m,fun σ2 H2 ⟨n,o,e1,e2,e3,e4⟩=>⟨n,e3,o,e1,e2,by omega,e4⟩,?_⟩
   walk_at "l2"
   have e1:(μ:Int) - 1=((μ - 1:Nat):Int):=by omega
   rw [e1,bO]
   refine ⟨μ&&&(μ - 1),!o,rfl,rfl,M.drop_less h0,?_⟩
   have e2:M.od (μ&&&(μ - 1))= !M.od μ:=M.drop_bit 1000 μ h0 hμ
   rw [e2,← ho]
   cases o<;>cases M.od μ<;>rfl
  ·have e0:μ=0:=by omega
   subst e0
   walk_at "l2"
   rw [M.od_zero] at ho
   simp at ho
   rw [ho]
   exact q
theorem oV {σ:St} {H:Hp} {Q':VK} (h:∀ tt:Int,tt=1 * 2 ^ ((300:Int).toNat)→Q' (.int tt) H):tOp (rI CPow fun i j=>V.int (i * 2 ^ j.toNat)) (tC (V.int 1)) (tC (V.int 300)) σ H Q':=⟨1,300,rfl,rfl,⟨by decide,by decide,by decide⟩,h _ rfl⟩
local macro_rules | `(tactic| walk_at "l2step") =>`(tactic| ((with_reducible refine oV ?_);(with_reducible intro _ _)))
theorem iS (T:Tx K mg a):FnOk P w K mg base CX0 2 a.aI a.df ["_law_told","_law_rows","_law_wish"] (mW K):=by
 have fm:=@d0 P w K mg base a T
 have cS:=@dz P w K mg base a T
 have iF:=@ku P w K mg base a T
 refine T.cA.ok cO (fun vs H Q E h=>?_) (fun cdv A outer s H vs Q E hr h=>?_)
 ·obtain ⟨t,r,rows,x,rfl,_⟩:=h;rfl
 ·obtain ⟨t,r,rows,x,rfl,er,hl,hb,hx,td,q⟩:=h
  refine ⟨_,((af (dE (PW.pt (jm (fq (dW (bh (cK (K:=K) rfl) (by rfl) T.bx PyProof.Rows.boot_isinstance (aa (pv 0) (aa (eL (v:= .ty "tuple") (by rfl) T.rp PyProof.Rows.boot_tuple rfl) ai))))) (lB (aV rf (bh (di (K:=K) rfl) (by rfl) T.nE PySem.boot_len (aa (pv 0) ai)) ae (bD _))))) (aj (a9 jv)) bB)
   (af (dE (aV gG (cG (bb (K:=K) rfl) (pv 0) ae (fun _ _=>rfl)) ju (bD _)) (aj (a9 (p7 (aA fm (hr.mono (by decide)) (by rfl) T.eW T.eU T.bP .nil bC (aa (cG (bb (K:=K) rfl) (pv 0) ae (fun _ _=>rfl)) (aa (bh (di (K:=K) rfl) (by rfl) T.nE PySem.boot_len (aa (pv 1) ai)) ai))) (p6 (nr gG (aA cS (hr.mono (by decide)) (by rfl) T.d9 T.d7 T.bW .nil bC (aa (pv 1) (aa (cG (bb (K:=K) rfl) (pv 0) ae (fun _ _=>rfl)) ai))) (pv 2) (bD _)))))) bB)
   (af (ay (i:=3) cO.nd rfl (by walk_at "o") (cG (bb (K:=K) rfl) (pv 0) ae (fun _ _=>rfl)))
   (af (dE (PW.pt (jm (aV rf (cG (bb (K:=K) rfl) (pv 0) ae (fun _ _=>rfl)) ju (bD _)) (jm (fq (dW (bh (cK (K:=K) rfl) (by rfl) T.bx PyProof.Rows.boot_isinstance (aa (pv 3) (aa (eL (v:= .ty "int") (by rfl) T.tP PyProof.Rows.boot_int rfl) ai))))) (jm (dW (bh (cK (K:=K) rfl) (by rfl) T.bx PyProof.Rows.boot_isinstance (aa (pv 3) (aa (eL (v:= .ty "bool") (by rfl) T.qe PyProof.Rows.boot_bool rfl) ai)))) (lB (fq (lC uX pe ae (pv 3) (ak dZ ae ae)))))))) (aj (a9 jv)) bB)
   (af (gA PassesOwn.never rfl (gj (K:=K) rfl (pv 1)) (b3 (i:=4) cO.nd rfl (by walk_at "o")) (aj (dE (dW (aA iF (hr.mono (by decide)) (by rfl) T.iy T.ix T.du .nil bC (aa (ak gH (pv 3) (pv 4)) ai))) (aj (a9 jv)) bB)))
   (aj (a9 (aA iF (hr.mono (by decide)) (by rfl) T.iy T.ix T.du .nil bC (aa (ak gH (pv 3) (pv 2)) ai)))))))))),bo (σ':=[some _,some _,some _,none,none]) rfl ?_⟩
  rcases td with ⟨D,qq,et,eD,hq,hs⟩ | ⟨mk,et,hns,ev,od1,lt⟩
  ·have plt:=M.pl_lt (w:=1000) hq
   have prise:=M.pl_rise 1000 qq
   walk_at "l2"
   refine ⟨D,rows.length,M.pl 1000 qq,by rw [List.length_map],eD,prise,plt,?_⟩
   walk_at "l2"
   refine ⟨r,D,rows,M.pl 1000 qq,rfl,SqL.of er,eD,plt,?_⟩
   have ex:M.xs rows (M.pl 1000 qq)=x:=by
    rw [← hs,← M.xs_pl,M.pl_up hq hl]
   rw [ex]
   walk_at "l2"
   rw [decide_eq_true rfl]
   exact q H (Same.refl _)
  ·have hm:=lt 300 hb hx
   have up:∀ {z:Nat},z < 2 ^ 300→z < 2 ^ 1000:=fun h=>Nat.lt_of_lt_of_le h (Nat.pow_le_pow_right (by decide) (by decide))
   have hm1:mk < 2 ^ 1000:=up hm
   have hmz:∀ tt:Int,tt=1 * 2 ^ ((300:Int).toNat)→(mk:Int) < tt:=fun tt e=>by rw [e,show ((300:Int))=((300:Nat):Int) from rfl,shl1];omega
   clear up lt hb hx hm
   walk_at "l2"
   rename_i tt ett
   rw [decide_eq_true (hmz tt ett)]
   clear ett hmz
   walk_at "l2"
   refine gq (xs:=rows.map nat) (fun i σ H2=>∃ v:Option V,σ=[some (.ref t),some (.ref r),some (nat x),some (nat mk),v]∧H2=H) ⟨none,rfl,rfl⟩ (fun i σ H2 _ ⟨_,_,e⟩=>by rw [e];exact SqL.of er) ?_ ?_
   ·rintro i y σ H2 hy ⟨v,rfl,rfl⟩
    obtain ⟨k,hk,rfl⟩:=dc hy
    walk_at "l2"
    rw [bO]
    refine ⟨mk&&&k,rfl,Nat.lt_of_le_of_lt Nat.and_le_left hm1,?_⟩
    rw [ev k (M.span_mem (List.mem_of_getElem? hk))]
    walk_at "l2"
    rfl
   ·rintro σ H2 ⟨v,rfl,rfl⟩
    walk_at "l2"
    rw [bO]
    refine ⟨mk&&&x,rfl,Nat.lt_of_le_of_lt Nat.and_le_left hm1,?_⟩
    rw [od1]
    exact q H2 (Same.refl _)
end
local macro_rules | `(tactic| walk_at "l2step") =>`(tactic| first | ((with_reducible refine' kW ?e ?a ?_);(case e=>walk_at "l2hp");(case a=>walk_at "l2side")) | ((with_reducible refine' rO ?a ?b ?_);(case a=>walk_at "l2side");(case b=>walk_at "l2side");(with_reducible intro _ _)))
section
variable {P:Program} {w:World} {K:PySem.W.Frag} {mg:Str→Option Value} {base:Heap} {a:Ad}
theorem qr {rows:List Nat}:∀ ps:List Nat,(∀ k∈ps,k < rows.length)→M.Span rows (M.xs rows ps):=by
 refine M.snoc_ind (P:=fun ps=>(∀ k∈ps,k < rows.length)→M.Span rows (M.xs rows ps)) (fun _=>M.span_zero _) fun l k ih h=>?_
 rw [M.xs_snoc]
 refine M.span_xor (ih fun x hx=>h x (List.mem_append_left _ hx)) (M.span_mem ?_)
 have hk:=h k (List.mem_append_right _ List.mem_cons_self)
 rw [List.getD_eq_getElem?_getD,List.getElem?_eq_getElem hk]
 exact List.getElem_mem hk
theorem o3 {rows:List Nat} {k:Nat} (hk:1≤k):(∀ r∈(List.replicate k (rows++List.replicate 7 0)).flatten,r=0∨r∈rows)∧∀ r∈rows,r∈(List.replicate k (rows++List.replicate 7 0)).flatten:=by
 refine ⟨fun r hr=>?_,fun r hr=>?_⟩
 ·obtain ⟨l,hl,hrl⟩:=List.mem_flatten.mp hr
  rw [List.eq_of_mem_replicate hl] at hrl
  rcases List.mem_append.mp hrl with h | h
  ·exact .inr h
  ·exact .inl (List.eq_of_mem_replicate h)
 ·exact List.mem_flatten.mpr ⟨_,List.mem_replicate.mpr ⟨by omega,rfl⟩,List.mem_append_left _ hr⟩
theorem tL (T:Tx K mg a):FnOk P w K mg base CX0 7 a.jR a.rM ["_law_script"] (lj K):=by
 have aX:=@fA P w K mg base a T
 have kc:=@iT P w K mg base a T
 have dq:=@iS P w K mg base a T
 have cS:=@dz P w K mg base a T
 have hC:=@l5 P w K mg base a T
 refine T.pU.ok cV (fun vs H Q E h=>?_) (fun cdv A outer s H vs Q E hr h=>?_)
 ·obtain ⟨p,ns,rfl,_⟩:=h;rfl
 ·obtain ⟨p0,ns,rfl,hS,hlen,q⟩:=h
  have hu0:=t7 hr
  refine ⟨_,((af (ay (i:=1) cV.nd rfl (by walk_at "o") (ak cX ae (ak bR (ak cC (aA aX (hr.mono (by decide)) (by rfl) T.bt T.bq T.aQ .nil bC (aa (pv 0) (aa ae ai))) ae) ae)))
   (iL (dE (aV gG (ak bR (aA aX (hr.mono (by decide)) (by rfl) T.bt T.bq T.aQ .nil bC (aa (pv 0) (aa ae ai))) ae) ae (bD _)) (aj (ay (i:=1) cV.nd rfl (by walk_at "o") (ak cX ae (ak bR (pv 1) ae)))) bB)
   (af (ay (i:=2) cV.nd rfl (by walk_at "o") (aA kc (hr.mono (by decide)) (by rfl) T.jO T.jM T.dm .nil bC (aa (pv 0) (aa (pv 1) ai))))
   (iL (dE (aV gG (ak bR (ak cC (aA aX (hr.mono (by decide)) (by rfl) T.bt T.bq T.aQ .nil bC (aa (pv 0) (aa ae ai))) ae) ae) ae (bD _)) (aj (ay (i:=2) cV.nd rfl (by walk_at "o") (ak qb (ak tK (pv 2) (ak qb (iq (aa ae ai)) ae)) (ak cC ae (ak cX (bh (di (K:=K) rfl) (by rfl) T.nE PySem.boot_len (aa (pv 2) ai)) ae))))) bB)
   (af (ay (i:=3) cV.nd rfl (by walk_at "o") (nt (mE (K:=K) rfl) (by rfl) T.qd PyProof.Rows.boot_list (aa (pv 2) ai)))
   (af (ay (i:=4) cV.nd rfl (by walk_at "o") (aA aX (hr.mono (by decide)) (by rfl) T.bt T.bq T.aQ .nil bC (aa (pv 0) (aa ae ai))))
   (af (qV (osc:=ag km) (ON:=["_law_script","_law_width","_law_rows","_law_handed","_law_cell_here","_law_some","_law_made","_law_told","_law_wish"]) (N:=["_law_place","_law_cell_here"]) (n:=1) (fx:=[4]) (i:=5) cV.nd rfl rfl rfl rfl rfl rfl (by decide +kernel) (gD (by rfl) T.kD (aa (bh (di (K:=K) rfl) (by rfl) T.nE PySem.boot_len (aa (pv 2) ai)) ai)) (nZ (by decide)) (fun _ _ _ _ _=>⟨(b3 (i:=0) (show List.Nodup (["_law_place","_law_cell_here"]:List Str) from by decide +kernel) rfl (by walk_at "o")),(ng (aV gG (ak gH (ak nv (pv 1) (pv 0)) ae) ae (bD _))),(pv 0)⟩))
   (af (ay (i:=6) cV.nd rfl (by walk_at "o") (aA cS (hr.mono (by decide)) (by rfl) T.d9 T.d7 T.bW .nil bC (aa (pv 2) (aa (pv 5) ai))))
   (af (ay (i:=7) cV.nd rfl (by walk_at "o") (aA hC (hr.mono (by decide)) (by rfl) T.gU T.gS T.dj .nil bC (aa (pv 3) (aa (pv 6) ai))))
   (af (dE (PW.pt (jm (aV rf (cG (bb (K:=K) rfl) (pv 7) ae (fun _ _=>rfl)) ju (bD _)) (jm (fq (dW (aA dq (hr.mono (by decide)) (by rfl) T.de T.c9 T.bS .nil bC (aa (pv 7) (aa (pv 2) (aa (pv 6) ai)))))) (lB (aV (rb (K:=K) rfl hu0) (pv 3) (pv 2) (bD _)))))) (aj (a9 jv)) bB)
   (af (ay (i:=8) cV.nd rfl (by walk_at "o") (ak bR (ak cC (pv 4) ae) (ak dZ ae (pv 1))))
   (iL (dE (aV gG (ak bR (pv 4) ae) ae (bD _)) (aj (ay (i:=8) cV.nd rfl (by walk_at "o") (ak fz (pv 6) (ak dZ ae (ak bR (ak cC (pv 4) ae) ae))))) bB)
   (aj (a9 (p7 (aA dq (hr.mono (by decide)) (by rfl) T.de T.c9 T.bS .nil bC (aa (aA hC (hr.mono (by decide)) (by rfl) T.gU T.gS T.dj .nil bC (aa (pv 3) (aa (pv 8) ai))) (aa (pv 2) (aa (pv 8) ai)))) (p6 (aA dq (hr.mono (by decide)) (by rfl) T.de T.c9 T.bS .nil bC (aa (aA hC (hr.mono (by decide)) (by rfl) T.gU T.gS T.dj .nil bC (aa (iq ai) (aa (pv 8) ai))) (aa (iq ai) (aa (pv 8) ai))))))))))))))))))))),bo (σ':=[some _,none,none,none,none,none,none,none,none]) rfl ?_⟩
  walk_at "l2"
  obtain ⟨w0,ew0,lw0⟩:=gw (c:=cell ns 0 / 2) (m:=300) (by decide)
  rw [ew0,show (1:Int) + (w0:Int)=((1 + w0:Nat):Int) from by norm_cast]
  have hw0:1 + w0≤300:=by omega
  clear ew0 lw0
  generalize 1 + w0=w1 at hw0
  refine oY (fun σ H2=>H=H2∧∃ wd:Nat,wd≤300∧σ=[some (.ref p0),some (nat wd),none,none,none,none,none,none,none]) ?_ ?_
  ·walk_at "l2"
   refine iteB (fun hc=>?_) (fun hc=>?_)
   ·walk_at "l2"
    obtain ⟨w2,ew2,lw2⟩:=gw (c:=((w1:Nat):Int)) (m:=9) (by decide)
    rw [ew2,show (1:Int) + (w2:Int)=((1 + w2:Nat):Int) from by norm_cast]
    exact ⟨1 + w2,by omega,rfl⟩
   ·walk_at "l2"
    exact ⟨w1,hw0,rfl⟩
  rintro σ H2 ⟨rfl,wd,hwd,rfl⟩
  clear hw0
  walk_at "l2"
  refine ⟨p0,ns,wd,rfl,hS,hlen,hwd,fun D1 H1 rows f1 s1 e1 l1 b1=>?_⟩
  have hS1:=Same.seq s1 hS
  walk_at "l2"
  refine oY (fun σ H2=>∃ (D:Addr) (rows2:List Nat),Same H1 H2∧H2 D=some (.lst (rows2.map nat))∧rows2.length≤300∧(∀ r∈rows2,r < 2 ^ wd)∧(M.fr rows2).length < 66∧σ=[some (.ref p0),some (nat wd),some (.ref D),none,none,none,none,none,none]) ?_ ?_
  ·walk_at "l2"
   refine iteB (fun hc=>?_) (fun hc=>?_)
   ·walk_at "l2"
    intro L1 G1 g1 t1 z1
    walk_at "l2"
    refine sH z1 (by decide) (by decide) (by rw [sizeLine_eq];decide) fun L2 G2 g2 t2 z2=>?_
    walk_at "l2"
    have e1':=(t1.trans t2).get e1
    refine uU e1' z2 (by rw [List.length_map,sizeLine_eq,show (List.replicate (7:Int).toNat [V.int 0]).flatten.length=7 from by decide];omega) fun L3 G3 g3 t3 z3=>?_
    have e13:=t3.get e1'
    have z3:G3 L3=some (.lst ((rows++List.replicate 7 0).map nat)):=by rw [z3,List.map_append];rfl
    walk_at "l2"
    rw [List.length_map,show ((rows.length:Nat):Int) + 7=((rows.length + 7:Nat):Int) from by norm_cast]
    refine ⟨_,_,rfl,rfl,⟨by omega,by omega⟩,?_⟩
    have ed:(300:Int) / ((rows.length + 7:Nat):Int)=((300 / (rows.length + 7):Nat):Int):=by norm_cast
    show rRep (V.ref L3) (V.int ((300:Int) / ((rows.length + 7:Nat):Int))) G3 _
    rw [ed]
    have k1:1≤300 / (rows.length + 7):=(Nat.le_div_iff_mul_le (by omega)).mpr (by omega)
    have k2:=Nat.div_mul_le_self 300 (rows.length + 7)
    have k3:300 / (rows.length + 7)≤300:=Nat.div_le_self _ _
    generalize 300 / (rows.length + 7)=kk at k1 k2 k3
    have lf:((rows++List.replicate 7 0).map nat).length=rows.length + 7:=by rw [List.length_map,List.length_append,List.length_replicate]
    refine sH z3 (by omega) (by omega) (by rw [lf,Int.toNat_natCast,sizeLine_eq,Nat.mul_comm];omega) fun L4 G4 g4 t4 z4=>?_
    walk_at "l2"
    obtain ⟨a1,a2⟩:=o3 (rows:=rows) k1
    refine ⟨L4,(List.replicate kk (rows++List.replicate 7 0)).flatten,t1.trans (t2.trans (t3.trans t4)),?_,?_,fun r hr=>?_,?_,rfl⟩
    ·rw [z4,Int.toNat_natCast,List.map_flatten,List.map_replicate]
    ·rw [List.length_flatten,List.map_replicate,List.sum_replicate_nat,List.length_append,List.length_replicate];exact k2
    ·rcases a1 r hr with h | h
     ·rw [h];exact Nat.two_pow_pos _
     ·exact b1 r h
    ·have:=M.rank_in a1 a2
     omega
   ·walk_at "l2"
    have:=M.fr_len rows
    exact ⟨D1,rows,Same.refl _,e1,by omega,b1,by omega,rfl⟩
  rintro σ H2 ⟨D,rows2,s2,e2,l2,b2,rk,rfl⟩
  have hS2:=Same.seq s2 hS1
  clear s2 e1 s1 f1 l1 b1 hS1
  have up3:∀ {z:Nat},z < 2 ^ wd→z < 2 ^ 300:=fun h=>Nat.lt_of_lt_of_le h (Nat.pow_le_pow_right (by decide) hwd)
  have up1:∀ {z:Nat},z < 2 ^ 300→z < 2 ^ 1000:=fun h=>Nat.lt_of_lt_of_le h (Nat.pow_le_pow_right (by decide) (by decide))
  walk_at "l2"
  intro Dh H3 f3 s3 e3
  have e23:=s3.get e2
  have hS3:=Same.seq s3 hS2
  clear s3 f3 e2 hS2
  walk_at "l2"
  generalize cell ns 1=c
  rw [List.length_map]
  refine ⟨by omega,by omega,?_⟩
  intro D4 hD4
  refine iz (fun i ys H'=>Cs (fun i ys=>∃ ps:List Nat,ys=ps.map nat∧∀ x∈ps,x < i) H3 D4 i ys H') (Cs.zero hD4 ⟨[],rfl,fun _ h=>absurd h (by simp)⟩) (fun i ys H' hi cc=>?_) (fun ys H' cc=>?_)
  ·obtain ⟨ps,ep,bp⟩:=cc.pv
   walk_at "l2"
   refine iteB (fun hc=>?_) (fun hc=>?_)
   ·walk_at "l2"
    refine Cs.put hD4 cc.same cc.at' cc.len (by omega) ⟨ps++[i],?_,fun x hx=>?_⟩
    ·rw [ep,List.map_append,Int.zero_add];rfl
    ·rcases List.mem_append.mp hx with h | h
     ·have:=bp x h;omega
     ·rw [List.mem_singleton.mp h];omega
   ·walk_at "l2"
    exact Cs.skip cc.same cc.at' cc.len ⟨ps,ep,fun x hx=>by have:=bp x hx;omega⟩
  ·obtain ⟨ps,ep,bp⟩:=cc.pv
   have e4:=cc.at'
   rw [ep] at e4
   rw [Int.toNat_natCast] at bp
   have s4:=cc.same
   have f4:=hD4
   clear cc hD4 ep
   have e24:=s4.get e23
   have e34:=s4.get e3
   have hsp:=qr (rows:=rows2) ps bp
   have hmd:M.xs rows2 ps < 2 ^ wd:=M.span_lt b2 hsp
   walk_at "l2"
   refine ⟨D,D4,rows2,ps,rfl,SqL.of e24,e4,bp,?_⟩
   generalize M.xs rows2 ps=md at hsp hmd
   have hb3:∀ r∈rows2,r < 2 ^ 300:=fun r hr=>up3 (b2 r hr)
   have hb1:∀ r∈rows2,r < 2 ^ 1000:=fun r hr=>up1 (hb3 r hr)
   have hmd3:=up3 hmd
   have hmd1:=up1 hmd3
   clear hS3 s4 f4 e4 bp e3 e23
   walk_at "l2"
   refine g6 e34 (by omega) hb1 hmd1 rk fun t5 H5 s5 td=>?_
   have e25:=s5.get e24
   have e35:=s5.get e34
   obtain ⟨z5,v5,et5,hz5⟩:∃ (z:Str) (v:V),H5 t5=some (.tup [.str z,v])∧z="sum":=by
    rcases td with ⟨D6,q6,a1,_⟩ | ⟨m6,_,ns,_⟩
    ·exact ⟨_,_,a1,rfl⟩
    ·exact absurd hsp ns
   subst hz5
   walk_at "l2"
   refine ⟨t5,D,rows2,md,rfl,e25,by omega,hb3,hmd3,td,fun H6 s6=>?_⟩
   have e26:=s6.get e25
   have e36:=s6.get e35
   walk_at "l2"
   refine sT (SqL.of e36) (SqL.of e26) ?_
   clear td et5 e25 e35 s6 s5 e24 e34
   walk_at "l2"
   rw [shl1]
   refine m5 (Nat.two_pow_pos wd) fun w7 hw7=>?_
   have hw73:=up3 hw7
   clear hw7
   walk_at "l2"
   refine oY (fun σ H7=>H6=H7∧∃ ws:Nat,ws < 2 ^ 300∧σ=[some (.ref p0),some (nat wd),some (.ref D),some (.ref Dh),some (.int c),some (.ref D4),some (nat md),some (.ref t5),some (nat ws)]) ?_ ?_
   ·obtain ⟨k8,ek8,lk8⟩:=gw (c:=c / 3) (m:=300) (by decide)
    have hk8:k8 < 300:=by omega
    have hx8:md^^^2 ^ k8 < 2 ^ 300:=M.xor_lt_pow hmd3 (Nat.pow_lt_pow_right (by decide) hk8)
    clear lk8 hmd3 hmd1 hmd hb1 hb3 up1 up3
    walk_at "l2"
    refine iteB (fun hc=>?_) (fun hc=>?_)
    ·clear hw73
     walk_at "l2"
     rw [ek8,shl1,bz]
     exact ⟨_,hx8,rfl⟩
    ·walk_at "l2"
     exact ⟨w7,hw73,rfl⟩
   rintro σ H7 ⟨rfl,ws,hws,rfl⟩
   have hws1:=up1 hws
   walk_at "l2"
   refine g6 e36 (by omega) hb1 hws1 rk fun t8 H8 s8 td8=>?_
   walk_at "l2"
   refine ⟨t8,D,rows2,ws,rfl,s8.get e26,by omega,hb3,hws,td8,fun H9 s9=>?_⟩
   walk_at "l2"
   intro D10 H10 f10 s10 e10
   walk_at "l2"
   refine g6 (rows:=[]) e10 (by decide) (fun _ h=>absurd h (by simp)) hws1 (Nat.lt_of_le_of_lt (M.fr_len []) (by decide)) fun t11 H11 s11 td11=>?_
   walk_at "l2"
   intro D12 H12 f12 s12 e12
   walk_at "l2"
   refine ⟨t11,D12,[],ws,rfl,e12,by decide,fun _ h=>absurd h (by simp),hws,td11.same s12,fun H13 s13=>?_⟩
   exact q _
end
open PySem.W in
theorem all_mk {l:OpenLaw} {w:World} {K:Frag} {h:Heap} {mg:Str→Option Value} {fa:Addr} (X:K.In h) (G:h.Ns mainGlobals mg) (hfa:mg "law"=some (.ref fa))
  {rm rQ:Option Addr} {qI:Array (Option Value)} {rn rz rL qX ou rN:Value} {eg:Addr}
  {l9 mI:Option Addr} {lX:Array (Option Value)} {mf mn my l3 iD mB:Value} {bF:Addr}
  {eN fh:Option Addr} {eG:Array (Option Value)} {eO eS eZ eJ cJ fc:Value} {aq:Addr}
  {fI fZ:Option Addr} {fD:Array (Option Value)} {fK fS fU fF c4 fW:Value} {av:Addr}
  {jB j7:Option Addr} {jk:Array (Option Value)} {jD jK jT jr fC jV:Value} {aD:Addr}
  {fJ f7:Option Addr} {fE:Array (Option Value)} {fL fT fV fG c5 fX:Value} {aw:Addr}
  {l8 mH:Option Addr} {lW:Array (Option Value)} {me mm mx l0 iC mz:Value} {bE:Addr}
  {jA j6:Option Addr} {jj:Array (Option Value)} {jC jJ jS jq fB jU:Value} {aO:Addr}
  {kA k6:Option Addr} {kj:Array (Option Value)} {kC kL kQ kr g5 kT:Value} {a7:Addr}
  {kz k4:Option Addr} {ki:Array (Option Value)} {kB kK kP kq g0 kS:Value} {a0:Addr}
  {d2 eB:Option Addr} {dS:Array (Option Value)} {d3 d6 eh dX cy ei:Value} {ax:Addr}
  {hV ie:Option Addr} {hG:Array (Option Value)} {hX h7 h8 hU dA h9:Value} {aB:Addr}
  {iV jc:Option Addr} {iK:Array (Option Value)} {iX i4 i7 iO eu i9:Value} {aJ:Addr}
  {iU jb:Option Addr} {iJ:Array (Option Value)} {iW i3 i6 iN eo i8:Value} {aI:Addr}
  {tN uj:Option Addr} {sE:Array (Option Value)} {tO tR uf tz qh ug:Value} {jR:Addr}
  {ar:Addr} (rS:nsIn K mainGlobals "Steps"=some (some (.ref ar)))
  (um:nsIn K mainGlobals "even"=some (some (.ref eg)))
  (tQ:K.lookup eg=some ⟨rn,rm,.func (fnOf "even" "even" (aP ip) (aN ip) (ag ip) .none rz rL qX rQ ou rN),qI⟩)
  (uh:codeIn K ou "even"=true)
  (qa:keepIn K (.ref eg)=true)
  (oJ:nsIn K mainGlobals "bits_of"=some (some (.ref bF)))
  (nO:K.lookup bF=some ⟨mf,l9,.func (fnOf "bits_of" "bits_of" (aP b0) (aN b0) (ag b0) .none mn my l3 mI iD mB),lX⟩)
  (oy:codeIn K iD "bits_of"=true)
  (jy:keepIn K (.ref bF)=true)
  (mO:findIn K (.ref ar) "__init__"=some (some (.ref aq)))
  (fQ:K.lookup aq=some ⟨eO,eN,.func (fnOf "__init__" "Steps.__init__" (aP aG) (aN aG) (ag aG) .none eS eZ eJ fh cJ fc),eG⟩)
  (fY:codeIn K cJ "Steps.__init__"=true)
  (cW:keepIn K (.ref aq)=true)
  (mQ:findIn K (.ref ar) "lowered"=some (some (.ref av)))
  (gP:K.lookup av=some ⟨fK,fI,.func (fnOf "lowered" "Steps.lowered" (aP aL) (aN aL) (ag aL) .none fS fU fF fZ c4 fW),fD⟩)
  (g7:codeIn K c4 "Steps.lowered"=true)
  (b6:keepIn K (.ref av)=true)
  (qw:findIn K (.ref ar) "lay"=some (some (.ref aD)))
  (kJ:K.lookup aD=some ⟨jD,jB,.func (fnOf "lay" "Steps.lay" (aP bM) (aN bM) (ag bM) .none jK jT jr j7 fC jV),jk⟩)
  (kZ:codeIn K fC "Steps.lay"=true)
  (dG:keepIn K (.ref aD)=true)
  (mR:findIn K (.ref ar) "barring"=some (some (.ref aw)))
  (gQ:K.lookup aw=some ⟨fL,fJ,.func (fnOf "barring" "Steps.barring" (aP aM) (aN aM) (ag aM) .none fT fV fG f7 c5 fX),fE⟩)
  (g8:codeIn K c5 "Steps.barring"=true)
  (b7:keepIn K (.ref aw)=true)
  (oI:nsIn K mainGlobals "sum_for"=some (some (.ref bE)))
  (nN:K.lookup bE=some ⟨me,l8,.func (fnOf "sum_for" "sum_for" (aP cF) (aN cF) (ag cF) .none mm mx l0 mH iC mz),lW⟩)
  (ox:codeIn K iC "sum_for"=true)
  (jx:keepIn K (.ref bE)=true)
  (k7:nsIn K mainGlobals "_law_cell"=some (some (.ref aO)))
  (kI:K.lookup aO=some ⟨jC,jA,.func (fnOf "_law_cell" "_law_cell" (aP bL) (aN bL) (ag bL) .none jJ jS jq j6 fB jU),jj⟩)
  (kX:codeIn K fB "_law_cell"=true)
  (gE:keepIn K (.ref aO)=true)
  (mK:nsIn K mainGlobals "_law_mix"=some (some (.ref a7)))
  (ml:K.lookup a7=some ⟨kC,kA,.func (fnOf "_law_mix" "_law_mix" (aP bZ) (aN bZ) (ag bZ) .none kL kQ kr k6 g5 kT),kj⟩)
  (mG:codeIn K g5 "_law_mix"=true)
  (iu:keepIn K (.ref a7)=true)
  (mJ:nsIn K mainGlobals "_law_odd"=some (some (.ref a0)))
  (mj:K.lookup a0=some ⟨kB,kz,.func (fnOf "_law_odd" "_law_odd" (aP bY) (aN bY) (ag bY) .none kK kP kq k4 g0 kS),ki⟩)
  (mF:codeIn K g0 "_law_odd"=true)
  (ir:keepIn K (.ref a0)=true)
  (fj:nsIn K mainGlobals "_law_are_places"=some (some (.ref ax)))
  (eR:K.lookup ax=some ⟨d3,d2,.func (fnOf "_law_are_places" "_law_are_places" (aP aC) (aN aC) (ag aC) .none d6 eh dX eB cy ei),dS⟩)
  (fg:codeIn K cy "_law_are_places"=true)
  (cI:keepIn K (.ref ax)=true)
  (jd:nsIn K mainGlobals "_law_sum_at"=some (some (.ref aB)))
  (i0:K.lookup aB=some ⟨hX,hV,.func (fnOf "_law_sum_at" "_law_sum_at" (aP aZ) (aN aZ) (ag aZ) .none h7 h8 hU ie dA h9),hG⟩)
  (ja:codeIn K dA "_law_sum_at"=true)
  (dY:keepIn K (.ref aB)=true)
  (j9:nsIn K mainGlobals "_law_drawn"=some (some (.ref aJ)))
  (jI:K.lookup aJ=some ⟨iX,iV,.func (fnOf "_law_drawn" "_law_drawn" (aP bw) (aN bw) (ag bw) .none i4 i7 iO jc eu i9),iK⟩)
  (j0:codeIn K eu "_law_drawn"=true)
  (fw:keepIn K (.ref aJ)=true)
  (j8:nsIn K mainGlobals "_law_shown"=some (some (.ref aI)))
  (jH:K.lookup aI=some ⟨iW,iU,.func (fnOf "_law_shown" "_law_shown" (aP bu) (aN bu) (ag bu) .none i3 i6 iN jb eo i8),iJ⟩)
  (jZ:codeIn K eo "_law_shown"=true)
  (fu:keepIn K (.ref aI)=true)
  (uk:nsIn K mainGlobals "law"=some (some (.ref jR)))
  (uZ:K.lookup jR=some ⟨tO,tN,.func (fnOf "law" "law" (aP km) (aN km) (ag km) .none tR uf tz uj qh ug),sE⟩)
  (u9:codeIn K qh "law"=true)
  (tI:keepIn K (.ref jR)=true)
  (lA:plainGet K ar Str.empty=true)
  (lz:hasDictIn K ar=true)
  (ly:plainOver K ar=true)
  (lx:findIn K (.ref ar) "__setattr__"=some (some (.builtin "object.__setattr__")))
  (o7:findIn K (.ref ar) "__class__"=some (some (.builtin "object.__class__")))
  (o6:mroIn K ar (.type "object")=some true)
  (pK:makesIn K ar=true)
  (pJ:findIn K (.ref ar) "__init__"=some (some (.ref aq)))
  (pI:isFn K (.ref aq)=true)
  (pH:keepIn K (.ref ar)=true)
  (fO:findIn K (.ref ar) "lowered"=some (some (.ref av)))
  (fM:isFn K (.ref av)=true)
  (jF:findIn K (.ref ar) "lay"=some (some (.ref aD)))
  (jE:isFn K (.ref aD)=true)
  (fP:findIn K (.ref ar) "barring"=some (some (.ref aw)))
  (fN:isFn K (.ref aw)=true)
  (hZ:findIn K (.ref ar) "by_top"=some none)
  (dH:findIn K (.ref ar) "free_places"=some none)
  (d4:findIn K (.ref ar) "null_masks"=some none)
  (w1:specialIn K (.builtin "object.__class__") "__get__"=some (some (.builtin "getset_descriptor.__get__")))
  (w2:takesIn K (.builtin "object.__class__")=some true)
  (rX:nsIn K mainGlobals "bool"=some none)
  (ke:nsIn K mainGlobals "enumerate"=some none)
  (ux:nsIn K mainGlobals "int"=some none)
  (jf:nsIn K mainGlobals "isinstance"=some none)
  (uw:nsIn K mainGlobals "len"=some none)
  (rW:nsIn K mainGlobals "list"=some none)
  (qo:nsIn K mainGlobals "range"=some none)
  (oN:nsIn K mainGlobals "sorted"=some none)
  (qm:nsIn K mainGlobals "tuple"=some none):
  ∃ fd:FuncData,(∀ (s:Shared) (v:Value),BindsTo s fd ⟨[v],[]⟩ [("_law_script",v)])∧∀ base:Heap,K.In base→base.Ns mainGlobals mg→FnOk l.prog w K mg base CX0 7 fa fd ["_law_script"] (lj K):=by
 have e:=hfa.symm.trans (mg_of X G uk)
 cases e
 have lQ:=b9 (st:=ip) tQ uh qa
 have oC:=lQ.binds (ps:=["number"]) fun _ _ _ _ _ _ us hl=>match us,hl with | [_],_=>rfl
 have eF:=b9 (st:=b0) nO oy jy
 have g9:=eF.binds (ps:=["mask"]) fun _ _ _ _ _ _ us hl=>match us,hl with | [_],_=>rfl
 have bj:=b9 (st:=aG) fQ fY cW
 have bU:=bj.binds (ps:=["self","rows"]) fun _ _ _ _ _ _ us hl=>match us,hl with | [_,_],_=>rfl
 have bH:=b9 (st:=aL) gP g7 b6
 have bG:=bH.binds (ps:=["self","mask"]) fun _ _ _ _ _ _ us hl=>match us,hl with | [_,_],_=>rfl
 have cU:=b9 (st:=bM) kJ kZ dG
 have dO:=cU.binds (ps:=["self","place","row"]) fun _ _ _ _ _ _ us hl=>match us,hl with | [_,_,_],_=>rfl
 have bI:=b9 (st:=aM) gQ g8 b7
 have cg:=bI.binds (ps:=["self","bit"]) fun _ _ _ _ _ _ us hl=>match us,hl with | [_,_],_=>rfl
 have eE:=b9 (st:=cF) nN ox jx
 have dj:=eE.binds (ps:=["rows","wish"]) fun _ _ _ _ _ _ us hl=>match us,hl with | [_,_],_=>rfl
 have cT:=b9 (st:=bL) kI kX gE
 have aQ:=cT.binds (ps:=["_law_script","_law_k"]) fun _ _ _ _ _ _ us hl=>match us,hl with | [_,_],_=>rfl
 have dy:=b9 (st:=bZ) ml mG iu
 have cL:=dy.binds (ps:=["_law_cell_here","_law_k"]) fun _ _ _ _ _ _ us hl=>match us,hl with | [_,_],_=>rfl
 have dw:=b9 (st:=bY) mj mF ir
 have du:=dw.binds (ps:=["_law_mask"]) fun _ _ _ _ _ _ us hl=>match us,hl with | [_],_=>rfl
 have a8:=b9 (st:=aC) eR fg cI
 have bP:=a8.binds (ps:=["_law_found","_law_many"]) fun _ _ _ _ _ _ us hl=>match us,hl with | [_,_],_=>rfl
 have bX:=b9 (st:=aZ) i0 ja dY
 have bW:=bX.binds (ps:=["_law_rows","_law_places"]) fun _ _ _ _ _ _ us hl=>match us,hl with | [_,_],_=>rfl
 have cB:=b9 (st:=bw) jI j0 fw
 have dm:=cB.binds (ps:=["_law_script","_law_width"]) fun _ _ _ _ _ _ us hl=>match us,hl with | [_,_],_=>rfl
 have cA:=b9 (st:=bu) jH jZ fu
 have bS:=cA.binds (ps:=["_law_told","_law_rows","_law_wish"]) fun _ _ _ _ _ _ us hl=>match us,hl with | [_,_,_],_=>rfl
 have pU:=b9 (st:=km) uZ u9 tI
 have ui:=pU.binds (ps:=["_law_script"]) fun _ _ _ _ _ _ us hl=>match us,hl with | [_],_=>rfl
 have T:Tx K mg ⟨eg,_,bF,_,aq,_,av,_,aD,_,aw,_,bE,_,aO,_,a7,_,a0,_,ax,_,aB,_,aJ,_,aI,_,fa,_,ar⟩:=⟨lQ,qa,oC,mg_of X G um,eF,jy,g9,mg_of X G oJ,bj,cW,bU,bH,b6,bG,cU,dG,dO,bI,b7,cg,eE,jx,dj,mg_of X G oI,cT,gE,aQ,mg_of X G k7,dy,iu,cL,mg_of X G mK,dw,ir,du,mg_of X G mJ,a8,cI,bP,mg_of X G fj,bX,dY,bW,mg_of X G jd,cB,fw,dm,mg_of X G j9,cA,fu,bS,mg_of X G j8,pU,tI,ui,mg_of X G uk,mg_of X G rS,⟨lA,lz,ly,lx⟩,⟨⟨lA,lz,ly,lx⟩,o7,w1,w2,o6⟩,⟨pK,pJ,pI,pH⟩,⟨fO,fM,b6⟩,⟨jF,jE,dG⟩,⟨fP,fN,b7⟩,hZ,dH,d4,mg_none_of X G rX,mg_none_of X G ke,mg_none_of X G ux,mg_none_of X G jf,mg_none_of X G uw,mg_none_of X G rW,mg_none_of X G qo,mg_none_of X G oN,mg_none_of X G qm⟩
 exact ⟨_,fun s v=> .of_eq rfl,fun base _ _=>tL T⟩
open PySem.W in
theorem walk {l:OpenLaw} {q:Program} {loose:List Str} {XP:(Str→Option Value)→Heap→Prop} {YP:World→Heap→Prop} {d:DefRec} {K:Params→Frag} (hn:l.most=some 63) (hdf:d.params.defaults=[])
  (hY:∀ (w:World) (h:Heap),YP w h→(K w.params).In h)
  (F:∀ (w:World) (mg:Str→Option Value) (fa:Addr) (h:Heap),(K w.params).In h→h.Ns mainGlobals mg→mg d.name=some (.ref fa)→
   ∃ fd:FuncData,(∀ (s:Shared) (u:Value),BindsTo s fd ⟨[u],[]⟩ [("_law_script",u)])∧∀ base:Heap,(K w.params).In base→base.Ns mainGlobals mg→FnOk l.prog w (K w.params) mg base CX0 7 fa fd ["_law_script"] (lj (K w.params))):
  WalkO q loose XP YP l.row.toRowW d [] (fun f vs=>PySem.call f vs):=
 L2.walk_of (n:=63) (k:=7) (x:="_law_script") (CX:=fun _=>CX0) (sp:=fun w=>lj (K w.params)) hn (by decide) hdf ⟨rfl,by decide,by decide⟩ hY F (fun _ _ a ns hl _ hS=>⟨a,ns,rfl,hS,hl,fun _=>rfl⟩) fun _ _ _ _ _ z=>z
end My
def PySem.W.Fast.tw7507162946062602272:Unit:=()
def PySem.W.Fast.tw12888732945554579437:Unit:=()
def PySem.W.Fast.tw15142693279626365188:Unit:=()
def PySem.W.Fast.tw11569407109652346536:Unit:=()
def PySem.W.Fast.tw451008016289465682:Unit:=()
def PySem.W.Fast.tw16060787193325213366:Unit:=()
def PySem.W.Fast.tw15502087882472020905:Unit:=()
def PySem.W.Fast.tw15379530537725588870:Unit:=()
def PySem.W.Fast.tw4324753962482372145:Unit:=()
def PySem.W.Fast.tw6555804082203856564:Unit:=()
def PySem.W.Fast.tw993704548718665047:Unit:=()
def PySem.W.Fast.tw1887090638984417401:Unit:=()
def PySem.W.Fast.tw3327168934335282787:Unit:=()
open PySem PySem.W PyProof.Rows
set_option maxRecDepth 100000 in
set_option maxHeartbeats 0 in
theorem PySem.Challenge.cw_sumwires_k42_sums_and_masks_that_bar_the_holds : PySem.Challenge.rw_sumwires_k42_sums_and_masks_that_bar_the.Holds := by
 w_on;o_law;k_head;(case hw=>w_witness2)
 k_fill
 refine My.walk (l:=PySem.Challenge.rw_sumwires_k42_sums_and_masks_that_bar_the) rfl rfl (fun w h Y=>PySem.W.kIn_of Y) ?F
 case F=>
  intro w mg fa h KX G hmg
  refine' My.all_mk KX G hmg _ _ _ _ _ _ _ _ _ _ _ _ _ _ _ _ _ _ _ _ _ _ _ _ _ _ _ _ _ _ _ _ _ _ _ _ _ _ _ _ _ _ _ _ _ _ _ _ _ _ _ _ _ _ _ _ _ _ _ _ _ _ _ _ _ _ _ _ _ _ _ _ _ _ _ _ _ _ _ _ _ _ _ _ _ _ _ _ _ _ _
  any_goals ((with_reducible show _=_);k_is)
