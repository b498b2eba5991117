import PyProof.Rows.All
import Wide.All
import OpenK.AllK
import Wide.FinOn
import Lean
import PyProof.EqAt
import PyProof.EqKinds
import PyProof.TupleCall
import PyProof.NeKinds
import KE.KIsAll
import PyProof.RulesAs
import PyProof.StationsW
import PyProof.ExcClass2
import OpenK.KOwn
import PyProof.NsDelKeeps
import PyProof.ExcAttrAll.ValueError
import KE.KDictList
import KE.KSorted
import PyProof.SumAny
import PyProof.WalkInts
import PyProof.EnumMake
import KE.KItemsList
import KE.KRevIter
import PyProof.ExcInit
import PyProof.InstStoreFacts
import PyProof.IsRules
import KE.KDictOf
import PyProof.AttrMissHeap
import PyProof.MinMaxWalk
import PyProof.DictIter
import PyProof.ExcClass
import PyProof.ListRange
import PyProof.AutoListH
import PyProof.StrLawsChain
import PyProof.StrLawsTight
import PySem.Challenge.RW_sumwires_k13_nets_refused
set_option Elab.async false
set_option linter.all false
set_option maxRecDepth 100000
namespace L2
open PySem PySem.Spec PyProof.Rows
noncomputable abbrev Key:=Sum Int Str
noncomputable def Id:Key→Value→Bool
 | .inl k,v=>Value.isInt k v
 | .inr x,v=>Value.isStrOf x v
noncomputable def keyH (w:World):Key→Int
 | .inl k=>hashInt k
 | .inr x=>hashStr w x
theorem cS:∀ {k:Key} {v:Value},Id k v=true→(∃ i t,k=Sum.inl i∧v=Value.int i t)∨(∃ x t,k=Sum.inr x∧v=Value.str x t)
 | .inl i,v,h=>by
   obtain ⟨t,e⟩:=Value.isInt_shape (k:=i) (v:=v) h
   exact .inl ⟨i,t,rfl,e⟩
 | .inr x,v,h=>by
   obtain ⟨t,e⟩:=Value.isStrOf_shape (x:=x) (v:=v) h
   exact .inr ⟨x,t,rfl,e⟩
theorem Lg (i:Int) (t:Tok):Id (.inl i) (.int i t)=true:=by simp [Id,Value.isInt]
theorem Lf (x:Str) (t:Tok):Id (.inr x) (.str x t)=true:=by simp [Id,Value.isStrOf]
theorem Ts (a b:Int):decide ((Sum.inl a:Key)=Sum.inl b)=(a == b):=by
 by_cases e:a=b
 ·subst e;simp
 ·have h:¬ (Sum.inl a:Key)=Sum.inl b:=fun q=>e (Sum.inl.inj q)
  rw [decide_eq_false h]
  exact (beq_eq_false_iff_ne.mpr e).symm
theorem Tp (a b:Str):decide ((Sum.inr a:Key)=Sum.inr b)=decide (a=b):=by
 by_cases e:a=b
 ·subst e;simp
 ·have h:¬ (Sum.inr a:Key)=Sum.inr b:=fun q=>e (Sum.inr.inj q)
  rw [decide_eq_false h,decide_eq_false e]
theorem Tr (a:Int) (b:Str):decide ((Sum.inl a:Key)=Sum.inr b)=false:=decide_eq_false (fun q=>nomatch q)
theorem Tq (a:Str) (b:Int):decide ((Sum.inr a:Key)=Sum.inl b)=false:=decide_eq_false (fun q=>nomatch q)
noncomputable def dM (prog:Program) (w:World):PySem.KeyKind prog w Key where
 is:=Id
 hash:=keyH w
 inj:=fun v a b ha hb=>by
  rcases cS ha with ⟨i,t,rfl,rfl⟩ | ⟨x,t,rfl,rfl⟩
  ·rcases cS hb with ⟨j,u,rfl,e⟩ | ⟨y,u,rfl,e⟩
   ·injection e with e1 _;rw [e1]
   ·exact nomatch e
  ·rcases cS hb with ⟨j,u,rfl,e⟩ | ⟨y,u,rfl,e⟩
   ·exact nomatch e
   ·injection e with e1 _;rw [e1]
 byValue:=fun k v h=>by
  rcases cS h with ⟨i,t,rfl,rfl⟩ | ⟨x,t,rfl,rfl⟩<;>rfl
 pyHash:=fun hv h=>by
  rcases cS hv with ⟨i,t,rfl,rfl⟩ | ⟨x,t,rfl,rfl⟩
  ·exact wpAny_pyHash_int h
  ·exact wpAny_pyHash_str h
 eqBool:=fun hu hv h=>by
  rcases cS hu with ⟨i,t,rfl,rfl⟩ | ⟨x,t,rfl,rfl⟩
  ·rcases cS hv with ⟨j,u,rfl,rfl⟩ | ⟨y,u,rfl,rfl⟩
   ·rw [Ts] at h;exact wpAny_eqBool_int h
   ·rw [Tr] at h;exact SeqAt.EqAt.int_str i t y u _ _ _ _ h
  ·rcases cS hv with ⟨j,u,rfl,rfl⟩ | ⟨y,u,rfl,rfl⟩
   ·rw [Tq] at h;exact SeqAt.EqAt.str_int x t j u _ _ _ _ h
   ·rw [Tp] at h;exact wpAny_eqBool_str h
 «strs»:=fun k x t v h=>by
  rcases cS h with ⟨i,u,rfl,e⟩ | ⟨y,u,rfl,e⟩
  ·exact nomatch e
  ·injection e with e1 _
   subst e1
   cases v<;>rfl
theorem Ex (prog:Program) (w:World) (i:Int) (t:Tok):(dM prog w).is (.inl i) (.int i t)=true:=Lg i t
theorem Ew (prog:Program) (w:World) (x:Str) (t:Tok):(dM prog w).is (.inr x) (.str x t)=true:=Lf x t
inductive V where
 | non | bl (b:Bool) | int (i:Int) | str (x:Str) | byt (b:Array UInt8) | flt (b:UInt64) | ref (a:Addr) | ty (n:String)
 deriving DecidableEq
noncomputable def RelV:V→Value→Prop
 | .non,u=>u=Value.none
 | .bl b,u=>u=Value.bool b
 | .int i,u=>∃ t,u=Value.int i t
 | .str x,u=>∃ t,u=Value.str x t
 | .byt b,u=>∃ t,u=Value.bytes b t
 | .flt b,u=>∃ t,u=Value.float b t
 | .ref a,u=>u=Value.ref a
 | .ty n,u=>u=Value.type n
noncomputable abbrev Vals:List V→List Value→Prop:=Paired RelV
theorem Vals.length {xs:List V} {us:List Value} (r:Vals xs us):xs.length=us.length:=Paired.length r
theorem Vals.get:∀ {xs:List V} {us:List Value} {i:Nat} {x:V},Vals xs us→xs[i]? =some x→∃ u,us[i]? =some u∧RelV x u
 | _,_,_,_,.nil,e=>by simp at e
 | _,_,0,_,.cons r _,e=>by simp at e;subst e;exact ⟨_,rfl,r⟩
 | _,_,i + 1,x,.cons _ t,e=>by
   obtain ⟨u,h1,h2⟩:=Vals.get (i:=i) (x:=x) t (by simpa using e)
   exact ⟨u,by simpa using h1,h2⟩
theorem Vals.set {x:V} {u:Value} (r:RelV x u):∀ {xs:List V} {us:List Value} (i:Nat),Vals xs us→Vals (xs.set i x) (us.set i u)
 | _,_,_,.nil=> .nil
 | _,_,0,.cons _ t=> .cons r t
 | _,_,i + 1,.cons q t=> .cons q (Vals.set r i t)
theorem Vals.append:∀ {xs ys:List V} {us ws:List Value},Vals xs us→Vals ys ws→Vals (xs++ys) (us++ws)
 | _,_,_,_,.nil,s=>s
 | _,_,_,_,.cons r t,s=> .cons r (Vals.append t s)
theorem Vals.take:∀ {xs:List V} {us:List Value} (n:Nat),Vals xs us→Vals (xs.take n) (us.take n)
 | _,_,0,_=> .nil
 | _,_,_ + 1,.nil=> .nil
 | _,_,n + 1,.cons r t=> .cons r (Vals.take n t)
theorem Vals.drop:∀ {xs:List V} {us:List Value} (n:Nat),Vals xs us→Vals (xs.drop n) (us.drop n)
 | _,_,0,r=>r
 | _,_,_ + 1,.nil=> .nil
 | _,_,n + 1,.cons _ t=>Vals.drop n t
noncomputable def RelO:Option V→Option Value→Prop
 | some v,some u=>RelV v u
 | none,none=>True
 | _,_=>False
noncomputable def KV {κ:Type}:List (κ×V)→List (κ×Value)→Prop:=Paired fun (p:κ×V) (q:κ×Value)=>p.1=q.1∧RelV p.2 q.2
noncomputable def kV:Key→V
 | .inl i=> .int i
 | .inr x=> .str x
inductive HO where
 | lst (xs:List V)
 | tup (xs:List V)
 | dK (kvs:List (Key×V)) | dT (kvs:List (List Key×V))
 | set (S:Int→Bool) (n:Nat)
 | ins (C dx:Addr) (fs:List (Str×V))
 | own (x:Addr)
 | xd (fs:List (Str×V))
 | met (f x:Addr)
 | rng (lo hi:Int)
 | frz (o:Obj) (u:HO)
 | tbl (ps:Array Value)
 | ext (φ:Heap→Prop)
noncomputable abbrev Hp:=Addr→Option HO
noncomputable def upd (H:Hp) (a:Addr) (o:HO):Hp:=fun b=>if b=a then some o else H b
theorem aA {H:Hp} {a:Addr} {o:HO}:upd H a o a=some o:=by unfold upd;rw [if_pos rfl]
theorem aw {H:Hp} {a b:Addr} {o:HO} (h:b≠a):upd H a o b=H b:=by unfold upd;rw [if_neg h]
theorem iQ {H:Hp} {a b:Addr} {o u:HO} (h:H a=some o) (h':H b=some u) (d:o≠u):a≠b:=by
 intro e;subst e;rw [h] at h';exact d (Option.some.inj h')
theorem al {H:Hp} {a b:Addr} {o:HO} (h:H a=some o) (h':H b=none):a≠b:=by
 intro e;subst e;rw [h] at h';cases h'
section
variable (P:Program) (w:World)
noncomputable def eA (H:Hp) (h:Heap) (a:Addr):HO→Prop
 | .lst xs=>xs.length≤sizeLine∧∃ (its:List Value) (n:Nat),Vals xs its∧h.get? a=some {cls:= .type "list",data:= .seq its.toArray n}
 | .tup xs=>xs.length≤sizeLine∧∃ its:List Value,Vals xs its∧IsTup h a its.toArray
 | .dK kvs=>kvs.length≤sizeLine∧(a == sysModules)=false∧∃ vs,KV kvs vs∧h.DictOf (dM P w) a vs
 | .dT kvs=>kvs.length≤sizeLine∧(a == sysModules)=false∧∃ xs:List (List Key×Addr×Value),
   Paired (fun (p:List Key×V) (q:List Key×Addr×Value)=>p.1=q.1∧H q.2.1=some (.tup (p.1.map kV))∧RelV p.2 q.2.2) kvs xs∧
   ∃ o es ep,h.get? a=some o∧o.ExactDict∧o.data= .dict es ep∧es.toList=xs.map (entryOfKey (tupleKind (dM P w)))∧(xs.map (·.1)).Nodup
 | .set S n=>h.SetOf (intKind P w) a S n
 | .ins C dx fs=>H dx=some (.own a)∧fs.length≤1000∧dx≠a∧h.get? a=some (PySem.W.instObj C dx)∧
   ∃ mA,h.Ns1 dx mA∧(∀ f,RelO (fs.lookup f) (mA f))∧PySem.Within mA (fs.map (·.1))
 | .own _=>∃ o,h.get? a=some o
 | .xd fs=>∃ mA,h.Ns1 a mA∧∀ f,RelO (fs.lookup f) (mA f)
 | .rng lo hi=>∃ t u v,h.get? a=some {cls:= .type "range",data:= .fields #[.int lo t,.int hi u,.int 1 v]}
 | .frz o u=>h.get? a=some o∧eA H h a u
 | .tbl ps=>h.get? a=some {cls:= .none,data:= .fields ps}
 | .met f x=>h.get? a=some (PySem.W.methodObj (.ref f) (.ref x))
 | .ext φ=>φ h∧(∃ o,h.get? a=some o)∧∀ h1 h2:Heap,φ h1→(∀ o,h1.get? a=some o→h2.get? a=some o)→φ h2
noncomputable def HOk (H:Hp) (h:Heap):Prop:=∀ a o,H a=some o→eA P w H h a o
end
section
variable {P:Program} {w:World} {H H':Hp} {h h':Heap} {a:Addr} {o:HO}
theorem eA.lt (x:eA P w H h a o):a < h.objs.size:=by
 cases o with
 | lst xs=>obtain ⟨_,_,_,_,e⟩:=x;exact Heap.lt_size e
 | tup xs=>obtain ⟨_,_,_,p⟩:=x;exact p.lt
 | dK kvs=>obtain ⟨_,_,_,_,o,_,_,e,_⟩:=x;exact Heap.lt_size e
 | dT kvs=>obtain ⟨_,_,_,_,o,_,_,e,_⟩:=x;exact Heap.lt_size e
 | set S n=>obtain ⟨o,_,_,_,e,_⟩:=x;exact Heap.lt_size e
 | ins C dx fs=>obtain ⟨_,_,_,e,_⟩:=x;exact Heap.lt_size e
 | own y=>obtain ⟨_,e⟩:=x;exact Heap.lt_size e
 | xd fs=>obtain ⟨_,⟨_,_,_,e,_⟩,_⟩:=x;exact Heap.lt_size e
 | rng lo hi=>obtain ⟨_,_,_,e⟩:=x;exact Heap.lt_size e
 | frz ob u=>obtain ⟨e,_⟩:=x;exact Heap.lt_size e
 | tbl ps=>exact Heap.lt_size (show h.get? a=some _ from x)
 | met f y=>exact Heap.lt_size (show h.get? a=some _ from x)
 | ext φ=>obtain ⟨_,⟨_,e⟩,_⟩:=x;exact Heap.lt_size e
theorem Paired.mapP {α β:Type} {F G:α→β→Prop}:∀ {l₁:List α} {l₂:List β},Paired F l₁ l₂→(∀ a b,F a b→G a b)→Paired G l₁ l₂
 | _,_,.nil,_=> .nil
 | _,_,.cons r t,f=> .cons (f _ _ r) (Paired.mapP t f)
theorem eA.stay (x:eA P w H h a o) (k:∀ b u,(b=a∨H b=some (.own a))→h.get? b=some u→h'.get? b=some u)
  (ho:∀ b,H b=some (.own a)→H' b=some (.own a)) (ht:∀ b xs,H b=some (.tup xs)→H' b=some (.tup xs)):eA P w H' h' a o:=by
 induction o with
 | lst xs=>obtain ⟨z,its,n,r,e⟩:=x;exact ⟨z,its,n,r,k _ _ (.inl rfl) e⟩
 | tup xs=>obtain ⟨z,its,r,ob,e,c⟩:=x;exact ⟨z,its,r,ob,k _ _ (.inl rfl) e,c⟩
 | dK kvs=>obtain ⟨z,y,vs,r,ob,es,ep,e,c⟩:=x;exact ⟨z,y,vs,r,ob,es,ep,k _ _ (.inl rfl) e,c⟩
 | dT kvs=>
   obtain ⟨z,y,xs,r,ob,es,ep,e,c⟩:=x
   exact ⟨z,y,xs,Paired.mapP r fun p q z=>⟨z.1,ht _ _ z.2.1,z.2.2⟩,ob,es,ep,k _ _ (.inl rfl) e,c⟩
 | set S n=>obtain ⟨ob,es,ep,t,e,c⟩:=x;exact ⟨ob,es,ep,t,k _ _ (.inl rfl) e,c⟩
 | ins C dx fs=>
   obtain ⟨d,z,ne,e,mA,⟨od,es,ep,e2,c⟩,r⟩:=x
   exact ⟨ho _ d,z,ne,k _ _ (.inl rfl) e,mA,⟨od,es,ep,k _ _ (.inr d) e2,c⟩,r⟩
 | own y=>obtain ⟨ob,e⟩:=x;exact ⟨ob,k _ _ (.inl rfl) e⟩
 | xd fs=>obtain ⟨mA,⟨od,es,ep,e,c⟩,r⟩:=x;exact ⟨mA,⟨od,es,ep,k _ _ (.inl rfl) e,c⟩,r⟩
 | rng lo hi=>obtain ⟨t,u,v,e⟩:=x;exact ⟨t,u,v,k _ _ (.inl rfl) e⟩
 | frz ob u ih=>obtain ⟨e,q⟩:=x;exact ⟨k _ _ (.inl rfl) e,ih q⟩
 | tbl ps=>
   have e:h.get? a=some {cls:= .none,data:= .fields ps}:=x
   show h'.get? a=some {cls:= .none,data:= .fields ps}
   exact k a _ (.inl rfl) e
 | met f y=>
   have e:h.get? a=some (PySem.W.methodObj (.ref f) (.ref y)):=x
   show h'.get? a=some (PySem.W.methodObj (.ref f) (.ref y))
   exact k a _ (.inl rfl) e
 | ext φ=>obtain ⟨p,⟨o,e⟩,st⟩:=x;exact ⟨st _ _ p fun o q=>k _ _ (.inl rfl) q,⟨o,k _ _ (.inl rfl) e⟩,st⟩
theorem HOk.lt (x:HOk P w H h) (e:H a=some o):a < h.objs.size:=(x a o e).lt
theorem HOk.fresh (x:HOk P w H h) (e:h.objs.size≤a):H a=none:=by
 cases q:H a with
 | none=>rfl
 | some u=>exact absurd (Nat.lt_of_lt_of_le (x.lt q) e) (Nat.lt_irrefl _)
theorem HOk.kept (x:HOk P w H h) (k:∀ b u,h.get? b=some u→h'.get? b=some u):HOk P w H h':=fun a o e=>
 (x a o e).stay (fun b u _ q=>k b u q) (fun _ q=>q) fun _ _ q=>q
theorem HOk.laid (x:HOk P w H h) (k:∀ b u,h.get? b=some u→h'.get? b=some u) (hp:h.objs.size≤a) (new:eA P w (upd H a o) h' a o):HOk P w (upd H a o) h':=fun b u e=>by
 have hn:=x.fresh hp
 by_cases hb:b=a
 ·subst hb;rw [aA] at e;cases e;exact new
 ·rw [aw hb] at e
  exact (x b u e).stay (fun c v _ q=>k c v q) (fun c q=>by rw [aw (al q hn)];exact q) fun c xs q=>by rw [aw (al q hn)];exact q
end
noncomputable def Rd (H:Hp) (a:Addr) (u:HO):Prop:=H a=some u∨∃ o,H a=some (.frz o u)
theorem Rd.ok {P:Program} {w:World} {H:Hp} {h:Heap} {a:Addr} {u:HO} (r:Rd H a u) (x:HOk P w H h):eA P w H h a u:=by
 rcases r with r | ⟨o,r⟩
 ·exact x a u r
 ·obtain ⟨_,q⟩:=x a _ r
  exact q
noncomputable def Mut:Option HO→Prop
 | some (.lst _)=>True
 | some (.dK _)=>True
 | some (.dT _)=>True
 | some (.set _ _)=>True
 | some (.ins _ _ _)=>True
 | some (.ext _)=>True
 | _=>False
section
variable {P:Program} {w:World} {H:Hp} {h h':Heap} {x e:Addr} {o':HO}
theorem HOk.write (ok:HOk P w H h) (mu:Mut (H x)) (he:e=x∨H e=some (.own x)) (k:∀ b u,b≠e→h.get? b=some u→h'.get? b=some u) (heo:∃ u,h'.get? e=some u)
  (new:eA P w (upd H x o') h' x o'):HOk P w (upd H x o') h':=fun b u q=>by
 have nown:∀ c y,H c=some (.own y)→c≠x:=fun c y r z=>by subst z;rw [r] at mu;exact mu
 have ntup:∀ c xs,H c=some (.tup xs)→c≠x:=fun c xs r z=>by subst z;rw [r] at mu;exact mu
 by_cases hb:b=x
 ·subst hb;rw [aA] at q;cases q;exact new
 ·rw [aw hb] at q
  by_cases hbe:b=e
  ·have q':H b=some (.own x):=by
    rcases he with z | z
    ·exact absurd (hbe.trans z) hb
    ·rw [hbe];exact z
   rw [q] at q';cases q'
   obtain ⟨v,hv⟩:=heo
   exact ⟨v,by rw [hbe];exact hv⟩
  ·refine (ok b u q).stay (fun c v hc r=>k c v ?_ r) (fun c r=>by rw [aw (nown c b r)];exact r) fun c xs r=>by rw [aw (ntup c xs r)];exact r
   rcases hc with rfl | hc
   ·exact hbe
   ·rintro rfl
    rcases he with z | z
    ·exact nown c b hc z
    ·rw [hc] at z;cases z;exact hb rfl
end
structure Un (fs ex:List Addr) (H H':Hp) (h h':Heap):Prop where
 keep:∀ b o,h.get? b=some o→H b=none→b∉fs→b∉ex→h'.get? b=some o
 slot:∀ b o,h.get? b=some o→H b=none→b∈fs→b∉ex→∃ sl,h'.get? b=some {o with slots:=sl}
 free:∀ b o,h.get? b=some o→H b=none→b∉ex→H' b=none
 there:∀ b o,h.get? b=some o→b∉ex→∃ o',h'.get? b=some o'
 tups:∀ b xs,H b=some (.tup xs)→H' b=some (.tup xs)
 frzs:∀ b o u,H b=some (.frz o u)→H' b=some (.frz o u)
 tbls:∀ b ps,H b=some (.tbl ps)→∃ more,H' b=some (.tbl (ps++more))
section
variable {fs fs' ex ex':List Addr} {H H1 H2:Hp} {h h1 h2 h':Heap} {a x e:Addr} {o:HO}
theorem Un.any (u:Un fs ex H H1 h h1) {b:Addr} {ob:Obj} (q:h.get? b=some ob) (n:H b=none) (hx:b∉ex):∃ sl,h1.get? b=some {ob with slots:=sl}:=by
 by_cases hb:b∈fs
 ·exact u.slot b ob q n hb hx
 ·exact ⟨ob.slots,u.keep b ob q n hb hx⟩
theorem Un.kept (k:∀ b u,h.get? b=some u→h'.get? b=some u):Un fs ex H H h h':=
 ⟨fun b ob q _ _ _=>k b ob q,fun b ob q _ _ _=>⟨ob.slots,k b ob q⟩,fun _ _ _ n _=>n,fun b ob q _=>⟨ob,k b ob q⟩,fun _ _ q=>q,fun _ _ _ q=>q,fun _ ps q=>⟨#[],by rw [q];simp⟩⟩
theorem Un.refl:Un fs ex H H h h:=Un.kept fun _ _ q=>q
theorem Un.laid (k:∀ b u,h.get? b=some u→h'.get? b=some u) (hp:h.objs.size≤a) (hn:H a=none):Un fs ex H (upd H a o) h h' where
 keep:=fun b u q _ _ _=>k b u q
 slot:=fun b u q _ _ _=>⟨u.slots,k b u q⟩
 free:=fun b u q n _=>by rw [aw (Nat.ne_of_lt (Nat.lt_of_lt_of_le (Heap.lt_size q) hp))];exact n
 there:=fun b u q _=>⟨u,k b u q⟩
 tups:=fun b xs q=>by rw [aw (al q hn)];exact q
 frzs:=fun b u xs q=>by rw [aw (al q hn)];exact q
 tbls:=fun b ps q=>⟨#[],by rw [aw (al q hn),q];simp⟩
theorem Un.write (mu:Mut (H x)) (he:e=x∨H e=some (.own x)) (k:∀ b u,b≠e→h.get? b=some u→h'.get? b=some u) (heo:∃ u,h'.get? e=some u):Un fs ex H (upd H x o) h h':=by
 have hx:∀ b,H b=none→b≠x:=fun b n z=>by subst z;rw [n] at mu;exact mu
 have hb:∀ b,H b=none→b≠e:=fun b n z=>by
  subst z
  rcases he with r | r
  ·exact hx b n r
  ·rw [n] at r;cases r
 have hm:∀ b u,H b=some u→¬ Mut (some u)→b≠x:=fun b u q nm z=>by subst z;rw [q] at mu;exact nm mu
 refine ⟨fun b u q n _ _=>k b u (hb b n) q,fun b u q n _ _=>⟨u.slots,k b u (hb b n) q⟩,fun b u q n _=>by rw [aw (hx b n)];exact n,fun b u q _=>?_,
  fun b xs q=>by rw [aw (hm b _ q fun z=>z)];exact q,fun b u xs q=>by rw [aw (hm b _ q fun z=>z)];exact q,fun b ps q=>⟨#[],by rw [aw (hm b _ q fun z=>z),q];simp⟩⟩
 by_cases hbe:b=e
 ·subst hbe;exact heo
 ·exact ⟨u,k b u hbe q⟩
end
noncomputable def trk (h:Heap) (H:Hp):List Addr:=(List.range h.objs.size).filter fun a=>(H a).isSome
noncomputable def hidT (h:Heap) (H:Hp):Heap:=PySem.W.hideAll h (trk h H)
theorem Lx (h:Heap) (H:Hp):(hidT h H).objs.size=h.objs.size:=PySem.W.hideAll_size _ _
theorem Om {h:Heap} {H:Hp} {b:Addr} {o:Obj} (e:h.get? b=some o) (n:H b=none):(hidT h H).get? b=some o:=
 PySem.W.hideAll_get _ e fun hm=>by
  have q:(H b).isSome=true:=(List.mem_filter.mp hm).2
  rw [n] at q;simp at q
theorem QE {h:Heap} {H:Hp} {b:Addr} {o:Obj} (e:(hidT h H).get? b=some o):h.get? b=some o∧H b=none:=by
 have e':h.get? b=some o:=PySem.W.of_hideAll (trk h H) e
 refine ⟨e',?_⟩
 cases q:H b with
 | none=>rfl
 | some x=>
   have hm:b∈trk h H:=List.mem_filter.mpr ⟨List.mem_range.mpr (Heap.lt_size e'),by simp [q]⟩
   have z:(hidT h H).get? b=none:=PySem.W.hideAll_none (trk h H) hm
   rw [z] at e;cases e
noncomputable def RD (g h:Heap) (L:Addr):List (Addr×Obj):=(List.range h.objs.size).filterMap fun a=>if a=L∨(g.get? a).isSome=true then none else (h.get? a).map fun o=>(a,o)
noncomputable def rest (g h:Heap) (L d:Addr):List (Addr×Obj):=(RD g h L).filter fun p=>decide (p.1≠d)
structure Mod (K:PySem.W.Frag) (mg:Str→Option Value) (base:Heap):Prop where
 kin:K.In base
 glob:base.Ns mainGlobals mg
 blt:∃ mb,base.Ns builtinsNs mb∧∀ x:Str,x≠"__name__"→mb x=bootBuiltins x
 nolimit:base.NoLimit
structure Cx where
 prog:Program
 w:World
 K:PySem.W.Frag
 mg:Str→Option Value
 base:Heap
 A:Around
 N:List Str
 s₀:Shared
 H₀:Hp
 env:Env
 outer:List Env
 stack:List Env
 ex:List Addr
 fn:Str→Bool
 calm:Bool
 pn:List (Addr×Obj)
 xe:Value→Shared→Prop
noncomputable def frs (l:List Env):List Addr:=l.filterMap (·.frame)
noncomputable abbrev Cx.fs (X:Cx):List Addr:=frs X.outer
noncomputable def Vis (sc:Scope) (x:Str):Prop:=sc.names.lookup x=some .local∨sc.names.lookup x=some .cell∨sc.names.lookup x=some .free
noncomputable def Loc (sc:Scope) (x:Str):Prop:=sc.names.lookup x=some .local∨sc.names.lookup x=some .cell
noncomputable def Look (env:Env) (h:Heap) (m:Str→Option Value) (x:Str) (u:Value):Prop:=
 (env.kindOf x=some .local∧m x=some u)∨((env.kindOf x=some .cell∨env.kindOf x=some .free)∧∃ c,env.cells.lookup x=some c∧h.IsCell c (some u))
structure Cx.Ok (X:Cx):Prop where
 mod:Mod X.K X.mg X.base
 kind:X.env.scope.kind= .function
 glob:X.env.globals=mainGlobals
 blt:X.env.builtins=builtinsNs
 above:X.s₀.heap.objs.size≤X.env.locals
 inj:∀ x y c,X.env.cells.lookup x=some c→X.env.cells.lookup y=some c→x=y
 has:∀ x,(X.env.kindOf x=some .cell∨X.env.kindOf x=some .free)→∃ c,X.env.cells.lookup x=some c
 cab:∀ x c,X.fn x=true→X.env.cells.lookup x=some c→X.s₀.heap.objs.size≤c
 hd:X.calm=true→X.A.handled=none
 frames:X.A.frames=some X.stack
 stk:X.stack=X.outer∨(X.stack=X.env::X.outer∧X.env.frame=some X.env.locals)
 exf:∀ b∈X.ex,b≠X.env.locals∧∀ x c,X.env.cells.lookup x=some c→c≠b
 bs:∀ b o,X.base.get? b=some o→X.s₀.heap.get? b=some o∧X.H₀ b=none
 bsz:X.base.objs.size≤X.s₀.heap.objs.size
 noex:∀ b o,X.base.get? b=some o→b∉X.ex
 exfs:∀ b∈X.ex,b∉X.fs
 funs:X.s₀.heap.FunFrames X.base X.outer
 frf:∀ b∈X.fs,X.H₀ b=none
structure Inv (X:Cx) (pins:List (Addr×Obj)) (σ:List (Option V)) (H:Hp) (s:Shared):Prop where
 ok:X.Ok
 os:s.os=X.s₀.os
 bare:AllBare s.gens
 base:Un X.fs X.ex X.H₀ H X.s₀.heap s.heap
 loc:∃ m,s.heap.Ns X.env.locals m∧∀ (i:Nat) (x:Str) (v:V),X.N[i]? =some x→σ[i]? =some (some v)→Vis X.env.scope x→∃ u,RelV v u∧Look X.env s.heap m x u
 cell:∀ x c,X.env.cells.lookup x=some c→∃ v,s.heap.IsCell c v
 free:H X.env.locals=none
 freeC:∀ x c,X.env.cells.lookup x=some c→H c=none
 pin:∀ p∈X.pn++pins,s.heap.get? p.1=some p.2∧H p.1=none∧p.1≠X.env.locals∧p.1∉X.fs∧∀ v,p.2.data≠.cell v
 hok:HOk X.prog X.w H s.heap
 len:σ.length=X.N.length
section
variable {X:Cx} {pins:List (Addr×Obj)} {σ:List (Option V)} {H H':Hp} {s:Shared} {h':Heap}
theorem Cx.Ok.nofr (ok:X.Ok) {b:Addr} {o:Obj} (e:X.base.get? b=some o):b∉X.fs:=fun hb=>by
 have:=(ok.funs.mem hb).1
 rw [e] at this;cases this
theorem Inv.bs (I:Inv X pins σ H s):∀ b o,X.base.get? b=some o→s.heap.get? b=some o∧H b=none:=fun b o e=>
 ⟨I.base.keep b o (I.ok.bs b o e).1 (I.ok.bs b o e).2 (I.ok.nofr e) (I.ok.noex b o e),I.base.free b o (I.ok.bs b o e).1 (I.ok.bs b o e).2 (I.ok.noex b o e)⟩
theorem Inv.bk (I:Inv X pins σ H s):∀ b o,X.base.get? b=some o→s.heap.get? b=some o:=fun b o e=>(I.bs b o e).1
theorem Inv.mod (I:Inv X pins σ H s):Mod X.K X.mg X.base:=I.ok.mod
theorem Inv.kIn (I:Inv X pins σ H s):X.K.In s.heap:=I.ok.mod.kin.keeps I.bk
theorem Inv.lt (I:Inv X pins σ H s):X.env.locals < s.heap.objs.size:=let ⟨_,hn,_⟩:=I.loc;hn.lt
theorem Inv.sz (I:Inv X pins σ H s):X.s₀.heap.objs.size≤s.heap.objs.size:=Nat.le_trans I.ok.above (Nat.le_of_lt I.lt)
theorem Inv.nofs (I:Inv X pins σ H s) {a:Addr} (h:s.heap.objs.size≤a):a∉X.fs:=fun hb=>by
 obtain ⟨_,o,ho,_⟩:=I.ok.funs.mem hb
 exact absurd (Nat.lt_of_lt_of_le (Heap.lt_size ho) (Nat.le_trans I.sz h)) (Nat.lt_irrefl _)
theorem Inv.cne (I:Inv X pins σ H s):∀ x c,X.env.cells.lookup x=some c→c≠X.env.locals:=fun x c e z=>by
 obtain ⟨v,o,ho,hd⟩:=I.cell x c e
 obtain ⟨m,⟨o',es,ep,ho',hd',_⟩,_⟩:=I.loc
 rw [z,ho'] at ho;cases ho;rw [hd'] at hd;cases hd
theorem Inv.funs (I:Inv X pins σ H s):s.heap.FunFrames X.base X.outer:=by
 have all:∀ (l:List Env),(∀ b∈frs l,b∈X.fs)→X.s₀.heap.FunFrames X.base l→s.heap.FunFrames X.base l:=by
  intro l
  induction l with
  | nil=>intro _ _;trivial
  | cons env r ih=>
    intro hs hl
    obtain ⟨hk,⟨L,o,hf,hn,ho,hd⟩,hr⟩:=hl
    have hL:L∈X.fs:=hs L (by unfold frs;rw [List.filterMap_cons,hf];exact List.mem_cons_self)
    obtain ⟨sl,e⟩:=I.base.slot L o ho (I.ok.frf L hL) hL fun z=>I.ok.exfs L z hL
    exact ⟨hk,⟨L,_,hf,hn,e,hd⟩,ih (fun b hb=>hs b (by unfold frs;rw [List.filterMap_cons,hf];exact List.mem_cons_of_mem _ hb)) hr⟩
 exact all X.outer (fun _ hb=>hb) I.ok.funs
theorem Inv.stack (I:Inv X pins σ H s):s.heap.FunFrames X.base X.stack:=by
 rcases I.ok.stk with e | ⟨e,hf⟩
 ·rw [e];exact I.funs
 ·rw [e]
  obtain ⟨m,hn,_⟩:=I.loc
  refine .cons (by rw [I.ok.kind];decide) hf hn ?_ I.funs
  exact Heap.get?_none_of_le (Nat.le_trans I.ok.bsz I.ok.above)
theorem Inv.stkSub (I:Inv X pins σ H s):∀ b∈frs X.stack,b∈X.env.locals::X.fs:=fun b hb=>by
 rcases I.ok.stk with e | ⟨e,hf⟩
 ·rw [e] at hb;exact List.mem_cons_of_mem _ hb
 ·rw [e] at hb
  unfold frs at hb
  rw [List.filterMap_cons,hf] at hb
  exact hb
theorem Inv.stkFree (I:Inv X pins σ H s):∀ b∈frs X.stack,H b=none:=fun b hb=>by
 rcases List.mem_cons.mp (I.stkSub b hb) with e | hb
 ·rw [e];exact I.free
 ·obtain ⟨_,o,ho,_⟩:=I.ok.funs.mem hb
  exact I.base.free b o ho (I.ok.frf b hb) fun z=>I.ok.exfs b z hb
theorem Inv.step {g':Array GenState} {t':Nat} {d':Drawn} {ch:List Addr} (I:Inv X pins σ H s)
  (hch:∀ b∈ch,(b∈X.ex∨X.s₀.heap.objs.size≤b)∧b≠X.env.locals∧(∀ x c,X.env.cells.lookup x=some c→c≠b)∧∀ p∈X.pn++pins,p.1≠b)
  (keep:∀ b o,b≠X.env.locals→b∉X.fs→b∉ch→s.heap.get? b=some o→H b=none→h'.get? b=some o)
  (slot:∀ b o,b≠X.env.locals→b∈X.fs→b∉ch→s.heap.get? b=some o→H b=none→∃ sl,h'.get? b=some {o with slots:=sl}) (free:∀ b o,b∉ch→s.heap.get? b=some o→H b=none→H' b=none)
  (there:∀ b o,b∉ch→s.heap.get? b=some o→∃ o',h'.get? b=some o')
  (tups:∀ b xs,H b=some (.tup xs)→H' b=some (.tup xs)) (frzs:∀ b o u,H b=some (.frz o u)→H' b=some (.frz o u)) (tbls:∀ b ps,H b=some (.tbl ps)→∃ more,H' b=some (.tbl (ps++more)))
  (ns:∀ m,s.heap.Ns X.env.locals m→h'.Ns X.env.locals m) (hok:HOk X.prog X.w H' h') (hg:AllBare g'):
  Inv X pins σ H' {s with heap:=h',gens:=g',drawn:=d',toks:=t'}:=by
 have neL:∀ b o,X.s₀.heap.get? b=some o→b≠X.env.locals:=fun b o e=>Nat.ne_of_lt (Nat.lt_of_lt_of_le (Heap.lt_size e) I.ok.above)
 have neC:∀ b o,X.s₀.heap.get? b=some o→b∉X.ex→b∉ch:=fun b o e hx hb=>by
  rcases (hch b hb).1 with z | z
  ·exact hx z
  ·exact absurd (Nat.lt_of_lt_of_le (Heap.lt_size e) z) (Nat.lt_irrefl _)
 have cellK:∀ x c,X.env.cells.lookup x=some c→∀ v,s.heap.IsCell c v→h'.IsCell c v:=fun x c e v ⟨o,ho,hd⟩=>by
  have nch:c∉ch:=fun z=>(hch c z).2.2.1 x c e rfl
  by_cases hc:c∈X.fs
  ·obtain ⟨sl,q⟩:=slot c o (I.cne x c e) hc nch ho (I.freeC x c e)
   exact ⟨_,q,hd⟩
  ·exact ⟨o,keep c o (I.cne x c e) hc nch ho (I.freeC x c e),hd⟩
 refine ⟨I.ok,I.os,hg,⟨fun b o e n hb hx=>?_,fun b o e n hb hx=>?_,fun b o e n hx=>?_,fun b o e hx=>?_,fun b xs e=>tups b xs (I.base.tups b xs e),fun b o xs e=>frzs b o xs (I.base.frzs b o xs e),fun b ps e=>?_⟩,?_,fun x c e=>?_,?_,fun x c e=>?_,fun p hp=>?_,hok,I.len⟩
 ·exact keep b o (neL b o e) hb (neC b o e hx) (I.base.keep b o e n hb hx) (I.base.free b o e n hx)
 ·obtain ⟨sl,e1⟩:=I.base.slot b o e n hb hx
  obtain ⟨sl',e2⟩:=slot b _ (neL b o e) hb (neC b o e hx) e1 (I.base.free b o e n hx)
  exact ⟨sl',e2⟩
 ·obtain ⟨o',e1⟩:=I.base.there b o e hx
  exact free b o' (neC b o e hx) e1 (I.base.free b o e n hx)
 ·obtain ⟨o',e1⟩:=I.base.there b o e hx
  exact there b o' (neC b o e hx) e1
 ·obtain ⟨m1,e1⟩:=I.base.tbls b ps e
  obtain ⟨m2,e2⟩:=tbls b _ e1
  exact ⟨m1++m2,by rw [e2,Array.append_assoc]⟩
 ·obtain ⟨m,hn,hl⟩:=I.loc
  refine ⟨m,ns m hn,fun i x v e1 e2 e3=>?_⟩
  obtain ⟨u,r,l⟩:=hl i x v e1 e2 e3
  refine ⟨u,r,?_⟩
  rcases l with l | ⟨k,c,e,z⟩
  ·exact .inl l
  ·exact .inr ⟨k,c,e,cellK x c e _ z⟩
 ·obtain ⟨v,z⟩:=I.cell x c e
  exact ⟨v,cellK x c e v z⟩
 ·obtain ⟨m,⟨o,_,_,ho,_⟩,_⟩:=I.loc
  exact free _ o (fun z=>(hch _ z).2.1 rfl) ho I.free
 ·obtain ⟨v,o,ho,hd⟩:=I.cell x c e
  exact free c o (fun z=>(hch c z).2.2.1 x c e rfl) ho (I.freeC x c e)
 ·obtain ⟨e,n,ne,nf,d⟩:=I.pin p hp
  have nch:p.1∉ch:=fun z=>(hch p.1 z).2.2.2 p hp rfl
  exact ⟨keep p.1 p.2 ne nf nch e n,free p.1 p.2 nch e n,ne,nf,d⟩
theorem Inv.un {t':Nat} (I:Inv X pins σ H s) (u:Un X.fs [] H H' s.heap h') (hok:HOk X.prog X.w H' h'):Inv X pins σ H' {s with heap:=h',toks:=t'}:=by
 obtain ⟨m,⟨o,es,ep,ho,r⟩,_⟩:=id I.loc
 obtain ⟨sl,hL⟩:=u.any ho I.free (by simp)
 exact I.step (g':=s.gens) (d':=s.drawn) (ch:=[]) (fun _ z=>nomatch z) (fun b o _ hb _ e n=>u.keep b o e n hb (by simp)) (fun b o _ hb _ e n=>u.slot b o e n hb (by simp)) (fun b o _ e n=>u.free b o e n (by simp)) (fun b o _ e=>u.there b o e (by simp)) u.tups u.frzs u.tbls (fun m' hm=>by
  obtain ⟨o',es',ep',ho',r'⟩:=hm
  rw [ho] at ho';cases ho'
  exact ⟨_,es',ep',hL,r'⟩) hok I.bare
theorem Inv.call {g':Array GenState} {t':Nat} {d':Drawn} {ch:List Addr} (I:Inv X pins σ H s) (u:Un (frs X.stack) ch H H' s.heap h') (hok:HOk X.prog X.w H' h') (hg:AllBare g')
  (hch:∀ b∈ch,(b∈X.ex∨X.s₀.heap.objs.size≤b)∧b≠X.env.locals∧(∀ x c,X.env.cells.lookup x=some c→c≠b)∧∀ p∈X.pn++pins,p.1≠b):
  Inv X pins σ H' {s with heap:=h',gens:=g',drawn:=d',toks:=t'}:=by
 obtain ⟨m,⟨o,es,ep,ho,r⟩,_⟩:=id I.loc
 obtain ⟨sl,hL⟩:=u.any ho I.free fun z=>(hch _ z).2.1 rfl
 exact I.step (ch:=ch) hch (fun b o hL hb hc e n=>u.keep b o e n (fun z=>(List.mem_cons.mp (I.stkSub b z)).elim hL hb) hc) (fun b o _ _ hc e n=>u.any e n hc) (fun b o hc e n=>u.free b o e n hc) (fun b o hc e=>u.there b o e hc) u.tups u.frzs u.tbls (fun m' hm=>by
  obtain ⟨o',es',ep',ho',r'⟩:=hm
  rw [ho] at ho';cases ho'
  exact ⟨_,es',ep',hL,r'⟩) hok hg
theorem Inv.turned {t':Nat} {it:Addr} (I:Inv X pins σ H s) (k:∀ b o,b≠it→s.heap.get? b=some o→h'.get? b=some o) (hn:H it=none) (hL:it≠X.env.locals)
  (h1:it∈X.ex∨X.s₀.heap.objs.size≤it) (h2:∀ x c,X.env.cells.lookup x=some c→c≠it) (h3:∀ p∈X.pn++pins,p.1≠it):Inv X pins σ H {s with heap:=h',toks:=t'}:=by
 have nit:∀ b u,H b=some u→b≠it:=fun b u e z=>by rw [z,hn] at e;cases e
 refine I.step (g':=s.gens) (d':=s.drawn) (ch:=[it]) (fun b hb=>?_) (fun b o _ _ hc e _=>k b o (fun z=>hc (by simp [z])) e) (fun b o _ _ hc e _=>⟨o.slots,k b o (fun z=>hc (by simp [z])) e⟩) (fun _ _ _ _ n=>n)
  (fun b o hc e=>⟨o,k b o (fun z=>hc (by simp [z])) e⟩) (fun _ _ e=>e) (fun _ _ _ e=>e) (fun b ps e=>⟨#[],by rw [e];simp⟩) (fun m hm=>?_) (fun b u e=>?_) I.bare
 ·have e:b=it:=by simpa using hb
  subst e
  exact ⟨h1,hL,h2,h3⟩
 ·obtain ⟨o,es,ep,ho,r⟩:=hm
  exact ⟨o,es,ep,k _ o (Ne.symm hL) ho,r⟩
 ·refine (I.hok b u e).stay (fun c v hc q=>k c v ?_ q) (fun _ q=>q) fun _ _ q=>q
  rcases hc with z | z
  ·rw [z];exact nit b u e
  ·exact nit c _ z
theorem Inv.tok (I:Inv X pins σ H s) (t:Nat):Inv X pins σ H {s with toks:=t}:=I.un (h':=s.heap) (t':=t) Un.refl I.hok
theorem Inv.kept {t':Nat} (I:Inv X pins σ H s) (k:∀ b u,s.heap.get? b=some u→h'.get? b=some u):Inv X pins σ H {s with heap:=h',toks:=t'}:=I.un (Un.kept k) (I.hok.kept k)
theorem Inv.laid {a:Addr} {o:HO} {t':Nat} (I:Inv X pins σ H s) (k:∀ b u,s.heap.get? b=some u→h'.get? b=some u) (hp:s.heap.objs.size≤a) (new:eA X.prog X.w (upd H a o) h' a o):
  Inv X pins σ (upd H a o) {s with heap:=h',toks:=t'}:=I.un (Un.laid k hp (I.hok.fresh hp)) (I.hok.laid k hp new)
theorem Inv.write {x e:Addr} {o:HO} {t':Nat} (I:Inv X pins σ H s) (mu:Mut (H x)) (he:e=x∨H e=some (.own x)) (k:∀ b u,b≠e→s.heap.get? b=some u→h'.get? b=some u) (heo:∃ u,h'.get? e=some u)
  (new:eA X.prog X.w (upd H x o) h' x o):Inv X pins σ (upd H x o) {s with heap:=h',toks:=t'}:=I.un (Un.write mu he k heo) (I.hok.write mu he k heo new)
theorem Inv.weak {σ':List (Option V)} (I:Inv X pins σ H s) (hl:σ'.length=σ.length) (w:∀ (i:Nat) v,σ'[i]? =some (some v)→σ[i]? =some (some v)):Inv X pins σ' H s:=
 ⟨I.ok,I.os,I.bare,I.base,let ⟨m,hn,hl'⟩:=I.loc;⟨m,hn,fun i x v e1 e2 e3=>hl' i x v e1 (w i v e2) e3⟩,I.cell,I.free,I.freeC,I.pin,I.hok,hl.trans I.len⟩
theorem Inv.pins_of {pins':List (Addr×Obj)} (I:Inv X pins σ H s) (h:∀ p∈pins',s.heap.get? p.1=some p.2∧H p.1=none∧p.1≠X.env.locals∧p.1∉X.fs∧∀ v,p.2.data≠.cell v):Inv X pins' σ H s:=
 ⟨I.ok,I.os,I.bare,I.base,I.loc,I.cell,I.free,I.freeC,fun p hp=>(List.mem_append.mp hp).elim (fun z=>I.pin p (List.mem_append_left _ z)) (h p),I.hok,I.len⟩
theorem zh {N:List Str} (hN:N.Nodup) {i j:Nat} {x:Str} (a:N[i]? =some x) (b:N[j]? =some x):i=j:=by
 obtain ⟨h1,e1⟩:=List.getElem?_eq_some_iff.mp a
 obtain ⟨h2,e2⟩:=List.getElem?_eq_some_iff.mp b
 exact (List.getElem_inj hN).mp (e1.trans e2.symm)
theorem AK {M:Model} {A:Around} {E:Value→Shared→Prop} {i:Nat} {x:Str} {v:V} {u:Value} {Q:Unit→Shared→Prop} (I:Inv X pins σ H s) (hN:X.N.Nodup) (hi:X.N[i]? =some x) (hx:Loc X.env.scope x) (r:RelV v u)
  (h:∀ s',Inv X pins (σ.set i (some v)) H s'→(∃ a,Heap.SameBut a s.heap s'.heap∧(a=X.env.locals∨X.env.cells.lookup x=some a))→Q () s') (hf:X.fn x=true∨X.env.scope.names.lookup x=some .local:=by first | exact .inl rfl | exact .inr rfl | assumption):wpAny M A (storeName X.env x u) Q E s:=by
 obtain ⟨m,hn,hl⟩:=id I.loc
 have hcls:(X.env.scope.kind == .class||(X.env.scope.kind == .module&&X.env.locals != X.env.globals))=false:=by rw [I.ok.kind];rfl
 have hiσ:i < σ.length:=by rw [I.len];exact (List.getElem?_eq_some_iff.mp hi).1
 have cne:=I.cne
 have tracked:∀ {a:Addr} {h':Heap},(∃ o,s.heap.get? a=some o∧H a=none)→Heap.SameBut a s.heap h'→HOk X.prog X.w H h':=fun {a h'} ha hs b ob e=>by
  obtain ⟨_,_,hfree⟩:=ha
  refine (I.hok b ob e).stay (fun c w' hc q=>(hs.2 c ?_).trans q) (fun _ q=>q) fun _ _ q=>q
  rintro rfl
  rcases hc with rfl | hc
  ·rw [hfree] at e;cases e
  ·rw [hfree] at hc;cases hc
 rcases hx with hk | hk
 ·refine wpAny_storeName_local hk hn (fun h' hn' hs=>?_) hcls
  obtain ⟨oL,_,_,hoL,_⟩:=id hn
  refine h _ ⟨I.ok,I.os,I.bare,⟨fun b o e n hb hx=>?_,fun b o e n hb hx=>?_,I.base.free,fun b o e hx=>?_,I.base.tups,I.base.frzs,I.base.tbls⟩,⟨_,hn',fun j y v' e1 e2 e3=>?_⟩,fun y c e=>?_,I.free,I.freeC,fun p hp=>?_,tracked ⟨oL,hoL,I.free⟩ hs,by simpa using I.len⟩ ⟨_,hs,.inl rfl⟩
  ·exact (hs.2 b (Nat.ne_of_lt (Nat.lt_of_lt_of_le (Heap.lt_size e) I.ok.above))).trans (I.base.keep b o e n hb hx)
  ·obtain ⟨sl,e1⟩:=I.base.slot b o e n hb hx
   exact ⟨sl,(hs.2 b (Nat.ne_of_lt (Nat.lt_of_lt_of_le (Heap.lt_size e) I.ok.above))).trans e1⟩
  ·obtain ⟨o',e1⟩:=I.base.there b o e hx
   exact ⟨o',(hs.2 b (Nat.ne_of_lt (Nat.lt_of_lt_of_le (Heap.lt_size e) I.ok.above))).trans e1⟩
  ·by_cases hj:j=i
   ·subst hj
    rw [hi] at e1;cases e1
    rw [List.getElem?_set_self hiσ] at e2
    cases e2
    exact ⟨u,r,.inl ⟨hk,by simp⟩⟩
   ·rw [List.getElem?_set_ne (Ne.symm hj)] at e2
    obtain ⟨u',r',q⟩:=hl j y v' e1 e2 e3
    refine ⟨u',r',?_⟩
    rcases q with ⟨k,e⟩ | ⟨k,c,e,z⟩
    ·refine .inl ⟨k,?_⟩
     have:y≠x:=fun e=>hj (zh hN e1 (e ▸ hi))
     simp [this,e]
    ·exact .inr ⟨k,c,e,z.sameBut hs (cne y c e)⟩
  ·obtain ⟨w',z⟩:=I.cell y c e
   exact ⟨w',z.sameBut hs (cne y c e)⟩
  ·obtain ⟨e,n,ne,nf,d⟩:=I.pin p hp
   exact ⟨(hs.2 p.1 ne).trans e,n,ne,nf,d⟩
 ·have hfn:X.fn x=true:=by
   rcases hf with z | z
   ·exact z
   ·rw [z] at hk;cases hk
  obtain ⟨c,hc⟩:=I.ok.has x (.inl hk)
  obtain ⟨w',z⟩:=I.cell x c hc
  refine wpAny_storeName_cell I.ok.kind hk hc z (fun h' hc' hs=>?_)
  obtain ⟨oc,hoc,hocd⟩:=id z
  refine h {s with heap:=h'} ⟨I.ok,I.os,I.bare,⟨fun b o e n hb hx=>?_,fun b o e n hb hx=>?_,I.base.free,fun b o e hx=>?_,I.base.tups,I.base.frzs,I.base.tbls⟩,⟨m,hn.sameBut hs (Ne.symm (cne x c hc)),fun j y v' e1 e2 e3=>?_⟩,fun y c' e=>?_,I.free,I.freeC,fun p hp=>?_,tracked ⟨oc,hoc,I.freeC x c hc⟩ hs,by simpa using I.len⟩ ⟨c,hs,.inr hc⟩
  ·exact (hs.2 b (Nat.ne_of_lt (Nat.lt_of_lt_of_le (Heap.lt_size e) (I.ok.cab x c hfn hc)))).trans (I.base.keep b o e n hb hx)
  ·obtain ⟨sl,e1⟩:=I.base.slot b o e n hb hx
   exact ⟨sl,(hs.2 b (Nat.ne_of_lt (Nat.lt_of_lt_of_le (Heap.lt_size e) (I.ok.cab x c hfn hc)))).trans e1⟩
  ·obtain ⟨o',e1⟩:=I.base.there b o e hx
   exact ⟨o',(hs.2 b (Nat.ne_of_lt (Nat.lt_of_lt_of_le (Heap.lt_size e) (I.ok.cab x c hfn hc)))).trans e1⟩
  ·by_cases hj:j=i
   ·subst hj
    rw [hi] at e1;cases e1
    rw [List.getElem?_set_self hiσ] at e2
    cases e2
    exact ⟨u,r,.inr ⟨.inl hk,c,hc,hc'⟩⟩
   ·rw [List.getElem?_set_ne (Ne.symm hj)] at e2
    obtain ⟨u',r',q⟩:=hl j y v' e1 e2 e3
    refine ⟨u',r',?_⟩
    rcases q with q | ⟨k,c',e,z'⟩
    ·exact .inl q
    ·refine .inr ⟨k,c',e,z'.sameBut hs ?_⟩
     rintro rfl
     exact hj (zh hN e1 (I.ok.inj _ _ _ e hc ▸ hi))
  ·by_cases hcc:c'=c
   ·subst hcc;exact ⟨_,hc'⟩
   ·obtain ⟨w2,z2⟩:=I.cell y c' e
    exact ⟨w2,z2.sameBut hs hcc⟩
  ·obtain ⟨e,n,ne,nf,d⟩:=I.pin p hp
   refine ⟨(hs.2 p.1 ?_).trans e,n,ne,nf,d⟩
   intro q
   rw [q,hoc] at e
   have q':oc=p.2:=Option.some.inj e
   exact d w' (by rw [← q'];exact hocd)
theorem yp {M:Model} {A:Around} {E:Value→Shared→Prop} {i:Nat} {x:Str} {v:V} {u:Value} {Q:Unit→Shared→Prop} (I:Inv X pins σ H s) (hN:X.N.Nodup) (hi:X.N[i]? =some x) (hx:Loc X.env.scope x) (r:RelV v u)
  (h:∀ s',Inv X pins (σ.set i (some v)) H s'→Q () s') (hf:X.fn x=true∨X.env.scope.names.lookup x=some .local:=by first | exact .inl rfl | exact .inr rfl | assumption):wpAny M A (storeName X.env x u) Q E s:=
 AK I hN hi hx r (fun s' I' _=>h s' I') hf
theorem Inv.call' {s':Shared} {ch:List Addr} (I:Inv X pins σ H s) (ho:s'.os=s.os) (u:Un (frs X.stack) ch H H' s.heap s'.heap) (hok:HOk X.prog X.w H' s'.heap) (hg:AllBare s'.gens)
  (hch:∀ b∈ch,(b∈X.ex∨X.s₀.heap.objs.size≤b)∧b≠X.env.locals∧(∀ x c,X.env.cells.lookup x=some c→c≠b)∧∀ p∈X.pn++pins,p.1≠b):Inv X pins σ H' s':=by
 obtain ⟨h',g',d',t',o'⟩:=s'
 have e:o'=s.os:=ho
 subst e
 exact I.call (g':=g') (t':=t') (d':=d') u hok hg hch
end
noncomputable abbrev XK:=Value→Option Addr→Hp→Prop
noncomputable abbrev St:=List (Option V)
noncomputable abbrev VK:=V→Hp→Prop
noncomputable abbrev TE:=St→Hp→VK→Prop
noncomputable abbrev TT:=St→Hp→(Bool→Hp→Prop)→Prop
noncomputable abbrev TA:=St→Hp→(List V→Hp→Prop)→Prop
structure Ends where
 nx:St→Hp→Prop
 rt:VK
 bk:St→Hp→Prop:=fun _ _=>False
 ct:St→Hp→Prop:=fun _ _=>False
noncomputable abbrev TS:=Ends→St→Hp→Prop
noncomputable def EP (X:Cx) (pins:List (Addr×Obj)) (σ:St) (Q:VK) (u:Value) (s':Shared):Prop:=∃ v H',Inv X pins σ H' s'∧RelV v u∧Q v H'
noncomputable def TP (X:Cx) (pins:List (Addr×Obj)) (σ:St) (Q:Bool→Hp→Prop) (b:Bool) (s':Shared):Prop:=∃ H',Inv X pins σ H' s'∧Q b H'
noncomputable def AP (X:Cx) (pins:List (Addr×Obj)) (σ:St) (Q:List V→Hp→Prop) (us:List Value) (s':Shared):Prop:=∃ vs H',Inv X pins σ H' s'∧Vals vs us∧Q vs H'
noncomputable def SP (X:Cx) (pins:List (Addr×Obj)) (D:Ends) (f:Flow) (s':Shared):Prop:=
 match f with
 | .next=>∃ σ' H',Inv X pins σ' H' s'∧D.nx σ' H'
 | .brk=>∃ σ' H',Inv X pins σ' H' s'∧D.bk σ' H'
 | .cont=>∃ σ' H',Inv X pins σ' H' s'∧D.ct σ' H'
 | .ret u=>∃ v σ' H',Inv X pins σ' H' s'∧RelV v u∧D.rt v H'
noncomputable def PE (X:Cx) (e:Expr) (t:TE):Prop:=
 ∀ (pins:List (Addr×Obj)) (s:Shared) (σ:St) (H:Hp) (Q:VK),Inv X pins σ H s→t σ H Q→wpAny (model X.prog X.w) X.A (eval e X.env) (EP X pins σ Q) X.xe s
noncomputable def PT (X:Cx) (e:Expr) (t:TT):Prop:=
 ∀ (pins:List (Addr×Obj)) (s:Shared) (σ:St) (H:Hp) (Q:Bool→Hp→Prop),Inv X pins σ H s→t σ H Q→wpAny (model X.prog X.w) X.A (isTrue e X.env (eval e X.env)) (TP X pins σ Q) X.xe s
noncomputable def PW (X:Cx) (e:Expr) (t:TT):Prop:=
 ∀ (whole:Sem Value) (pins:List (Addr×Obj)) (s:Shared) (σ:St) (H:Hp) (Q:Bool→Hp→Prop),Inv X pins σ H s→t σ H Q→wpAny (model X.prog X.w) X.A (isTrue e X.env whole) (TP X pins σ Q) X.xe s
theorem PW.pt {X:Cx} {e:Expr} {t:TT} (h:PW X e t):PT X e t:=h _
noncomputable def PA (X:Cx) (es:List Expr) (t:TA):Prop:=
 ∀ (pos:Pos) (pins:List (Addr×Obj)) (s:Shared) (σ:St) (H:Hp) (Q:List V→Hp→Prop),Inv X pins σ H s→t σ H Q→wpAny (model X.prog X.w) X.A (spliced (backTo pos (starEach es X.env))) (AP X pins σ Q) X.xe s
noncomputable def PS (X:Cx) (st:Stmt) (t:TS):Prop:=
 ∀ (pins:List (Addr×Obj)) (s:Shared) (σ:St) (H:Hp) (D:Ends),Inv X pins σ H s→t D σ H→wpAny (model X.prog X.w) X.A (exec st X.env) (SP X pins D) X.xe s
noncomputable def PSs (X:Cx) (st:List Stmt) (t:TS):Prop:=
 ∀ (pins:List (Addr×Obj)) (s:Shared) (σ:St) (H:Hp) (D:Ends),Inv X pins σ H s→t D σ H→wpAny (model X.prog X.w) X.A (execs st X.env) (SP X pins D) X.xe s
theorem thn {α:Type} {t:Sem α} {Q Q':α→Shared→Prop} {M:Model} {A:Around} {E:Value→Shared→Prop} {s:Shared} (h:wpAny M A t Q E s) (hQ:∀ a s,Q a s→Q' a s):wpAny M A t Q' E s:=wpAny_mono h hQ fun _ _ x=>x
section
variable {X:Cx}
noncomputable def tVar (i:Nat):TE:=fun σ H Q=>∃ v,σ[i]? =some (some v)∧Q v H
noncomputable abbrev tC (v:V):TE:=fun _ H Q=>Q v H
theorem S2 {i:Nat} {x:Str} {pos:Pos} (hN:X.N[i]? =some x) (hv:Vis X.env.scope x) (hd:(x == ("__debug__":Str))=false:=by decide) (hcd:(x == ("__classdict__":Str))=false:=by decide):PE X (.Name x pos) (tVar i):=by
 intro pins s σ H Q I h
 obtain ⟨v,e,h⟩:=h
 obtain ⟨m,hn,hl⟩:=I.loc
 obtain ⟨u,r,l⟩:=hl i x v hN e hv
 have fin:EP X pins σ Q u s:=⟨v,H,I,r,h⟩
 rcases l with ⟨hk,hm⟩ | ⟨hk,c,hc,hcell⟩
 ·exact wpAny_Name (wpAny_loadName_local I.ok.kind hk hn hm fin) hd
 ·rcases hk with hk | hk
  ·exact wpAny_Name (wpAny_loadName_cell I.ok.kind hk hc hcell fin) hd
  ·exact wpAny_Name (wpAny_loadName_free I.ok.kind hk hc hcell fin hcd) hd
theorem ah {i j pos}:PE X (.Constant (.int i) j pos) (tC (.int i)):=fun _ _ _ H _ I h=>wpAny_Constant_int ⟨.int i,H,I.tok _,⟨_,rfl⟩,h⟩
theorem Ba {b j pos}:PE X (.Constant (.bool b) j pos) (tC (.bl b)):=fun _ _ _ H _ I h=>Constant_bool ⟨.bl b,H,I,rfl,h⟩
theorem iM {j pos}:PE X (.Constant .none j pos) (tC .non):=fun _ _ _ H _ I h=>Constant_none ⟨.non,H,I,rfl,h⟩
theorem aM {x j pos}:PE X (.Constant (.str x) j pos) (tC (.str x)):=fun _ _ _ H _ I h=>Calls.Constant_str ⟨.str x,H,I.tok _,⟨_,rfl⟩,h⟩
noncomputable def Gl (X:Cx) (x:Str):Prop:=X.env.kindOf x=some .globalImplicit
theorem gJ {E:Value→Shared→Prop} {pins:List (Addr×Obj)} {s:Shared} {σ:St} {H:Hp} {x:Str} {u:Value} {pos:Pos} {Q:Value→Shared→Prop} (I:Inv X pins σ H s) (hg:Gl X x) (hm:X.mg x=some u) (h:Q u s)
  (hd:(x == ("__debug__":Str))=false:=by decide):wpAny (model X.prog X.w) X.A (eval (.Name x pos) X.env) Q E s:=
 Calls.Name_function_global I.ok.kind hg (Calls.loadGlobal_global (by rw [I.ok.glob];exact I.mod.glob.keeps I.bk) hm h) hd
theorem lM {E:Value→Shared→Prop} {pins:List (Addr×Obj)} {s:Shared} {σ:St} {H:Hp} {x:Str} {u:Value} {pos:Pos} {Q:Value→Shared→Prop} (I:Inv X pins σ H s) (hg:Gl X x) (hm:X.mg x=none) (hv:bootBuiltins x=some u) (h:Q u s)
  (hn:x≠"__name__":=by decide) (hd:(x == ("__debug__":Str))=false:=by decide):wpAny (model X.prog X.w) X.A (eval (.Name x pos) X.env) Q E s:=by
 obtain ⟨mb,h1,h2⟩:=I.mod.blt
 exact Calls.Name_function_global I.ok.kind hg (Calls.loadGlobal_builtin (by rw [I.ok.glob];exact I.mod.glob.keeps I.bk) hm (by rw [I.ok.blt];exact h1.keeps I.bk) ((h2 x hn).trans hv) h) hd
theorem gF {x:Str} {v:V} {u:Value} {pos:Pos} (hg:Gl X x) (hm:X.mg x=some u) (r:RelV v u) (hd:(x == ("__debug__":Str))=false:=by decide):PE X (.Name x pos) (tC v):=
 fun _ _ _ H _ I h=>gJ I hg hm ⟨v,H,I,r,h⟩ hd
theorem jb {x:Str} {v:V} {u:Value} {pos:Pos} (hg:Gl X x) (hm:X.mg x=none) (hv:bootBuiltins x=some u) (r:RelV v u) (hn:x≠"__name__":=by decide) (hd:(x == ("__debug__":Str))=false:=by decide):PE X (.Name x pos) (tC v):=
 fun _ _ _ H _ I h=>lM I hg hm hv ⟨v,H,I,r,h⟩ hn hd
variable {a b:Expr} {ta tb:TE} {pos:Pos}
noncomputable def PC (X:Cx) (op:CmpOp) (a b:Expr) (t:TE):Prop:=
 ∀ (pins:List (Addr×Obj)) (s:Shared) (σ:St) (H:Hp) (Q:VK),Inv X pins σ H s→t σ H Q→
  wpAny (model X.prog X.w) X.A (eval a X.env) (fun v s₁=>wpAny (model X.prog X.w) X.A (eval b X.env) (fun u s₂=>wpAny (model X.prog X.w) X.A (compareOp op v u) (EP X pins σ Q) X.xe s₂) X.xe s₁) X.xe s
noncomputable abbrev tB (t:TE):TT:=fun σ H Q=>t σ H fun x H1=>∃ c,x= .bl c∧Q c H1
theorem S6 {op:CmpOp} {t:TE} (h:PC X op a b t) (h1:behindInMarks op b=false:=by first | exact nobehind _ (by decide) (by decide) | rfl):PE X (.Compare a [op] [b] pos) t:=fun pins s σ H Q I hw=>wpAny_Compare1 (h pins s σ H Q I hw) h1
theorem KJ {op:CmpOp} {t:TE} (h:PC X op a b t) (h1:behindInMarks op b=false:=by first | exact nobehind _ (by decide) (by decide) | rfl):PT X (.Compare a [op] [b] pos) (tB t):=by
 intro pins s σ H Q I hw
 refine wpAny_isTrue_Compare1 (thn (h pins s σ H _ I hw) fun v s1 h1=>thn h1 fun u s2 h2=>thn h2 fun c s3 ⟨x,H1,I1,r1,q1⟩=>?_) h1
 obtain ⟨d,rfl,q⟩:=q1
 cases r1
 exact wpAny_truthy_bool ⟨H1,I1,q⟩
theorem eE {e:Expr} {t:TE} (h:PE X e t) (he:∀ whole,isTrue e X.env whole=(do let v ← whole;standAt e.pos;holding [v] (truthy v)):=by intro _;rfl):PT X e (tB t):=by
 intro pins s σ H Q I hw
 refine isTrue_plain (thn (h pins s σ H _ I hw) fun v s1 ⟨x,H1,I1,r1,q1⟩=>?_) (he _)
 obtain ⟨d,rfl,q⟩:=q1
 cases r1
 exact wpAny_truthy_bool ⟨H1,I1,q⟩
variable {tA tB':TT} {rest:List Expr}
noncomputable abbrev tAnd (t u:TT):TT:=fun σ H Q=>t σ H fun c H1=>if c=true then u σ H1 Q else Q false H1
noncomputable abbrev tOr (t u:TT):TT:=fun σ H Q=>t σ H fun c H1=>if c=true then Q true H1 else u σ H1 Q
noncomputable abbrev tNot (t:TT):TT:=fun σ H Q=>t σ H fun c H1=>Q (!c) H1
theorem i7 (ha:PT X a tA):PW X (.BoolOp .And [a] pos) tA:=by
 intro wh pins s σ H Q I h
 refine isTrue_and (thn (ha pins s σ H Q I h) fun c s1 e=>?_)
 cases c with
 | true=>exact isTrue_and_nil e
 | false=>exact e
theorem tV (ha:PT X a tA):PW X (.BoolOp .Or [a] pos) tA:=by
 intro wh pins s σ H Q I h
 refine isTrue_or (thn (ha pins s σ H Q I h) fun c s1 e=>?_)
 cases c with
 | false=>exact isTrue_or_nil e
 | true=>exact e
theorem lC (ha:PT X a tA) (hb:PW X (.BoolOp .And (b::rest) pos) tB'):PW X (.BoolOp .And (a::b::rest) pos) (tAnd tA tB'):=by
 intro wh pins s σ H Q I h
 refine isTrue_and (thn (ha pins s σ H _ I h) fun c s1 ⟨H1,I1,q1⟩=>?_)
 cases c with
 | true=>exact hb wh pins s1 σ H1 Q I1 q1
 | false=>exact ⟨H1,I1,q1⟩
theorem rj (ha:PT X a tA) (hb:PW X (.BoolOp .Or (b::rest) pos) tB'):PW X (.BoolOp .Or (a::b::rest) pos) (tOr tA tB'):=by
 intro wh pins s σ H Q I h
 refine isTrue_or (thn (ha pins s σ H _ I h) fun c s1 ⟨H1,I1,q1⟩=>?_)
 cases c with
 | true=>exact ⟨H1,I1,q1⟩
 | false=>exact hb wh pins s1 σ H1 Q I1 q1
theorem lD (ha:PT X a tA):PT X (.UnaryOp .Not a pos) (tNot tA):=by
 intro pins s σ H Q I h
 exact isTrue_not (ha pins s σ H (fun c H1=>Q (!c) H1) I h)
noncomputable abbrev Ul (ta tb:TE):TE:=fun σ H Q=>ta σ H fun x H1=>∃ c,x= .bl c∧if c=true then tb σ H1 Q else Q (.bl false) H1
theorem S3 {op} {t:TE} (h:PE X a t):PE X (.BoolOp op [a] pos) t:=fun pins s σ H Q I hw=>BoolOp_one (h pins s σ H Q I hw)
theorem S7 (ha:PE X a ta) (hb:PE X (.BoolOp .And (b::rest) pos) tb):PE X (.BoolOp .And (a::b::rest) pos) (Ul ta tb):=by
 intro pins s σ H Q I h
 refine BoolOp_and (thn (ha pins s σ H _ I h) fun v s1 ⟨x,H1,I1,r1,q1⟩=>?_)
 obtain ⟨c,rfl,q1⟩:=q1
 cases r1
 refine wpAny_truthy_bool ?_
 cases c with
 | true=>exact hb pins s1 σ H1 Q I1 q1
 | false=>exact ⟨.bl false,H1,I1,rfl,q1⟩
end
noncomputable def SqL (K:PySem.W.Frag) (H:Hp) (a:Addr) (xs:List V):Prop:=
 Rd H a (.lst xs)∨
  ∃ (o:Obj) (its:Array Value) (n:Nat),K.lookup a=some o∧o.cls= .type "list"∧o.dict=none∧o.data= .seq its n∧its.size≤sizeLine∧Vals xs its.toList
noncomputable def SqT (K:PySem.W.Frag) (H:Hp) (a:Addr) (xs:List V):Prop:=
 Rd H a (.tup xs)∨
  ∃ (o:Obj) (its:Array Value) (n:Nat),K.lookup a=some o∧o.cls= .type "tuple"∧o.data= .seq its n∧its.size≤sizeLine∧Vals xs its.toList
noncomputable def absV:Value→Option V
 | .none=>some .non
 | .bool b=>some (.bl b)
 | .int i _=>some (.int i)
 | .str x _=>some (.str x)
 | .bytes b _=>some (.byt b)
 | .float b _=>some (.flt b)
 | .ref a=>some (.ref a)
 | .type n=>some (.ty n)
 | _=>none
theorem RelV.abs {x:V} {u:Value} (r:RelV x u):absV u=some x:=by
 cases x with
 | non=>cases r;rfl
 | bl _=>cases r;rfl
 | int _=>obtain ⟨t,rfl⟩:=r;rfl
 | str _=>obtain ⟨t,rfl⟩:=r;rfl
 | byt _=>obtain ⟨t,rfl⟩:=r;rfl
 | flt _=>obtain ⟨t,rfl⟩:=r;rfl
 | ref _=>cases r;rfl
 | ty _=>cases r;rfl
theorem RelV.inj {x y:V} {u:Value} (r:RelV x u) (q:RelV y u):x=y:=Option.some.inj (r.abs.symm.trans q.abs)
theorem Vals.inj:∀ {xs ys:List V} {us:List Value},Vals xs us→Vals ys us→xs=ys
 | _,_,_,.nil,.nil=>rfl
 | _,_,_,.cons r t,.cons r' t'=>by rw [r.inj r',Vals.inj t t']
section
variable {X:Cx} {pins:List (Addr×Obj)} {σ:St} {H:Hp} {s:Shared} {a:Addr} {xs ys:List V}
theorem SqL.of {K:PySem.W.Frag} (h:H a=some (.lst xs)):SqL K H a xs:= .inl (.inl h)
theorem SqT.of {K:PySem.W.Frag} (h:H a=some (.tup xs)):SqT K H a xs:= .inl (.inl h)
theorem Inv.list (I:Inv X pins σ H s) (h:SqL X.K H a xs):∃ its:List Value,Vals xs its∧PlainL s.heap a its.toArray∧xs.length≤sizeLine:=by
 rcases h with h | ⟨o,its,n,hk,hc,hd,hs,hz,r⟩
 ·obtain ⟨z,its,n,r,e⟩:=h.ok I.hok
  exact ⟨its,r,⟨_,n,e,rfl,rfl,rfl⟩,z⟩
 ·refine ⟨its.toList,r,⟨o,n,I.kIn a o hk,hc,hd,by simpa using hs⟩,?_⟩
  have e:=r.length
  simp only [Array.length_toList] at e
  omega
theorem Inv.tuple (I:Inv X pins σ H s) (h:SqT X.K H a xs):∃ its:List Value,Vals xs its∧IsTup s.heap a its.toArray∧xs.length≤sizeLine:=by
 rcases h with h | ⟨o,its,n,hk,hc,hs,hz,r⟩
 ·obtain ⟨z,its,r,p⟩:=h.ok I.hok
  exact ⟨its,r,p,z⟩
 ·refine ⟨its.toList,r,⟨o,I.kIn a o hk,hc,n,by simpa using hs⟩,?_⟩
  have e:=r.length
  simp only [Array.length_toList] at e
  omega
theorem Inv.list_inj (I:Inv X pins σ H s) (h:SqL X.K H a xs) (h':SqL X.K H a ys):xs=ys:=by
 obtain ⟨its,r,⟨o,n,e,_,_,d⟩,_⟩:=I.list h
 obtain ⟨its',r',⟨o',n',e',_,_,d'⟩,_⟩:=I.list h'
 rw [e] at e';cases e'
 rw [d] at d'
 injection d' with d1 _
 have:its=its':=by simpa using congrArg Array.toList d1
 subst this
 exact r.inj r'
theorem Inv.tuple_inj (I:Inv X pins σ H s) (h:SqT X.K H a xs) (h':SqT X.K H a ys):xs=ys:=by
 obtain ⟨its,r,⟨o,e,_,n,d⟩,_⟩:=I.tuple h
 obtain ⟨its',r',⟨o',e',_,n',d'⟩,_⟩:=I.tuple h'
 rw [e] at e';cases e'
 rw [d] at d'
 injection d' with d1 _
 have:its=its':=by simpa using congrArg Array.toList d1
 subst this
 exact r.inj r'
end
noncomputable abbrev Cx.wish (X:Cx) (E:Value→Shared→Prop):Cx:={X with xe:=E}
noncomputable abbrev Cx.nox (X:Cx):Cx:=X.wish fun _ _=>False
theorem Cx.Ok.wish {X:Cx} (ok:X.Ok) (E:Value→Shared→Prop):(X.wish E).Ok:=
 ⟨ok.mod,ok.kind,ok.glob,ok.blt,ok.above,ok.inj,ok.has,ok.cab,ok.hd,ok.frames,ok.stk,ok.exf,ok.bs,ok.bsz,ok.noex,ok.exfs,ok.funs,ok.frf⟩
theorem Cx.Ok.unwish {X:Cx} {E:Value→Shared→Prop} (ok:(X.wish E).Ok):X.Ok:=
 ⟨ok.mod,ok.kind,ok.glob,ok.blt,ok.above,ok.inj,ok.has,ok.cab,ok.hd,ok.frames,ok.stk,ok.exf,ok.bs,ok.bsz,ok.noex,ok.exfs,ok.funs,ok.frf⟩
section
variable {X:Cx} {pins:List (Addr×Obj)} {σ:St} {H:Hp} {s:Shared} {E:Value→Shared→Prop}
theorem Inv.wish (I:Inv X pins σ H s) (E:Value→Shared→Prop):Inv (X.wish E) pins σ H s:=⟨I.ok.wish E,I.os,I.bare,I.base,I.loc,I.cell,I.free,I.freeC,I.pin,I.hok,I.len⟩
theorem Inv.unwish (I:Inv (X.wish E) pins σ H s):Inv X pins σ H s:=⟨I.ok.unwish,I.os,I.bare,I.base,I.loc,I.cell,I.free,I.freeC,I.pin,I.hok,I.len⟩
theorem SP.unwish {D:Ends} {f:Flow} {s':Shared} (h:SP (X.wish E) pins D f s'):SP X pins D f s':=by
 cases f with
 | next=>obtain ⟨σ',H',I,q⟩:=h;exact ⟨σ',H',I.unwish,q⟩
 | brk=>obtain ⟨σ',H',I,q⟩:=h;exact ⟨σ',H',I.unwish,q⟩
 | cont=>obtain ⟨σ',H',I,q⟩:=h;exact ⟨σ',H',I.unwish,q⟩
 | ret u=>obtain ⟨v,σ',H',I,r,q⟩:=h;exact ⟨v,σ',H',I.unwish,r,q⟩
theorem PSs.nox {st:List Stmt} {t:TS} (h:PSs X.nox st t):PSs X st t:=fun pins s σ H D I hw=>
 wpAny_mono (h pins s σ H D (I.wish _) hw) (fun _ _ q=>q.unwish) fun _ _ z=>False.elim z
end
section
variable {X:Cx} {st:Stmt} {rest:List Stmt} {t u:TS} {e:Expr} {te:TE} {pos:Pos}
noncomputable def R8:TS:=fun D σ H=>D.nx σ H
noncomputable def tSeq (t u:TS):TS:=fun D σ H=>t {D with nx:=u D} σ H
theorem aK:PSs X [] R8:=fun _ _ σ H _ I h=>wpAny_execs_nil ⟨σ,H,I,h⟩
theorem af (h1:PS X st t) (h2:PSs X rest u):PSs X (st::rest) (tSeq t u):=by
 intro pins s σ H D I h
 refine wpAny_execs_cons (thn (h1 pins s σ H {D with nx:=u D} I h) fun f s1 q=>?_)
 cases f with
 | next=>
   obtain ⟨σ',H',I',q⟩:=q
   exact h2 pins s1 σ' H' D I' q
 | ret v=>exact q
 | brk=>exact q
 | cont=>exact q
theorem ai (h1:PS X st t):PSs X [st] t:=by
 intro pins s σ H D I h
 refine wpAny_execs_cons (thn (h1 pins s σ H D I h) fun f s1 q=>?_)
 cases f with
 | next=>exact wpAny_execs_nil q
 | ret v=>exact q
 | brk=>exact q
 | cont=>exact q
theorem Inv.quiet {pins:List (Addr×Obj)} {σ:St} {H:Hp} {s:Shared} (I:Inv X pins σ H s):interactive X.env=false:=by simp [interactive,I.ok.kind]
noncomputable abbrev Uk (te:TE):TS:=fun D σ H=>te σ H fun _ H1=>D.nx σ H1
theorem aZ (he:PE X e te) (hs:swapsWith e none pos.line X.env=pure false:=by rfl):PS X (.Expr e pos) (Uk te):=by
 intro pins s σ H D I h
 exact wpAny_Expr_any (thn (he pins s σ H _ I h) fun v s1 ⟨x,H1,I1,r1,q1⟩=>⟨σ,H1,I1,q1⟩) I.quiet hs
noncomputable abbrev tRet (te:TE):TS:=fun D σ H=>te σ H D.rt
theorem bi (he:PE X e te):PS X (.Return (some e) pos) (tRet te):=by
 intro pins s σ H D I h
 exact wpAny_Return_some (thn (he pins s σ H _ I h) fun v s1 ⟨x,H1,I1,r1,q1⟩=>⟨x,σ,H1,I1,r1,q1⟩)
noncomputable abbrev tIfS (c:TT) (t u:TS):TS:=fun D σ H=>c σ H fun b H1=>if b=true then t D σ H1 else u D σ H1
theorem ci {c:Expr} {a b:List Stmt} {tc:TT} (hc:PT X c tc) (ha:PSs X a t) (hb:PSs X b u):PS X (.If c a b pos) (tIfS tc t u):=by
 intro pins s σ H D I h
 refine wpAny_If (thn (hc pins s σ H _ I h) fun d s1 ⟨H1,I1,q1⟩=>?_)
 cases d with
 | true=>exact ha pins s1 σ H1 D I1 q1
 | false=>exact hb pins s1 σ H1 D I1 q1
end
noncomputable abbrev TG:=V→St→Hp→(St→Hp→Prop)→Prop
noncomputable abbrev TGs:=List V→St→Hp→(St→Hp→Prop)→Prop
noncomputable def PG (X:Cx) (target:Expr) (t:TG):Prop:=
 ∀ (pins:List (Addr×Obj)) (s:Shared) (σ:St) (H:Hp) (v:V) (u:Value) (Q:St→Hp→Prop),Inv X pins σ H s→RelV v u→t v σ H Q→
  wpAny (model X.prog X.w) X.A (assign target X.env u) (fun _ s'=>∃ σ' H',Inv X pins σ' H' s'∧Q σ' H') X.xe s
noncomputable def PGs (X:Cx) (ts:List Expr) (t:TGs):Prop:=
 ∀ (pins:List (Addr×Obj)) (s:Shared) (σ:St) (H:Hp) (vs:List V) (us:List Value) (Q:St→Hp→Prop),Inv X pins σ H s→Vals vs us→t vs σ H Q→
  wpAny (model X.prog X.w) X.A (assignInOrder ((assignEach ts X.env).map (·.2)) us) (fun _ s'=>∃ σ' H',Inv X pins σ' H' s'∧Q σ' H') X.xe s
noncomputable abbrev TSet:=V→V→V→Hp→(Hp→Prop)→Prop
noncomputable def PSet (X:Cx) (t:TSet):Prop:=
 ∀ (pins:List (Addr×Obj)) (s:Shared) (σ:St) (H:Hp) (o i v:V) (ov iv u:Value) (Q:Hp→Prop),Inv X pins σ H s→RelV o ov→RelV i iv→RelV v u→t o i v H Q→
  wpAny (model X.prog X.w) X.A (setItem ov iv u) (fun _ s'=>∃ H',Inv X pins σ H' s'∧Q H') X.xe s
section
variable {X:Cx} {pos:Pos}
noncomputable def LJ (i:Nat):TG:=fun v σ H Q=>Q (σ.set i (some v)) H
theorem av {i:Nat} {x:Str} (hN:X.N.Nodup) (hi:X.N[i]? =some x) (hx:Loc X.env.scope x) (hf:X.fn x=true∨X.env.scope.names.lookup x=some .local:=by first | exact .inl rfl | exact .inr rfl | assumption):PG X (.Name x pos) (LJ i):=by
 intro pins s σ H v u Q I r h
 exact wpAny_assign_Name (yp I hN hi hx r (fun s' I'=>⟨_,H,I',h⟩) hf)
noncomputable def gNil:TGs:=fun vs σ H Q=>vs=[]∧Q σ H
noncomputable def Rb (t:TG) (u:TGs):TGs:=fun vs σ H Q=>∃ v r,vs=v::r∧t v σ H fun σ' H'=>u r σ' H' Q
theorem i9:PGs X [] gNil:=by
 intro pins s σ H vs us Q I r h
 obtain ⟨e,h⟩:=h
 subst e
 cases r
 exact assignInOrder_nil ⟨σ,H,I,h⟩
theorem b7 {e:Expr} {es:List Expr} {t:TG} {u:TGs} (h1:PG X e t) (h2:PGs X es u)
  (hs:(assignEach (e::es) X.env).map (·.2)=assign e X.env::(assignEach es X.env).map (·.2):=by rfl):PGs X (e::es) (Rb t u):=by
 intro pins s σ H vs us Q I r h
 obtain ⟨v,vr,e1,h⟩:=h
 subst e1
 cases r with
 | cons r rr=>
   rw [hs]
   refine assignInOrder_cons (thn (h1 pins s σ H _ _ _ I r h) fun _ s1 ⟨σ1,H1,I1,q1⟩=>?_)
   exact h2 pins s1 σ1 H1 _ _ Q I1 rr q1
noncomputable def gTup (K:PySem.W.Frag) (n:Nat) (t:TGs):TG:=fun v σ H Q=>∃ a xs,v= .ref a∧SqT K H a xs∧xs.length=n∧t xs σ H Q
theorem x6 {es:List Expr} {k:Nat} {t:TGs} {n:Nat} (hc:X.calm=true) (h:PGs X es t)
  (hn:(assignEach es X.env).length=n:=by rfl) (hst:(assignEach es X.env).findIdx? (·.1)=none:=by rfl):PG X (.Tuple es k pos) (gTup X.K n t):=by
 intro pins s σ H v u Q I r hw
 obtain ⟨a,xs,e1,hq,hl,hw⟩:=hw
 subst e1
 cases r
 obtain ⟨its,rv,ht,hz⟩:=I.tuple hq
 refine assign_Tuple_tuple (I.ok.hd hc) ht (by simp [hn,← hl,rv.length]) hst fun h' hx=>?_
 have I1:Inv X pins σ H {s with heap:=h'}:=I.kept (t':=s.toks) fun b o e=>hx b o (Nat.ne_of_lt (Heap.lt_size e)) e
 exact h pins _ σ H xs _ Q I1 (by simpa using rv) hw
noncomputable def gSub (to ti:TE) (t:TSet):TG:=fun v σ H Q=>to σ H fun o H1=>ti σ H1 fun i H2=>t o i v H2 fun H3=>Q σ H3
theorem x8 {o i:Expr} {to ti:TE} {t:TSet} (ho:PE X o to) (hi:PE X i ti) (hs:PSet X t)
  (ha:∀ v,assign (.Subscript o i pos) X.env v=(do
   let ov ← holding [v] (eval o X.env)
   let iv ← holding [v,ov] (eval i X.env)
   standAt pos
   holding [v,ov,iv] (setItem ov iv v)
   release [v,ov,iv] []):=by intro _;rfl):PG X (.Subscript o i pos) (gSub to ti t):=by
 intro pins s σ H v u Q I r h
 rw [ha]
 refine wpAny_bind (wpAny_holding (thn (ho pins s σ H _ I h) fun ov s1 ⟨x,H1,I1,r1,q1⟩=>?_))
 refine wpAny_bind (wpAny_holding (thn (hi pins s1 σ H1 _ I1 q1) fun iv s2 ⟨y,H2,I2,r2,q2⟩=>?_))
 refine wpAny_bind (wpAny_standAt (wpAny_bind (wpAny_holding (thn (hs pins s2 σ H2 x y v ov iv u _ I2 r1 r2 r q2) fun _ s3 ⟨H3,I3,q3⟩=>?_))))
 exact wpAny_release ⟨σ,H3,I3,q3⟩
noncomputable abbrev tAsg (te:TE) (g:TG):TS:=fun D σ H=>te σ H fun x H1=>g x σ H1 D.nx
theorem qz {tg e:Expr} {te:TE} {g:TG} (he:PE X e te) (hg:PG X tg g) (hs:swapsWithSole [tg] e pos.line X.env=pure false:=by rfl) (hw:swappedStores [tg] e X.env=pure none:=by rfl)
  (h1:(assignEach [tg] X.env).map (·.2)=[assign tg X.env]:=by rfl):PS X (.Assign [tg] e pos) (tAsg te g):=by
 intro pins s σ H D I h
 refine wpAny_Assign_stores (thn (he pins s σ H _ I h) fun v s1 ⟨x,H1,I1,r1,q1⟩=>?_) hs hw
 rw [h1]
 exact thn (hg pins s1 σ H1 x v _ I1 r1 q1) fun _ s2 q=>q
theorem aX {i:Nat} {x:Str} {e:Expr} {te:TE} {pos':Pos} (hN:X.N.Nodup) (hi:X.N[i]? =some x) (hx:Loc X.env.scope x) (he:PE X e te) (hs:swapsWith e (some (.Name x pos')) pos.line X.env=pure false:=by rfl) (hf:X.fn x=true∨X.env.scope.names.lookup x=some .local:=by first | exact .inl rfl | exact .inr rfl | assumption):
  PS X (.Assign [.Name x pos'] e pos) (tAsg te (LJ i)):=by
 intro pins s σ H D I h
 refine wpAny_Assign_Name (thn (he pins s σ H _ I h) fun v s1 ⟨y,H1,I1,r1,q1⟩=>?_) hs
 exact yp I1 hN hi hx r1 (fun s2 I2=>⟨_,H1,I2,q1⟩) hf
end
section
variable {X:Cx} {pos:Pos}
noncomputable def R6 (c:TT) (tb:TS):TS:=fun D σ H=>∃ W:Nat→St→Hp→Prop,(∃ m,W m σ H)∧∀ m σ H,W m σ H→
 c σ H fun b H1=>if b=true then ∃ N:St→Hp→Prop,(∀ σ' H',N σ' H'→∃ m',m' < m∧W m' σ' H')∧tb {D with nx:=N,ct:=N,bk:=D.nx} σ H1 else D.nx σ H1
theorem FY {c:Expr} {body:List Stmt} {tc:TT} {tb:TS} (hp:PassesOwn (model X.prog X.w) X.A X.env X.xe) (hc:PT X c tc) (hb:PSs X body tb):PS X (.While c body [] pos) (R6 tc tb):=by
 intro pins s σ H D I h
 obtain ⟨W,⟨m0,w0⟩,turn⟩:=h
 refine wpAny_While (codeAny_whileLoop (fun n s'=>∃ σ' H',Inv X pins σ' H' s'∧W n σ' H') ?_ m0 ⟨σ,H,I,w0⟩)
 rintro n s1 ⟨σ1,H1,I1,w1⟩
 refine wpAny_passesOwn hp (thn (hc pins s1 σ1 H1 _ I1 (turn n σ1 H1 w1)) fun b s2 ⟨H2,I2,q2⟩=>?_)
 cases b with
 | true=>
   obtain ⟨N,hN,q2⟩:=q2
   rw [if_pos rfl]
   refine wpAny_passesOwn hp (thn (hb pins s2 σ1 H2 _ I2 q2) fun f s3 q3=>?_)
   cases f with
   | next=>
     obtain ⟨σ3,H3,I3,n3⟩:=q3
     obtain ⟨m',hm,w3⟩:=hN σ3 H3 n3
     exact ⟨m',hm,σ3,H3,I3,w3⟩
   | cont=>
     obtain ⟨σ3,H3,I3,n3⟩:=q3
     obtain ⟨m',hm,w3⟩:=hN σ3 H3 n3
     exact ⟨m',hm,σ3,H3,I3,w3⟩
   | brk=>exact q3
   | ret v=>exact q3
 | false=>
   rw [if_neg Bool.false_ne_true]
   exact wpAny_execs_nil ⟨σ1,H2,I2,q2⟩
end
structure It where
 go:Nat→Hp→Prop
 yld:Nat→Hp→V→Hp→Prop
 stop:Nat→Hp→Prop
noncomputable def FpOk (X:Cx) (pins:List (Addr×Obj)) (H:Hp) (b:Addr):Prop:=
 H b=none∧b≠X.env.locals∧b∉X.fs∧(b∈X.ex∨X.s₀.heap.objs.size≤b)∧(∀ x c,X.env.cells.lookup x=some c→c≠b)∧∀ p∈X.pn++pins,p.1≠b
theorem Inv.fpOk {X:Cx} {pins:List (Addr×Obj)} {σ:St} {H H':Hp} {s:Shared} {b:Addr} (I:Inv X pins σ H s) (hb:s.heap.objs.size≤b) (hn:H' b=none):FpOk X pins H' b:=by
 refine ⟨hn,Nat.ne_of_gt (Nat.lt_of_lt_of_le I.lt hb),I.nofs hb,.inr (Nat.le_trans I.sz hb),fun x c e z=>?_,fun p hp z=>?_⟩
 ·obtain ⟨v,q⟩:=I.cell x c e
  exact absurd (Nat.lt_of_lt_of_le q.lt (by rw [z];exact hb)) (Nat.lt_irrefl _)
 ·exact absurd (Nat.lt_of_lt_of_le (Heap.lt_size (I.pin p hp).1) (by rw [z];exact hb)) (Nat.lt_irrefl _)
structure Turn (P:Program) (w:World) (K:PySem.W.Frag) (tg:Expr) (J:It) (fp:List Addr) (it:Addr) (tn:Nat→Heap→Prop):Prop where
 mem:it∈fp
 obj:∀ i h,tn i h→∀ b∈fp,∃ o,h.get? b=some o∧∀ v,o.data≠.cell v
 keep:∀ i h h',tn i h→(∀ b∈fp,∀ o,h.get? b=some o→h'.get? b=some o)→tn i h'
 item:∀ (X:Cx),X.prog=P→X.w=w→X.K=K→X.calm=true→∀ (i:Nat) (pins:List (Addr×Obj)) (s:Shared) (σ:St) (H:Hp) (E:Value→Shared→Prop),Inv X pins σ H s→(∀ b∈fp,FpOk X pins H b)→tn i s.heap→J.go i H→
  wpAny (model P w) X.A (pyNext (.ref it)) (fun r s1=>∃ u,r=some u∧
   wpAny (model P w) X.A (letOwnedTupleGo tg (.ref it) u) (fun _ s2=>∃ x H',Inv X pins σ H' s2∧RelV x u∧J.yld i H x H'∧tn (i + 1) s2.heap∧∀ b∈fp,H' b=none) E s1) E s
 done:∀ (X:Cx),X.prog=P→X.w=w→X.K=K→X.calm=true→∀ (i:Nat) (pins:List (Addr×Obj)) (s:Shared) (σ:St) (H:Hp) (E:Value→Shared→Prop),Inv X pins σ H s→(∀ b∈fp,FpOk X pins H b)→tn i s.heap→J.stop i H→
  wpAny (model P w) X.A (pyNext (.ref it)) (fun r s1=>r=none∧Inv X pins σ H s1) E s
 self:∀ (A:Around) (i:Nat) (s:Shared) (Q:Value→Shared→Prop) (E:Value→Shared→Prop),tn i s.heap→Q (.ref it) s→wpAny (model P w) A (pyIter (.ref it)) Q E s
noncomputable abbrev TI:=St→Hp→(It→Hp→Prop)→Prop
noncomputable def PIE (X:Cx) (pins:List (Addr×Obj)) (σ:St) (tg:Expr) (R:It→Hp→Prop) (itv:Value) (s2:Shared):Prop:=
 ∃ (it:Addr) (fp:List Addr) (tn:Nat→Heap→Prop) (J:It) (H':Hp),itv= .ref it∧Inv X pins σ H' s2∧Turn X.prog X.w X.K tg J fp it tn∧tn 0 s2.heap∧(∀ b∈fp,FpOk X pins H' b)∧R J H'
noncomputable def PI (X:Cx) (tg iter:Expr) (wi:TI):Prop:=
 ∀ (pins:List (Addr×Obj)) (s:Shared) (σ:St) (H:Hp) (R:It→Hp→Prop),Inv X pins σ H s→wi σ H R→
  wpAny (model X.prog X.w) X.A (eval iter X.env) (fun v s1=>wpAny (model X.prog X.w) X.A (pyIter v) (PIE X pins σ tg R) X.xe s1) X.xe s
theorem Op {M:Model} {A:Around} {E:Value→Shared→Prop} {s:Shared} {tg:Expr} {it:Addr} {u:Value} {o:Obj} {n:String} {vs:Array Value} {Q:Unit→Shared→Prop} (ho:s.heap.get? it=some o) (hc:o.cls= .type n) (hd:o.data= .fields vs)
  (hn:["enumerate","zip","dict_itemiterator","dict_reverseitemiterator","odict_iterator","itertools.zip_longest","itertools.pairwise"].contains n=false) (hQ:Q () s):wpAny M A (letOwnedTupleGo tg (.ref it) u) Q E s:=by
 unfold letOwnedTupleGo
 cases tg<;>first
  | exact wpAny_pure hQ
  | (cases u<;>first
    | exact wpAny_pure hQ
    | (refine wpAny_bind (wpAny_load ho ?_)
       rw [hc,hd]
       show wpAny M A (if (["enumerate","zip","dict_itemiterator","dict_reverseitemiterator","odict_iterator","itertools.zip_longest","itertools.pairwise"].contains n&&vs[0]? == some (rawInt _))=true then _ else _) Q E s
       rw [if_neg (by intro h;rw [hn,Bool.false_and] at h;cases h)]
       exact wpAny_pure hQ))
noncomputable def Itl (K:PySem.W.Frag) (a:Addr):It:=
 ⟨fun i H=>∃ xs x,SqL K H a xs∧xs[i]? =some x,fun i H x H'=>H'=H∧∀ xs,SqL K H a xs→xs[i]? =some x,fun i H=>∃ xs,SqL K H a xs∧xs.length≤i⟩
noncomputable def Itt (K:PySem.W.Frag) (a:Addr):It:=
 ⟨fun i H=>∃ xs x,SqT K H a xs∧xs[i]? =some x,fun i H x H'=>H'=H∧∀ xs,SqT K H a xs→xs[i]? =some x,fun i H=>∃ xs,SqT K H a xs∧xs.length≤i⟩
noncomputable def Itr (lo:Int) (n:Nat):It:=⟨fun i _=>i < n,fun i H x H'=>H'=H∧x= .int (lo + i),fun i _=>n≤i⟩
theorem JP {P:Program} {w:World} {K:PySem.W.Frag} {tg:Expr} (a it:Addr):Turn P w K tg (Itl K a) [it] it (fun i h=>h.IsListIter it a i) where
 mem:=by simp
 obj:=fun i h st b hb=>by
  have e:b=it:=by simpa using hb
  subst e
  obtain ⟨o,e,c,d⟩:=st
  exact ⟨o,e,fun v z=>by rw [d] at z;cases z⟩
 keep:=fun i h h' st k=>st.at fun o e=>k it (by simp) o e
 item:=by
  intro X hP hw hK hc i pins s σ H E I hf st hg
  subst hP hw hK
  obtain ⟨xs,x,hq,hx⟩:=hg
  obtain ⟨its,rv,p,hz⟩:=I.list hq
  obtain ⟨u,hu,ru⟩:=rv.get hx
  obtain ⟨f0,f1,f2,f3,f4,f5⟩:=hf it (by simp)
  refine wpAny_pyNext_list_item st p.isList (x:=u) (by simpa using hu) fun h' st' sb=>?_
  have I1:Inv X pins σ H {s with heap:=h'}:=I.turned (t':=s.toks) (fun b o hb e=>(sb.2 b hb).trans e) f0 f1 f3 f4 f5
  obtain ⟨o,e,c,d⟩:=id st'
  exact ⟨u,rfl,Op (s:={s with heap:=h'}) e c d (by decide) ⟨x,H,I1,ru,⟨rfl,fun ys hy=>by rw [I.list_inj hy hq];exact hx⟩,st',fun b hb=>(hf b hb).1⟩⟩
 done:=by
  intro X hP hw hK hc i pins s σ H E I hf st hg
  subst hP hw hK
  obtain ⟨xs,hq,hx⟩:=hg
  obtain ⟨its,rv,p,hz⟩:=I.list hq
  obtain ⟨f0,f1,f2,f3,f4,f5⟩:=hf it (by simp)
  have hl:=rv.length
  exact wpAny_pyNext_list_end (I.ok.hd hc) st p.isList (by simp;omega) fun h' eb=>⟨rfl,I.turned (t':=s.toks) (fun b o hb e=>eb b o hb e) f0 f1 f3 f4 f5⟩
 self:=fun _ _ _ _ _ st h=>wpAny_pyIter_listiter st h
theorem GQ {P:Program} {w:World} {K:PySem.W.Frag} {tg:Expr} (a it:Addr):Turn P w K tg (Itt K a) [it] it (fun i h=>h.IsTupleIter it a i) where
 mem:=by simp
 obj:=fun i h st b hb=>by
  have e:b=it:=by simpa using hb
  subst e
  obtain ⟨o,e,c,d⟩:=st
  exact ⟨o,e,fun v z=>by rw [d] at z;cases z⟩
 keep:=fun i h h' st k=>st.at fun o e=>k it (by simp) o e
 item:=by
  intro X hP hw hK hc i pins s σ H E I hf st hg
  subst hP hw hK
  obtain ⟨xs,x,hq,hx⟩:=hg
  obtain ⟨its,rv,p,hz⟩:=I.tuple hq
  obtain ⟨u,hu,ru⟩:=rv.get hx
  obtain ⟨f0,f1,f2,f3,f4,f5⟩:=hf it (by simp)
  refine wpAny_pyNext_tuple_item st (show s.heap.IsTuple a its.toArray from p) (x:=u) (by simpa using hu) fun h' st' sb=>?_
  have I1:Inv X pins σ H {s with heap:=h'}:=I.turned (t':=s.toks) (fun b o hb e=>(sb.2 b hb).trans e) f0 f1 f3 f4 f5
  obtain ⟨o,e,c,d⟩:=id st'
  exact ⟨u,rfl,Op (s:={s with heap:=h'}) e c d (by decide) ⟨x,H,I1,ru,⟨rfl,fun ys hy=>by rw [I.tuple_inj hy hq];exact hx⟩,st',fun b hb=>(hf b hb).1⟩⟩
 done:=by
  intro X hP hw hK hc i pins s σ H E I hf st hg
  subst hP hw hK
  obtain ⟨xs,hq,hx⟩:=hg
  obtain ⟨its,rv,p,hz⟩:=I.tuple hq
  obtain ⟨f0,f1,f2,f3,f4,f5⟩:=hf it (by simp)
  have hl:=rv.length
  exact wpAny_pyNext_tuple_end (I.ok.hd hc) st (show s.heap.IsTuple a its.toArray from p) (by simp;omega) fun h' eb=>⟨rfl,I.turned (t':=s.toks) (fun b o hb e=>eb b o hb e) f0 f1 f3 f4 f5⟩
 self:=fun _ _ _ _ _ st h=>wpAny_pyIter_tupleiter st h
theorem GR {P:Program} {w:World} {K:PySem.W.Frag} {tg:Expr} (it:Addr) (lo:Int) (n:Nat):Turn P w K tg (Itr lo n) [it] it (fun i h=>IsRangeIter h it (lo + (i:Nat) * 1) ((n:Int) - (i:Nat)) 1) where
 mem:=by simp
 obj:=fun i h st b hb=>by
  have e:b=it:=by simpa using hb
  subst e
  exact ⟨_,st,fun v z=>by
   have z':Data.fields _=Data.cell v:=z
   cases z'⟩
 keep:=fun i h h' st k=>k it (by simp) _ st
 item:=by
  intro X hP hw hK hc i pins s σ H E I hf st hg
  subst hP hw hK
  obtain ⟨f0,f1,f2,f3,f4,f5⟩:=hf it (by simp)
  have W:=Walks.range (prog:=X.prog) (w:=X.w) (I.ok.hd hc) it lo 1 n
  refine W.item i s _ _ hg st fun v h' tk hv st' kk=>?_
  obtain ⟨t,rfl⟩:=hv
  have I1:Inv X pins σ H {s with heap:=h',toks:=tk}:=I.turned (fun b o hb e=>kk b o (by simpa using hb) e) f0 f1 f3 f4 f5
  refine ⟨_,rfl,Op (s:={s with heap:=h',toks:=tk}) (n:="range_iterator") st' rfl rfl (by decide) ⟨.int (lo + i),H,I1,⟨t,?_⟩,⟨rfl,rfl⟩,st',fun b hb=>(hf b hb).1⟩⟩
  rw [Int.mul_one]
 done:=by
  intro X hP hw hK hc i pins s σ H E I hf st hg
  subst hP hw hK
  obtain ⟨f0,f1,f2,f3,f4,f5⟩:=hf it (by simp)
  exact wpAny_pyNext_range_end (I.ok.hd hc) st (by have:n≤i:=hg;omega) fun h' eb=>⟨rfl,I.turned (t':=s.toks) (fun b o hb e=>eb b o hb e) f0 f1 f3 f4 f5⟩
 self:=fun _ _ _ _ _ st h=>wpAny_pyIter_rangeiter st h
section
variable {X:Cx} {tg:Expr}
noncomputable abbrev Tv (K:PySem.W.Frag) (tl:TE):TI:=fun σ H R=>tl σ H fun x H1=>∃ a,x= .ref a∧(∃ xs,SqL K H1 a xs)∧R (Itl K a) H1
noncomputable abbrev iTup (K:PySem.W.Frag) (tl:TE):TI:=fun σ H R=>tl σ H fun x H1=>∃ a,x= .ref a∧(∃ xs,SqT K H1 a xs)∧R (Itt K a) H1
theorem Qp {l:Expr} {tl:TE} (hl:PE X l tl):PI X tg l (Tv X.K tl):=by
 intro pins s σ H R I h
 refine thn (hl pins s σ H _ I h) fun v s1 ⟨x,H1,I1,r1,q1⟩=>?_
 obtain ⟨a,e,⟨xs,hq⟩,q⟩:=q1
 subst e
 cases r1
 obtain ⟨its,rv,p,hz⟩:=I1.list hq
 refine wpAny_pyIter_list p.isList ?_
 refine ⟨s1.heap.objs.size,[s1.heap.objs.size],_,_,H1,rfl,I1.kept (t':=s1.toks) fun b o e=>Heap.get?_push_of_some _ e,JP a _,⟨_,Heap.get?_push_size _ rfl,rfl,rfl⟩,fun b hb=>?_,q⟩
 have e:b=s1.heap.objs.size:=by simpa using hb
 subst e
 exact I1.fpOk (Nat.le_refl _) (I1.hok.fresh (Nat.le_refl _))
theorem S1 {l:Expr} {tl:TE} (hl:PE X l tl):PI X tg l (iTup X.K tl):=by
 intro pins s σ H R I h
 refine thn (hl pins s σ H _ I h) fun v s1 ⟨x,H1,I1,r1,q1⟩=>?_
 obtain ⟨a,e,⟨xs,hq⟩,q⟩:=q1
 subst e
 cases r1
 obtain ⟨its,rv,p,hz⟩:=I1.tuple hq
 refine wpAny_pyIter_tuple (show s1.heap.IsTuple a its.toArray from p) ?_
 refine ⟨s1.heap.objs.size,[s1.heap.objs.size],_,_,H1,rfl,I1.kept (t':=s1.toks) fun b o e=>Heap.get?_push_of_some _ e,GQ a _,⟨_,Heap.get?_push_size _ rfl,rfl,rfl⟩,fun b hb=>?_,q⟩
 have e:b=s1.heap.objs.size:=by simpa using hb
 subst e
 exact I1.fpOk (Nat.le_refl _) (I1.hok.fresh (Nat.le_refl _))
theorem NL {pins:List (Addr×Obj)} {σ:St} {H:Hp} {s:Shared} {R:It→Hp→Prop} {E:Value→Shared→Prop} {lo hi:Int} {t u v:Tok} {tk:Nat} (I:Inv X pins σ H s) (h1: -(2 ^ 62)≤lo) (h2:lo < 2 ^ 62) (h3: -(2 ^ 62)≤hi) (h4:hi < 2 ^ 62)
  (q:R (Itr lo (hi - lo).toNat) H):wpAny (model X.prog X.w) X.A (pyIter (.ref s.heap.objs.size)) (PIE X pins σ tg R) E {s with heap:=s.heap.push {cls:= .type "range",data:= .fields #[.int lo t,.int hi u,.int 1 v]},toks:=tk}:=by
 refine wpAny_pyIter_range (IsRange.new ..) (small_one h1 h2 h3 h4) ?_
 have I1:Inv X pins σ H {s with heap:=s.heap.push {cls:= .type "range",data:= .fields #[.int lo t,.int hi u,.int 1 v]},toks:=tk}:=I.kept fun b o e=>Heap.get?_push_of_some _ e
 refine ⟨(s.heap.push {cls:= .type "range",data:= .fields #[.int lo t,.int hi u,.int 1 v]}).objs.size,[(s.heap.push {cls:= .type "range",data:= .fields #[.int lo t,.int hi u,.int 1 v]}).objs.size],_,_,H,rfl,
  I1.kept (t':=tk) fun b o e=>Heap.get?_push_of_some _ e,GR _ lo (hi - lo).toNat,?_,fun b hb=>?_,q⟩
 ·have e1:lo + ((0:Nat):Int) * 1=lo:=by simp
  have e2:(((hi - lo).toNat:Nat):Int) - ((0:Nat):Int)=Builtin.Range.rangeSize lo hi 1:=by rw [rangeSize_one];split<;>omega
  show IsRangeIter _ _ (lo + ((0:Nat):Int) * 1) ((((hi - lo).toNat:Nat):Int) - ((0:Nat):Int)) 1
  rw [e1,e2]
  exact Heap.get?_push_size _ rfl
 ·have e:b=(s.heap.push {cls:= .type "range",data:= .fields #[.int lo t,.int hi u,.int 1 v]}).objs.size:=by simpa using hb
  subst e
  exact I1.fpOk (Nat.le_refl _) (I1.hok.fresh (Nat.le_refl _))
noncomputable abbrev UM (ta:TA):TI:=fun σ H R=>ta σ H fun vs H1=>∃ j:Int,vs=[.int j]∧-(2 ^ 62)≤j∧j < 2 ^ 62∧R (Itr 0 j.toNat) H1
theorem cx {a:Expr} {ta:TA} {p pos:Pos} (hg:Gl X "range") (hm:X.mg "range"=none) (ha:PA X [a] ta) (hs:starEach [a] X.env=[(false,eval a X.env)]:=by rfl):PI X tg (.Call (.Name "range" p) [a] [] pos) (UM ta):=by
 intro pins s σ H R I h
 refine Call_ (lM I hg hm boot_range (PyProof.Rows.callWith_type1 (thn (ha pos pins s σ H _ I h) fun us s1 ⟨vs,H1,I1,r1,q1⟩=>?_) hs rfl))
 obtain ⟨j,e,q1,q2,q⟩:=q1
 subst e
 cases r1 with
 | cons r rr=>
   cases rr
   obtain ⟨t,rfl⟩:=r
   exact call_range_1 (NL I1 (by omega) (by omega) q1 q2 (by simpa using q))
noncomputable def tFor (wi:TI) (g:TG) (tb:TS):TS:=fun D σ H=>wi σ H fun J H1=>∃ W:Nat→Nat→St→Hp→Prop,(∃ m,W 0 m σ H1)∧∀ i m σ H,W i m σ H→
 (J.stop i H∧D.nx σ H)∨(J.go i H∧∃ N:St→Hp→Prop,(∀ σ' H',N σ' H'→∃ m',m' < m∧W (i + 1) m' σ' H')∧∀ x H',J.yld i H x H'→g x σ H' fun σ2 H2=>tb {D with nx:=N,ct:=N,bk:=D.nx} σ2 H2)
noncomputable def A9 (fp:List Addr) (h:Heap):List (Addr×Obj):=fp.filterMap fun b=>(h.get? b).map fun o=>(b,o)
theorem kN {fp:List Addr} {h:Heap} {b:Addr} {o:Obj} (hb:b∈fp) (e:h.get? b=some o):(b,o)∈A9 fp h:=List.mem_filterMap.mpr ⟨b,hb,by rw [e];rfl⟩
theorem KS {fp:List Addr} {h:Heap} {p:Addr×Obj} (hp:p∈A9 fp h):p.1∈fp∧h.get? p.1=some p.2:=by
 obtain ⟨b,hb,e⟩:=List.mem_filterMap.mp hp
 cases q:h.get? b with
 | none=>rw [q] at e;cases e
 | some o=>
   rw [q] at e
   have e':(b,o)=p:=Option.some.inj e
   subst e'
   exact ⟨hb,q⟩
theorem Inv.pinned {pins:List (Addr×Obj)} {σ:St} {H:Hp} {s:Shared} {fp:List Addr} (I:Inv X pins σ H s) (hf:∀ b∈fp,FpOk X pins H b) (ho:∀ b∈fp,∃ o,s.heap.get? b=some o∧∀ v,o.data≠.cell v):Inv X (pins++A9 fp s.heap) σ H s:=
 I.pins_of fun p hp=>(List.mem_append.mp hp).elim (fun z=>I.pin p (List.mem_append_right _ z)) fun z=>by
  obtain ⟨hb,e⟩:=KS z
  obtain ⟨f0,f1,f2,_⟩:=hf p.1 hb
  obtain ⟨o,e',d⟩:=ho p.1 hb
  rw [e] at e';cases e'
  exact ⟨e,f0,f1,f2,d⟩
theorem Inv.unpinned {pins pl:List (Addr×Obj)} {σ:St} {H:Hp} {s:Shared} (I:Inv X (pins++pl) σ H s):Inv X pins σ H s:=I.pins_of fun p hp=>I.pin p (List.mem_append_right _ (List.mem_append_left _ hp))
theorem gi {iter:Expr} {body:List Stmt} {wi:TI} {g:TG} {tb:TS} {pos:Pos} (hp:PassesOwn (model X.prog X.w) X.A X.env X.xe) (hc:X.calm=true) (hi:PI X tg iter wi) (hg:PG X tg g) (hb:PSs X body tb)
  (hs:∀ x,foldedSetIterable iter X.env x=pure x:=by intro _;rfl):PS X (.For tg iter body [] pos) (tFor wi g tb):=by
 intro pins s σ H D I h
 refine wpAny_For (thn (hi pins s σ H _ I h) fun v s1 h1=>thn h1 fun itv s2 h2=>?_) hs
 obtain ⟨it,fp,tn,J,H2,e,I2,T,st2,f2,W,⟨m0,w0⟩,turn⟩:=h2
 subst e
 have stat:∀ {H':Hp},(∀ b∈fp,H' b=none)→∀ b∈fp,FpOk X pins H' b:=fun hn b hb=>⟨hn b hb,(f2 b hb).2⟩
 refine codeAny_forLoop_any (fun n s'=>∃ i σ' H',Inv X pins σ' H' s'∧tn i s'.heap∧(∀ b∈fp,H' b=none)∧W i n σ' H') ?_ m0 ⟨0,σ,H2,I2,st2,fun b hb=>(f2 b hb).1,w0⟩
 rintro n s3 ⟨i,σ3,H3,I3,st3,fr3,w3⟩
 rcases turn i n σ3 H3 w3 with ⟨stop,qn⟩ | ⟨go,N,hN,step⟩
 ·refine wpAny_passesOwn hp (thn (T.done X rfl rfl rfl hc i pins s3 σ3 H3 X.xe I3 (stat fr3) st3 stop) fun r s4 ⟨hr,I4⟩=>?_)
  subst hr
  exact wpAny_execs_nil ⟨σ3,H3,I4,qn⟩
 ·refine wpAny_passesOwn hp (thn (T.item X rfl rfl rfl hc i pins s3 σ3 H3 X.xe I3 (stat fr3) st3 go) fun r s4 ⟨u,hr,h4⟩=>?_)
  subst hr
  refine wpAny_passesOwn hp (thn h4 fun _ s5 ⟨x,H5,I5,r5,y5,st5,fr5⟩=>?_)
  have I5':=I5.pinned (stat fr5) (T.obj _ _ st5)
  refine wpAny_passesOwn hp (thn (hg _ s5 σ3 H5 x u _ I5' r5 (step x H5 y5)) fun _ s6 ⟨σ6,H6,I6,q6⟩=>?_)
  refine wpAny_passesOwn hp (thn (hb _ s6 σ6 H6 _ I6 q6) fun f s7 q7=>?_)
  have again:∀ {σ7:St} {H7:Hp},Inv X (pins++A9 fp s5.heap) σ7 H7 s7→N σ7 H7→∃ m,m < n∧∃ i σ' H',Inv X pins σ' H' s7∧tn i s7.heap∧(∀ b∈fp,H' b=none)∧W i m σ' H':=fun {σ7 H7} I7 n7=>by
   obtain ⟨m',hm,w7⟩:=hN σ7 H7 n7
   refine ⟨m',hm,i + 1,σ7,H7,I7.unpinned,T.keep _ _ _ st5 fun b hb o e=>(I7.pin (b,o) (List.mem_append_right _ (List.mem_append_right _ (kN hb e)))).1,fun b hb=>?_,w7⟩
   obtain ⟨o,e,d⟩:=T.obj _ _ st5 b hb
   exact (I7.pin (b,o) (List.mem_append_right _ (List.mem_append_right _ (kN hb e)))).2.1
  cases f with
  | next=>obtain ⟨σ7,H7,I7,n7⟩:=q7;exact again I7 n7
  | cont=>obtain ⟨σ7,H7,I7,n7⟩:=q7;exact again I7 n7
  | brk=>obtain ⟨σ7,H7,I7,q7⟩:=q7;exact ⟨σ7,H7,I7.unpinned,q7⟩
  | ret v=>obtain ⟨x7,σ7,H7,I7,r7,q7⟩:=q7;exact ⟨x7,σ7,H7,I7.unpinned,r7,q7⟩
end
theorem oE {K:PySem.W.Frag} {a:Addr} {xs:List V} {g:TG} {tb:TS} {D:Ends} {σ:St} {H:Hp} (Pv:Nat→St→Hp→Prop) (h0:Pv 0 σ H) (hl:∀ i σ H,i≤xs.length→Pv i σ H→SqL K H a xs)
  (hs:∀ i x σ H,xs[i]? =some x→Pv i σ H→g x σ H fun σ2 H2=>tb {D with nx:=Pv (i + 1),ct:=Pv (i + 1),bk:=D.nx} σ2 H2) (hd:∀ σ H,Pv xs.length σ H→D.nx σ H):
  ∃ W:Nat→Nat→St→Hp→Prop,(∃ m,W 0 m σ H)∧∀ i m σ H,W i m σ H→
    ((Itl K a).stop i H∧D.nx σ H)∨((Itl K a).go i H∧∃ N:St→Hp→Prop,(∀ σ' H',N σ' H'→∃ m',m' < m∧W (i + 1) m' σ' H')∧∀ x H',(Itl K a).yld i H x H'→g x σ H' fun σ2 H2=>tb {D with nx:=N,ct:=N,bk:=D.nx} σ2 H2):=by
 refine ⟨fun i m σ H=>m=xs.length - i∧i≤xs.length∧Pv i σ H,⟨xs.length,by simp,Nat.zero_le _,h0⟩,?_⟩
 rintro i m σ H ⟨rfl,hi,p⟩
 have q:=hl i σ H hi p
 by_cases hlt:i < xs.length
 ·refine .inr ⟨⟨xs,xs[i],q,by simp [hlt]⟩,Pv (i + 1),fun σ' H' p'=>⟨xs.length - (i + 1),by omega,rfl,hlt,p'⟩,fun x H' y=>?_⟩
  obtain ⟨e,y⟩:=y
  subst e
  exact hs i x σ _ (y xs q) p
 ·have e:i=xs.length:=by omega
  subst e
  exact .inl ⟨⟨xs,q,Nat.le_refl _⟩,hd σ H p⟩
theorem zL {K:PySem.W.Frag} {a:Addr} {xs:List V} {g:TG} {tb:TS} {D:Ends} {σ:St} {H:Hp} (Pv:Nat→St→Hp→Prop) (h0:Pv 0 σ H) (hl:∀ i σ H,i≤xs.length→Pv i σ H→SqT K H a xs)
  (hs:∀ i x σ H,xs[i]? =some x→Pv i σ H→g x σ H fun σ2 H2=>tb {D with nx:=Pv (i + 1),ct:=Pv (i + 1),bk:=D.nx} σ2 H2) (hd:∀ σ H,Pv xs.length σ H→D.nx σ H):
  ∃ W:Nat→Nat→St→Hp→Prop,(∃ m,W 0 m σ H)∧∀ i m σ H,W i m σ H→
    ((Itt K a).stop i H∧D.nx σ H)∨((Itt K a).go i H∧∃ N:St→Hp→Prop,(∀ σ' H',N σ' H'→∃ m',m' < m∧W (i + 1) m' σ' H')∧∀ x H',(Itt K a).yld i H x H'→g x σ H' fun σ2 H2=>tb {D with nx:=N,ct:=N,bk:=D.nx} σ2 H2):=by
 refine ⟨fun i m σ H=>m=xs.length - i∧i≤xs.length∧Pv i σ H,⟨xs.length,by simp,Nat.zero_le _,h0⟩,?_⟩
 rintro i m σ H ⟨rfl,hi,p⟩
 have q:=hl i σ H hi p
 by_cases hlt:i < xs.length
 ·refine .inr ⟨⟨xs,xs[i],q,by simp [hlt]⟩,Pv (i + 1),fun σ' H' p'=>⟨xs.length - (i + 1),by omega,rfl,hlt,p'⟩,fun x H' y=>?_⟩
  obtain ⟨e,y⟩:=y
  subst e
  exact hs i x σ _ (y xs q) p
 ·have e:i=xs.length:=by omega
  subst e
  exact .inl ⟨⟨xs,q,Nat.le_refl _⟩,hd σ H p⟩
theorem iT {lo:Int} {n:Nat} {g:TG} {tb:TS} {D:Ends} {σ:St} {H:Hp} (Pv:Nat→St→Hp→Prop) (h0:Pv 0 σ H)
  (hs:∀ i σ H,i < n→Pv i σ H→g (.int (lo + i)) σ H fun σ2 H2=>tb {D with nx:=Pv (i + 1),ct:=Pv (i + 1),bk:=D.nx} σ2 H2) (hd:∀ σ H,Pv n σ H→D.nx σ H):
  ∃ W:Nat→Nat→St→Hp→Prop,(∃ m,W 0 m σ H)∧∀ i m σ H,W i m σ H→
    ((Itr lo n).stop i H∧D.nx σ H)∨((Itr lo n).go i H∧∃ N:St→Hp→Prop,(∀ σ' H',N σ' H'→∃ m',m' < m∧W (i + 1) m' σ' H')∧∀ x H',(Itr lo n).yld i H x H'→g x σ H' fun σ2 H2=>tb {D with nx:=N,ct:=N,bk:=D.nx} σ2 H2):=by
 refine ⟨fun i m σ H=>m=n - i∧i≤n∧Pv i σ H,⟨n,by simp,Nat.zero_le _,h0⟩,?_⟩
 rintro i m σ H ⟨rfl,hi,p⟩
 by_cases hlt:i < n
 ·refine .inr ⟨hlt,Pv (i + 1),fun σ' H' p'=>⟨n - (i + 1),by omega,rfl,hlt,p'⟩,fun x H' y=>?_⟩
  obtain ⟨e,y⟩:=y
  subst e y
  exact hs i σ _ hlt p
 ·have e:i=n:=by omega
  subst e
  exact .inl ⟨Nat.le_refl _,hd σ H p⟩
noncomputable abbrev R2:=V→V→Hp→VK→Prop
noncomputable def OpR (X:Cx) (f:Value→Value→Sem Value) (r:R2):Prop:=
 ∀ (pins:List (Addr×Obj)) (s:Shared) (σ:St) (H:Hp) (x y:V) (v u:Value) (Q:VK),Inv X pins σ H s→RelV x v→RelV y u→r x y H Q→
  wpAny (model X.prog X.w) X.A (f v u) (EP X pins σ Q) X.xe s
noncomputable def nj (X:Cx) (f:Value) (r:List V→Hp→VK→Prop):Prop:=
 ∀ (pins:List (Addr×Obj)) (s:Shared) (σ:St) (H:Hp) (xs:List V) (us:List Value) (Q:VK),Inv X pins σ H s→Vals xs us→r xs H Q→
  wpAny (model X.prog X.w) X.A (call f us) (EP X pins σ Q) X.xe s
noncomputable abbrev tOp (r:R2) (ta tb:TE):TE:=fun σ H Q=>ta σ H fun x H1=>tb σ H1 fun y H2=>r x y H2 Q
noncomputable def rI (C:Int→Int→Prop) (g:Int→Int→V):R2:=fun x y H Q=>∃ i j,x= .int i∧y= .int j∧C i j∧Q (g i j) H
noncomputable def rI0 (g:Int→Int→V):R2:=fun x y H Q=>∃ i j,x= .int i∧y= .int j∧Q (g i j) H
section
variable {X:Cx} {a b c:Expr} {ta tb tc:TE} {pos:Pos}
theorem binT (ha:PE X a ta) (hb:PE X b tb) {pins:List (Addr×Obj)} {s:Shared} {σ:St} {H:Hp} {R:V→V→Hp→Prop} (I:Inv X pins σ H s)
  (h:ta σ H fun x H1=>tb σ H1 fun y H2=>R x y H2) {Q:Value→Shared→Prop} {f:Value→Value→Sem Value}
  (hf:∀ v u s2 x y H2,Inv X pins σ H2 s2→RelV x v→RelV y u→R x y H2→wpAny (model X.prog X.w) X.A (f v u) Q X.xe s2):
  wpAny (model X.prog X.w) X.A (eval a X.env) (fun v s₁=>wpAny (model X.prog X.w) X.A (eval b X.env) (fun u s₂=>wpAny (model X.prog X.w) X.A (f v u) Q X.xe s₂) X.xe s₁) X.xe s:=by
 refine thn (ha pins s σ H _ I h) fun v s1 ⟨x,H1,I1,r1,q1⟩=>?_
 refine thn (hb pins s1 σ H1 _ I1 q1) fun u s2 ⟨y,H2,I2,r2,q2⟩=>?_
 exact hf v u s2 x y H2 I2 r1 r2 q2
theorem aB {op:Operator} {r:R2} (ho:OpR X (binaryOp op) r) (ha:PE X a ta) (hb:PE X b tb):PE X (.BinOp a op b pos) (tOp r ta tb):=by
 intro pins s σ H Q I h
 exact wpAny_BinOp (binT ha hb I h fun v u s2 x y H2 I2 rx ry q=>ho pins s2 σ H2 x y v u Q I2 rx ry q)
theorem opI {f:Value→Value→Sem Value} {C:Int→Int→Prop} {g:Int→Int→Int}
  (rule:∀ (i j:Int) (t u:Tok) (s:Shared) (Q:Value→Shared→Prop) (E:Value→Shared→Prop),C i j→Q (.int (g i j) s.toks) {s with toks:=s.toks + 1}→wpAny (model X.prog X.w) X.A (f (.int i t) (.int j u)) Q E s):
  OpR X f (rI C fun i j=> .int (g i j)):=by
 intro pins s σ H x y v u Q I rx ry h
 obtain ⟨i,j,rfl,rfl,hc,q⟩:=h
 obtain ⟨t,rfl⟩:=rx
 obtain ⟨t',rfl⟩:=ry
 exact rule i j t t' s _ _ hc ⟨.int (g i j),H,I.tok _,⟨_,rfl⟩,q⟩
theorem opI0 {f:Value→Value→Sem Value} {g:Int→Int→Int}
  (rule:∀ (i j:Int) (t u:Tok) (s:Shared) (Q:Value→Shared→Prop) (E:Value→Shared→Prop),Q (.int (g i j) s.toks) {s with toks:=s.toks + 1}→wpAny (model X.prog X.w) X.A (f (.int i t) (.int j u)) Q E s):
  OpR X f (rI0 fun i j=> .int (g i j)):=by
 intro pins s σ H x y v u Q I rx ry h
 obtain ⟨i,j,rfl,rfl,q⟩:=h
 obtain ⟨t,rfl⟩:=rx
 obtain ⟨t',rfl⟩:=ry
 exact rule i j t t' s _ _ ⟨.int (g i j),H,I.tok _,⟨_,rfl⟩,q⟩
theorem opB0 {f:Value→Value→Sem Value} {g:Int→Int→Bool}
  (rule:∀ (i j:Int) (t u:Tok) (s:Shared) (Q:Value→Shared→Prop) (E:Value→Shared→Prop),Q (.bool (g i j)) s→wpAny (model X.prog X.w) X.A (f (.int i t) (.int j u)) Q E s):
  OpR X f (rI0 fun i j=> .bl (g i j)):=by
 intro pins s σ H x y v u Q I rx ry h
 obtain ⟨i,j,rfl,rfl,q⟩:=h
 obtain ⟨t,rfl⟩:=rx
 obtain ⟨t',rfl⟩:=ry
 exact rule i j t t' s _ _ ⟨.bl (g i j),H,I,rfl,q⟩
noncomputable def CDiv (i j:Int):Prop:=0 < j∧j < 1073741824
noncomputable def US (i j:Int):Prop:=j≠0∧j.natAbs < 1073741824
noncomputable def CPow (i j:Int):Prop:=0≤j∧j≤1000000∧i.natAbs < 2 ^ 64
noncomputable def CMul (i j:Int):Prop:=(-(2 ^ 64) < i∧i < 2 ^ 64)∨(-(2 ^ 64) < j∧j < 2 ^ 64)
theorem CMul.ok {i j:Int} (h:CMul i j):IntMulOk i j:=by
 rcases h with ⟨h1,h2⟩ | ⟨h1,h2⟩
 ·exact .of_left (intBits_le_64 h1 h2)
 ·exact .of_right (intBits_le_64 h1 h2)
theorem c6:OpR X (binaryOp .Add) (rI0 fun i j=> .int (i + j)):=opI0 fun _ _ _ _ _ _ _ q=>add_int q
theorem ud:OpR X (binaryOp .Sub) (rI0 fun i j=> .int (i - j)):=opI0 fun _ _ _ _ _ _ _ q=>sub_int q
theorem uf:OpR X (binaryOp .Mult) (rI CMul fun i j=> .int (i * j)):=opI fun _ _ _ _ _ _ _ hc q=>mul_int q hc.ok
theorem gI:OpR X (binaryOp .FloorDiv) (rI CDiv fun i j=> .int (i / j)):=opI fun i j _ _ _ _ _ hc q=>by
 have h1:(0:Int) < j:=hc.1
 have h2:j < 1073741824:=hc.2
 exact floordiv_int (by omega) (by rw [Int.fdiv_eq_ediv_of_nonneg i (by omega)];exact q) (.inl (PyProof.noPylong_small (by omega)))
theorem ck:OpR X (binaryOp .Mod) (rI (fun _ j=>0 < j) fun i j=> .int (i % j)):=opI fun i j _ _ _ _ _ hc q=>by
 have h1:(0:Int) < j:=hc
 exact mod_int' (by omega) (by rw [Int.fmod_eq_emod_of_nonneg i (by omega)];exact q)
theorem S9:OpR X (binaryOp .Pow) (rI CPow fun i j=> .int (i ^ j.toNat)):=opI fun _ _ _ _ _ _ _ hc q=>pow_int_small hc.1 hc.2.1 hc.2.2 q
end
noncomputable def scal:V→V→Bool
 | .non,.non=>true | .non,.int _=>true | .int _,.non=>true | .non,.bl _=>true | .bl _,.non=>true | .non,.str _=>true | .str _,.non=>true
 | .int _,.int _=>true | .bl _,.bl _=>true | .str _,.str _=>true | .byt _,.byt _=>true
 | .int _,.str _=>true | .str _,.int _=>true | .bl _,.str _=>true | .str _,.bl _=>true
 | _,_=>false
noncomputable def rEq:R2:=fun x y H Q=>scal x y=true∧Q (.bl (decide (x=y))) H
noncomputable def rNe:R2:=fun x y H Q=>scal x y=true∧Q (.bl (!decide (x=y))) H
theorem LY {i j:Int}:decide (V.int i=V.int j)=(i == j):=by
 rw [Bool.eq_iff_iff]
 simp
theorem Pg {i j:Bool}:decide (V.bl i=V.bl j)=(i == j):=by
 rw [Bool.eq_iff_iff]
 simp
theorem LX {i j:Str}:decide (V.str i=V.str j)=(i == j):=by
 rw [Bool.eq_iff_iff]
 simp
theorem LZ {i j:Array UInt8}:decide (V.byt i=V.byt j)=(i.toList == j.toList):=by
 rw [Bool.eq_iff_iff]
 cases i
 cases j
 simp
section
variable {X:Cx} {a b c:Expr} {ta tb tc:TE} {pos:Pos}
theorem cu {pins:List (Addr×Obj)} {σ:St} {H:Hp} {s:Shared} {Q:VK} {k k':Bool} (I:Inv X pins σ H s) (q:Q (.bl k) H) (e:k=k'):EP X pins σ Q (.bool k') s:=by
 subst e
 exact ⟨.bl k,H,I,rfl,q⟩
theorem io:OpR X (compareOp .Eq) rEq:=by
 intro pins s σ H x y v u Q I rx ry h
 obtain ⟨hs,q⟩:=h
 cases x with
 | non=>
   cases rx
   cases y with
   | non=>cases ry;exact PySem.EqNone.eq_none_none (cu I q (by simp))
   | bl j=>cases ry;exact PySem.EqNone.eq_none_bool (cu I q (by simp))
   | int j=>obtain ⟨t',rfl⟩:=ry;exact PySem.EqNone.eq_none_int (cu I q (by simp))
   | str j=>obtain ⟨t',rfl⟩:=ry;exact PySem.EqNone.eq_none_str (cu I q (by simp))
   | _=>exact absurd (show false=true from hs) Bool.false_ne_true
 | bl i=>
   cases rx
   cases y with
   | non=>cases ry;exact PySem.EqNone.eq_bool_none (cu I q (by simp))
   | bl j=>cases ry;exact eq_bool (cu I q Pg)
   | str j=>obtain ⟨t',rfl⟩:=ry;exact PySem.EqMixed.eq_bool_str (cu I q (by simp))
   | _=>exact absurd (show false=true from hs) Bool.false_ne_true
 | int i=>
   obtain ⟨t,rfl⟩:=rx
   cases y with
   | non=>cases ry;exact PySem.EqNone.eq_int_none (cu I q (by simp))
   | int j=>obtain ⟨t',rfl⟩:=ry;exact eq_int (cu I q LY)
   | str j=>obtain ⟨t',rfl⟩:=ry;exact PySem.EqMixed.eq_int_str (cu I q (by simp))
   | _=>exact absurd (show false=true from hs) Bool.false_ne_true
 | str i=>
   obtain ⟨t,rfl⟩:=rx
   cases y with
   | non=>cases ry;exact PySem.EqNone.eq_str_none (cu I q (by simp))
   | bl j=>cases ry;exact PySem.EqMixed.eq_str_bool (cu I q (by simp))
   | int j=>obtain ⟨t',rfl⟩:=ry;exact PySem.EqMixed.eq_str_int (cu I q (by simp))
   | str j=>obtain ⟨t',rfl⟩:=ry;exact eq_str (cu I q LX)
   | _=>exact absurd (show false=true from hs) Bool.false_ne_true
 | byt i=>
   obtain ⟨t,rfl⟩:=rx
   cases y with
   | byt j=>obtain ⟨t',rfl⟩:=ry;exact PySem.W.eq_bytes (cu I q LZ)
   | _=>exact absurd (show false=true from hs) Bool.false_ne_true
 | _=>cases y<;>exact absurd (show false=true from hs) Bool.false_ne_true
theorem UE:OpR X (compareOp .NotEq) rNe:=by
 intro pins s σ H x y v u Q I rx ry h
 obtain ⟨hs,q⟩:=h
 cases x with
 | non=>
   cases rx
   cases y with
   | non=>cases ry;exact PySem.EqNone.ne_none_none (cu I q (by simp))
   | bl j=>cases ry;exact PySem.EqNone.ne_none_bool (cu I q (by simp))
   | int j=>obtain ⟨t',rfl⟩:=ry;exact PySem.EqNone.ne_none_int (cu I q (by simp))
   | str j=>obtain ⟨t',rfl⟩:=ry;exact PySem.EqNone.ne_none_str (cu I q (by simp))
   | _=>exact absurd (show false=true from hs) Bool.false_ne_true
 | bl i=>
   cases rx
   cases y with
   | non=>cases ry;exact PySem.EqNone.ne_bool_none (cu I q (by simp))
   | bl j=>cases ry;exact ne_bool (cu I q (congrArg not Pg))
   | str j=>obtain ⟨t',rfl⟩:=ry;exact PySem.EqMixed.ne_bool_str (cu I q (by simp))
   | _=>exact absurd (show false=true from hs) Bool.false_ne_true
 | int i=>
   obtain ⟨t,rfl⟩:=rx
   cases y with
   | non=>cases ry;exact PySem.EqNone.ne_int_none (cu I q (by simp))
   | int j=>obtain ⟨t',rfl⟩:=ry;exact ne_int (cu I q (congrArg not LY))
   | str j=>obtain ⟨t',rfl⟩:=ry;exact PySem.EqMixed.ne_int_str (cu I q (by simp))
   | _=>exact absurd (show false=true from hs) Bool.false_ne_true
 | str i=>
   obtain ⟨t,rfl⟩:=rx
   cases y with
   | non=>cases ry;exact PySem.EqNone.ne_str_none (cu I q (by simp))
   | bl j=>cases ry;exact PySem.EqMixed.ne_str_bool (cu I q (by simp))
   | int j=>obtain ⟨t',rfl⟩:=ry;exact PySem.EqMixed.ne_str_int (cu I q (by simp))
   | str j=>obtain ⟨t',rfl⟩:=ry;exact ne_str (cu I q (congrArg not LX))
   | _=>exact absurd (show false=true from hs) Bool.false_ne_true
 | byt i=>
   obtain ⟨t,rfl⟩:=rx
   cases y with
   | byt j=>obtain ⟨t',rfl⟩:=ry;exact PySem.W.ne_bytes (cu I q (congrArg not LZ))
   | _=>exact absurd (show false=true from hs) Bool.false_ne_true
 | _=>cases y<;>exact absurd (show false=true from hs) Bool.false_ne_true
theorem QC:OpR X (compareOp .Lt) (rI0 fun i j=> .bl (decide (i < j))):=opB0 fun _ _ _ _ _ _ _ q=>lt_int q
theorem Ta:OpR X (compareOp .LtE) (rI0 fun i j=> .bl (decide (i≤j))):=opB0 fun _ _ _ _ _ _ _ q=>le_int q
theorem nS:OpR X (compareOp .Gt) (rI0 fun i j=> .bl (decide (j < i))):=opB0 fun _ _ _ _ _ _ _ q=>gt_int q
theorem ug:OpR X (compareOp .In) (fun x y H Q=>∃ i j,x= .str i∧y= .str j∧Q (.bl (!(Builtin.Str.occurrences j i 0 j.length 1).isEmpty)) H):=by
 intro pins s σ H x y v u Q I rx ry h
 obtain ⟨i,j,rfl,rfl,q⟩:=h
 obtain ⟨t,rfl⟩:=rx
 obtain ⟨t',rfl⟩:=ry
 exact in_str (cu I q rfl)
theorem KQ:OpR X (compareOp .IsNot) (fun x y H Q=>y= .non∧Q (.bl (!decide (x= .non))) H):=by
 intro pins s σ H x y v u Q I rx ry h
 obtain ⟨rfl,q⟩:=h
 cases ry
 refine isnot_none_gen (cu I q ?_)
 cases x<;>first
  | (cases rx;rfl)
  | (obtain ⟨t,rfl⟩:=rx;rfl)
theorem aR (b:Expr) {op:CmpOp} (h:op≠.In:=by decide) (h2:op≠.NotIn:=by decide):behindInMarks op b=false:=by
 have e1:(op == CmpOp.In)=false:=by cases op<;>first | rfl | exact absurd rfl h
 have e2:(op == CmpOp.NotIn)=false:=by cases op<;>first | rfl | exact absurd rfl h2
 cases b<;>simp [behindInMarks,e1,e2]
theorem jS {op:CmpOp} {r:R2} (ho:OpR X (compareOp op) r) (ha:PE X a ta) (hb:PE X b tb) (hm:behindInMarks op b=false):PE X (.Compare a [op] [b] pos) (tOp r ta tb):=by
 intro pins s σ H Q I h
 exact wpAny_Compare1 (binT ha hb I h fun v u s2 x y H2 I2 rx ry q=>ho pins s2 σ H2 x y v u Q I2 rx ry q) hm
noncomputable abbrev R7 (t:TE):TT:=fun σ H Q=>t σ H fun x H'=>∃ k,x= .bl k∧Q k H'
theorem az {op:CmpOp} {r:R2} (ho:OpR X (compareOp op) r) (ha:PE X a ta) (hb:PE X b tb) (hm:behindInMarks op b=false):PT X (.Compare a [op] [b] pos) (R7 (tOp r ta tb)):=by
 intro pins s σ H Q I h
 refine wpAny_isTrue_Compare1 (thn (ha pins s σ H _ I h) fun v s1 ⟨x,H1,I1,r1,q1⟩=>thn (hb pins s1 σ H1 _ I1 q1) fun u s2 ⟨y,H2,I2,r2,q2⟩=>
  thn (ho pins s2 σ H2 x y v u _ I2 r1 r2 q2) fun c s3 ⟨z,H3,I3,r3,k,e,q3⟩=>?_) hm
 subst e
 cases r3
 exact wpAny_truthy_bool ⟨H3,I3,q3⟩
noncomputable abbrev Se (r r':R2) (ta tb tc:TE):TE:=fun σ H Q=>ta σ H fun x H1=>tb σ H1 fun y H2=>r x y H2 fun z H3=>∃ k,z= .bl k∧
 (if k=true then tc σ H3 fun w' H4=>r' y w' H4 Q else Q (.bl false) H3)
theorem NN {op op':CmpOp} {r r':R2} (ho:OpR X (compareOp op) r) (ho':OpR X (compareOp op') r') (ha:PE X a ta) (hb:PE X b tb) (hc:PE X c tc)
  (hm:lastMarks [op,op'] [b,c]=false:=by with_unfolding_all rfl):PT X (.Compare a [op,op'] [b,c] pos) (R7 (Se r r' ta tb tc)):=by
 intro pins s σ H Q I h
 refine isTrue_chain (thn (ha pins s σ H _ I h) fun v s1 ⟨x,H1,I1,r1,q1⟩=>test_link (thn (hb pins s1 σ H1 _ I1 q1) fun u s2 ⟨y,H2,I2,r2,q2⟩=>
  thn (ho pins s2 σ H2 x y v u _ I2 r1 r2 q2) fun d s3 ⟨z,H3,I3,r3,k,e,q3⟩=>?_)) hm
 subst e
 cases r3
 refine wpAny_truthy_bool ?_
 cases k with
 | false=>
   obtain ⟨k',e',q'⟩:=q3
   cases e'
   exact ite_ff ⟨H3,I3,q'⟩
 | true=>
   refine ite_tt (test_last (thn (hc pins s3 σ H3 _ I3 q3) fun w' s4 ⟨z',H4,I4,r4,q4⟩=>thn (ho' pins s4 σ H4 y z' u w' _ I4 r2 r4 q4) fun d' s5 ⟨z2,H5,I5,r5,k2,e2,q5⟩=>?_))
   subst e2
   cases r5
   exact wpAny_truthy_bool ⟨H5,I5,q5⟩
theorem BI:(sizeLine:Nat) < 2 ^ 63:=by rw [sizeLine_eq];decide
theorem bo:OpR X (binaryOp .Add) (fun x y H Q=>∃ i j,x= .str i∧y= .str j∧i.length + j.length≤sizeLine∧Q (.str (i++j)) H):=by
 intro pins s σ H x y v u Q I rx ry h
 obtain ⟨i,j,rfl,rfl,hz,q⟩:=h
 obtain ⟨t,rfl⟩:=rx
 obtain ⟨t',rfl⟩:=ry
 exact add_str (fun t' tk=>⟨.str (i++j),H,I.tok _,⟨_,rfl⟩,q⟩) hz
theorem AE {x:V} {us:List Value} (r:Vals [x] us):∃ u,us=[u]∧RelV x u:=by
 cases r with
 | cons r1 r2=>cases r2;exact ⟨_,rfl,r1⟩
theorem PF {x y:V} {us:List Value} (r:Vals [x,y] us):∃ u w',us=[u,w']∧RelV x u∧RelV y w':=by
 cases r with
 | cons r1 r2=>
   cases r2 with
   | cons r3 r4=>cases r4;exact ⟨_,_,rfl,r1,r3⟩
theorem Ma (hc:X.calm=true):nj X (.builtin "max") (fun xs H Q=>∃ i j,xs=[.int i,.int j]∧Q (.int (if j > i then j else i)) H):=by
 intro pins s σ H xs us Q I r h
 obtain ⟨i,j,rfl,q⟩:=h
 obtain ⟨u,w',rfl,⟨t,rfl⟩,⟨t',rfl⟩⟩:=PF r
 refine max_two_ints (I.ok.hd hc) fun h' tk k=>⟨_,H,I.kept k,?_,q⟩
 by_cases hj:j > i
 ·rw [if_pos hj,if_pos hj];exact ⟨_,rfl⟩
 ·rw [if_neg hj,if_neg hj];exact ⟨_,rfl⟩
theorem cJ:nj X (.type "str") (fun xs H Q=>∃ i,xs=[.int i]∧i.natAbs.log2 < 1920∧Q (.str (toString i)) H):=by
 intro pins s σ H xs us Q I r h
 obtain ⟨i,rfl,hz,q⟩:=h
 obtain ⟨u,rfl,t,rfl⟩:=AE r
 exact PySem.P.str_of_int hz ⟨.str _,H,I.tok _,⟨_,rfl⟩,q⟩
noncomputable def LenV (K:PySem.W.Frag) (x:V) (H:Hp) (n:Nat):Prop:=
 match x with
 | .str y=>y.length≤sizeLine∧n=y.length
 | .byt y=>y.size≤sizeLine∧n=y.size
 | .ref p=>(∃ xs,SqL K H p xs∧n=xs.length)∨∃ xs,SqT K H p xs∧n=xs.length
 | _=>False
theorem OF:nj X (.builtin "len") (fun xs H Q=>∃ x n,xs=[x]∧LenV X.K x H n∧Q (.int n) H):=by
 intro pins s σ H xs us Q I r h
 obtain ⟨x,n,rfl,e,q⟩:=h
 obtain ⟨u,rfl,rx⟩:=AE r
 have hl:=BI
 have hs:sizeLine=16777216:=sizeLine_eq
 cases x with
 | str y=>
   obtain ⟨t,rfl⟩:=rx
   obtain ⟨hy,e'⟩:y.length≤sizeLine∧n=y.length:=e
   subst e'
   exact len_str (by omega) ⟨.int _,H,I.tok _,⟨_,rfl⟩,q⟩
 | byt y=>
   obtain ⟨t,rfl⟩:=rx
   obtain ⟨hy,e'⟩:y.size≤sizeLine∧n=y.size:=e
   subst e'
   exact PySem.W.len_bytes (by omega) ⟨.int _,H,I.tok _,⟨_,rfl⟩,q⟩
 | ref p=>
   cases rx
   have e':(∃ xs,SqL X.K H p xs∧n=xs.length)∨∃ xs,SqT X.K H p xs∧n=xs.length:=e
   rcases e' with ⟨xs,hx,e'⟩ | ⟨xs,hx,e'⟩
   ·subst e'
    obtain ⟨its,r',pl,hz⟩:=I.list hx
    have hlen:=r'.length
    exact Calls.call_len_list pl.isList (by simp only [List.size_toArray];omega) ⟨.int xs.length,H,I.tok _,⟨_,by simp only [List.size_toArray];rw [hlen]⟩,q⟩
   ·subst e'
    obtain ⟨its,r',pl,hz⟩:=I.tuple hx
    have hlen:=r'.length
    exact len_tuple pl (by simp only [List.size_toArray];omega) ⟨.int xs.length,H,I.tok _,⟨_,by simp only [List.size_toArray];rw [hlen]⟩,q⟩
 | _=>exact (show False from e).elim
end
structure ObjM (h:Heap) (x dx C:Addr) (mA:Str→Option Value):Prop where
 obj:h.get? x=some (PySem.W.instObj C dx)
 ns:h.Ns1 dx mA
 ne:dx≠x
theorem BH {h:Heap} {dx:Addr} {mA:Str→Option Value} (n:h.Ns1 dx mA):∃ od,h.get? dx=some od∧∀ name,PySem.W.lookIn name od=some (mA name):=by
 obtain ⟨o,es,ep,ho,hd,hk,_,hm⟩:=n
 refine ⟨o,ho,fun name=>?_⟩
 have e:=hm name
 unfold nsFind findBy at e
 rw [← Array.find?_toList] at e
 unfold PySem.W.lookIn
 rw [hd]
 dsimp only
 split
 ·rename_i y q
  rw [q] at e
  exact congrArg some e
 ·rename_i q
  rw [q] at e
  have a:es.toList.any (·.refKey)=false:=by
   rw [List.any_eq_false]
   intro y hy
   obtain ⟨z,t,hkey⟩:=hk y (Array.mem_toList_iff.mp hy)
   simp [DictEntry.refKey,hkey]
  have a':¬ es.toList.any (·.refKey)=true:=by rw [a];exact Bool.false_ne_true
  rw [if_neg a']
  exact congrArg some e
theorem ObjM.look {h:Heap} {x dx C:Addr} {mA:Str→Option Value} (I:ObjM h x dx C mA):∃ od,PySem.W.InstAt h x (PySem.W.instObj C dx) C (some od)∧∀ name,PySem.W.lookIn name od=some (mA name):=
 let ⟨od,ho,hl⟩:=BH I.ns
 ⟨od,⟨I.obj,rfl,rfl,ho⟩,hl⟩
section
variable {prog:Program} {w:World} {A:Around} {E:Value→Shared→Prop} {s:Shared} {K:PySem.W.Frag} {x dx C f:Addr} {mA:Str→Option Value} {name:Str} {v:Value}
theorem be {expr:Bool} {Q:Value→Shared→Prop} (X:K.In s.heap) (I:ObjM s.heap x dx C mA) (hg:PySem.W.plainGet K C name=true) (hh:PySem.W.hasDictIn K C=true)
  (ha:PySem.W.findIn K (.ref C) name=some none) (hv:mA name=some v) (hv':PySem.W.handedIn v=true) (h:Q v {s with toks:=s.toks + 1}):
  wpAny (model prog w) A (getAttr (.ref x) name expr) Q E s:=by
 obtain ⟨od,J,hl⟩:=I.look
 exact PySem.W.get_value X J (PySem.W.plainGet_of hg).1 (PySem.W.findObj_own hh ha rfl (by rw [hl,hv])) hv' h
theorem Oq {pl:Sem Bool} {Q:Value×List Value→Shared→Prop} (X:K.In s.heap) (I:ObjM s.heap x dx C mA) (hg:PySem.W.plainGet K C name=true)
  (hf:PySem.W.findIn K (.ref C) name=some (some (.ref f))) (ht:PySem.W.isFn K (.ref f)=true) (hv:mA name=none) (h:Q (.ref f,[.ref x]) s):
  wpAny (model prog w) A (getMethod (.ref x) name pl) Q E s:=by
 obtain ⟨od,J,hl⟩:=I.look
 exact PySem.W.method_fn X J (PySem.W.plainGet_of hg).1 (PySem.W.plainGet_of hg).2 hf (beq_iff_eq.mp ht) (by show (PySem.W.lookIn name od).map (·.isSome)=some false;rw [hl,hv];rfl) h
theorem PZ {ns:List Str} {Q:Unit→Shared→Prop} (X:K.In s.heap) (I:ObjM s.heap x dx C mA)
  (hs:PySem.W.findIn K (.ref C) "__setattr__"=some (some (.builtin "object.__setattr__"))) (hp:PySem.W.plainOver K C=true) (ht:PySem.W.takerIn K C name=some none) (hh:PySem.W.hasDictIn K C=true)
  (hw:PySem.Within mA ns) (hsz:ns.length≤sizeLine)
  (h:∀ h',ObjM h' x dx C (fun y=>if y=name then some v else mA y)→Heap.SameBut dx s.heap h'→Q () {s with heap:=h',toks:=s.toks + 2}):
  wpAny (model prog w) A (setAttr (.ref x) name v) Q E s:=by
 obtain ⟨od,J,hl⟩:=I.look
 refine PySem.W.set_plain X J hs (PySem.W.osa_open (s:={s with toks:=s.toks + 1}) (r:=none) X J hp ht fun b=>?_)
 obtain ⟨cd,hc,hd'⟩:=PySem.W.any_some hh
 have hx:s.heap.get? x=some ⟨.ref C,some dx,.plain,#[]⟩:=I.obj
 refine wpAny_bind (wpAny_pure (wpAny_bind (wpAny_bind (wpAny_loadPart hx (wpAny_bind (PySem.W.Looks.here (s:={s with toks:=s.toks + 1}) (PySem.W.looks_clsIn X hc) ?_))))))
 rw [hd']
 refine wpAny_pure (a:=some dx) (wpAny_bind (wpAny_pure (wpAny_bind ?_)))
 refine wpAny_nsSet1 (s:={s with toks:=s.toks + 1}) I.ns fun h' hn2 hs2=>?_
 obtain ⟨oD,esD,epD,hoD,hdD,hcD⟩:=hn2.count (PySem.Within.cons name v hw)
 refine wpAny_bind (wpAny_lookBehind hoD (by rw [hdD];exact pastItsLine_dict (Nat.le_trans hcD (by rw [List.length_cons];omega))) ?_)
 exact wpAny_pure (h _ ⟨(hs2.2 _ (Ne.symm I.ne)).trans I.obj,hn2,I.ne⟩ hs2)
theorem F8 {R:Result→Shared→Prop} {vs:List Value} {kw:List (Str×Value)} (X:K.In s.heap) (hm:PySem.W.makesIn K C=true)
  (hi:PySem.W.findIn K (.ref C) "__init__"=some (some (.ref f))) (hf:PySem.W.typeIn K (.ref f)=some (.type "function"))
  (h:codeAny (model prog w) (A.under (.builtin "type.__call__" ⟨.ref C::vs,kw⟩)) (.call (.ref f) ⟨.ref (s.heap.objs.size + 1)::vs,kw⟩) (PySem.W.InitBack (s.heap.objs.size + 1) R)
   {s with heap:=(s.heap.push PySem.W.emptyDict).push (PySem.W.instObj C s.heap.objs.size)}):
  codeAny (model prog w) A (.call (.ref C) ⟨vs,kw⟩) R s:=by
 obtain ⟨hh,g,d,t,os⟩:=s
 exact PySem.W.make_core (PySem.W.makes_of X hm) (PySem.W.looks_findIn X hi) (fun self=>PySem.W.bind_fn X self hf) (.inl rfl) h
end
noncomputable def putF (f:Str) (v:V):List (Str×V)→List (Str×V)
 | []=>[(f,v)]
 | (g,x)::r=>if g=f then (g,v)::r else (g,x)::putF f v r
theorem uT (f g:Str) (v:V):∀ fs:List (Str×V),(putF f v fs).lookup g=if g=f then some v else fs.lookup g
 | []=>by
   show List.lookup g [(f,v)]=_
   by_cases h:g=f
   ·have hb:(g == f)=true:=beq_iff_eq.mpr h
    simp only [List.lookup,hb,if_pos h]
   ·have hb:(g == f)=false:=beq_eq_false_iff_ne.mpr h
    simp only [List.lookup,hb,if_neg h]
 | (k,x)::r=>by
   have ih:=uT f g v r
   rw [show putF f v ((k,x)::r)=(if k=f then (k,v)::r else (k,x)::putF f v r) from rfl]
   by_cases hk:k=f
   ·rw [if_pos hk]
    by_cases h:g=k
    ·have hb:(g == k)=true:=beq_iff_eq.mpr h
     simp only [List.lookup,hb,if_pos (h.trans hk)]
    ·have hb:(g == k)=false:=beq_eq_false_iff_ne.mpr h
     simp only [List.lookup,hb,if_neg (fun e:g=f=>h (e.trans hk.symm))]
   ·rw [if_neg hk]
    by_cases h:g=k
    ·have hb:(g == k)=true:=beq_iff_eq.mpr h
     simp only [List.lookup,hb,if_neg (fun e:g=f=>hk (h.symm.trans e))]
    ·have hb:(g == k)=false:=beq_eq_false_iff_ne.mpr h
     simp only [List.lookup,hb]
     exact ih
theorem vg (f:Str) (v:V):∀ fs:List (Str×V),f∈(putF f v fs).map (·.1)∧∀ g,g∈fs.map (·.1)→g∈(putF f v fs).map (·.1)
 | []=>⟨by simp [putF],fun g h=>by simp at h⟩
 | (k,x)::r=>by
   obtain ⟨i1,i2⟩:=vg f v r
   rw [show putF f v ((k,x)::r)=(if k=f then (k,v)::r else (k,x)::putF f v r) from rfl]
   by_cases hk:k=f
   ·rw [if_pos hk]
    subst hk
    exact ⟨by simp,fun g h=>by simpa using h⟩
   ·rw [if_neg hk]
    refine ⟨?_,fun g h=>?_⟩
    ·rw [List.map_cons]
     exact List.mem_cons_of_mem _ i1
    ·rw [List.map_cons] at h ⊢
     rcases List.mem_cons.mp h with e | e
     ·exact List.mem_cons.mpr (.inl e)
     ·exact List.mem_cons_of_mem _ (i2 g e)
theorem uV (f:Str) (v:V):∀ fs:List (Str×V),(putF f v fs).length≤fs.length + 1
 | []=>by simp [putF]
 | (k,x)::r=>by
   have ih:=uV f v r
   rw [show putF f v ((k,x)::r)=(if k=f then (k,v)::r else (k,x)::putF f v r) from rfl]
   by_cases hk:k=f
   ·rw [if_pos hk,List.length_cons,List.length_cons];omega
   ·rw [if_neg hk,List.length_cons,List.length_cons];omega
theorem RelO.some_of {v:V} {o:Option Value} (r:RelO (some v) o):∃ u,o=some u∧RelV v u:=by
 cases o with
 | none=>exact (show False from r).elim
 | some u=>exact ⟨u,rfl,r⟩
theorem RelO.none_of {o:Option Value} (r:RelO none o):o=none:=by
 cases o with
 | none=>rfl
 | some u=>exact (show False from r).elim
theorem B0 {v:V} {u:Value} (r:RelV v u):PySem.W.handedIn u=true:=by
 cases v with
 | non=>cases (show u=Value.none from r);rfl
 | bl b=>cases (show u=Value.bool b from r);rfl
 | int i=>obtain ⟨t,e⟩:=(show ∃ t,u=Value.int i t from r);cases e;rfl
 | str x=>obtain ⟨t,e⟩:=(show ∃ t,u=Value.str x t from r);cases e;rfl
 | byt b=>obtain ⟨t,e⟩:=(show ∃ t,u=Value.bytes b t from r);cases e;rfl
 | flt b=>obtain ⟨t,e⟩:=(show ∃ t,u=Value.float b t from r);cases e;rfl
 | ref a=>cases (show u=Value.ref a from r);rfl
 | ty n=>cases (show u=Value.type n from r);rfl
section
variable {P:Program} {w:World} {H H':Hp} {h h':Heap} {a C dx:Addr} {fs fs':List (Str×V)}
theorem EL (hok:HOk P w H h) (e:H a=some (.ins C dx fs)):∃ mA,ObjM h a dx C mA∧(∀ f,RelO (fs.lookup f) (mA f))∧PySem.Within mA (fs.map (·.1))∧fs.length≤1000∧H dx=some (.own a):=by
 obtain ⟨d,z,ne,ob,mA,n,r,q⟩:=(show eA P w H h a (.ins C dx fs) from hok a _ e)
 exact ⟨mA,⟨ob,n,ne⟩,r,q,z,d⟩
end
structure Cls (K:PySem.W.Frag) (C:Addr):Prop where
 pg:PySem.W.plainGet K C Str.empty=true
 hd:PySem.W.hasDictIn K C=true
 po:PySem.W.plainOver K C=true
 sa:PySem.W.findIn K (.ref C) "__setattr__"=some (some (.builtin "object.__setattr__"))
theorem Cls.get {K:PySem.W.Frag} {C:Addr} (c:Cls K C) (f:Str):PySem.W.plainGet K C f=true:=c.pg
noncomputable def aq (K:PySem.W.Frag) (C:Addr) (f:Str):Prop:=PySem.W.findIn K (.ref C) f=some none
theorem aq.taker {K:PySem.W.Frag} {C:Addr} {f:Str} (n:aq K C f):PySem.W.takerIn K C f=some none:=by
 unfold PySem.W.takerIn
 rw [show PySem.W.findIn K (.ref C) f=some none from n]
 rfl
structure Con (K:PySem.W.Frag) (C:Addr) (f:Str) (v:V) (u:Value):Prop where
 at_:PySem.W.findIn K (.ref C) f=some (some u)
 rel:RelV v u
 get:PySem.W.specialIn K u "__get__"=some none
 cp:PySem.W.copiedNames.contains f=false
structure Meth (K:PySem.W.Frag) (C:Addr) (m:Str) (f:Addr):Prop where
 at_:PySem.W.findIn K (.ref C) m=some (some (.ref f))
 fn:PySem.W.isFn K (.ref f)=true
 kp:PySem.W.keepIn K (.ref f)=true
section
variable {X:Cx} {pins:List (Addr×Obj)} {σ:St} {H:Hp} {s:Shared} {a C dx:Addr} {fs:List (Str×V)} {f:Str} {v:V} {A:Around} {E:Value→Shared→Prop}
theorem IC {b:Bool} {Q:Value→Shared→Prop} (I:Inv X pins σ H s) (e:H a=some (.ins C dx fs)) (c:Cls X.K C) (n:aq X.K C f) (l:fs.lookup f=some v)
  (h:∀ u s',Inv X pins σ H s'→RelV v u→Q u s'):wpAny (model X.prog X.w) A (getAttr (.ref a) f b) Q E s:=by
 obtain ⟨mA,O,r,_,_,_⟩:=EL I.hok e
 obtain ⟨u,hu,ru⟩:=RelO.some_of (v:=v) (o:=mA f) (by rw [← l];exact r f)
 exact be I.kIn O (c.get f) c.hd n hu (B0 ru) (h u _ (I.tok _) ru)
theorem IB {m:Str} {g:Addr} {pl:Sem Bool} {Q:Value×List Value→Shared→Prop} (I:Inv X pins σ H s) (e:H a=some (.ins C dx fs)) (c:Cls X.K C) (k:Meth X.K C m g) (l:fs.lookup m=none)
  (h:Q (.ref g,[.ref a]) s):wpAny (model X.prog X.w) A (getMethod (.ref a) m pl) Q E s:=by
 obtain ⟨mA,O,r,_,_,_⟩:=EL I.hok e
 have hn:mA m=none:=RelO.none_of (by rw [← l];exact r m)
 exact Oq I.kIn O (c.get m) k.at_ k.fn hn h
theorem Ha {y:V} {u:Value} {Q:Unit→Shared→Prop} (I:Inv X pins σ H s) (e:H a=some (.ins C dx fs)) (c:Cls X.K C) (n:aq X.K C f) (hl:fs.length < 1000) (ry:RelV y u)
  (h:∀ s',Inv X pins σ (upd H a (.ins C dx (putF f y fs))) s'→Q () s'):wpAny (model X.prog X.w) A (setAttr (.ref a) f u) Q E s:=by
 obtain ⟨mA,O,r,wi,_,ho⟩:=EL I.hok e
 have hz:(fs.map (·.1)).length≤sizeLine:=by rw [List.length_map,sizeLine_eq];omega
 refine PZ I.kIn O c.sa c.po n.taker c.hd wi hz fun h' O' sb=>h _ ?_
 have hd:∃ o,h'.get? dx=some o:=let ⟨o,_,_,e',_⟩:=O'.ns;⟨o,e'⟩
 refine I.write (x:=a) (e:=dx) (by rw [e];exact True.intro) (.inr ho) (fun b q hb z=>(sb.2 b hb).trans z) hd ?_
 refine ⟨by rw [aw O.ne];exact ho,?_,O.ne,O'.obj,_,O'.ns,fun g=>?_,fun g hg=>?_⟩
 ·have:=uV f y fs;omega
 ·show RelO ((putF f y fs).lookup g) (if g=f then some u else mA g)
  rw [uT]
  by_cases q:g=f
  ·rw [if_pos q,if_pos q];exact ry
  ·rw [if_neg q,if_neg q];exact r g
 ·by_cases q:g=f
  ·rw [q];exact (vg f y fs).1
  ·refine (vg f y fs).2 g (wi g fun z=>hg ?_)
   show (if g=f then some u else mA g)=none
   rw [if_neg q];exact z
theorem Inv.made (I:Inv X pins σ H s):Inv X pins σ (upd (upd H s.heap.objs.size (.own (s.heap.objs.size + 1))) (s.heap.objs.size + 1) (.ins C s.heap.objs.size []))
  {s with heap:=(s.heap.push PySem.W.emptyDict).push (PySem.W.instObj C s.heap.objs.size)}:=by
 have e1:(s.heap.push PySem.W.emptyDict).get? s.heap.objs.size=some PySem.W.emptyDict:=Heap.get?_push_size s.heap rfl
 have e2:((s.heap.push PySem.W.emptyDict).push (PySem.W.instObj C s.heap.objs.size)).get? (s.heap.objs.size + 1)=some (PySem.W.instObj C s.heap.objs.size):=by
  have:=Heap.get?_push_size (s.heap.push PySem.W.emptyDict) (o:=PySem.W.instObj C s.heap.objs.size) rfl
  rwa [Heap.size_push] at this
 have e3:(s.heap.push PySem.W.emptyDict).Ns s.heap.objs.size (fun _=>none):=⟨PySem.W.emptyDict,#[],_,e1,rfl,(fun e he=>absurd he (by simp)),fun _=>rfl⟩
 have I1:=I.laid (a:=s.heap.objs.size) (o:= .own (s.heap.objs.size + 1)) (h':=s.heap.push PySem.W.emptyDict) (t':=s.toks) (fun b u q=>Heap.get?_push_of_some _ q) (Nat.le_refl _) ⟨_,e1⟩
 refine I1.laid (a:=s.heap.objs.size + 1) (o:= .ins C s.heap.objs.size []) (t':=s.toks) (fun b u q=>Heap.get?_push_of_some _ q) (Nat.le_of_eq (Heap.size_push _ _)) ?_
 have ne:s.heap.objs.size≠s.heap.objs.size + 1:=Nat.ne_of_lt (Nat.lt_succ_self _)
 refine ⟨by rw [aw ne,aA],Nat.zero_le _,ne,e2,fun _=>none,(Heap.Ns1.of_empty e3).at fun o q=>Heap.get?_push_of_some _ q,fun _=>True.intro,fun y hy=>absurd rfl hy⟩
theorem Mh {prog:Program} {w:World} {env:Env} {e:Expr} {f:Str} {pos:Pos} {s:Shared} {Q:Value→Shared→Prop} (hb:attributeBase e f env (eval e env)=eval e env)
  (h:wpAny (model prog w) A (eval e env) (fun o s₁=>wpAny (model prog w) A (getAttr o f true) Q E s₁) E s):wpAny (model prog w) A (eval (.Attribute e f pos) env) Q E s:=
 Attribute_any_ h (by rw [arm_eval_Attribute,hb])
end
noncomputable def tFld (K:PySem.W.Frag) (ta:TE) (f:Str):TE:=fun σ H Q=>ta σ H fun x H1=>∃ a C dx fs v,x= .ref a∧H1 a=some (.ins C dx fs)∧Cls K C∧aq K C f∧fs.lookup f=some v∧Q v H1
noncomputable def sFld (K:PySem.W.Frag) (ta tv:TE) (f:Str):TS:=fun D σ H=>tv σ H fun y H1=>ta σ H1 fun x H2=>∃ a C dx fs,x= .ref a∧H2 a=some (.ins C dx fs)∧Cls K C∧aq K C f∧fs.length < 1000∧
 D.nx σ (upd H2 a (.ins C dx (putF f y fs)))
section
variable {X:Cx} {o e value:Expr} {f:Str} {pos pos' tpos:Pos} {ta tv:TE}
theorem S5 (he:PE X e ta) (hb:attributeBase e f X.env (eval e X.env)=eval e X.env):PE X (.Attribute e f pos) (tFld X.K ta f):=by
 intro pins s σ H Q I h
 refine Mh hb (thn (he pins s σ H _ I h) fun u s1 ⟨x,H1,I1,rx,a,C,dx,fs,v,ex,ea,c,n,l,q⟩=>?_)
 subst ex
 obtain rfl:u=Value.ref a:=rx
 exact IC I1 ea c n l fun u' s2 I2 ru=>⟨v,H1,I2,ru,q⟩
theorem SY (ha:PE X o ta) (hv:PE X value tv) (hs:swapsWith value (some (.Attribute o f pos')) pos.line X.env=pure false):PS X (.Assign [.Attribute o f pos'] value pos) (sFld X.K ta tv f):=by
 intro pins s σ H D I h
 refine plainObj_wpAny_Assign_Attribute (thn (hv pins s σ H _ I h) fun u s1 ⟨y,H1,I1,ry,q⟩=>thn (ha pins s1 σ H1 _ I1 q) fun ov s2 ⟨x,H2,I2,rx,a,C,dx,fs,ex,ea,c,n,l,q2⟩=>?_) hs
 subst ex
 obtain rfl:ov=Value.ref a:=rx
 exact Ha I2 ea c n l ry fun s3 I3=>⟨σ,_,I3,q2⟩
end
section
variable {X:Cx} {pins:List (Addr×Obj)} {σ:St} {H:Hp} {s:Shared} {A:Around} {E:Value→Shared→Prop} {Q:Value→Shared→Prop} {c:Value} {b:Bool}
inductive TyOf (K:PySem.W.Frag) (H:Hp):V→Value→Prop where
 | non:TyOf K H .non (.type "NoneType")
 | bl (x:Bool):TyOf K H (.bl x) (.type "bool")
 | int (i:Int):TyOf K H (.int i) (.type "int")
 | str (x:Str):TyOf K H (.str x) (.type "str")
 | flt (x:UInt64):TyOf K H (.flt x) (.type "float")
 | lst {a:Addr} {xs:List V} (e:H a=some (.lst xs)):TyOf K H (.ref a) (.type "list")
 | frz {a:Addr} {o:Obj} {xs:List V} (e:H a=some (.frz o (.lst xs))):TyOf K H (.ref a) (.type "list")
 | tup {a:Addr} {xs:List V} (e:H a=some (.tup xs)):TyOf K H (.ref a) (.type "tuple")
 | dK {a:Addr} {kvs:List (Key×V)} (e:H a=some (.dK kvs)):TyOf K H (.ref a) (.type "dict")
 | dT {a:Addr} {kvs:List (List Key×V)} (e:H a=some (.dT kvs)):TyOf K H (.ref a) (.type "dict")
 | ins {a C dx:Addr} {fs:List (Str×V)} (e:H a=some (.ins C dx fs)) (cl:Cls K C) (ha:PySem.W.findIn K (.ref C) "__class__"=some (some (.builtin "object.__class__")))
   (hn:PySem.W.specialIn K (.builtin "object.__class__") "__get__"=some (some (.builtin "getset_descriptor.__get__"))) (htk:PySem.W.takesIn K (.builtin "object.__class__")=some true)
   (hm:PySem.W.mroIn K C (.type "object")=some true):TyOf K H (.ref a) (.ref C)
end
structure Room (k:Nat) (A:Around):Prop where
 hd:A.handled=none
 dp:A.depth + 3 * k + 5 < recursionLimit
 un:A.units + 16 * k + 200 < cLine
theorem Room.mono {j k:Nat} {A:Around} (r:Room k A) (h:j≤k):Room j A:=⟨r.hd,by have:=r.dp;omega,by have:=r.un;omega⟩
theorem Room.deeper {k:Nat} {A:Around} (r:Room (k + 1) A) (env:Env):Room k (A.deeper env):=
 ⟨r.hd,by have:=r.dp;show A.depth + 1 + 3 * k + 5 < _;omega,by have:=r.un;show A.units + 3 + 16 * k + 200 < _;omega⟩
theorem HM {A:Around} {C:Addr} {us:List Value} {kw:List (Str×Value)}:(A.under (.builtin "type.__call__" ⟨.ref C::us,kw⟩)).depth=A.depth + 1:=by
 first | rfl | simp [Around.under,Code.weight,Code.isCreation,Code.isGuard,Code.isCaller,Code.frames,Code.isFrame,guardIds]
theorem HL {A:Around} {C:Addr} {us:List Value} {kw:List (Str×Value)}:(A.under (.builtin "type.__call__" ⟨.ref C::us,kw⟩)).units=A.units + 1:=by
 first | rfl | simp [Around.under,Code.cUnits,Code.frames,Code.isFrame]
theorem Room.make {k:Nat} {A:Around} (r:Room (k + 1) A) (C:Addr) (us:List Value) (kw:List (Str×Value)):Room k (A.under (.builtin "type.__call__" ⟨.ref C::us,kw⟩)):=
 ⟨r.hd,by have:=r.dp;rw [HM];omega,by have:=r.un;rw [HL];omega⟩
theorem Room.depth {k:Nat} {A:Around} (r:Room k A):A.depth < recursionLimit:=by have:=r.dp;omega
theorem Room.units {k:Nat} {A:Around} (r:Room k A):A.units + 64 < cLine:=by have:=r.un;omega
noncomputable abbrev tNil:TA:=fun _ H Q=>Q [] H
noncomputable abbrev lV (ta:TE) (tr:TA):TA:=fun σ H Q=>ta σ H fun x H1=>tr σ H1 fun xs H2=>Q (x::xs) H2
section
variable {X:Cx} {e:Expr} {es:List Expr} {te:TE} {t:TA} {pos:Pos}
theorem ad:PA X [] tNil:=fun _ _ _ _ H Q I h=>Calls.spliced_nil ⟨[],H,I,.nil,h⟩
theorem aa (ha:PE X e te) (hr:PA X es t) (hs:starEach (e::es) X.env=(false,eval e X.env)::starEach es X.env:=by rfl):PA X (e::es) (lV te t):=by
 intro pos pins s σ H Q I h
 rw [hs]
 show wpAny _ _ (spliced ((false,eval e X.env)::backTo pos (starEach es X.env))) _ _ s
 refine Calls.spliced_cons (thn (ha pins s σ H _ I h) fun u s1 ⟨x,H1,I1,r1,q1⟩=>?_)
 exact thn (hr pos pins s1 σ H1 _ I1 q1) fun us s2 ⟨xs,H2,I2,r2,q2⟩=>⟨x::xs,H2,I2,.cons r1 r2,q2⟩
noncomputable def tTup (t:TA):TE:=fun σ H Q=>t σ H fun xs H1=>xs.length≤sizeLine∧∀ p,H1 p=none→Q (.ref p) (upd H1 p (.tup xs))
noncomputable def tLst (t:TA):TE:=fun σ H Q=>t σ H fun xs H1=>xs.length≤sizeLine∧∀ p,H1 p=none→Q (.ref p) (upd H1 p (.lst xs))
theorem bV {x1} (h:PA X es t):PE X (.Tuple es x1 pos) (tTup t):=by
 intro pins s σ H Q I hq
 refine wpAny_Tuple_spliced (thn (h pos pins s σ H _ I hq) fun us s1 ⟨xs,H1,I1,r,z,q⟩=>⟨by rw [← r.length];exact z,?_⟩)
 have hf:H1 s1.heap.objs.size=none:=I1.hok.fresh (Nat.le_refl _)
 refine ⟨.ref s1.heap.objs.size,upd H1 s1.heap.objs.size (.tup xs),I1.laid (t':=s1.toks) (fun b u e=>Heap.get?_push_of_some _ e) (Nat.le_refl _) ?_,rfl,q _ hf⟩
 exact ⟨z,us,r,⟨_,Heap.get?_push_size _ rfl,rfl,_,rfl⟩⟩
theorem bW (h:PA X es t):PE X (.List es pos) (tLst t):=by
 intro pins s σ H Q I hq
 refine wpAny_List_spliced (thn (h pos pins s σ H _ I hq) fun us s1 ⟨xs,H1,I1,r,z,q⟩=>⟨by rw [← r.length];exact z,?_⟩)
 have hf:H1 s1.heap.objs.size=none:=I1.hok.fresh (Nat.le_refl _)
 refine ⟨.ref s1.heap.objs.size,upd H1 s1.heap.objs.size (.lst xs),I1.laid (t':=s1.toks) (fun b u e=>Heap.get?_push_of_some _ e) (Nat.le_refl _) ?_,rfl,q _ hf⟩
 exact ⟨z,us,0,r,Heap.get?_push_size _ rfl⟩
end
noncomputable abbrev Sp:=List V→Hp→VK→XK→Prop
noncomputable abbrev CXT:=List Env→Hp→Shared→XK→Value→Shared→Prop
structure Env0 (P:Program) (w:World) (K:PySem.W.Frag) (mg:Str→Option Value) (base:Heap) (A:Around) (outer:List Env) (s:Shared) (H:Hp):Prop where
 frames:A.frames=some outer
 mod:Mod K mg base
 bs:∀ b o,base.get? b=some o→s.heap.get? b=some o∧H b=none
 bsz:base.objs.size≤s.heap.objs.size
 funs:s.heap.FunFrames base outer
 frf:∀ b∈frs outer,H b=none
 hok:HOk P w H s.heap
 bare:AllBare s.gens
noncomputable def CE (outer:List Env) (P:Program) (w:World) (H:Hp) (s:Shared) (Q:VK) (u:Value) (s':Shared):Prop:=
 ∃ v H',s'.os=s.os∧AllBare s'.gens∧Un (frs outer) [] H H' s.heap s'.heap∧HOk P w H' s'.heap∧RelV v u∧Q v H'
noncomputable def CR (CX:CXT) (outer:List Env) (P:Program) (w:World) (H:Hp) (s:Shared) (Q:VK) (E:XK) (r:Result) (s':Shared):Prop:=
 match r with
 | .ok (.ret u)=>CE outer P w H s Q u s'
 | .ok _=>False
 | .error e=>CX outer H s E e s'
structure FnOk (P:Program) (w:World) (K:PySem.W.Frag) (mg:Str→Option Value) (base:Heap) (CX:CXT) (k:Nat) (f:Addr) (fd:FuncData) (ps:List Str) (sp:Sp):Prop where
 len:∀ vs H Q E,sp vs H Q E→vs.length=ps.length
 run:∀ (A:Around) (outer:List Env) (s:Shared) (H:Hp) (args:Args) (us:List Value) (vs:List V) (Q:VK) (E:XK),Room k A→Env0 P w K mg base A outer s H→BindsTo s fd args (ps.zip us)→Vals vs us→sp vs H Q E→
  codeAny (model P w) A (.call (.ref f) args) (CR CX outer P w H s Q E) s
theorem Env0.make {P:Program} {w:World} {K:PySem.W.Frag} {mg:Str→Option Value} {base:Heap} {A:Around} {outer:List Env} {s:Shared} {H:Hp} (e:Env0 P w K mg base A outer s H) (C:Addr) (us:List Value) (kw:List (Str×Value)):
  Env0 P w K mg base (A.under (.builtin "type.__call__" ⟨.ref C::us,kw⟩)) outer s H:=⟨by first | exact e.frames | (simpa [Around.under,Code.envs,Code.isFrame,pushEnvs] using e.frames),e.mod,e.bs,e.bsz,e.funs,e.frf,e.hok,e.bare⟩
section
variable {X:Cx} {pins:List (Addr×Obj)} {σ:St} {H:Hp} {s s':Shared}
theorem Inv.env0 (I:Inv X pins σ H s):Env0 X.prog X.w X.K X.mg X.base X.A X.stack s H:=
 ⟨I.ok.frames,I.ok.mod,I.bs,Nat.le_trans I.ok.bsz I.sz,I.stack,I.stkFree,I.hok,I.bare⟩
theorem Inv.after {Q:VK} {u:Value} (I:Inv X pins σ H s) (h:CE X.stack X.prog X.w H s Q u s'):EP X pins σ Q u s':=by
 obtain ⟨v,H',os,bare,un,hok,r,q⟩:=h
 obtain ⟨hh,g,d,t,os'⟩:=s'
 obtain rfl:os'=s.os:=os
 exact ⟨v,H',I.call (h':=hh) (g':=g) (d':=d) (t':=t) (ch:=[]) un hok bare (fun b z=>absurd z (by simp)),r,q⟩
end
noncomputable def Nj (sp:Sp) (dvs:List V) (E:XK) (t:TA):TE:=fun σ H Q=>t σ H fun vs H1=>sp (vs++dvs) H1 Q E
noncomputable def R9 (C:Addr) (m:Str) (sp:Sp) (dvs:List V) (E:XK) (ta:TE) (t:TA):TE:=fun σ H Q=>ta σ H fun x H1=>∃ a dx fs,x= .ref a∧H1 a=some (.ins C dx fs)∧fs.lookup m=none∧
 t σ H1 fun vs H2=>sp (x::(vs++dvs)) H2 Q E
noncomputable def Sa (C:Addr) (sp:Sp) (dvs:List V) (E:XK) (t:TA):TE:=fun σ H Q=>t σ H fun vs H1=>∀ x dx,H1 x=none→H1 dx=none→dx≠x→
 sp (.ref x::(vs++dvs)) (upd (upd H1 dx (.own x)) x (.ins C dx [])) (fun v H2=>v= .non∧Q (.ref x) H2) E
noncomputable def bT (K:PySem.W.Frag) (fd:FuncData) (ps:List Str) (ds:List Value):Prop:=
 ∀ (s:Shared) (us:List Value),K.In s.heap→(us++ds).length=ps.length→BindsTo s fd ⟨us,[]⟩ (ps.zip (us++ds))
theorem bT.all {K:PySem.W.Frag} {fd:FuncData} {ps:List Str} (h:∀ us:List Value,us.length=ps.length→bindArgs fd ⟨us,[]⟩=pure (ps.zip us)):bT K fd ps []:=fun s us _ hl=>by
 rw [List.append_nil] at hl ⊢
 exact .of_eq (h us hl)
noncomputable def qP (CX:CXT) (X:Cx) (E:XK):Prop:=∀ (pins:List (Addr×Obj)) (σ:St) (H:Hp) (s:Shared) (e:Value) (s':Shared),Inv X pins σ H s→CX X.stack H s E e s'→X.xe e s'
section
variable {X:Cx} {CX:CXT} {k:Nat} {f C:Addr} {fd:FuncData} {ps:List Str} {sp:Sp} {dvs:List V} {ds:List Value} {E:XK} {x m:Str} {p pos apos:Pos} {e o:Expr} {es:List Expr} {ta:TE} {t:TA}
theorem Kr {pins:List (Addr×Obj)} {σ:St} {H:Hp} {s:Shared} {Q:VK} {us:List Value} {vs:List V} (F:FnOk X.prog X.w X.K X.mg X.base CX k f fd ps sp) (hr:Room k X.A) (hb:bT X.K fd ps ds) (hd:Vals dvs ds) (hx:qP CX X E)
  (I:Inv X pins σ H s) (r:Vals vs us) (h:sp (vs++dvs) H Q E):wpAny (model X.prog X.w) X.A (call (.ref f) us) (EP X pins σ Q) X.xe s:=by
 have r2:Vals (vs++dvs) (us++ds):=r.append hd
 have hl:(us++ds).length=ps.length:=by rw [← r2.length];exact F.len _ _ _ _ h
 refine wpAny_call (codeAny_mono (F.run X.A X.stack s H ⟨us,[]⟩ (us++ds) (vs++dvs) Q E hr I.env0 (hb s us I.kIn hl) r2 h) fun r s' hq=>?_)
 cases r with
 | error e=>exact hx pins σ H s e s' I hq
 | ok fl=>
   cases fl with
   | ret u=>exact I.after hq
   | next=>exact False.elim hq
   | brk=>exact False.elim hq
   | cont=>exact False.elim hq
theorem aL (F:FnOk X.prog X.w X.K X.mg X.base CX k f fd ps sp) (hr:Room k X.A) (hg:Gl X x) (hm:X.mg x=some (.ref f)) (hk:PySem.W.keepIn X.K (.ref f)=true) (hb:bT X.K fd ps ds) (hd:Vals dvs ds) (hx:qP CX X E)
  (ha:PA X (e::es) t) (hdb:(x == ("__debug__":Str))=false:=by decide) (he:starEach (e::es) X.env=(false,eval e X.env)::starEach es X.env:=by rfl) (hpl:(backTo pos (starEach es X.env)).any (·.1)=false:=by rfl):
  PE X (.Call (.Name x p) (e::es) [] pos) (Nj sp dvs E t):=by
 intro pins s σ H Q I h
 refine wpAny_Call_Name_kw (gJ I hg hm ?_ hdb)
 refine PySem.W.callWith_K (h₀:=X.base) I.ok.mod.kin hk (thn (ha pos pins s σ H _ I h) fun us s1 ⟨vs,H1,I1,r,q⟩=>⟨I1.kIn,?_⟩) he hpl
 exact Kr F hr hb hd hx I1 r q
theorem nO {pl:Sem Bool} (he:PE X o ta) (c:Cls X.K C) (hm:Meth X.K C m f) (F:FnOk X.prog X.w X.K X.mg X.base CX k f fd ps sp) (hr:Room k X.A) (hb:bT X.K fd ps ds) (hd:Vals dvs ds) (hx:qP CX X E)
  (ht:eval (.Call (.Attribute o m apos) [] [] pos) X.env=(do
   let ov ← eval o X.env
   standAt apos.atName
   let (f,first) ← holding [ov] (getMethod ov m pl)
   callWith pos f first (backTo pos (starEach [] X.env)) (backToKw pos (keywordEach [] X.env))):=by rfl):
  PE X (.Call (.Attribute o m apos) [] [] pos) (R9 C m sp dvs E ta tNil):=by
 intro pins s σ H Q I h
 refine PySem.W.methodCall_KW (pl:=pl) (thn (he pins s σ H _ I h) fun u s1 ⟨x,H1,I1,rx,a,dx,fs,ex,ea,l,q⟩=>?_) ht
 subst ex
 obtain rfl:u=Value.ref a:=rx
 refine IB I1 ea c hm l ?_
 exact PySem.W.callWith_K0 (first:=[.ref a]) I1.kIn hm.kp (Kr (us:=[.ref a]) (vs:=[.ref a]) F hr hb hd hx I1 (.cons rfl .nil) q)
structure Mk (K:PySem.W.Frag) (C f:Addr):Prop where
 makes:PySem.W.makesIn K C=true
 init:PySem.W.findIn K (.ref C) "__init__"=some (some (.ref f))
 fn:PySem.W.isFn K (.ref f)=true
 kp:PySem.W.keepIn K (.ref C)=true
theorem NG {pins:List (Addr×Obj)} {σ:St} {H:Hp} {s:Shared} {Q:VK} {us:List Value} {vs:List V} (M:Mk X.K C f) (F:FnOk X.prog X.w X.K X.mg X.base CX k f fd ps sp) (hr:Room (k + 1) X.A) (hb:bT X.K fd ps ds) (hd:Vals dvs ds)
  (hx:qP CX X E) (I:Inv X pins σ H s) (r:Vals vs us)
  (h:∀ x dx,H x=none→H dx=none→dx≠x→sp (.ref x::(vs++dvs)) (upd (upd H dx (.own x)) x (.ins C dx [])) (fun v H2=>v= .non∧Q (.ref x) H2) E):
  wpAny (model X.prog X.w) X.A (call (.ref C) us) (EP X pins σ Q) X.xe s:=by
 have hq:=h (s.heap.objs.size + 1) s.heap.objs.size (I.hok.fresh (Nat.le_succ _)) (I.hok.fresh (Nat.le_refl _)) (Nat.ne_of_lt (Nat.lt_succ_self _))
 have I2:=Inv.made (C:=C) I
 have r2:Vals (V.ref (s.heap.objs.size + 1)::(vs++dvs)) (Value.ref (s.heap.objs.size + 1)::(us++ds)):= .cons rfl (r.append hd)
 have hl:(Value.ref (s.heap.objs.size + 1)::us++ds).length=ps.length:=by
  have e:=r2.length
  rw [F.len _ _ _ _ hq] at e
  exact e.symm
 refine wpAny_call (F8 (f:=f) I.kIn M.makes M.init (beq_iff_eq.mp M.fn) (codeAny_mono (F.run _ X.stack _ _ ⟨Value.ref (s.heap.objs.size + 1)::us,[]⟩ (Value.ref (s.heap.objs.size + 1)::(us++ds)) _ _ E (hr.make C us [])
  (I2.env0.make C us []) (hb _ (Value.ref (s.heap.objs.size + 1)::us) I2.kIn hl) r2 hq) fun r s' hq'=>?_))
 cases r with
 | error e=>exact hx pins σ _ _ e s' I2 hq'
 | ok fl=>
   cases fl with
   | ret u=>
     obtain ⟨v,H',I3,rv,ev,q3⟩:=I2.after hq'
     subst ev
     exact ⟨rv,⟨V.ref (s.heap.objs.size + 1),H',I3,rfl,q3⟩⟩
   | next=>exact False.elim hq'
   | brk=>exact False.elim hq'
   | cont=>exact False.elim hq'
theorem DO (M:Mk X.K C f) (F:FnOk X.prog X.w X.K X.mg X.base CX k f fd ps sp) (hr:Room (k + 1) X.A) (hg:Gl X x) (hm:X.mg x=some (.ref C)) (hb:bT X.K fd ps ds) (hd:Vals dvs ds) (hx:qP CX X E)
  (ha:PA X (e::es) t) (hdb:(x == ("__debug__":Str))=false:=by decide) (he:starEach (e::es) X.env=(false,eval e X.env)::starEach es X.env:=by rfl) (hpl:(backTo pos (starEach es X.env)).any (·.1)=false:=by rfl):
  PE X (.Call (.Name x p) (e::es) [] pos) (Sa C sp dvs E t):=by
 intro pins s σ H Q I h
 refine wpAny_Call_Name_kw (gJ I hg hm ?_ hdb)
 refine PySem.W.callWith_K (h₀:=X.base) I.ok.mod.kin M.kp (thn (ha pos pins s σ H _ I h) fun us s1 ⟨vs,H1,I1,r,q⟩=>⟨I1.kIn,?_⟩) he hpl
 exact NG M F hr hb hd hx I1 r q
end
section
variable {X:Cx} {CX:CXT} {k:Nat} {f C:Addr} {fd:FuncData} {ps ks:List Str} {sp:Sp} {E:XK} {x m:Str} {p pos apos kpos:Pos} {e o:Expr} {es:List Expr} {kws:List Keyword} {te ta:TE} {t tk:TA} {nm:Option Str}
structure UT (K:PySem.W.Frag) (fd:FuncData) (ps ks:List Str) (g:List Value→List Value→List Value) (gV:List V→List V→List V):Prop where
 to:∀ (s:Shared) (us ws:List Value),K.In s.heap→(g us ws).length=ps.length→BindsTo s fd ⟨us,ks.zip ws⟩ (ps.zip (g us ws))
 rel:∀ {vs:List V} {us:List Value} {zs:List V} {ws:List Value},Vals vs us→Vals zs ws→Vals (gV vs zs) (g us ws)
variable {g:List Value→List Value→List Value} {gV:List V→List V→List V}
end
structure aQ (N P:List Str) (sc:Scope):Prop where
 kind:sc.kind= .function
 co:sc.isCoroutine=false
 gen:sc.isGenerator=false
 nd:N.Nodup
 pre:N.take P.length=P
 par:∀ x∈P,sc.names.lookup x=some .local∨sc.names.lookup x=some .cell
 nofree:∀ y∈sc.names,y.2≠.free
theorem CK {kindOf:Str→Option NameKind} {x:Str}:∀ {binds:List (Str×Value)} {m:Str→Option Value},(∀ v,(x,v)∉binds)→bindL kindOf binds m x=m x
 | [],_,_=>rfl
 | (n,v)::r,m,h=>by
   unfold bindL
   rw [CK fun w hw=>h w (List.mem_cons_of_mem _ hw)]
   split
   ·have:x≠n:=by rintro rfl;exact h v List.mem_cons_self
    simp [this]
   ·rfl
theorem CO {kindOf:Str→Option NameKind} {x:Str}:∀ {binds:List (Str×Value)} {m:Str→Option Value},(∀ v,(x,v)∉binds)→bindC kindOf binds m x=m x
 | [],_,_=>rfl
 | (n,v)::r,m,h=>by
   unfold bindC
   rw [CO fun w hw=>h w (List.mem_cons_of_mem _ hw)]
   split
   ·rfl
   ·have:x≠n:=by rintro rfl;exact h v List.mem_cons_self
    simp [this]
theorem CL {kindOf:Str→Option NameKind} {x:Str} {v:Value}:∀ {P:List Str} {vs:List Value} {i:Nat} {m:Str→Option Value},P.Nodup→P[i]? =some x→vs[i]? =some v→kindOf x=some .local→
  bindL kindOf (P.zip vs) m x=some v
 | [],_,_,_,_,h,_,_=>by simp at h
 | _::_,[],_,_,_,_,h,_=>by simp at h
 | p::P,w::vs,0,m,nd,h1,h2,hk=>by
   simp at h1 h2;subst h1;subst h2
   show bindL kindOf ((p,w)::P.zip vs) m p=_
   unfold bindL
   rw [CK fun v hv=>(List.nodup_cons.mp nd).1 (List.of_mem_zip hv).1,if_pos hk]
   simp
 | p::P,w::vs,i + 1,m,nd,h1,h2,hk=>by
   show bindL kindOf ((p,w)::P.zip vs) m x=_
   unfold bindL
   exact CL (i:=i) (List.nodup_cons.mp nd).2 (by simpa using h1) (by simpa using h2) hk
theorem CP {kindOf:Str→Option NameKind} {x:Str} {v:Value}:∀ {P:List Str} {vs:List Value} {i:Nat} {m:Str→Option Value},P.Nodup→P[i]? =some x→vs[i]? =some v→kindOf x≠some .local→
  bindC kindOf (P.zip vs) m x=some v
 | [],_,_,_,_,h,_,_=>by simp at h
 | _::_,[],_,_,_,_,h,_=>by simp at h
 | p::P,w::vs,0,m,nd,h1,h2,hk=>by
   simp at h1 h2;subst h1;subst h2
   show bindC kindOf ((p,w)::P.zip vs) m p=_
   unfold bindC
   rw [CO fun v hv=>(List.nodup_cons.mp nd).1 (List.of_mem_zip hv).1,if_neg hk]
   simp
 | p::P,w::vs,i + 1,m,nd,h1,h2,hk=>by
   show bindC kindOf ((p,w)::P.zip vs) m x=_
   unfold bindC
   exact CP (i:=i) (List.nodup_cons.mp nd).2 (by simpa using h1) (by simpa using h2) hk
noncomputable def start (N:List Str) (vs:List V):St:=vs.map some++List.replicate (N.length - vs.length) none
noncomputable def cxOf (CX:CXT) (P:Program) (w:World) (K:PySem.W.Frag) (mg:Str→Option Value) (base:Heap) (N:List Str) (qual:Str) (scope:Scope) (f:Addr) (cd:Value) (A:Around) (outer:List Env) (s:Shared) (H:Hp) (E:XK):Cx where
 prog:=P
 w:=w
 K:=K
 mg:=mg
 base:=base
 A:=A.deeper (envOfC qual scope s.heap.objs.size f cd)
 N:=N
 s₀:=s
 H₀:=H
 env:=envOfC qual scope s.heap.objs.size f cd
 outer:=outer
 stack:=envOfC qual scope s.heap.objs.size f cd::outer
 ex:=[]
 calm:=true
 fn:=fun _=>true
 pn:=[]
 xe:=fun e s'=>wpAny (model P w) (A.deeper (envOfC qual scope s.heap.objs.size f cd)) (leaving (envOfC qual scope s.heap.objs.size f cd) e) (fun _ s''=>CX outer H s E e s'') (fun e' s''=>CX outer H s E e' s'') s'
theorem Gs {sc:Scope} {n:Nat} {x:Str} (h:sc.names.lookup x=some .cell):∃ c,(cellsFrom n sc.names []).lookup x=some c:=by
 have q:=PySem.W.cellsFrom_some sc.names n [] (.inl h)
 exact Option.isSome_iff_exists.mp q
theorem Lw {CX:CXT} {P:Program} {w:World} {K:PySem.W.Frag} {mg:Str→Option Value} {base:Heap} {N ps:List Str} {qual:Str} {scope:Scope} {f:Addr} {cd:Value} {A:Around} {outer:List Env} {s s1:Shared} {H:Hp} {E:XK} {us:List Value} {vs:List V}
  (S:aQ N ps scope) (hd:A.handled=none) (e0:Env0 P w K mg base A outer s H) (hl:vs.length=ps.length) (r:Vals vs us)
  (x:InCallC s s.heap.objs.size (bindL (envOfC qual scope s.heap.objs.size f cd).kindOf (ps.zip us) fun _=>none) (cellsFrom (s.heap.objs.size + 1) scope.names []) (bindC (envOfC qual scope s.heap.objs.size f cd).kindOf (ps.zip us) fun _=>none) s1):
  Inv (cxOf CX P w K mg base N qual scope f cd A outer s H E) [] (start N vs) H s1:=by
 have hpl:ps.length≤N.length:=by have:=congrArg List.length S.pre;rw [List.length_take] at this;omega
 obtain ⟨h1,tk,rfl,hk⟩:=x.done
 have noA:∀ b:Addr,b∉(cxOf CX P w K mg base N qual scope f cd A outer s H E).ex:=fun b z=>absurd (show b∈([]:List Addr) from z) (by simp)
 refine ⟨⟨e0.mod,S.kind,rfl,rfl,Nat.le_refl _,fun y z c h1 h2=>?_,fun y hy=>?_,fun y c _ h=>?_,fun _=>hd,Around.frames_deeper e0.frames,.inr ⟨rfl,rfl⟩,fun b z=>absurd z (noA b),e0.bs,e0.bsz,fun b _ _=>noA b,fun b z=>absurd z (noA b),e0.funs,e0.frf⟩,
  rfl,e0.bare,Un.kept hk,⟨_,x.toInCall.ns,fun i y v h1 h2 h3=>?_⟩,fun y c h=>⟨_,x.cell y c h⟩,e0.hok.fresh (Nat.le_refl _),fun y c h=>?_,fun p hp=>absurd (show p∈([]:List (Addr×Obj)) from hp) (by simp),e0.hok.kept hk,?_⟩
 ·exact name_of_addr x.apart (PySem.mem_of_lookup h1) (PySem.mem_of_lookup h2)
 ·have hy:scope.names.lookup y=some .cell∨scope.names.lookup y=some .free:=hy
  rcases hy with hy | hy
  ·exact Gs hy
  ·exact absurd rfl (S.nofree _ (PySem.mem_of_lookup hy))
 ·exact Nat.le_of_lt (x.above y c (PySem.mem_of_lookup h))
 ·have hi:i < vs.length:=by
   unfold start at h2
   by_cases hi:i < vs.length
   ·exact hi
   ·rw [List.getElem?_append_right (by simpa using hi)] at h2
    rw [List.getElem?_replicate] at h2
    split at h2<;>cases h2
  have ha:vs[i]? =some v:=by
   unfold start at h2
   rw [List.getElem?_append_left (by simpa using hi),List.getElem?_map] at h2
   cases e:vs[i]? with
   | none=>rw [e] at h2;cases h2
   | some a=>rw [e] at h2;cases h2;rfl
  obtain ⟨u,hu,rv⟩:=r.get ha
  have hp:ps[i]? =some y:=by
   rw [← S.pre,List.getElem?_take_of_lt (by omega)];exact h1
  have ndP:ps.Nodup:=by rw [← S.pre];exact S.nd.sublist (List.take_sublist _ _)
  refine ⟨u,rv,?_⟩
  rcases S.par y (List.mem_of_getElem? hp) with k | k
  ·exact .inl ⟨k,CL ndP hp hu k⟩
  ·obtain ⟨c,e⟩:=Gs (n:=s.heap.objs.size + 1) k
   refine .inr ⟨.inl k,c,e,?_⟩
   have q:=x.cell y c e
   rw [CP ndP hp hu (by show scope.names.lookup y≠_;rw [k];decide)] at q
   exact q
 ·exact e0.hok.fresh (Nat.le_of_lt (x.above y c (PySem.mem_of_lookup h)))
 ·unfold start
  show _=N.length
  rw [List.length_append,List.length_map,List.length_replicate]
  omega
theorem Tz {CX:CXT} {P:Program} {w:World} {K:PySem.W.Frag} {mg:Str→Option Value} {base:Heap} {k:Nat} {f:Addr} {name qual:Str} {params:Arguments} {body:List Stmt} {scope:Scope} {dV kV doc pm cdv ct oc:Value} {an od:Option Addr}
  {osl:Array (Option Value)} {N ps:List Str} {sp:Sp} (lk:K.lookup f=some ⟨oc,od,.func (PySem.W.fnOf name qual params body scope dV kV doc pm an cdv ct),osl⟩) (hcd:PySem.W.codeIn K cdv qual=true) (S:aQ N ps scope)
  (len:∀ vs H Q E,sp vs H Q E→vs.length=ps.length)
  (hbody:∀ (A:Around) (outer:List Env) (s:Shared) (H:Hp) (vs:List V) (Q:VK) (E:XK),Room k (A.deeper (envOfC qual scope s.heap.objs.size f cdv))→sp vs H Q E→
   ∃ t,PSs (cxOf CX P w K mg base N qual scope f cdv A outer s H E) body t∧t {nx:=fun _ H'=>Q .non H',rt:=Q} (start N vs) H):
  FnOk P w K mg base CX (k + 1) f (PySem.W.fnOf name qual params body scope dV kV doc pm an cdv ct) ps sp:=by
 refine ⟨len,fun A outer s H args us vs Q E hr e0 hb r hsp=>?_⟩
 have hl:=len _ _ _ _ hsp
 have KX:K.In s.heap:=e0.mod.kin.keeps fun b o e=>(e0.bs b o e).1
 have lim:s.heap.NoLimit:=e0.mod.nolimit.keeps fun b o e=>(e0.bs b o e).1
 have hkind:∀ y∈ps.zip us,scope.names.lookup y.1=some .local∨(scope.names.lookup y.1=some .cell∧((cellsFrom (s.heap.objs.size + 1) scope.names []).lookup y.1).isSome=true):=fun ⟨n,v⟩ hy=>by
  rcases S.par n (List.of_mem_zip hy).1 with q | q
  ·exact .inl q
  ·exact .inr ⟨q,PySem.W.cellsFrom_some _ _ _ (.inl q)⟩
 refine codeAny_call_function hr.depth (KX _ _ lk) rfl S.co S.gen rfl (PySem.W.codeRec_of KX hcd) (hb _ _ _ _ ?_)
 refine wpAny_newFunctionEnv_cells S.kind hkind fun env he s1 x=>?_
 subst he
 refine ⟨lim.keeps x.toInCall.keep,codeAny_func ?_⟩
 obtain ⟨t,ht,hq⟩:=hbody A outer s H vs Q E (hr.deeper _) hsp
 have I:Inv (cxOf CX P w K mg base N qual scope f cdv A outer s H E) [] (start N vs) H s1:=Lw S hr.hd e0 hl r x
 refine wpAny_mono (ht [] s1 (start N vs) H _ I hq) (fun fl s' hs=>?_) fun e s' hs=>hs
 have fin:∀ {σ':St} {H':Hp} {v:V} {u:Value},Inv (cxOf CX P w K mg base N qual scope f cdv A outer s H E) [] σ' H' s'→RelV v u→Q v H'→CE outer P w H s Q u s':=
  fun {σ' H' v u} J rv q=>⟨v,H',J.os,J.bare,J.base,J.hok,rv,q⟩
 cases fl with
 | ret u=>
   obtain ⟨v,σ',H',J,rv,q⟩:=hs
   exact fin J rv q
 | next=>
   obtain ⟨σ',H',J,q⟩:=hs
   exact fin (v:=V.non) (u:=Value.none) J rfl q
 | brk=>
   obtain ⟨_,_,_,q⟩:=hs
   exact False.elim q
 | cont=>
   obtain ⟨_,_,_,q⟩:=hs
   exact False.elim q
section
variable {X:Cx} {x:Str} {p pos:Pos} {e:Expr} {es:List Expr} {t:TA} {id T:String} {r:List V→Hp→VK→Prop}
noncomputable abbrev tCB (r:List V→Hp→VK→Prop) (t:TA):TE:=fun σ H Q=>t σ H fun vs H1=>r vs H1 Q
theorem ay (hc:nj X (.builtin id) r) (hg:Gl X x) (hm:X.mg x=none) (hv:bootBuiltins x=some (.builtin id)) (ha:PA X (e::es) t) (hn:x≠"__name__":=by decide) (hdb:(x == ("__debug__":Str))=false:=by decide)
  (he:starEach (e::es) X.env=(false,eval e X.env)::starEach es X.env:=by rfl) (hpl:(backTo pos (starEach es X.env)).any (·.1)=false:=by rfl):PE X (.Call (.Name x p) (e::es) [] pos) (tCB r t):=by
 intro pins s σ H Q I h
 refine wpAny_Call_Name_kw (lM I hg hm hv ?_ hn hdb)
 exact PyProof.Rows.callWith_builtin1 (thn (ha pos pins s σ H _ I h) fun us s1 ⟨vs,H1,I1,r1,q1⟩=>hc pins s1 σ H1 vs us Q I1 r1 q1) he hpl
theorem aF (hc:nj X (.type T) r) (hg:Gl X x) (hm:X.mg x=none) (hv:bootBuiltins x=some (.type T)) (ha:PA X (e::es) t) (hn:x≠"__name__":=by decide) (hdb:(x == ("__debug__":Str))=false:=by decide)
  (he:starEach (e::es) X.env=(false,eval e X.env)::starEach es X.env:=by rfl) (hpl:(backTo pos (starEach es X.env)).any (·.1)=false:=by rfl):PE X (.Call (.Name x p) (e::es) [] pos) (tCB r t):=by
 intro pins s σ H Q I h
 refine wpAny_Call_Name_kw (lM I hg hm hv ?_ hn hdb)
 exact PyProof.Rows.callWith_type1 (thn (ha pos pins s σ H _ I h) fun us s1 ⟨vs,H1,I1,r1,q1⟩=>hc pins s1 σ H1 vs us Q I1 r1 q1) he hpl
end
end L2
namespace HT
open PySem PyProof.Rows
section
variable {prog:Program} {w:World} {A:Around} {E:Value→Shared→Prop} {s:Shared}
noncomputable def sIx (n d:Nat):Option Int→Nat
 | none=>d
 | some v=>if v < 0 then (v + (n:Int)).toNat else min v.toNat n
theorem sIx_none (n d:Nat):sIx n d none=d:=rfl
theorem sIx_nat (n d k:Nat):sIx n d (some (k:Int))=min k n:=by
 show (if (k:Int) < 0 then ((k:Int) + (n:Int)).toNat else min (k:Int).toNat n)=min k n
 rw [if_neg (by omega),Int.toNat_natCast]
end
end HT
namespace L2
open PySem PySem.Spec PyProof.Rows
noncomputable abbrev TO:=St→Hp→(Option Int→Hp→Prop)→Prop
noncomputable def PO (X:Cx) (e:Option Expr) (t:TO):Prop:=
 ∀ (pins:List (Addr×Obj)) (s:Shared) (σ:St) (H:Hp) (Q:Option Int→Hp→Prop),Inv X pins σ H s→t σ H Q→
  wpAny (model X.prog X.w) X.A (evalPart e X.env) (fun u s'=>∃ o H',Inv X pins σ H' s'∧IsPart u o∧Q o H') X.xe s
noncomputable abbrev PL:TO:=fun _ H Q=>Q none H
noncomputable abbrev Uj (t:TE):TO:=fun σ H Q=>t σ H fun x H1=>∃ i,x= .int i∧Q (some i) H1
section
variable {X:Cx} {e:Expr} {te:TE} {lo hi:Option Expr} {tl th:TO} {pos p2:Pos}
theorem pj:PO X none PL:=by
 intro pins s σ H Q I h
 rw [evalPart_none]
 exact wpAny_pure ⟨none,H,I,.none,h⟩
theorem pi (h:PE X e te):PO X (some e) (Uj te):=by
 intro pins s σ H Q I hw
 rw [evalPart_some]
 refine thn (h pins s σ H _ I hw) fun u s1 ⟨x,H1,I1,r1,q1⟩=>?_
 obtain ⟨i,rfl,q⟩:=q1
 obtain ⟨t,rfl⟩:=r1
 exact ⟨some i,H1,I1,.int i t,q⟩
noncomputable def SlR (X:Cx) (r:V→Option Int→Option Int→Hp→VK→Prop):Prop:=
 ∀ (pins:List (Addr×Obj)) (s:Shared) (σ:St) (H:Hp) (x:V) (v vl vu:Value) (lo hi:Option Int) (sl:Addr) (Q:VK),Inv X pins σ H s→RelV x v→s.heap.IsSliceOf sl vl vu .none→IsPart vl lo→IsPart vu hi→r x lo hi H Q→
  ∃ T id,typeLookup (.type T) "__getitem__"=pure (some (.builtin id))∧s.TypeIs v T∧wpAny (model X.prog X.w) X.A (getItem v (.ref sl)) (EP X pins σ Q) X.xe s
noncomputable abbrev tSl (r:V→Option Int→Option Int→Hp→VK→Prop) (te:TE) (tl th:TO):TE:=fun σ H Q=>te σ H fun x H1=>tl σ H1 fun l H2=>th σ H2 fun u H3=>r x l u H3 Q
theorem kM {r:V→Option Int→Option Int→Hp→VK→Prop} (hr:SlR X r) (he:PE X e te) (hl:PO X lo tl) (hu:PO X hi th):PE X (.Subscript e (.Slice lo hi none p2) pos) (tSl r te tl th):=by
 intro pins s σ H Q I h
 refine Subscript_ (thn (he pins s σ H _ I h) fun v s1 ⟨x,H1,I1,r1,q1⟩=>?_)
 refine wpAny_Slice (thn (hl pins s1 σ H1 _ I1 q1) fun vl s2 ⟨l,H2,I2,pl,q2⟩=>thn (hu pins s2 σ H2 _ I2 q2) fun vu s3 ⟨u,H3,I3,pu,q3⟩=>?_)
 rw [evalPart_none]
 refine wpAny_pure ?_
 have I4:Inv X pins σ H3 {s3 with heap:=s3.heap.push {cls:= .type "slice",data:= .fields #[vl,vu,.none]}}:=I3.kept (t':=s3.toks) fun b ob q=>Heap.get?_push_of_some _ q
 obtain ⟨T,id,hT,ht,hg⟩:=hr pins {s3 with heap:=s3.heap.push {cls:= .type "slice",data:= .fields #[vl,vu,.none]}} σ H3 x v vl vu l u s3.heap.objs.size Q I4 r1 (Heap.IsSliceOf.new ..) pl pu q3
 show wpAny (model X.prog X.w) X.A (subscriptTail e (.Slice lo hi none p2) v (.ref s3.heap.objs.size)) (EP X pins σ Q) X.xe {s3 with heap:=s3.heap.push {cls:= .type "slice",data:= .fields #[vl,vu,.none]}}
 exact tail_any (ops:=[.ref s3.heap.objs.size,v]) ht hT hg (by with_unfolding_all rfl)
noncomputable def cutV (xs:List V) (lo hi:Option Int):List V:=(xs.drop (HT.sIx xs.length 0 lo)).take (HT.sIx xs.length xs.length hi - HT.sIx xs.length 0 lo)
theorem vB (xs:List V) (lo hi:Option Int):(cutV xs lo hi).length≤xs.length:=by
 unfold cutV
 rw [List.length_take,List.length_drop]
 omega
end
noncomputable def ixN (n:Nat) (i:Int):Option Nat:=if 0≤i then (if i < n then some i.toNat else none) else if -(n:Int)≤i then some (i + n).toNat else none
noncomputable def atI {α:Type} (xs:List α) (i:Int):Option α:=(ixN xs.length i).bind fun j=>xs[j]?
theorem Ls {n:Nat} {i:Int} {j:Nat} (h:ixN n i=some j):seqIndex? i n=some j∧j < n∧-(n:Int)≤i∧i < n:=by
 unfold ixN at h
 by_cases h0:0≤i
 ·rw [if_pos h0] at h
  by_cases h1:i < n
  ·rw [if_pos h1] at h
   have e:i.toNat=j:=Option.some.inj h
   exact ⟨by rw [seqIndex_of h0 h1,e],by omega,by omega,h1⟩
  ·rw [if_neg h1] at h;cases h
 ·rw [if_neg h0] at h
  by_cases h1: -(n:Int)≤i
  ·rw [if_pos h1] at h
   have e:(i + n).toNat=j:=Option.some.inj h
   exact ⟨by rw [seqIndex_neg (by omega) h1,e],by omega,h1,by omega⟩
  ·rw [if_neg h1] at h;cases h
theorem Fn {α:Type} {xs:List α} {i:Int} {v:α} (h:atI xs i=some v):∃ j,seqIndex? i xs.length=some j∧xs[j]? =some v∧j < xs.length∧-(xs.length:Int)≤i∧i < xs.length:=by
 unfold atI at h
 cases e:ixN xs.length i with
 | none=>rw [e] at h;cases h
 | some j=>
   rw [e] at h
   obtain ⟨h1,h2,h3,h4⟩:=Ls e
   exact ⟨j,h1,h,h2,h3,h4⟩
theorem bz {α:Type} {xs:List α} {j:Nat} {v:α} (h:xs[j]? =some v):atI xs (j:Int)=some v:=by
 have hj:j < xs.length:=(List.getElem?_eq_some_iff.mp h).1
 have e:ixN xs.length (j:Int)=some j:=by
  unfold ixN
  rw [if_pos (by omega),if_pos (by omega)];simp
 unfold atI;rw [e];exact h
noncomputable def RI (b:Expr):Prop:=∀ o i,subscripted b false o i=operate [o,i] (getItem o i)
noncomputable def IxR (X:Cx) (r:R2):Prop:=
 ∀ (value slice:Expr) (pins:List (Addr×Obj)) (s:Shared) (σ:St) (H:Hp) (x y:V) (v u:Value) (Q:VK),Inv X pins σ H s→RelV x v→RelV y u→r x y H Q→
  subscripted slice false v u=operate [v,u] (getItem v u)→wpAny (model X.prog X.w) X.A (subscriptTail value slice v u) (EP X pins σ Q) X.xe s
noncomputable def MtR (X:Cx) (id:String) (r:V→List V→Hp→VK→Prop):Prop:=
 ∀ (pins:List (Addr×Obj)) (s:Shared) (σ:St) (H:Hp) (x:V) (xs:List V) (v:Value) (us:List Value) (Q:VK),Inv X pins σ H s→RelV x v→Vals xs us→r x xs H Q→
  wpAny (model X.prog X.w) X.A (call (.builtin id) (v::us)) (EP X pins σ Q) X.xe s
section
variable {X:Cx} {a b:Expr} {ta tb:TE} {pos:Pos}
theorem aH {r:R2} (hr:IxR X r) (ha:PE X a ta) (hb:PE X b tb) (hs:RI b):PE X (.Subscript a b pos) (tOp r ta tb):=by
 intro pins s σ H Q I h
 exact Subscript_ (binT ha hb I h fun v u s2 x y H2 I2 rx ry q=>hr a b pins s2 σ H2 x y v u Q I2 rx ry q (hs _ _))
noncomputable def rIxL (K:PySem.W.Frag):R2:=fun x y H Q=>∃ p xs i v,x= .ref p∧y= .int i∧SqL K H p xs∧atI xs i=some v∧Q v H
noncomputable def rIxT (K:PySem.W.Frag):R2:=fun x y H Q=>∃ p xs i v,x= .ref p∧y= .int i∧SqT K H p xs∧atI xs i=some v∧Q v H
noncomputable def rIxS:R2:=fun x y H Q=>∃ z i c,x= .str z∧y= .int i∧z.length≤sizeLine∧atI z.cps.toList i=some c∧Q (.str ⟨#[c]⟩) H
theorem Q7:IxR X (rIxL X.K):=by
 intro value slice pins s σ H x y v u Q I rx ry h hs
 obtain ⟨p,xs,i,z,rfl,rfl,hq,he,q⟩:=h
 cases rx
 obtain ⟨t,rfl⟩:=ry
 obtain ⟨its,r,pl,hz⟩:=I.list hq
 obtain ⟨j,h1,h2,h3,h4,h5⟩:=Fn he
 obtain ⟨w,ew,rw'⟩:=r.get h2
 have hl:=r.length
 have hn:=BI
 have fin:EP X pins σ Q w s:=⟨z,H,I,rw',q⟩
 by_cases h0:0≤i
 ·have hj:i.toNat=j:=by
   rw [seqIndex_of h0 h5] at h1
   exact Option.some.inj h1
  exact item_listR pl.isList h0 (by omega) (by rw [hj];simpa using ew) fin hs
 ·have hj:(i + (its.toArray.size:Int)).toNat=j:=by
   rw [seqIndex_neg (by omega) h4] at h1
   rw [List.size_toArray,← hl]
   exact Option.some.inj h1
  exact subscriptTail_builtinR (x:=w) pl.isList.typeIs slot_list_getitem.lookup
   (wpAny_getItem_list_neg (Q:=fun r s'=>r=w∧EP X pins σ Q r s') pl.isList (by omega) (by rw [List.size_toArray]<;>omega) (by omega) (by rw [hj];simpa using ew) ⟨rfl,fin⟩) hs
theorem Tu:IxR X (rIxT X.K):=by
 intro value slice pins s σ H x y v u Q I rx ry h hs
 obtain ⟨p,xs,i,z,rfl,rfl,hq,he,q⟩:=h
 cases rx
 obtain ⟨t,rfl⟩:=ry
 obtain ⟨its,r,pl,hz⟩:=I.tuple hq
 obtain ⟨j,h1,h2,h3,h4,h5⟩:=Fn he
 obtain ⟨w,ew,rw'⟩:=r.get h2
 have hl:=r.length
 have hn:=BI
 have fin:EP X pins σ Q w s:=⟨z,H,I,rw',q⟩
 exact subscriptTail_builtinR (x:=w) pl.typeIs slot_tuple_getitem.lookup
  (getItem_tuple (j:=j) (Q:=fun r s'=>r=w∧EP X pins σ Q r s') pl (by omega) (by omega) (by rw [List.size_toArray,← hl];exact h1) (by simpa using ew) ⟨rfl,fin⟩) hs
theorem Lr:IxR X rIxS:=by
 intro value slice pins s σ H x y v u Q I rx ry h hs
 obtain ⟨z,i,c,rfl,rfl,hz,he,q⟩:=h
 obtain ⟨t,rfl⟩:=rx
 obtain ⟨t',rfl⟩:=ry
 obtain ⟨j,h1,h2,h3,h4,h5⟩:=Fn he
 have hl:z.cps.toList.length=z.length:=by simp [Str.length]
 rw [hl] at h1 h4 h5
 have hn:=BI
 exact tail_any (typeIs_str s z t) slot_str_getitem.lookup (getItem_str (c:=c) (by
  have e1:decide (i < -(2 ^ 63:Int))=false:=decide_eq_false (by omega)
  have e2:decide (i≥2 ^ 63)=false:=decide_eq_false (by omega)
  rw [e1,e2,Bool.or_false]) (by rw [h1];simpa using h2) ⟨.str ⟨#[c]⟩,H,I.tok _,⟨_,rfl⟩,q⟩) hs
theorem HK (its:List Value) (n j:Nat) (u:Value):Obj.mapSeq (·.setIfInBounds j u) {cls:= .type "list",data:= .seq its.toArray n}={cls:= .type "list",data:= .seq (its.set j u).toArray n}:=by
 simp [Obj.mapSeq]
theorem Inv.lst {pins:List (Addr×Obj)} {σ:St} {H:Hp} {s:Shared} {p:Addr} {xs:List V} (I:Inv X pins σ H s) (h:H p=some (.lst xs)):
  ∃ (its:List Value) (n:Nat),Vals xs its∧s.heap.get? p=some {cls:= .type "list",data:= .seq its.toArray n}∧xs.length≤sizeLine:=by
 obtain ⟨z,its,n,r,e⟩:=I.hok p _ h
 exact ⟨its,n,r,e,z⟩
theorem Inv.lstUpd {pins:List (Addr×Obj)} {σ:St} {H:Hp} {s:Shared} {p:Addr} {xs ys:List V} {its its':List Value} {n n':Nat} {f:Obj→Obj} (I:Inv X pins σ H s) (h:H p=some (.lst xs))
  (ho:s.heap.get? p=some {cls:= .type "list",data:= .seq its.toArray n}) (hf:f {cls:= .type "list",data:= .seq its.toArray n}={cls:= .type "list",data:= .seq its'.toArray n'}) (r:Vals ys its') (hz:ys.length≤sizeLine) (t:Nat):
  Inv X pins σ (upd H p (.lst ys)) {s with heap:=s.heap.update p f,toks:=t}:=by
 have e:(s.heap.update p f).get? p=some {cls:= .type "list",data:= .seq its'.toArray n'}:=by
  rw [Heap.get?_update_self f ho (by rw [hf]<;>rfl),hf]
 refine I.write (x:=p) (e:=p) (by rw [h];trivial) (.inl rfl) (fun b u hb q=>(Heap.get?_update_other _ _ (Ne.symm hb)).trans q) ⟨_,e⟩ ?_
 exact ⟨hz,its',n',r,e⟩
noncomputable def SR:V→V→V→Hp→(Hp→Prop)→Prop:=fun o i v H Q=>∃ p xs k j,o= .ref p∧i= .int k∧H p=some (.lst xs)∧ixN xs.length k=some j∧Q (upd H p (.lst (xs.set j v)))
theorem kK:PSet X SR:=by
 intro pins s σ H o i v ov iv u Q I ro ri rv h
 obtain ⟨p,xs,k,j,rfl,rfl,hp,hj,q⟩:=h
 cases ro
 obtain ⟨t,rfl⟩:=ri
 obtain ⟨its,n,r,ho,hz⟩:=I.lst hp
 obtain ⟨h1,h2,h3,h4⟩:=Ls hj
 have hl:=r.length
 have hn:=BI
 have I':Inv X pins σ (upd H p (.lst (xs.set j v))) {s with heap:=s.heap.update p (Obj.mapSeq (·.setIfInBounds j u))}:=
  I.lstUpd hp ho (HK its n j u) (r.set rv j) (by rw [List.length_set];exact hz) s.toks
 by_cases h0:0≤k
 ·have hk:k.toNat=j:=by
   rw [seqIndex_of h0 h4] at h1
   exact Option.some.inj h1
  exact PySem.W.ki_setAt ho h0 (by omega) (by rw [List.size_toArray,← hl];exact h4) (by rw [hk];exact ⟨_,I',q⟩)
 ·have hk:(k + (its.toArray.size:Int)).toNat=j:=by
   rw [seqIndex_neg (by omega) h3] at h1
   rw [List.size_toArray,← hl]
   exact Option.some.inj h1
  exact PySem.W.ki_setBack ho (by omega) (by rw [List.size_toArray,← hl];exact h3) (by omega) (by rw [hk];exact ⟨_,I',q⟩)
theorem AN (lo hi:Option Int) (n:Nat):(sliceBounds lo hi none n).1=((HT.sIx n 0 lo:Nat):Int)∧(sliceBounds lo hi none n).2.1=((HT.sIx n n hi:Nat):Int)∧(sliceBounds lo hi none n).2.2=1:=by
 refine ⟨?_,?_,rfl⟩
 ·cases lo with
  | none=>simp [sliceBounds,HT.sIx]
  | some i=>
    simp only [sliceBounds,HT.sIx,Option.getD_none,show (1:Int) > 0 by decide,if_true]
    by_cases h:i < 0
    ·simp only [h,if_true]<;>omega
    ·simp only [h,if_false]<;>omega
 ·cases hi with
  | none=>simp [sliceBounds,HT.sIx]
  | some i=>
    simp only [sliceBounds,HT.sIx,Option.getD_none,show (1:Int) > 0 by decide,if_true]
    by_cases h:i < 0
    ·simp only [h,if_true]<;>omega
    ·simp only [h,if_false]<;>omega
theorem yq (its:List Value) (lo hi:Option Int):slicePick its.toArray lo hi none=((its.drop (HT.sIx its.length 0 lo)).take (HT.sIx its.length its.length hi - HT.sIx its.length 0 lo)).toArray:=by
 obtain ⟨h1,h2,h3⟩:=AN lo hi its.toArray.size
 unfold slicePick
 rw [h1,h2,h3]
 simp only [sliceRange_one,pick_run,List.size_toArray]<;>rfl
noncomputable def rSlL (K:PySem.W.Frag):V→Option Int→Option Int→Hp→VK→Prop:=fun x lo hi H Q=>∃ a xs,x= .ref a∧SqL K H a xs∧∀ p,H p=none→Q (.ref p) (upd H p (.lst (cutV xs lo hi)))
theorem PX:SlR X (rSlL X.K):=by
 intro pins s σ H x v vl vu lo hi sl Q I rx hs pl pu h
 obtain ⟨a,xs,rfl,hx,q⟩:=h
 cases rx
 obtain ⟨its,r,ht,hz⟩:=I.list hx
 have hlen:=r.length
 refine ⟨"list",_,slot_list_getitem.lookup,ht.isList.typeIs,?_⟩
 refine wpAny_getItem_list_slice ht.isList hs pl pu .none (by simp) ?_ (by rw [List.size_toArray]<;>omega)
 rw [yq,← hlen]
 refine ⟨.ref s.heap.objs.size,_,I.laid (t':=s.toks) (o:= .lst (cutV xs lo hi)) (fun b ob q=>Heap.get?_push_of_some _ q) (Nat.le_refl _) ?_,rfl,q _ (I.hok.fresh (Nat.le_refl _))⟩
 exact ⟨Nat.le_trans (vB xs lo hi) hz,_,0,(r.drop (HT.sIx xs.length 0 lo)).take (HT.sIx xs.length xs.length hi - HT.sIx xs.length 0 lo),Heap.get?_push_size _ rfl⟩
noncomputable def zN:V→Bool
 | .non=>true
 | .bl _=>true
 | .int _=>true
 | .str _=>true
 | _=>false
noncomputable def eqV:V→V→Bool
 | .non,.non=>true
 | .bl a,.bl b=>a == b
 | .bl a,.int b=>(if a then 1 else 0) == b
 | .int a,.bl b=>a == (if b then 1 else 0)
 | .int a,.int b=>a == b
 | .str a,.str b=>a == b
 | _,_=>false
theorem TB {A:Around} {s:Shared} {y x:V} {u v:Value} (ry:RelV y u) (rx:RelV x v) (fy:zN y=true) (fx:zN x=true):SeqAt.EqAt A s u v (eqV y x):=by
 cases y with
 | non=>
   cases ry
   cases x with
   | non=>cases rx;exact SeqAt.EqAt.same _
   | bl b=>cases rx;exact SeqAt.EqAt.none_bool b
   | int b=>obtain ⟨t,rfl⟩:=rx;exact SeqAt.EqAt.none_int b t
   | str b=>obtain ⟨t,rfl⟩:=rx;exact SeqAt.EqAt.none_str b t
   | _=>exact absurd (show false=true from fx) Bool.false_ne_true
 | bl a=>
   cases ry
   cases x with
   | non=>cases rx;exact SeqAt.EqAt.bool_none a
   | bl b=>cases rx;exact SeqAt.EqAt.bool_bool a b
   | int b=>obtain ⟨t,rfl⟩:=rx;exact SeqAt.EqAt.bool_int a b t
   | str b=>obtain ⟨t,rfl⟩:=rx;exact SeqAt.EqAt.bool_str a b t
   | _=>exact absurd (show false=true from fx) Bool.false_ne_true
 | int a=>
   obtain ⟨t',rfl⟩:=ry
   cases x with
   | non=>cases rx;exact SeqAt.EqAt.int_none a t'
   | bl b=>cases rx;exact SeqAt.EqAt.int_bool a t' b
   | int b=>obtain ⟨t,rfl⟩:=rx;exact SeqAt.EqAt.int_int a t' b t
   | str b=>obtain ⟨t,rfl⟩:=rx;exact SeqAt.EqAt.int_str a t' b t
   | _=>exact absurd (show false=true from fx) Bool.false_ne_true
 | str a=>
   obtain ⟨t',rfl⟩:=ry
   cases x with
   | non=>cases rx;exact SeqAt.EqAt.str_none a t'
   | bl b=>cases rx;exact SeqAt.EqAt.str_bool a t' b
   | int b=>obtain ⟨t,rfl⟩:=rx;exact SeqAt.EqAt.str_int a t' b t
   | str b=>obtain ⟨t,rfl⟩:=rx;exact SeqAt.EqAt.str_str a t' b t
   | _=>exact absurd (show false=true from fx) Bool.false_ne_true
 | _=>exact absurd (show false=true from fy) Bool.false_ne_true
noncomputable def eqU (x:V) (u:Value):Bool:=match u with
 | .none=>eqV .non x
 | .bool b=>eqV (.bl b) x
 | .int i _=>eqV (.int i) x
 | .str z _=>eqV (.str z) x
 | _=>false
theorem Pe {x y:V} {u:Value} (r:RelV y u) (f:zN y=true):eqU x u=eqV y x:=by
 cases y with
 | non=>cases r;rfl
 | bl b=>cases r;rfl
 | int i=>obtain ⟨t,rfl⟩:=r;rfl
 | str z=>obtain ⟨t,rfl⟩:=r;rfl
 | _=>exact absurd (show false=true from f) Bool.false_ne_true
theorem vV {x:V}:∀ {xs:List V} {us:List Value},Vals xs us→xs.all zN=true→us.any (eqU x)=xs.any fun y=>eqV y x
 | _,_,.nil,_=>rfl
 | y::xs,u::us,.cons r t,f=>by
   rw [List.all_cons,Bool.and_eq_true] at f
   rw [List.any_cons,List.any_cons,Pe r f.1,vV t f.2]
theorem ou {A:Around} {s:Shared} {x:V} {v:Value} (rx:RelV x v) (fx:zN x=true):∀ {xs:List V} {us:List Value},Vals xs us→xs.all zN=true→∀ u∈us,SeqAt.EqAt A s u v (eqU x u)
 | _,_,.nil,_=>fun u hu=>by cases hu
 | y::xs,u::us,.cons r t,f=>fun u' hu=>by
   rw [List.all_cons,Bool.and_eq_true] at f
   rcases List.mem_cons.mp hu with rfl | hu
   ·rw [Pe r f.1];exact TB r rx f.1 fx
   ·exact ou rx fx t f.2 u' hu
noncomputable def inV (x:V) (xs:List V):Bool:=xs.any fun y=>eqV y x
noncomputable def rIn (K:PySem.W.Frag) (neg:Bool):R2:=fun x y H Q=>∃ p xs,y= .ref p∧(SqL K H p xs∨SqT K H p xs)∧zN x=true∧xs.all zN=true∧Q (.bl (if neg then !inV x xs else inV x xs)) H
theorem KR:OpR X (compareOp .In) (rIn X.K false):=by
 intro pins s σ H x y v u Q I rx ry h
 obtain ⟨p,xs,rfl,hq,fx,fs,q⟩:=h
 cases ry
 rcases hq with hq | hq
 ·obtain ⟨its,r,pl,hz⟩:=I.list hq
  refine SeqAt.in_listAt (eqU x) pl.isList (fun w hw=>ou rx fx r fs w (by simpa using hw)) ⟨.bl _,H,I,rfl,?_⟩
  rw [show its.toArray.any (eqU x)=its.any (eqU x) by simp,vV r fs]
  exact q
 ·obtain ⟨its,r,pl,hz⟩:=I.tuple hq
  refine SeqAt.in_tupleAt (eqU x) pl (fun w hw=>ou rx fx r fs w (by simpa using hw)) ⟨.bl _,H,I,rfl,?_⟩
  rw [show its.toArray.any (eqU x)=its.any (eqU x) by simp,vV r fs]
  exact q
theorem Bh:OpR X (compareOp .NotIn) (rIn X.K true):=by
 intro pins s σ H x y v u Q I rx ry h
 obtain ⟨p,xs,rfl,hq,fx,fs,q⟩:=h
 cases ry
 rcases hq with hq | hq
 ·obtain ⟨its,r,pl,hz⟩:=I.list hq
  refine SeqAt.notIn_listAt (eqU x) pl.isList (fun w hw=>ou rx fx r fs w (by simpa using hw)) ⟨.bl _,H,I,rfl,?_⟩
  rw [show its.toArray.any (eqU x)=its.any (eqU x) by simp,vV r fs]
  exact q
 ·obtain ⟨its,r,pl,hz⟩:=I.tuple hq
  refine SeqAt.notIn_tupleAt (eqU x) pl (fun w hw=>ou rx fx r fs w (by simpa using hw)) ⟨.bl _,H,I,rfl,?_⟩
  rw [show its.toArray.any (eqU x)=its.any (eqU x) by simp,vV r fs]
  exact q
theorem Bg:OpR X (compareOp .NotIn) (fun x y H Q=>∃ i j,x= .str i∧y= .str j∧Q (.bl (!(!(Builtin.Str.occurrences j i 0 j.length 1).isEmpty))) H):=by
 intro pins s σ H x y v u Q I rx ry h
 obtain ⟨i,j,rfl,rfl,q⟩:=h
 obtain ⟨t,rfl⟩:=rx
 obtain ⟨t',rfl⟩:=ry
 exact notIn_str ⟨.bl _,H,I,rfl,q⟩
theorem Cy:nj X (.type "list") (fun xs H Q=>∃ p ys,xs=[.ref p]∧(SqL X.K H p ys∨SqT X.K H p ys)∧∀ l,H l=none→Q (.ref l) (upd H l (.lst ys))):=by
 intro pins s σ H xs us Q I r h
 obtain ⟨p,ys,rfl,hq,q⟩:=h
 obtain ⟨u,rfl,rx⟩:=AE r
 cases rx
 have fin:∀ (its:List Value),Vals ys its→ys.length≤sizeLine→∀ (h':Heap) (c':Nat),(∀ b o',s.heap.get? b=some o'→h'.get? b=some o')→
   h'.get? s.heap.objs.size=some {cls:= .type "list",dict:=none,data:= .seq its.toArray c',slots:=#[]}→EP X pins σ Q (.ref s.heap.objs.size) {s with heap:=h'}:=fun its r' hz h' c' kp e=>
  ⟨.ref s.heap.objs.size,_,I.laid (t':=s.toks) kp (Nat.le_refl _) (show eA X.prog X.w _ h' _ (.lst ys) from ⟨hz,its,c',r',e⟩),rfl,q _ (I.hok.fresh (Nat.le_refl _))⟩
 rcases hq with hq | hq
 ·obtain ⟨its,r',pl,hz⟩:=I.list hq
  have hlen:=r'.length
  obtain ⟨o,ho,hc,n,hd⟩:=pl.isList
  exact call_list_seq p (.inl rfl) ho hc hd (fun h' c' kp e=>fin its r' hz h' c' kp e) (by simp only [List.size_toArray]<;>omega)
 ·obtain ⟨its,r',pl,hz⟩:=I.tuple hq
  have hlen:=r'.length
  obtain ⟨o,ho,hc,n,hd⟩:=pl
  exact call_list_seq p (.inr rfl) ho hc hd (fun h' c' kp e=>fin its r' hz h' c' kp e) (by simp only [List.size_toArray]<;>omega)
theorem Aa:nj X (.type "tuple") (fun xs H Q=>∃ p ys,xs=[.ref p]∧((SqL X.K H p ys∧∀ l,H l=none→Q (.ref l) (upd H l (.tup ys)))∨(SqT X.K H p ys∧Q (.ref p) H))):=by
 intro pins s σ H xs us Q I r h
 obtain ⟨p,ys,rfl,h⟩:=h
 obtain ⟨u,rfl,rx⟩:=AE r
 cases rx
 rcases h with ⟨hq,q⟩ | ⟨hq,q⟩
 ·obtain ⟨its,r',pl,hz⟩:=I.list hq
  have hlen:=r'.length
  refine call_tuple_list pl.isList (fun h' kp=>?_) (by simp only [List.size_toArray]<;>omega)
  have I1:Inv X pins σ H {s with heap:=h'}:=I.kept (t':=s.toks) kp
  have I2:Inv X pins σ (upd H h'.objs.size (.tup ys)) {s with heap:=h'.push {cls:= .type "tuple",data:= .seq its.toArray}}:=
   I1.laid (t':=s.toks) (fun b o e=>Heap.get?_push_of_some _ e) (Nat.le_refl _) (show eA X.prog X.w _ _ _ (.tup ys) from ⟨hz,its,r',IsTup.new _ _⟩)
  exact ⟨.ref h'.objs.size,_,I2,rfl,q _ (I1.hok.fresh (Nat.le_refl _))⟩
 ·obtain ⟨its,r',pl,hz⟩:=I.tuple hq
  exact call_tuple_same pl ⟨.ref p,H,I,rfl,q⟩
noncomputable def tyV (K:PySem.W.Frag) (T:String) (x:V) (H:Hp):Prop:=match x with
 | .str _=>T="str"
 | .int _=>T="int"
 | .ref p=>(T="list"∧∃ xs,SqL K H p xs)∨(T="tuple"∧∃ o,K.lookup p=some o∧o.cls= .type "tuple"∧o.dict=none)∨
   (T="dict"∧((∃ kvs,H p=some (.dK kvs))∨∃ kvs,H p=some (.dT kvs)))∨(T="set"∧∃ S n,H p=some (.set S n))
 | _=>False
theorem R5 {pins:List (Addr×Obj)} {σ:St} {H:Hp} {s:Shared} {T:String} {x:V} {v:Value} (I:Inv X pins σ H s) (r:RelV x v) (ty:tyV X.K T x H):
  s.TypeIs v T∧∀ a,v= .ref a→∃ ob,s.heap.get? a=some ob∧ob.dict=none:=by
 cases x with
 | str z=>
   obtain ⟨t,rfl⟩:=r
   cases (show T="str" from ty)
   exact ⟨typeIs_str s z t,fun _ e=>nomatch e⟩
 | int i=>
   obtain ⟨t,rfl⟩:=r
   cases (show T="int" from ty)
   exact ⟨typeIs_int s i t,fun _ e=>nomatch e⟩
 | ref p=>
   cases r
   rcases ty with ⟨rfl,xs,hq⟩ | ⟨rfl,o,hk,hc,hd⟩ | ⟨rfl,hk⟩ | ⟨rfl,S,n,hk⟩
   ·obtain ⟨its,_,pl,_⟩:=I.list hq
    refine ⟨pl.isList.typeIs,fun a e=>?_⟩
    cases e
    obtain ⟨o,n,e,c,hd,_⟩:=pl
    exact ⟨o,e,hd⟩
   ·refine ⟨⟨o,I.kIn p o hk,hc⟩,fun a e=>?_⟩
    cases e
    exact ⟨o,I.kIn _ o hk,hd⟩
   ·have z:∃ o,s.heap.get? p=some o∧o.ExactDict:=by
     rcases hk with ⟨kvs,hk⟩ | ⟨kvs,hk⟩
     ·obtain ⟨_,_,_,_,o,_,_,e,ex,_⟩:=I.hok p _ hk
      exact ⟨o,e,ex⟩
     ·obtain ⟨_,_,_,_,o,_,_,e,ex,_⟩:=I.hok p _ hk
      exact ⟨o,e,ex⟩
    obtain ⟨o,e,ex⟩:=z
    refine ⟨⟨o,e,ex.1⟩,fun a e2=>?_⟩
    cases e2
    exact ⟨o,e,ex.2.1⟩
   ·obtain ⟨o,_,_,_,e,ex,_⟩:=I.hok p _ hk
    refine ⟨⟨o,e,ex.1⟩,fun a e2=>?_⟩
    cases e2
    exact ⟨o,e,ex.2.1⟩
 | _=>exact False.elim ty
noncomputable abbrev tBM (K:PySem.W.Frag) (T:String) (r:V→List V→Hp→VK→Prop) (to:TE) (t:TA):TE:=fun σ H Q=>to σ H fun x H1=>tyV K T x H1∧t σ H1 fun xs H2=>r x xs H2 Q
variable {o e:Expr} {es:List Expr} {to:TE} {t:TA} {name:Str} {apos cpos:Pos} {T id:String} {r:V→List V→Hp→VK→Prop}
theorem UC (pa:PlainAttrs T) (slot:Slot T name id) (hty:typeOf (.builtin id)=pure (.type "method_descriptor")) (hm:MtR X id r) (ho:PE X o to) (ha:PA X (e::es) t)
  (hbase:attributeBase o name X.env (eval o X.env)=eval o X.env:=by rfl)
  (hfew:((backTo cpos (starEach (e::es) X.env)).all (fun x=> !x.1)&&(backToKw cpos (keywordEach [] X.env)).all (fun x=>x.1.isSome)
   &&decide ((e::es).length + ([]:List Keyword).length + (if ([]:List Keyword).isEmpty then 0 else 1) < 30))=true:=by rfl)
  (hline:(apos.endLine == cpos.line)=true:=by rfl) (hs:starEach (e::es) X.env=(false,eval e X.env)::starEach es X.env:=by rfl) (hplain:(backTo cpos (starEach es X.env)).any (·.1)=false:=by rfl):
  PE X (.Call (.Attribute o name apos) (e::es) [] cpos) (tBM X.K T r to t):=by
 intro pins s σ H Q I h
 refine wpAny_Call_method_late hbase hfew hline rfl (thn (ho pins s σ H _ I h) fun v s1 ⟨x,H1,I1,r1,ty,q1⟩=>?_)
 obtain ⟨h1,h2⟩:=R5 I1 r1 ty
 refine ⟨T,id,pa,slot,hty,h1,h2,?_⟩
 have hA:=ha cpos pins s1 σ H1 _ I1 q1
 rw [hs] at hA ⊢
 refine Calls.callWith_builtin (by show (false||(backTo cpos (starEach es X.env)).any (·.1))=false;rw [hplain]<;>rfl) (Calls.evalArgs_plain ?_)
 exact thn hA fun us s2 ⟨vs,H2,I2,r2,q2⟩=>hm pins s2 σ H2 x vs v us Q I2 r1 r2 q2
end
noncomputable def MtM (X:Cx) (id:String) (r:V→List V→Hp→VK→Prop):Prop:=
 ∀ (pins:List (Addr×Obj)) (s:Shared) (σ:St) (H:Hp) (x:V) (xs:List V) (v:Value) (us:List Value) (Q:VK),Inv X pins σ H s→RelV x v→Vals xs us→r x xs H Q→
  wpAny (model X.prog X.w) X.A (call (.builtin id) (v::us)) (EP X pins σ Q) X.xe s
theorem Vals.one:∀ {x:V} {us:List Value},Vals [x] us→∃ u,us=[u]∧RelV x u
 | _,_,.cons r .nil=>⟨_,rfl,r⟩
theorem Vals.two:∀ {x y:V} {us:List Value},Vals [x,y] us→∃ u v,us=[u,v]∧RelV x u∧RelV y v
 | _,_,_,.cons r (.cons q .nil)=>⟨_,_,rfl,r,q⟩
theorem Vals.eraseIdx:∀ {xs:List V} {us:List Value} (i:Nat),Vals xs us→Vals (xs.eraseIdx i) (us.eraseIdx i)
 | _,_,_,.nil=> .nil
 | _,_,0,.cons _ t=>t
 | _,_,i + 1,.cons r t=> .cons r (Vals.eraseIdx i t)
theorem Vals.reverse {xs:List V} {us:List Value} (h:Vals xs us):Vals xs.reverse us.reverse:=by
 induction h with
 | nil=>exact .nil
 | cons r t ih=>rw [List.reverse_cons,List.reverse_cons];exact Vals.append ih (.cons r .nil)
theorem Vals.rep {xs:List V} {us:List Value} (h:Vals xs us):∀ k:Nat,Vals (List.replicate k xs).flatten (List.replicate k us).flatten
 | 0=> .nil
 | k + 1=>by
   rw [List.replicate_succ,List.replicate_succ,List.flatten_cons,List.flatten_cons]
   exact Vals.append h (Vals.rep h k)
theorem BJ {α:Type}:∀ (l:List α) (i:Nat),(l.eraseIdx i).length≤l.length
 | [],_=>Nat.le_refl _
 | _::_,0=>Nat.le_succ _
 | _::r,i + 1=>Nat.succ_le_succ (BJ r i)
theorem Cc (its:List Value):∀ (k:Nat) (acc:List Value),
  List.foldl (fun x1 x2=>x1++x2) acc.toArray (List.replicate k its.toArray)=(acc++(List.replicate k its).flatten).toArray
 | 0,acc=>by simp
 | k + 1,acc=>by
   have e:acc.toArray++its.toArray=(acc++its).toArray:=by simp
   have e2:(acc++its)++(List.replicate k its).flatten=acc++(List.replicate (k + 1) its).flatten:=by
    rw [List.replicate_succ,List.flatten_cons,List.append_assoc]
   rw [← e2,← Cc its k (acc++its),← e,List.replicate_succ,List.foldl_cons]
section
variable {X:Cx} {pins:List (Addr×Obj)} {σ:St} {H:Hp} {s:Shared} {l b:Addr} {xs ys zs:List V}
theorem Inv.lset {its its':List Value} {n:Nat} {f:Array Value→Array Value} {t':Nat} (I:Inv X pins σ H s) (hH:H l=some (.lst xs))
  (e:s.heap.get? l=some {cls:= .type "list",data:= .seq its.toArray n}) (hf:f its.toArray=its'.toArray) (hv:Vals ys its') (hz:ys.length≤sizeLine):
  Inv X pins σ (upd H l (.lst ys)) {s with heap:=s.heap.update l (Obj.mapSeq f),toks:=t'}:=by
 have q:=PySem.IsL.update e f
 rw [hf] at q
 refine I.write (x:=l) (e:=l) (by rw [hH];exact trivial) (.inl rfl) (fun b' u hb hu=>(Heap.get?_update_other s.heap (Obj.mapSeq f) (Ne.symm hb)).trans hu) ⟨_,q⟩ ?_
 exact ⟨hz,its',_,hv,q⟩
theorem Inv.lnew {its:List Value} {t':Nat} (I:Inv X pins σ H s) (hv:Vals ys its) (hz:ys.length≤sizeLine):
  Inv X pins σ (upd H s.heap.objs.size (.lst ys)) {s with heap:=s.heap.push {cls:= .type "list",data:= .seq its.toArray},toks:=t'}:=
 I.laid (fun _ _ q=>Heap.get?_push_of_some _ q) (Nat.le_refl _) ⟨hz,its,0,hv,Heap.get?_push_size _ rfl⟩
theorem Inv.fresh (I:Inv X pins σ H s):H s.heap.objs.size=none:=I.hok.fresh (Nat.le_refl _)
theorem Inv.lstM (I:Inv X pins σ H s) (hH:H l=some (.lst xs)):xs.length≤sizeLine∧∃ (its:List Value) (n:Nat),Vals xs its∧xs.length=its.length∧s.heap.get? l=some {cls:= .type "list",data:= .seq its.toArray n}:=by
 obtain ⟨z,its,n,r,e⟩:=I.hok l _ hH
 exact ⟨z,its,n,r,r.length,e⟩
theorem F2 {n:Nat} (h:n≤sizeLine):Builtin.List.listTooLong n=false:=by
 unfold Builtin.List.listTooLong
 exact decide_eq_false (by omega)
end
section
variable {X:Cx}
noncomputable def Kz:V→List V→Hp→VK→Prop:=fun x vs H Q=>∃ l xs y,x= .ref l∧vs=[y]∧H l=some (.lst xs)∧xs.length < sizeLine∧Q .non (upd H l (.lst (xs++[y])))
theorem dR:MtM X "list.append" Kz:=by
 intro pins s σ H x vs v us Q I rx rv h
 obtain ⟨l,xs,y,rfl,rfl,hH,hz,q⟩:=h
 cases rx
 obtain ⟨u,rfl,ru⟩:=rv.one
 obtain ⟨z,its,n,r,hl,e⟩:=I.lstM hH
 refine call_meets F.slot_list_append ⟨_,e,rfl⟩ F.entry_list_append (F.args_list_append_2 _ _) (PySem.list_append l its.toArray n u (by rw [List.size_toArray];omega)) ⟨e,?_⟩
 refine ⟨.non,_,I.lset (its':=its++[u]) hH e (by simp) (r.append (.cons ru .nil)) ?_,rfl,q⟩
 rw [List.length_append,List.length_singleton]
 omega
noncomputable def Ky:V→List V→Hp→VK→Prop:=fun x vs H Q=>∃ l b xs zs,x= .ref l∧vs=[.ref b]∧H l=some (.lst xs)∧H b=some (.lst zs)∧xs.length + zs.length≤sizeLine∧Q .non (upd H l (.lst (xs++zs)))
theorem c7:MtM X "list.extend" Ky:=by
 intro pins s σ H x vs v us Q I rx rv h
 obtain ⟨l,b,xs,zs,rfl,rfl,hH,hB,hz,q⟩:=h
 cases rx
 obtain ⟨u,rfl,ru⟩:=rv.one
 cases ru
 obtain ⟨z,its,n,r,hl,e⟩:=I.lstM hH
 obtain ⟨z2,its2,n2,r2,hl2,e2⟩:=I.lstM hB
 have hsz:its.toArray.size + its2.toArray.size≤sizeLine:=by rw [List.size_toArray,List.size_toArray];omega
 have hlong:¬ (!its.toArray.isEmpty&&Builtin.List.listTooLong (its.toArray.size + its2.toArray.size))=true:=by
  rw [F2 hsz,Bool.and_false]
  exact Bool.false_ne_true
 refine call_meets F.slot_list_extend ⟨_,e,rfl⟩ F.entry_list_extend (F.args_list_extend_2 _ _)
  (AutoSeq1.list_extend_list_list_0 l its.toArray n b its2.toArray n2 hlong (by rw [List.size_toArray];omega) (by omega)) ⟨e,e2,?_⟩
 refine ⟨.non,_,I.lset (its':=its++its2) hH e (by simp) (r.append r2) ?_,rfl,q⟩
 rw [List.length_append]
 omega
noncomputable def rCat:R2:=fun x y H Q=>∃ l b xs zs,x= .ref l∧y= .ref b∧H l=some (.lst xs)∧H b=some (.lst zs)∧xs.length + zs.length≤sizeLine∧∀ p,H p=none→Q (.ref p) (upd H p (.lst (xs++zs)))
theorem iP:OpR X (binaryOp .Add) rCat:=by
 intro pins s σ H x y v u Q I rx ry h
 obtain ⟨l,b,xs,zs,rfl,rfl,hH,hB,hz,q⟩:=h
 cases rx
 cases ry
 obtain ⟨z,its,n,r,hl,e⟩:=I.lstM hH
 obtain ⟨z2,its2,n2,r2,hl2,e2⟩:=I.lstM hB
 refine PySem.P.add_list e e2 ?_ (by rw [List.size_toArray,List.size_toArray];omega)
 have ea:its.toArray++its2.toArray=(its++its2).toArray:=by simp
 rw [ea]
 exact ⟨.ref _,_,I.lnew (t':=s.toks) (r.append r2) (by rw [List.length_append];omega),rfl,q _ I.fresh⟩
noncomputable def rRep:R2:=fun x y H Q=>∃ l k xs,x= .ref l∧y= .int k∧H l=some (.lst xs)∧-(2 ^ 63)≤k∧k < 2 ^ 63∧xs.length * k.toNat≤sizeLine∧
 ∀ p,H p=none→Q (.ref p) (upd H p (.lst (List.replicate k.toNat xs).flatten))
theorem QY {α:Type} (xs:List α) (k:Nat):(List.replicate k xs).flatten.length=k * xs.length:=by
 induction k with
 | zero=>simp
 | succ k ih=>rw [List.replicate_succ,List.flatten_cons,List.length_append,ih,Nat.succ_mul,Nat.add_comm]
theorem F0:OpR X (binaryOp .Mult) rRep:=by
 intro pins s σ H x y v u Q I rx ry h
 obtain ⟨l,k,xs,rfl,rfl,hH,h1,h2,hz,q⟩:=h
 cases rx
 obtain ⟨t,rfl⟩:=ry
 obtain ⟨z,its,n,r,hl,e⟩:=I.lstM hH
 have hlen:its.toArray.size * k.toNat≤sizeLine:=by rw [List.size_toArray,← hl];exact hz
 have hcap:¬ its.toArray.size * k.toNat > (2 ^ 63 - 1) / 8:=by
  have:(sizeLine:Nat)≤(2 ^ 63 - 1) / 8:=by decide
  omega
 have hfit:¬ (!Builtin.List.listFitsIndex k)=true:=by
  rw [fitsIndex_both h1 h2]
  exact Bool.false_ne_true
 have hlong:¬ Builtin.List.listTooLong (its.toArray.size * k.toNat)=true:=by
  rw [F2 hlen]
  exact Bool.false_ne_true
 have hnew:List.foldl (fun x1 x2=>x1++x2) #[] (List.replicate (if its.toArray.isEmpty=true then 0 else k.toNat) its.toArray)=(List.replicate k.toNat its).flatten.toArray:=by
  have f0:∀ m:Nat,List.foldl (fun x1 x2=>x1++x2) #[] (List.replicate m its.toArray)=(List.replicate m its).flatten.toArray:=fun m=>by
   have:=Cc its m []
   rw [List.nil_append] at this
   exact this
  rw [f0]
  cases its with
  | nil=>simp
  | cons a r'=>rw [if_neg (by simp)]
 refine wpAny_binaryOp_repeat_ref (T:="list") (U:="int") (by decide) ⟨_,e,rfl⟩ (fun s'=>typeIs_int s' k t) noFill_list_mul F.fills_int_mul F.slot_int_rmul repeat_list F.slot_int_index.lookup
  (call_meets F.slot_int_rmul (typeIs_int s k t) F.entry_int_rmul (F.args_int_rmul_2 _ _) (int___rmul___int_list k t l its.toArray n)
   ⟨e,rfl,⟨_,e,rfl⟩,call_meets F.slot_list_mul ⟨_,e,rfl⟩ F.entry_list_mul (F.args_list_mul_2 _ _) (AutoListH.list___mul___list_int_3 l its.toArray n k t hfit hcap hlong) ⟨e,?_⟩⟩)
 rw [hnew]
 exact ⟨.ref _,_,I.lnew (t':=s.toks) (r.rep k.toNat) (by rw [QY,Nat.mul_comm];exact hz),rfl,q _ I.fresh⟩
end
end L2
namespace Att
open PySem PySem.W PySem.Calls PyProof.Rows
theorem vj {P:Params} {h:Heap}:∀ (ns:List Int) (vs:List Value),WellAll P h vs (ns.map WData.int)→IntsAre vs ns:=by
 intro ns
 induction ns with
 | nil=>
   intro vs w
   rw [List.map_nil] at w
   cases w
   exact .nil
 | cons n ns ih=>
   intro vs w
   rw [List.map_cons] at w
   cases w with
   | cons a b=>
     cases a
     exact .cons _ _ (ih _ b)
theorem Kk {l:OpenLaw} {n:Nat} (hn:l.most=some n) {P:Params} {h:Heap} {args:List WData} {vals:List Value}
  (hpre:l.row.toRowW.claim.pre args=true) (hwl:WellAll P h vals args):
  ∃ a vs ns,vals=[Value.ref a]∧args=[WData.list (ns.map WData.int)]∧h.get? a=some {cls:= .type "list",data:= .seq vs.toArray}∧IntsAre vs ns∧ns.length≤n:=by
 have hsh:WShape.hasAll [] args [.list .int]=true:=(pre_splitW hpre).1
 have hc:l.pre.holds [] {args:=args}=true:=(pre_splitW hpre).2
 obtain ⟨d,r,rfl,h1,h2⟩:=hasAllW_cons hsh
 obtain rfl:=hasAllW_nil h2
 obtain ⟨xs,rfl,h3⟩:=hasW_list h1
 obtain ⟨ns,rfl⟩:=items_int h3
 have hlen:ns.length≤n:=by
  unfold OpenLaw.pre at hc
  have h4:(WTm.not (.lt (.lit (.int (n:Int))) (.len (.arg 0)))).holds [] {args:=[.list (ns.map .int)]}=true:=by
   have h4:=(holds_andW hc).1
   rw [hn] at h4
   exact h4
  have h5:=condW_of h4 (w_not (w_lt w_lit (w_len_list (w_arg rfl))))
  rw [List.length_map] at h5
  refine Nat.le_of_not_lt fun q=>?_
  have q':(n:Int) < ((ns.length:Nat):Int):=by omega
  first
   | (rw [decide_eq_true q'] at h5;exact absurd h5 (by decide))
   | (simp at h5;omega)
 cases hwl with
 | cons w1 w2=>
   cases w2
   cases w1 with
   | list ho hall=>exact ⟨_,_,ns,rfl,rfl,ho,vj ns _ hall,hlen⟩
theorem KK (l:OpenLaw) (args:List WData):l.row.toRowW.claim.post args (.bool true) args=true:=
 postW_of (r:=l.row.toRowW) (X:=(true == true))
  (show WShape.has [] (.bool true) .bool=true by first | rfl | decide | simp [WShape.has,WShape.arms,WShape.armsAll])
  (show (WTm.eq .res (.lit (.bool true))).value [] {args:=args,res:=some (.bool true),after:=args}=some (.bool (true == true)) from w_eq_bool (w_res rfl) w_lit) rfl
theorem attach_call {l:OpenLaw} {n:Nat} {q:Program} {loose:List Str} {XP:(Str→Option Value)→Heap→Prop} {YP:World→Heap→Prop} {d:DefRec}
  (hn:l.most=some n) (hdf:d.params.defaults=[])
  (call:∀ (w:World) (s₀ s₁:Shared) (mg mb:Str→Option Value) (fa:Addr) (o:Obj) (pm cd doc:Value) (a:Addr) (vs:List Value) (ns:List Int),
   Ground q loose [] XP w s₀ mg mb s₁.heap→YP w s₁.heap→
   s₁.heap.get? fa=some o→o.data= .func (docDef d.name d.params d.body d.scope pm cd doc)→s₁.heap.CodeRec cd d.name→mg d.name=some (.ref fa)→
   s₁.heap.get? a=some {cls:= .type "list",data:= .seq vs.toArray}→IntsAre vs ns→ns.length≤n→s₁.gens=#[]→
   codeAny (model l.prog w) callerA (.call (.ref fa) ⟨[.ref a],[]⟩) (fun r s'=>r= .ok (.ret (.bool true))∧OldK s₁.heap s'.heap∧s'.os=s₁.os∧AllBare s'.gens) s₁):
  WalkO q loose XP YP l.row.toRowW d [] (fun f vs=>PySem.call f vs):=by
 intro w s₀ s₁ mg mb G Y fa o pm cd doc dV kV ho hd hcd hD hmg hg args vals as hpre hlay hrd hwl hlo
 obtain rfl:dV= .none:=Dflts.none hD hdf
 obtain rfl:kV= .none:=Dflts.noKw hD
 obtain ⟨a,vs,ns,rfl,rfl,hobj,hints,hlen⟩:=Kk hn hpre hwl
 refine enter_call (codeAny_mono (call w s₀ s₁ mg mb fa o pm cd doc a vs ns G Y ho (fd_plain hd) hcd hmg hobj hints hlen hg) fun r s' hq=>?_)
 obtain ⟨rfl,h2,h3,h4⟩:=hq
 exact ⟨.inl ⟨.bool true,.bool true,[],rfl,fun _=>rfl,.bool true,KK l _,fun _=>⟨List.Pairwise.nil,fun _ hm=>(nomatch hm)⟩⟩,h2,h3,h4⟩
end Att
namespace L2
open PySem PySem.Spec PyProof.Rows
theorem AC:∀ {vs:List Value} {ns:List Int},IntsAre vs ns→Vals (ns.map V.int) vs
 | _,_,.nil=> .nil
 | _,_,.cons n t h=> .cons ⟨t,rfl⟩ (AC h)
noncomputable def Only (H:Hp):Prop:=∀ b,H b=none∨∃ o xs,H b=some (.frz o (.lst xs))
theorem Og {P:Program} {w:World} {K:PySem.W.Frag} {mg mb:Str→Option Value} {CX:CXT} {k:Nat} {fa a:Addr} {fd:FuncData} {x:Str} {sp:Sp} {s₁:Shared} {vs:List Value} {ns:List Int}
  (KX:K.In s₁.heap) (hns:s₁.heap.Ns mainGlobals mg) (hb:s₁.heap.Ns builtinsNs mb) (hbb:∀ x:Str,x≠"__name__"→mb x=bootBuiltins x) (hlim:s₁.heap.NoLimit) (hg:s₁.gens=#[])
  (ha:s₁.heap.get? a=some {cls:= .type "list",data:= .seq vs.toArray}) (hi:IntsAre vs ns) (hl:ns.length≤sizeLine) (hr:Room k callerA)
  (F:∀ base:Heap,K.In base→base.Ns mainGlobals mg→FnOk P w K mg base CX k fa fd [x] sp) (hbind:∀ (s:Shared) (u:Value),BindsTo s fd ⟨[u],[]⟩ [(x,u)])
  (hsp:∀ H:Hp,Only H→SqL K H a (ns.map V.int)→sp [.ref a] H (fun v _=>v= .bl true) fun _ _ _=>False)
  (hCX:∀ H e s',CX [] H s₁ (fun _ _ _=>False) e s'→False):
  codeAny (model P w) callerA (.call (.ref fa) ⟨[.ref a],[]⟩) (fun r s'=>r= .ok (.ret (.bool true))∧OldK s₁.heap s'.heap∧s'.os=s₁.os∧AllBare s'.gens) s₁:=by
 have rv:=AC hi
 have lenV:=hi.length
 have core:∀ H:Hp,Only H→SqL K H a (ns.map V.int)→HOk P w H s₁.heap→(∀ b,H b≠none→b=a)→(H a≠none→K.lookup a=none)→
   codeAny (model P w) callerA (.call (.ref fa) ⟨[.ref a],[]⟩) (fun r s'=>r= .ok (.ret (.bool true))∧OldK s₁.heap s'.heap∧s'.os=s₁.os∧AllBare s'.gens) s₁:=by
  intro H hO hS hok hA hK
  have base_of:∀ {b:Addr} {o:Obj},s₁.heap.get? b=some o→H b=none→(hidT s₁.heap H).get? b=some o:=fun e n=>Om e n
  have noA:∀ {b:Addr} {o:Obj} {es:Array DictEntry} {ep:Nat},s₁.heap.get? b=some o→o.data= .dict es ep→H b=none:=fun {b o es ep} e d=>by
   cases q:H b with
   | none=>rfl
   | some u=>
     have e':b=a:=hA b (by rw [q];simp)
     subst e'
     rw [ha] at e;cases e
     have d':Data.seq vs.toArray _=Data.dict es ep:=d
     cases d'
  have nsK:∀ {b:Addr} {m:Str→Option Value},s₁.heap.Ns b m→(hidT s₁.heap H).Ns b m:=fun {b m} ⟨o,es,ep,e,d,r⟩=>⟨o,es,ep,base_of e (noA e d),d,r⟩
  have hKb:K.In (hidT s₁.heap H):=fun b o e=>base_of (KX b o e) (by
   cases q:H b with
   | none=>rfl
   | some u=>
     have e':b=a:=hA b (by rw [q];simp)
     subst e'
     rw [hK (by rw [q];simp)] at e;cases e)
  have hM:Mod K mg (hidT s₁.heap H):=⟨hKb,nsK hns,⟨mb,nsK hb,hbb⟩,let ⟨mc,h1,h2⟩:=hlim;⟨mc,nsK h1,h2⟩⟩
  have e0:Env0 P w K mg (hidT s₁.heap H) callerA [] s₁ H:=⟨rfl,hM,fun b o e=>QE e,Nat.le_of_eq (Lx _ _),trivial,fun b hb=>absurd (show b∈([]:List Addr) from hb) (by simp),hok,.of_eq hg⟩
  refine codeAny_mono ((F _ hKb (nsK hns)).run callerA [] s₁ H ⟨[.ref a],[]⟩ [.ref a] [.ref a] _ _ hr e0 (hbind s₁ (.ref a)) (.cons rfl .nil) (hsp H hO hS)) fun r s' h=>?_
  cases r with
  | error e=>exact (hCX H e s' h).elim
  | ok fl=>
    cases fl with
    | next=>exact False.elim h
    | brk=>exact False.elim h
    | cont=>exact False.elim h
    | ret u=>
      obtain ⟨v,H',os,bare,un,hok',r',q⟩:=h
      have q':v= .bl true:=q
      subst q'
      obtain rfl:u=Value.bool true:=r'
      refine ⟨rfl,OldK.of_keep fun b o e=>?_,os,bare⟩
      cases q:H b with
      | none=>exact un.keep b o e q (by intro z;exact absurd (show b∈([]:List Addr) from z) (by simp)) (by simp)
      | some u=>
        rcases hO b with z | ⟨ob,xs,z⟩
        ·rw [q] at z;cases z
        ·have z2:=un.frzs b ob _ z
         obtain ⟨e1,_⟩:=hok b _ z
         obtain ⟨e2,_⟩:=hok' b _ z2
         rw [e] at e1;cases e1
         exact e2
 cases hk:K.lookup a with
 | some o=>
   have e:=KX a o hk
   rw [ha] at e
   cases e
   refine core (fun _=>none) (fun _=> .inl rfl) (.inr ⟨_,vs.toArray,_,hk,rfl,rfl,rfl,by rw [List.size_toArray,lenV];exact hl,by simpa using rv⟩) (fun b u z=>by have z':(none:Option HO)=some u:=z;cases z') (fun b z=>absurd rfl z) fun z=>absurd rfl z
 | none=>
   refine core (fun b=>if b=a then some (.frz {cls:= .type "list",data:= .seq vs.toArray} (.lst (ns.map V.int))) else none) (fun b=>?_) (.inl (.inr ⟨{cls:= .type "list",data:= .seq vs.toArray},if_pos rfl⟩)) (fun b u z=>?_) (fun b z=>?_) fun _=>hk
   ·by_cases hb:b=a
    ·exact .inr ⟨_,_,if_pos hb⟩
    ·exact .inl (if_neg hb)
   ·by_cases hb:b=a
    ·have z':=(if_pos hb).symm.trans z
     cases z'
     subst hb
     exact ⟨ha,by rw [List.length_map];exact hl,vs,_,rv,ha⟩
    ·have z':=(if_neg hb).symm.trans z
     cases z'
   ·by_cases hb:b=a
    ·exact hb
    ·exact absurd (if_neg hb) z
theorem walk_of {l:PySem.W.OpenLaw} {n k:Nat} {q:Program} {loose:List Str} {XP:(Str→Option Value)→Heap→Prop} {YP:World→Heap→Prop} {d:DefRec} {K:Params→PySem.W.Frag} {CX:World→CXT} {sp:World→Sp} {x:Str}
  (hn:l.most=some n) (hn2:n≤sizeLine) (hdf:d.params.defaults=[]) (hr:Room k callerA)
  (hY:∀ (w:World) (h:Heap),YP w h→(K w.params).In h)
  (F:∀ (w:World) (mg:Str→Option Value) (fa:Addr) (h:Heap),(K w.params).In h→h.Ns mainGlobals mg→mg d.name=some (.ref fa)→
   ∃ fd:FuncData,(∀ (s:Shared) (u:Value),BindsTo s fd ⟨[u],[]⟩ [(x,u)])∧
     ∀ base:Heap,(K w.params).In base→base.Ns mainGlobals mg→FnOk l.prog w (K w.params) mg base (CX w) k fa fd [x] (sp w))
  (hsp:∀ (w:World) (H:Hp) (a:Addr) (ns:List Int),ns.length≤n→Only H→SqL (K w.params) H a (ns.map V.int)→sp w [.ref a] H (fun v _=>v= .bl true) fun _ _ _=>False)
  (hCX:∀ (w:World) (H:Hp) (s:Shared) (e:Value) (s':Shared),CX w [] H s (fun _ _ _=>False) e s'→False):
  PySem.W.WalkO q loose XP YP l.row.toRowW d [] (fun f vs=>PySem.call f vs):=by
 refine Att.attach_call hn hdf fun w s₀ s₁ mg mb fa o pm cd doc a vs ns G Y ho hd hcd hmg hobj hints hlen hg=>?_
 have KX:=hY w _ Y
 obtain ⟨fd,hb,hF⟩:=F w mg fa _ KX G.T.g hmg
 exact Og KX G.T.g G.T.b G.T.builtins G.T.nolimit hg hobj hints (Nat.le_trans hlen hn2) hr hF hb (fun H hO hS=>hsp w H a ns hlen hO hS) fun H e s'=>hCX w H s₁ e s'
noncomputable def eF (s:Stmt) (j:Nat):Stmt:=match s with
 | .ClassDef _ _ _ body _ _ _ _ _ _ _=>body.getD j (.Pass ⟨0,0,0,0⟩)
 | _=> .Pass ⟨0,0,0,0⟩
noncomputable def aN (s:Stmt):Arguments:=match s with
 | .FunctionDef _ a _ _ _ _ _ _ _ _=>a
 | _=>{posonlyargs:=[],args:=[],vararg:=none,kwonlyargs:=[],kw_defaults:=[],kwarg:=none,defaults:=[]}
noncomputable def aJ (s:Stmt):List Stmt:=match s with
 | .FunctionDef _ _ b _ _ _ _ _ _ _=>b
 | _=>[]
noncomputable def ae (s:Stmt):Scope:=match s with
 | .FunctionDef _ _ _ _ _ _ sc _ _ _=>sc
 | _=>{kind:= .function,names:=[],isGenerator:=false,isCoroutine:=false}
noncomputable abbrev CX0:CXT:=fun _ _ _ _ _ _=>False
noncomputable abbrev E0:XK:=fun _ _ _=>False
theorem bD {X:Cx}:qP CX0 X E0:=fun _ _ _ _ _ _ _ h=>h.elim
structure Fun (K:PySem.W.Frag) (x qual:Str) (st:Stmt) (f:Addr) (fd:FuncData):Prop where
 ex:∃ (oc:Value) (od:Option Addr) (kV doc pm:Value) (an:Option Addr) (cdv ct:Value) (osl:Array (Option Value)),
  fd=PySem.W.fnOf x qual (aN st) (aJ st) (ae st) .none kV doc pm an cdv ct∧K.lookup f=some ⟨oc,od,.func fd,osl⟩∧PySem.W.codeIn K cdv qual=true
 kp:PySem.W.keepIn K (.ref f)=true
section
variable {P:Program} {w:World} {K:PySem.W.Frag} {mg:Str→Option Value} {base:Heap}
theorem Fun.ok {x qual:Str} {st:Stmt} {f:Addr} {fd:FuncData} {N ps:List Str} {k:Nat} {sp:Sp} (F:Fun K x qual st f fd) (S:aQ N ps (ae st)) (len:∀ vs H Q E,sp vs H Q E→vs.length=ps.length)
  (hbody:∀ (cdv:Value) (A:Around) (outer:List Env) (s:Shared) (H:Hp) (vs:List V) (Q:VK) (E:XK),Room k (A.deeper (envOfC qual (ae st) s.heap.objs.size f cdv))→sp vs H Q E→
   ∃ t,PSs (cxOf CX0 P w K mg base N qual (ae st) f cdv A outer s H E).nox (aJ st) t∧t {nx:=fun _ H'=>Q .non H',rt:=Q} (start N vs) H):FnOk P w K mg base CX0 (k + 1) f fd ps sp:=by
 obtain ⟨oc,od,kV,doc,pm,an,cdv,ct,osl,rfl,lk,hcd⟩:=F.ex
 refine Tz lk hcd S len fun A outer s H vs Q E hr hsp=>?_
 obtain ⟨t,h,q⟩:=hbody cdv A outer s H vs Q E hr hsp
 exact ⟨t,h.nox,q⟩
theorem Fun.binds {x qual:Str} {st:Stmt} {f:Addr} {fd:FuncData} {ps:List Str} (F:Fun K x qual st f fd)
  (h:∀ (kV doc pm:Value) (an:Option Addr) (cdv ct:Value) (us:List Value),us.length=ps.length→bindArgs (PySem.W.fnOf x qual (aN st) (aJ st) (ae st) .none kV doc pm an cdv ct) ⟨us,[]⟩=pure (ps.zip us)):bT K fd ps []:=by
 obtain ⟨oc,od,kV,doc,pm,an,cdv,ct,osl,rfl,lk,hcd⟩:=F.ex
 exact .all (h kV doc pm an cdv ct)
theorem bE {x qual:Str} {st:Stmt} {f:Addr} {oc:Value} {od an:Option Addr} {osl:Array (Option Value)} {kV doc pm cdv ct:Value} (l:K.lookup f=some ⟨oc,od,.func (PySem.W.fnOf x qual (aN st) (aJ st) (ae st) .none kV doc pm an cdv ct),osl⟩)
  (c:PySem.W.codeIn K cdv qual=true) (k:PySem.W.keepIn K (.ref f)=true):Fun K x qual st f (PySem.W.fnOf x qual (aN st) (aJ st) (ae st) .none kV doc pm an cdv ct):=⟨⟨oc,od,kV,doc,pm,an,cdv,ct,osl,rfl,l,c⟩,k⟩
end
theorem Oj {A:Around} {k:Nat} (hr:Room k A):A.units + 1 < cLine:=Nat.lt_of_le_of_lt (Nat.add_le_add_left (by decide:1≤64) _) hr.units
theorem cj {n:Nat} (h:n≤1000):n < sizeLine:=Nat.lt_of_le_of_lt h (by decide)
section
variable {X:Cx}
theorem pv (i:Nat) {x:Str} {pos:Pos} (hN:X.N[i]? =some x:=by rfl) (hv:Vis X.env.scope x:=by first | exact Or.inl rfl | exact Or.inr (Or.inl rfl) | exact Or.inr (Or.inr rfl)) (hd:(x == ("__debug__":Str))=false:=by decide)
  (hcd:(x == ("__classdict__":Str))=false:=by decide):PE X (.Name x pos) (tVar i):=S2 hN hv hd hcd
end
theorem ite2 {c A B:Prop} [Decidable c] (h1:c→A) (h2:¬ c→B):if c then A else B:=by
 by_cases h:c
 ·rw [if_pos h]
  exact h1 h
 ·rw [if_neg h]
  exact h2 h
noncomputable def Same (H H':Hp):Prop:=∀ b o,H b=some o→H' b=some o
theorem Same.refl (H:Hp):Same H H:=fun _ _ h=>h
theorem Same.trans {H H1 H2:Hp} (a:Same H H1) (b:Same H1 H2):Same H H2:=fun c o h=>b c o (a c o h)
theorem Same.free {H H':Hp} (e:Same H H') {l:Addr} (h:H' l=Option.none):H l=Option.none:=by
 cases q:H l with
 | none=>rfl
 | some o=>
   rw [e l o q] at h
   cases h
theorem Same.seq {K:PySem.W.Frag} {H H':Hp} {a:Addr} {xs:List V} (e:Same H H') (h:SqL K H a xs):SqL K H' a xs:=by
 rcases h with (h | ⟨o,h⟩) | h
 ·exact .inl (.inl (e _ _ h))
 ·exact .inl (.inr ⟨o,e _ _ h⟩)
 ·exact .inr h
section
variable {κ:Type} [DecidableEq κ]
noncomputable def valV (kvs:List (κ×V)) (k:κ):Option V:=(kvs.find? fun kv=>decide (kv.1=k)).map (·.2)
noncomputable def putK (kvs:List (κ×V)) (k:κ) (v:V):List (κ×V):=
 if (kvs.any fun kv=>decide (kv.1=k))=true then kvs.map (fun kv=>if kv.1=k then (kv.1,v) else kv) else kvs++[(k,v)]
theorem sW {p:κ×V} {r:List (κ×V)} {k:κ} (e:p.1=k):valV (p::r) k=some p.2:=by simp [valV,List.find?_cons,e]
theorem yo {p:κ×V} {r:List (κ×V)} {k:κ} (e:¬ p.1=k):valV (p::r) k=valV r k:=by simp [valV,List.find?_cons,e]
theorem ny (k:κ):∀ kvs:List (κ×V),(kvs.any fun kv=>decide (kv.1=k))=(valV kvs k).isSome
 | []=>rfl
 | p::r=>by
   rw [List.any_cons]
   by_cases e:p.1=k
   ·simp only [sW e,decide_eq_true e,Bool.true_or,Option.isSome_some]
   ·rw [yo e,decide_eq_false e,Bool.false_or];exact ny k r
theorem uU (kvs:List (κ×V)) (k:κ) (v:V):(putK kvs k v).length≤kvs.length + 1:=by
 unfold putK
 split
 ·rw [List.length_map];omega
 ·rw [List.length_append,List.length_cons,List.length_nil];omega
theorem RelO.isSome_eq {o:Option V} {u:Option Value} (r:RelO o u):o.isSome=u.isSome:=by
 cases o with
 | none=>cases u with
   | none=>rfl
   | some _=>exact (show False from r).elim
 | some _=>cases u with
   | none=>exact (show False from r).elim
   | some _=>rfl
theorem KV.val {kvs:List (κ×V)} {vs:List (κ×Value)} (r:KV kvs vs) (k:κ):RelO (valV kvs k) (valueAt vs k):=by
 unfold KV at r
 induction r with
 | nil=>exact True.intro
 | @cons p q ps qs h t ih=>
   obtain ⟨h1,h2⟩:=h
   by_cases e:p.1=k
   ·have e':q.1=k:=h1.symm.trans e
    have b:valueAt (q::qs) k=some q.2:=by simp [valueAt,List.find?_cons,e']
    rw [sW e,b];exact h2
   ·have e':¬ q.1=k:=fun z=>e (h1.trans z)
    have b:valueAt (q::qs) k=valueAt qs k:=by simp [valueAt,List.find?_cons,e']
    rw [yo e,b];exact ih
theorem KV.any {kvs:List (κ×V)} {vs:List (κ×Value)} (r:KV kvs vs) (k:κ):(kvs.any fun kv=>decide (kv.1=k))=vs.any fun kv=>decide (kv.1=k):=by
 unfold KV at r
 induction r with
 | nil=>rfl
 | cons h t ih=>rw [List.any_cons,List.any_cons,ih,h.1]
theorem KV.repl {kvs:List (κ×V)} {vs:List (κ×Value)} (r:KV kvs vs) (k:κ) {y:V} {u:Value} (ry:RelV y u):
  KV (kvs.map fun kv=>if kv.1=k then (kv.1,y) else kv) (vs.map fun kv=>if kv.1=k then (kv.1,u) else kv):=by
 unfold KV at r ⊢
 induction r with
 | nil=>exact .nil
 | @cons p q ps qs h t ih=>
   rw [List.map_cons,List.map_cons]
   refine .cons ?_ ih
   obtain ⟨h1,h2⟩:=h
   by_cases e:p.1=k
   ·rw [if_pos e,if_pos (h1.symm.trans e)];exact ⟨h1,ry⟩
   ·rw [if_neg e,if_neg (fun z=>e (h1.trans z))];exact ⟨h1,h2⟩
theorem KV.put {kvs:List (κ×V)} {vs:List (κ×Value)} (r:KV kvs vs) (k:κ) {y:V} {u:Value} (ry:RelV y u):KV (putK kvs k y) (stored vs k u):=by
 unfold putK stored
 rw [r.any k]
 by_cases e:(vs.any fun kv=>decide (kv.1=k))=true
 ·rw [if_pos e,if_pos e];exact r.repl k ry
 ·rw [if_neg e,if_neg e];exact Paired.snoc r ⟨rfl,ry⟩
theorem KV.length {kvs:List (κ×V)} {vs:List (κ×Value)} (r:KV kvs vs):kvs.length=vs.length:=Paired.length r
end
theorem Ik {P:Program} {w:World} {k:Key} {u:Value} (r:RelV (kV k) u):(dM P w).is k u=true:=by
 cases k with
 | inl i=>obtain ⟨t,e⟩:=(show ∃ t,u=Value.int i t from r);subst e;exact Ex P w i t
 | inr x=>obtain ⟨t,e⟩:=(show ∃ t,u=Value.str x t from r);subst e;exact Ew P w x t
theorem BZ {P:Program} {w:World}:∀ {ks:List Key} {us:List Value},Vals (ks.map kV) us→ItemsAre (dM P w) ks us
 | [],_,r=>by rw [List.map_nil] at r;cases r;exact .nil
 | k::ks,_,r=>by
   rw [List.map_cons] at r
   cases r with
   | cons h t=>exact .cons (Ik h) (BZ t)
noncomputable abbrev KT (H:Hp):List (List Key×V)→List (List Key×Addr×Value)→Prop:=Paired fun p q=>p.1=q.1∧H q.2.1=some (.tup (p.1.map kV))∧RelV p.2 q.2.2
theorem KT.val {H:Hp} {kvs:List (List Key×V)} {xs:List (List Key×Addr×Value)} (r:KT H kvs xs) (k:List Key):RelO (valV kvs k) ((atKey xs k).map (·.2)):=by
 induction r with
 | nil=>exact True.intro
 | @cons p q ps qs h t ih=>
   obtain ⟨h1,_,h2⟩:=h
   by_cases e:p.1=k
   ·have e':q.1=k:=h1.symm.trans e
    have b:atKey (q::qs) k=some q.2:=by simp [atKey,List.find?_cons,e']
    rw [sW e,b];exact h2
   ·have e':¬ q.1=k:=fun z=>e (h1.trans z)
    have b:atKey (q::qs) k=atKey qs k:=by simp [atKey,List.find?_cons,e']
    rw [yo e,b];exact ih
theorem KT.repl {H:Hp} {kvs:List (List Key×V)} {xs:List (List Key×Addr×Value)} (r:KT H kvs xs) (k:List Key) {y:V} {u:Value} (ry:RelV y u):
  KT H (kvs.map fun kv=>if kv.1=k then (kv.1,y) else kv) (xs.map (putAt k u)):=by
 induction r with
 | nil=>exact .nil
 | @cons p q ps qs h t ih=>
   rw [List.map_cons,List.map_cons]
   refine .cons ?_ ih
   obtain ⟨h1,h2,h3⟩:=h
   unfold putAt
   by_cases e:p.1=k
   ·rw [if_pos e,if_pos (h1.symm.trans e)];exact ⟨h1,h2,ry⟩
   ·rw [if_neg e,if_neg (fun z=>e (h1.trans z))];exact ⟨h1,h2,h3⟩
theorem KT.put {H:Hp} {kvs:List (List Key×V)} {xs:List (List Key×Addr×Value)} (r:KT H kvs xs) (k:List Key) {b:Addr} {y:V} {u:Value} (hb:H b=some (.tup (k.map kV))) (ry:RelV y u):
  KT H (putK kvs k y) (storedH xs k b u):=by
 have e:(kvs.any fun kv=>decide (kv.1=k))=(atKey xs k).isSome:=by
  rw [ny,(r.val k).isSome_eq,Option.isSome_map]
 unfold putK storedH
 rw [e]
 by_cases q:(atKey xs k).isSome=true
 ·rw [if_pos q,if_pos q];exact r.repl k ry
 ·rw [if_neg q,if_neg q];exact Paired.snoc r ⟨rfl,hb,ry⟩
theorem KT.keeps {H H':Hp} {kvs:List (List Key×V)} {xs:List (List Key×Addr×Value)} (r:KT H kvs xs) (ht:∀ b ys,H b=some (.tup ys)→H' b=some (.tup ys)):KT H' kvs xs:=
 Paired.mapP r fun _ _ z=>⟨z.1,ht _ _ z.2.1,z.2.2⟩
section
variable {P:Program} {w:World} {H:Hp} {h:Heap} {a:Addr}
theorem SQ {u:HO} (ok:HOk P w H h) (e:Rd H a u):eA P w H h a u:=e.ok ok
theorem LV {kvs:List (Key×V)} (ok:HOk P w H h) (e:Rd H a (.dK kvs)):kvs.length≤sizeLine∧(a == sysModules)=false∧∃ vs,KV kvs vs∧h.DictOf (dM P w) a vs:=
 show eA P w H h a (.dK kvs) from SQ ok e
theorem UO {kvs:List (Key×V)} (ok:HOk P w H h) (e:H a=some (.dK kvs)):kvs.length≤sizeLine∧(a == sysModules)=false∧∃ vs,KV kvs vs∧h.DictOf (dM P w) a vs:=LV ok (.inl e)
theorem BS {ks:List Key} (ok:HOk P w H h) (e:H a=some (.tup (ks.map kV))):(tupleKind (dM P w)).is h ks a:=by
 obtain ⟨_,its,r,o,h1,h2,n,h3⟩:=(show eA P w H h a (.tup (ks.map kV)) from ok a _ e)
 exact ⟨o,its.toArray,n,h1,h2,h3,by simpa using BZ r⟩
theorem LU {kvs:List (List Key×V)} (ok:HOk P w H h) (e:Rd H a (.dT kvs)):kvs.length≤sizeLine∧(a == sysModules)=false∧
  ∃ xs,KT H kvs xs∧h.DictOfH (tupleKind (dM P w)) a xs:=by
 obtain ⟨z,y,xs,r,o,es,ep,h1,h2,h3,h4,h5⟩:=(show eA P w H h a (.dT kvs) from SQ ok e)
 refine ⟨z,y,xs,r,o,es,ep,h1,h2,h3,h4,fun x hx=>?_,h5⟩
 have all:∀ {l:List (List Key×V)} {m:List (List Key×Addr×Value)},KT H l m→∀ x∈m,(tupleKind (dM P w)).is h x.1 x.2.1:=by
  intro l m q
  induction q with
  | nil=>intro x hx;exact nomatch hx
  | @cons p q ps qs hq t ih=>
    intro x hx
    rcases List.mem_cons.mp hx with e | hx
    ·subst e
     exact BS ok (by rw [← hq.1];exact hq.2.1)
    ·exact ih x hx
 exact all r x hx
theorem UN {kvs:List (List Key×V)} (ok:HOk P w H h) (e:H a=some (.dT kvs)):kvs.length≤sizeLine∧(a == sysModules)=false∧
  ∃ xs,KT H kvs xs∧h.DictOfH (tupleKind (dM P w)) a xs:=LU ok (.inl e)
end
noncomputable def DGet (H:Hp) (a:Addr) (y:V) (r:Option V):Prop:=
 (∃ kvs k,Rd H a (.dK kvs)∧y=kV k∧r=valV kvs k)∨∃ kvs k b,Rd H a (.dT kvs)∧y= .ref b∧H b=some (.tup (k.map kV))∧r=valV kvs k
noncomputable def DPut (H:Hp) (a:Addr) (y v:V) (H':Hp):Prop:=
 (∃ kvs k,H a=some (.dK kvs)∧y=kV k∧kvs.length < sizeLine∧H'=upd H a (.dK (putK kvs k v)))∨
 ∃ kvs k b,H a=some (.dT kvs)∧y= .ref b∧H b=some (.tup (k.map kV))∧kvs.length < sizeLine∧H'=upd H a (.dT (putK kvs k v))
theorem DGet.k {H:Hp} {a:Addr} {kvs:List (Key×V)} {k:Key} (e:H a=some (.dK kvs)):DGet H a (kV k) (valV kvs k):= .inl ⟨kvs,k,.inl e,rfl,rfl⟩
theorem DPut.k {H:Hp} {a:Addr} {kvs:List (Key×V)} {k:Key} {v:V} (e:H a=some (.dK kvs)) (hl:kvs.length < sizeLine):DPut H a (kV k) v (upd H a (.dK (putK kvs k v))):= .inl ⟨kvs,k,e,rfl,hl,rfl⟩
section
variable {X:Cx} {pins:List (Addr×Obj)} {σ:St} {H:Hp} {s:Shared} {a:Addr} {y v:V} {u r:Value} {o:Option V} {A:Around} {E:Value→Shared→Prop}
theorem Inv.big (I:Inv X pins σ H s):sysModules < s.heap.objs.size:=by
 have h:mainGlobals < s.heap.objs.size:=(I.mod.glob.keeps I.bk).lt
 exact Nat.lt_trans (by decide) h
theorem L7 {Q:Value→Shared→Prop} (hu:A.units + 1 < cLine) (I:Inv X pins σ H s) (g:DGet H a y (some v)) (ry:RelV y u) (h:∀ w' s',Inv X pins σ H s'→RelV v w'→Q w' s'):
  wpAny (model X.prog X.w) A (getItem (.ref a) u) Q E s:=by
 rcases g with ⟨kvs,k,e,ey,l⟩ | ⟨kvs,k,b,e,ey,eb,l⟩
 ·subst ey
  obtain ⟨z,hd,vs,rel,dd⟩:=LV I.hok e
  obtain ⟨w',hw,rw'⟩:=RelO.some_of (v:=v) (o:=valueAt vs k) (by rw [l];exact rel.val k)
  exact wpAny_getItem_of (Ik ry) dd.mapOf hw (h w' _ (I.tok _) rw')
 ·subst ey
  cases (show u=Value.ref b from ry)
  obtain ⟨z,hd,xs,rel,dd⟩:=LU I.hok e
  obtain ⟨w',hw,rw'⟩:=RelO.some_of (v:=v) (o:=(atKey xs k).map (·.2)) (by rw [l];exact rel.val k)
  obtain ⟨p,hp,hp2⟩:=Option.map_eq_some_iff.mp hw
  refine wpAny_getItem_heap (tupleKind_room_in1 hu) (BS I.hok eb) dd hp ?_
  rw [hp2]
  exact h w' _ (I.tok _) rw'
theorem d_in {Q:Value→Shared→Prop} (hu:A.units + 1 < cLine) (I:Inv X pins σ H s) (g:DGet H a y o) (ry:RelV y u) (h:∀ s',Inv X pins σ H s'→Q (.bool o.isSome) s'):
  wpAny (model X.prog X.w) A (compareOp .In u (.ref a)) Q E s:=by
 rcases g with ⟨kvs,k,e,ey,l⟩ | ⟨kvs,k,b,e,ey,eb,l⟩
 ·subst ey
  obtain ⟨z,hd,vs,rel,dd⟩:=LV I.hok e
  refine wpAny_in_of (Ik ry) hd dd.mapOf ?_
  rw [← (rel.val k).isSome_eq,← l]
  exact h _ (I.tok _)
 ·subst ey
  cases (show u=Value.ref b from ry)
  obtain ⟨z,hd,xs,rel,dd⟩:=LU I.hok e
  refine wpAny_in_heap (tupleKind_room_in1 hu) (BS I.hok eb) hd dd ?_
  have q:=(rel.val k).isSome_eq
  rw [Option.isSome_map] at q
  rw [← q,← l]
  exact h _ (I.tok _)
theorem Ru {Q:Value→Shared→Prop} (hu:A.units + 1 < cLine) (I:Inv X pins σ H s) (g:DGet H a y o) (ry:RelV y u) (h:∀ s',Inv X pins σ H s'→Q (.bool (!o.isSome)) s'):
  wpAny (model X.prog X.w) A (compareOp .NotIn u (.ref a)) Q E s:=by
 rcases g with ⟨kvs,k,e,ey,l⟩ | ⟨kvs,k,b,e,ey,eb,l⟩
 ·subst ey
  obtain ⟨z,hd,vs,rel,dd⟩:=LV I.hok e
  refine wpAny_notIn_of (Ik ry) hd dd.mapOf ?_
  rw [← (rel.val k).isSome_eq,← l]
  exact h _ (I.tok _)
 ·subst ey
  cases (show u=Value.ref b from ry)
  obtain ⟨z,hd,xs,rel,dd⟩:=LU I.hok e
  refine wpAny_notIn_heap (tupleKind_room_in1 hu) (BS I.hok eb) hd dd ?_
  have q:=(rel.val k).isSome_eq
  rw [Option.isSome_map] at q
  rw [← q,← l]
  exact h _ (I.tok _)
theorem L5 {h':Heap} {t':Nat} {ob:HO} (I:Inv X pins σ H s) (mu:Mut (H a)) (hs:Heap.SameBut a s.heap h') (he:∃ q,h'.get? a=some q) (new:eA X.prog X.w (upd H a ob) h' a ob):
  Inv X pins σ (upd H a ob) {s with heap:=h',toks:=t'}:=
 I.write (x:=a) (e:=a) mu (.inl rfl) (fun b q hb z=>(hs.2 b hb).trans z) he new
theorem TJ {P:Program} {w:World} {H':Hp} {h':Heap} {kvs:List (Key×V)} {vs:List (Key×Value)} (z:kvs.length≤sizeLine) (hd:(a == sysModules)=false) (rel:KV kvs vs) (dd:h'.DictOf (dM P w) a vs):
  eA P w H' h' a (.dK kvs):=⟨z,hd,vs,rel,dd⟩
theorem L6 {H':Hp} {Q:Unit→Shared→Prop} (hu:A.units + 1 < cLine) (I:Inv X pins σ H s) (g:DPut H a y v H') (ry:RelV y u) (rv:RelV v r) (h:∀ s',Inv X pins σ H' s'→Q () s'):
  wpAny (model X.prog X.w) A (setItem (.ref a) u r) Q E s:=by
 rcases g with ⟨kvs,k,e,ey,l,eH⟩ | ⟨kvs,k,b,e,ey,eb,l,eH⟩
 ·subst ey eH
  obtain ⟨z,hd,vs,rel,dd⟩:=UO I.hok e
  have hz:vs.length≤sizeLine:=by rw [← rel.length];exact z
  have hl:(putK kvs k v).length≤sizeLine:=by have:=uU kvs k v;omega
  refine wpAny_setItem_pairs (hsz:=hz) (Ik ry) dd fun h' dd' hs=>h _ ?_
  have he:∃ q,h'.get? a=some q:=let ⟨q,_,_,hq,_⟩:=dd';⟨q,hq⟩
  exact L5 I (by rw [e];exact True.intro) hs he (TJ hl hd (rel.put k rv) dd')
 ·subst ey eH
  cases (show u=Value.ref b from ry)
  obtain ⟨z,hd,xs,rel,dd⟩:=UN I.hok e
  have hz:xs.length≤sizeLine:=by rw [← Paired.length rel];exact z
  have hl:(putK kvs k v).length≤sizeLine:=by have:=uU kvs k v;omega
  refine wpAny_setItem_heap (hsz:=hz) (tupleKind_room_in1 hu) (BS I.hok eb) dd fun h' dd' hs=>h _ ?_
  obtain ⟨q,es,ep,hq,h2,h3,h4,_,h5⟩:=dd'
  refine L5 I (by rw [e];exact True.intro) hs ⟨q,hq⟩ ⟨hl,hd,_,(rel.put k eb rv).keeps fun c ys ec=>?_,q,es,ep,hq,h2,h3,h4,h5⟩
  rw [aw (iQ ec e (fun z=>nomatch z))]
  exact ec
end
noncomputable def NoSl (i:Expr):Prop:=∀ ov iv,subscripted i false ov iv=operate [ov,iv] (getItem ov iv)
theorem PP {prog:Program} {w:World} {A:Around} {E:Value→Shared→Prop} {s:Shared} {env:Env} {value slice:Expr} {pos:Pos} {T id:String} {Q:Value→Shared→Prop}
  (hl:typeLookup (.type T) "__getitem__"=pure (some (.builtin id))) (hs:NoSl slice)
  (h:wpAny (model prog w) A (eval value env) (fun o s₁=>wpAny (model prog w) A (eval slice env) (fun i s₂=>s₂.TypeIs o T∧wpAny (model prog w) A (getItem o i) Q E s₂) E s₁) E s):
  wpAny (model prog w) A (eval (.Subscript value slice pos) env) Q E s:=by
 refine Subscript_ (wpAny_mono h (fun o s₁ h₁=>wpAny_mono h₁ (fun i s₂ h₂=>?_) fun _ _ x=>x) fun _ _ x=>x)
 obtain ⟨hT,h₂⟩:=h₂
 unfold subscriptTail
 refine wpAny_bind ?_
 rw [getitemInPython_of_ne hT.not_modules]
 refine wpAny_bind (wpAny_specialOf hT hl ?_)
 have fin:wpAny (model prog w) A (subscripted slice false o i) (fun r s₃=>wpAny (model prog w) A (letTemporaryGo value o r >>=fun _=>pure r) Q E s₃) E s₂:=by
  rw [hs o i]
  exact wpAny_operating (wpAny_mono h₂ (fun r s₃ h₃=>wpAny_bind (wpAny_letTemporaryGo (wpAny_pure h₃))) fun _ _ x=>x)
 first
  | exact wpAny_pure (wpAny_bind fin)
  | exact wpAny_bind (wpAny_pure (wpAny_bind fin))
  | exact wpAny_bind fin
theorem EY {X:Cx} {pins:List (Addr×Obj)} {σ:St} {H:Hp} {s:Shared} {a:Addr} {y:V} {o:Option V} (I:Inv X pins σ H s) (g:DGet H a y o):s.TypeIs (.ref a) "dict":=by
 rcases g with ⟨kvs,k,e,_,_⟩ | ⟨kvs,k,b,e,_,_,_⟩
 ·obtain ⟨_,_,vs,_,dd⟩:=LV I.hok e
  exact dd.typeIs
 ·obtain ⟨_,_,xs,_,dd⟩:=LU I.hok e
  exact dd.typeIs
noncomputable def Sd (td ty:TE):TE:=fun σ H Q=>td σ H fun x H1=>ty σ H1 fun y H2=>∃ a v,x= .ref a∧DGet H2 a y (some v)∧Q v H2
noncomputable def tDIn (ty td:TE):TE:=fun σ H Q=>ty σ H fun y H1=>td σ H1 fun x H2=>∃ a o,x= .ref a∧DGet H2 a y o∧Q (.bl o.isSome) H2
noncomputable def JV (ty td:TE):TE:=fun σ H Q=>ty σ H fun y H1=>td σ H1 fun x H2=>∃ a o,x= .ref a∧DGet H2 a y o∧Q (.bl (!o.isSome)) H2
noncomputable def SN (td ty tv:TE):TS:=fun D σ H=>tv σ H fun v H1=>td σ H1 fun x H2=>ty σ H2 fun y H3=>∃ a H4,x= .ref a∧DPut H3 a y v H4∧D.nx σ H4
section
variable {X:Cx} {o i e value:Expr} {pos pos' tpos:Pos} {td ty tv:TE}
theorem Qq (hu:X.A.units + 1 < cLine) (ho:PE X o td) (hi:PE X i ty) (hs:NoSl i):PE X (.Subscript o i pos) (Sd td ty):=by
 intro pins s σ H Q I h
 refine PP PySem.F.slot_dict_getitem.lookup hs (thn (ho pins s σ H _ I h) fun u s1 ⟨x,H1,I1,rx,q1⟩=>thn (hi pins s1 σ H1 _ I1 q1) fun iv s2 ⟨y,H2,I2,ry,a,v,ex,g,q2⟩=>?_)
 subst ex
 obtain rfl:u=Value.ref a:=rx
 exact ⟨EY I2 g,L7 hu I2 g ry fun w' s3 I3 rw'=>⟨v,H2,I3,rw',q2⟩⟩
theorem KN (hu:X.A.units + 1 < cLine) (hi:PE X i ty) (ho:PE X o td):PC X .In i o (tDIn ty td):=by
 intro pins s σ H Q I h
 refine thn (hi pins s σ H _ I h) fun iv s1 ⟨y,H1,I1,ry,q1⟩=>thn (ho pins s1 σ H1 _ I1 q1) fun u s2 ⟨x,H2,I2,rx,a,ov,ex,g,q2⟩=>?_
 subst ex
 obtain rfl:u=Value.ref a:=rx
 exact d_in hu I2 g ry fun s3 I3=>⟨.bl ov.isSome,H2,I3,rfl,q2⟩
theorem KM (hu:X.A.units + 1 < cLine) (hi:PE X i ty) (ho:PE X o td):PC X .NotIn i o (JV ty td):=by
 intro pins s σ H Q I h
 refine thn (hi pins s σ H _ I h) fun iv s1 ⟨y,H1,I1,ry,q1⟩=>thn (ho pins s1 σ H1 _ I1 q1) fun u s2 ⟨x,H2,I2,rx,a,ov,ex,g,q2⟩=>?_
 subst ex
 obtain rfl:u=Value.ref a:=rx
 exact Ru hu I2 g ry fun s3 I3=>⟨.bl (!ov.isSome),H2,I3,rfl,q2⟩
theorem Qn (hu:X.A.units + 1 < cLine) (ho:PE X o td) (hi:PE X i ty) (hv:PE X value tv) (hs:swapsWith value (some (.Subscript o i pos')) pos.line X.env=pure false):
  PS X (.Assign [.Subscript o i pos'] value pos) (SN td ty tv):=by
 intro pins s σ H D I h
 refine wpAny_Assign_Subscript (thn (hv pins s σ H _ I h) fun r s1 ⟨v,H1,I1,rv,q1⟩=>thn (ho pins s1 σ H1 _ I1 q1) fun u s2 ⟨x,H2,I2,rx,q2⟩=>thn (hi pins s2 σ H2 _ I2 q2) fun iv s3 ⟨y,H3,I3,ry,a,H4,ex,g,q3⟩=>?_) hs
 subst ex
 obtain rfl:u=Value.ref a:=rx
 exact L6 hu I3 g ry rv fun s4 I4=>⟨σ,H4,I4,q3⟩
end
theorem Oz {P:Program} {w:World} {H:Hp} (h:Heap) (hb:sysModules < h.objs.size):eA P w H (h.push {cls:= .type "dict",data:= .dict #[]}) h.objs.size (.dK []):=
 ⟨Nat.zero_le _,beq_eq_false_iff_ne.mpr (Ne.symm (Nat.ne_of_lt hb)),[],.nil,Heap.DictOf.new h⟩
noncomputable def OW:TE:=fun _ H Q=>∀ p,H p=none→Q (.ref p) (upd H p (.dK []))
section
variable {X:Cx} {pos:Pos}
theorem NR:PE X (.Dict [] [] pos) OW:=fun pins s σ H Q I h=>
 wpAny_Dict_empty ⟨.ref s.heap.objs.size,_,I.laid (a:=s.heap.objs.size) (o:= .dK []) (t':=s.toks) (fun _ _ q=>Heap.get?_push_of_some _ q) (Nat.le_refl _) (Oz s.heap I.big),rfl,h _ (I.hok.fresh (Nat.le_refl _))⟩
end
structure M1 (X:Cx) (o:Expr) (m:Str) (apos:Pos) (e:Expr) (cpos:Pos):Prop where
 base:attributeBase o m X.env (eval o X.env)=eval o X.env
 few:((backTo cpos (starEach [e] X.env)).all (fun x=> !x.1)&&(backToKw cpos (keywordEach [] X.env)).all (fun x=>x.1.isSome)
  &&decide (([e]:List Expr).length + ([]:List Keyword).length + (if ([]:List Keyword).isEmpty then 0 else 1) < 30))=true
 line:(apos.endLine == cpos.line)=true
 trees:backTo cpos (starEach [e] X.env)=[(false,eval e X.env)]
structure M2 (X:Cx) (o:Expr) (m:Str) (apos:Pos) (e f:Expr) (cpos:Pos):Prop where
 base:attributeBase o m X.env (eval o X.env)=eval o X.env
 few:((backTo cpos (starEach [e,f] X.env)).all (fun x=> !x.1)&&(backToKw cpos (keywordEach [] X.env)).all (fun x=>x.1.isSome)
  &&decide (([e,f]:List Expr).length + ([]:List Keyword).length + (if ([]:List Keyword).isEmpty then 0 else 1) < 30))=true
 line:(apos.endLine == cpos.line)=true
 trees:backTo cpos (starEach [e,f] X.env)=[(false,eval e X.env),(false,eval f X.env)]
section
variable {κ:Type} [DecidableEq κ]
theorem M5 {kvs:List (κ×V)} {k:κ} (h:valV kvs k=none):¬ k∈kvs.map (·.1):=by
 intro m
 obtain ⟨p,hp,e⟩:=List.mem_map.mp m
 have q:(kvs.any fun kv=>decide (kv.1=k))=true:=List.any_eq_true.mpr ⟨p,hp,decide_eq_true e⟩
 rw [ny,h] at q
 exact absurd q (by simp)
theorem PJ {kvs:List (κ×V)} {k:κ} {v:V} (h:valV kvs k=some v):k∈kvs.map (·.1):=by
 have q:(kvs.any fun kv=>decide (kv.1=k))=true:=by
  rw [ny,h]
  all_goals rfl
 obtain ⟨p,hp,e⟩:=List.any_eq_true.mp q
 exact List.mem_map.mpr ⟨p,hp,of_decide_eq_true e⟩
end
end L2
set_option maxHeartbeats 4000000
namespace L2
open PySem PySem.Spec PyProof.Rows
section
variable {P0:Program} {w0:World} {A0:Around} {R0:Result→Shared→Prop} {t0:Shared}
theorem IT {elt tg iter:Expr} {ifs:List Expr} {sc:Scope} {pos:Pos} {it acc:Value} {ce:Env} (J:Nat→Shared→Prop)
  (turn:∀ n s,J n s→wpAny (model P0 w0) A0 (pyNext it) (fun r s₁=>match r with
   | none=>R0 (.ok .next) s₁
   | some v=>wpAny (model P0 w0) A0 (letOwnedTupleGo tg it v) (fun _ s₂=>wpAny (model P0 w0) A0 (assign tg ce v) (fun _ s₃=>
     wpAny (model P0 w0) A0 (forIn ifs true fun c r=>if r=true then do let ok ← isTrue c ce (eval c ce);pure (ForInStep.yield ok) else pure (ForInStep.yield r)) (fun ok s₄=>
      if ok=true then wpAny (model P0 w0) A0 (eval elt ce) (fun x s₅=>
       wpAny (model P0 w0) A0 (call (.builtin "list.append") [acc,x]) (fun _ s₆=>∃ m,m < n∧J m s₆) (fun _ _=>False) s₅) (fun _ _=>False) s₄
      else ∃ m,m < n∧J m s₄) (fun _ _=>False) s₃) (fun _ _=>False) s₂) (fun _ _=>False) s₁) (fun _ _=>False) s)
  (n:Nat) (h:J n t0):
  codeAny (model P0 w0) A0 (.compLoop (.ListComp elt [⟨tg,iter,ifs,0⟩] sc pos) 0 it acc ce) R0 t0:=by
 have no:∀ {α:Type} {t:Sem α} {Q:α→Shared→Prop} {E:Value→Shared→Prop} {s:Shared},wpAny (model P0 w0) A0 t Q (fun _ _=>False) s→wpAny (model P0 w0) A0 t Q E s:=
  fun h=>wpAny_mono h (fun _ _ q=>q) fun _ _ z=>z.elim
 refine codeAny_loop rfl J (fun n s hJ=>?_) n h
 show wpAny _ A0 ((compTurn (.ListComp elt [⟨tg,iter,ifs,0⟩] sc pos) 0 it acc ce).onRaise (fun x=>do noteFrame x ce;theTreesLotGoes x)) _ _ s
 refine wpAny_noted ?_
 rw [compTurn_list]
 refine wpAny_bind (wpAny_standAt (wpAny_bind (thn (no (turn n s hJ)) fun r s₁ h₁=>?_)))
 cases r with
 | none=>exact wpAny_pure h₁
 | some v=>
   refine wpAny_bind (thn (no h₁) fun _ s₂ h₂=>?_)
   refine wpAny_bind (thn (no h₂) fun _ s₃ h₃=>wpAny_bind (thn (no h₃) fun ok s₄ h₄=>?_))
   cases ok with
   | false=>exact wpAny_pure ⟨rfl,h₄⟩
   | true=>
     rw [if_pos rfl] at h₄
     refine wpAny_bind (wpAny_bind (thn (no h₄) fun x s₅ h₅=>?_))
     refine wpAny_bind (thn (no h₅) fun _ s₆ h₆=>?_)
     exact wpAny_pure (wpAny_pure ⟨rfl,h₆⟩)
end
theorem p9 (env:Env):∀ (l:List (Str×NameKind)) (cs:List (Str×Addr)),(∀ y∈l,y.2= .free→∃ c,env.cells.lookup y.1=some c)→
  ∃ r:List (Str×Addr),(forIn l cs (fun (x:Str×NameKind) (r:List (Str×Addr))=>if x.2 == NameKind.free then (do let c ← cellOf env x.1;pure (ForInStep.yield ((x.1,c)::r))) else pure (ForInStep.yield r)):Sem (List (Str×Addr)))=pure r∧
   (∀ p∈r,p∈cs∨env.cells.lookup p.1=some p.2)∧(∀ p∈cs,p∈r)∧(∀ y∈l,y.2= .free→∃ c,(y.1,c)∈r)
 | [],cs,_=>⟨cs,rfl,fun p hp=> .inl hp,fun p hp=>hp,fun y hy=>nomatch hy⟩
 | (x,k)::l,cs,h=>by
   by_cases hk:k= .free
   ·subst hk
    obtain ⟨c,hc⟩:=h (x,.free) List.mem_cons_self rfl
    obtain ⟨r,e,h1,h2,h3⟩:=p9 env l ((x,c)::cs) fun y hy=>h y (List.mem_cons_of_mem _ hy)
    refine ⟨r,?_,fun p hp=>?_,fun p hp=>h2 p (List.mem_cons_of_mem _ hp),fun y hy hf=>?_⟩
    ·rw [List.forIn_cons]
     have e2:cellOf env x=pure c:=by unfold cellOf;rw [hc]
     simp only [beq_self_eq_true,if_true,e2,pure_bind]
     exact e
    ·rcases h1 p hp with q | q
     ·rcases List.mem_cons.mp q with z | z
      ·subst z;exact .inr hc
      ·exact .inl z
     ·exact .inr q
    ·rcases List.mem_cons.mp hy with z | z
     ·subst z;exact ⟨c,h2 _ List.mem_cons_self⟩
     ·exact h3 y z hf
   ·obtain ⟨r,e,h1,h2,h3⟩:=p9 env l cs fun y hy=>h y (List.mem_cons_of_mem _ hy)
    refine ⟨r,?_,h1,h2,fun y hy hf=>?_⟩
    ·rw [List.forIn_cons]
     have hb:(k == NameKind.free)=false:=by cases k<;>first | rfl | exact absurd rfl hk
     simp only [hb,Bool.false_eq_true,if_false,pure_bind]
     exact e
    ·rcases List.mem_cons.mp hy with z | z
     ·subst z;exact absurd hf hk
     ·exact h3 y z hf
theorem yj (sc:Scope) (env:Env) (h:∀ y∈sc.names,y.2= .free→∃ c,env.cells.lookup y.1=some c):
  ∃ cl,closureFor sc env=pure cl∧(∀ p∈cl,env.cells.lookup p.1=some p.2)∧∀ y∈sc.names,y.2= .free→∃ c,(y.1,c)∈cl:=by
 obtain ⟨r,e,h1,h2,h3⟩:=p9 env sc.names [] h
 refine ⟨r,?_,fun p hp=>(h1 p hp).resolve_left (fun z=>nomatch z),h3⟩
 unfold closureFor
 have:=e
 simp only [bind_pure] at *
 exact e
theorem zn {κ β:Type} [BEq κ] [LawfulBEq κ]:∀ {l:List (κ×β)} {x:κ} {c:β},(x,c)∈l→∃ c',l.lookup x=some c'
 | [],_,_,h=>nomatch h
 | (y,d)::l,x,c,h=>by
   by_cases e:x=y
   ·subst e;exact ⟨d,by simp [List.lookup_cons]⟩
   ·have hb:(x == y)=false:=beq_eq_false_iff_ne.mpr e
    rcases List.mem_cons.mp h with z | z
    ·exact absurd (congrArg Prod.fst z) e
    ·obtain ⟨c',q⟩:=zn z
     exact ⟨c',by rw [List.lookup_cons,hb];exact q⟩
theorem nI {env:Env}:∀ {names:List (Str×NameKind)} {x:Str} {k':NameKind},
  (names.map fun (n,k)=>if (k == NameKind.free&&env.scope.kind == .function&&env.kindOf n == some .cell) then (n,NameKind.cell) else (n,k)).lookup x=some k'→∃ k,(x,k)∈names∧(k'=k∨k= .free)
 | [],_,_,h=>by cases h
 | (y,k)::l,x,k',h=>by
   rw [List.map_cons,List.lookup_cons] at h
   by_cases e:x=y
   ·subst e
    by_cases hc:(k == NameKind.free&&env.scope.kind == .function&&env.kindOf x == some .cell)=true
    ·refine ⟨k,List.mem_cons_self,.inr ?_⟩
     rw [Bool.and_eq_true,Bool.and_eq_true] at hc
     exact eq_of_beq hc.1.1
    ·refine ⟨k,List.mem_cons_self,.inl ?_⟩
     simp only [if_neg hc,beq_self_eq_true] at h
     exact (Option.some.inj h).symm
   ·have hb:(x == y)=false:=beq_eq_false_iff_ne.mpr e
    have h':(l.map fun (n,k)=>if (k == NameKind.free&&env.scope.kind == .function&&env.kindOf n == some .cell) then (n,NameKind.cell) else (n,k)).lookup x=some k':=by
     by_cases hc:(k == NameKind.free&&env.scope.kind == .function&&env.kindOf y == some .cell)=true
     ·simp only [if_pos hc,hb] at h;exact h
     ·simp only [if_neg hc,hb] at h;exact h
    obtain ⟨q,hm,z⟩:=nI h'
    exact ⟨q,List.mem_cons_of_mem _ hm,z⟩
theorem qq {env:Env}:∀ {names:List (Str×NameKind)} {x:Str},names.lookup x=some .free→
  (names.map fun (n,k)=>if (k == NameKind.free&&env.scope.kind == .function&&env.kindOf n == some .cell) then (n,NameKind.cell) else (n,k)).lookup x=some .cell∨
  (names.map fun (n,k)=>if (k == NameKind.free&&env.scope.kind == .function&&env.kindOf n == some .cell) then (n,NameKind.cell) else (n,k)).lookup x=some .free
 | [],_,h=>by cases h
 | (y,k)::l,x,h=>by
   rw [List.lookup_cons] at h
   rw [List.map_cons,List.lookup_cons]
   by_cases e:x=y
   ·subst e
    simp only [beq_self_eq_true] at h
    cases h
    by_cases hc:(NameKind.free == NameKind.free&&env.scope.kind == .function&&env.kindOf x == some .cell)=true
    ·refine .inl ?_
     rw [if_pos hc]
     simp only [beq_self_eq_true]
    ·refine .inr ?_
     rw [if_neg hc]
     simp only [beq_self_eq_true]
   ·have hb:(x == y)=false:=beq_eq_false_iff_ne.mpr e
    simp only [hb] at h
    have q:=qq (env:=env) h
    by_cases hc:(k == NameKind.free&&env.scope.kind == .function&&env.kindOf y == some .cell)=true
    ·simp only [if_pos hc,hb];exact q
    ·simp only [if_neg hc,hb];exact q
structure iX (osc:Scope) (ON N:List Str) (n:Nat) (fx:List Nat) (sc:Scope):Prop where
 kind:sc.kind= .function
 noc:∀ y∈sc.names,y.2≠.cell
 own:∀ y∈sc.names,y.2= .local→sc.names.lookup y.1=some .local
 fre:∀ y∈sc.names,y.2= .free→osc.names.lookup y.1=some .cell∨osc.names.lookup y.1=some .free
 len:N.length=n + fx.length
 frn:∀ k,k < fx.length→∃ x j,N[n + k]? =some x∧fx[k]? =some j∧ON[j]? =some x∧sc.names.lookup x=some .free
noncomputable def Ot (ON:List Str) (sc:Scope):List Str→List Nat→Bool
 | [],[]=>true
 | x::xs,j::js=>decide (ON[j]? =some x)&&decide (sc.names.lookup x=some .free)&&Ot ON sc xs js
 | _,_=>false
theorem Cb {ON:List Str} {sc:Scope}:∀ {xs:List Str} {js:List Nat},Ot ON sc xs js=true→xs.length=js.length∧∀ k,k < js.length→∃ x j,xs[k]? =some x∧js[k]? =some j∧ON[j]? =some x∧sc.names.lookup x=some .free
 | [],[],_=>⟨rfl,fun k h=>absurd h (Nat.not_lt_zero k)⟩
 | [],_::_,h=>by cases h
 | _::_,[],h=>by cases h
 | x::xs,j::js,h=>by
   simp only [Ot,Bool.and_eq_true,decide_eq_true_eq] at h
   obtain ⟨l,q⟩:=Cb h.2
   refine ⟨congrArg Nat.succ l,fun k hk=>?_⟩
   cases k with
   | zero=>exact ⟨x,j,rfl,rfl,h.1.1,h.1.2⟩
   | succ k=>
     obtain ⟨x',j',a,b,c⟩:=q k (Nat.lt_of_succ_lt_succ hk)
     exact ⟨x',j',by simpa using a,by simpa using b,c⟩
noncomputable def Gr (osc:Scope) (ON N:List Str) (n:Nat) (fx:List Nat) (sc:Scope):Bool:=
 decide (sc.kind= .function)&&decide (∀ y∈sc.names,y.2≠.cell)&&decide (∀ y∈sc.names,y.2= .local→sc.names.lookup y.1=some .local)&&
 decide (∀ y∈sc.names,y.2= .free→osc.names.lookup y.1=some .cell∨osc.names.lookup y.1=some .free)&&decide (n≤N.length)&&Ot ON sc (N.drop n) fx
theorem iX.of {osc:Scope} {ON N:List Str} {n:Nat} {fx:List Nat} {sc:Scope} (h:Gr osc ON N n fx sc=true):iX osc ON N n fx sc:=by
 simp only [Gr,Bool.and_eq_true,decide_eq_true_eq] at h
 obtain ⟨⟨⟨⟨⟨h1,h2⟩,h3⟩,h4⟩,h5⟩,h6⟩:=h
 obtain ⟨l,q⟩:=Cb h6
 refine ⟨h1,h2,h3,h4,?_,fun k hk=>?_⟩
 ·rw [List.length_drop] at l;omega
 ·obtain ⟨x,j,a,b⟩:=q k hk
  exact ⟨x,j,by rw [List.getElem?_drop] at a;exact a,b⟩
noncomputable def iU (X:Cx) (N:List Str) (sc:Scope) (cl:List (Str×Addr)) (C:Addr) (fp:List Addr) (s:Shared) (H:Hp):Cx where
 prog:=X.prog
 w:=X.w
 K:=X.K
 mg:=X.mg
 base:=X.base
 A:=X.A
 N:=N
 s₀:=s
 H₀:=H
 env:=compEnvC sc cl C X.env
 outer:=X.stack
 stack:=X.stack
 ex:=fp
 fn:=fun _=>false
 calm:=X.calm
 pn:=[]
 xe:=fun _ _=>False
noncomputable def dL (n:Nat) (fx:List Nat) (σ:St):St:=List.replicate n none++fx.map fun j=>(σ[j]?).join
noncomputable def Jr (n:Nat) (g:TG):Prop:=∀ v σ H (Q Q':St→Hp→Prop),(∀ σ' H',Q σ' H'→σ'.drop n=σ.drop n→σ'.length=σ.length→Q' σ' H')→g v σ H Q→g v σ H Q'
noncomputable def Gx (n:Nat) (g:TGs):Prop:=∀ vs σ H (Q Q':St→Hp→Prop),(∀ σ' H',Q σ' H'→σ'.drop n=σ.drop n→σ'.length=σ.length→Q' σ' H')→g vs σ H Q→g vs σ H Q'
theorem aO {n i:Nat} (h:i < n):Jr n (LJ i):=fun v σ H Q Q' k q=>k _ _ q (by rw [List.drop_set_of_lt h]) (by rw [List.length_set])
theorem zG {n:Nat}:Gx n gNil:=fun vs σ H Q Q' k ⟨e,q⟩=>⟨e,k _ _ q rfl rfl⟩
theorem g8 {n:Nat} {t:TG} {u:TGs} (ht:Jr n t) (hu:Gx n u):Gx n (Rb t u):=fun vs σ H Q Q' k ⟨v,r,e,q⟩=>
 ⟨v,r,e,ht v σ H _ _ (fun σ1 H1 q1 e1 l1=>hu r σ1 H1 Q Q' (fun σ2 H2 q2 e2 l2=>k σ2 H2 q2 (e2.trans e1) (l2.trans l1)) q1) q⟩
theorem Ge {K:PySem.W.Frag} {n m:Nat} {t:TGs} (h:Gx n t):Jr n (gTup K m t):=fun v σ H Q Q' k ⟨a,xs,e,hs,hl,q⟩=>⟨a,xs,e,hs,hl,h xs σ H Q Q' k q⟩
noncomputable def PTs (X:Cx) (ifs:List Expr) (t:TT):Prop:=
 ∀ (pins:List (Addr×Obj)) (s:Shared) (σ:St) (H:Hp) (Q:Bool→Hp→Prop),Inv X pins σ H s→t σ H Q→
  wpAny (model X.prog X.w) X.A (forIn ifs true fun c r=>if r=true then do let ok ← isTrue c X.env (eval c X.env);pure (ForInStep.yield ok) else pure (ForInStep.yield r)) (TP X pins σ Q) X.xe s
noncomputable def tYes:TT:=fun _ H Q=>Q true H
theorem bB {X:Cx}:PTs X [] tYes:=fun _ _ _ H _ I h=>wpAny_tests_nil ⟨H,I,h⟩
theorem i8 {X:Cx} {c:Expr} {t:TT} (h:PT X c t):PTs X [c] t:=fun pins s σ H Q I q=>wpAny_tests_one (h pins s σ H Q I q)
noncomputable def Ni (n:Nat) (fx:List Nat) (wi:TI) (g:TG) (tc:TT) (te:TE):TE:=fun σ H Q=>wi σ H fun J H1=>∀ D,H1 D=none→
 ∃ W:Nat→Nat→List V→Hp→Prop,(∃ m,W 0 m [] (upd H1 D (.lst [])))∧∀ i m ys H2,W i m ys H2→(J.stop i H2∧Q (.ref D) H2)∨
   (J.go i H2∧∃ N:List V→Hp→Prop,(∀ ys' H',N ys' H'→∃ m',m' < m∧W (i + 1) m' ys' H')∧∀ x H3,J.yld i H2 x H3→g x (dL n fx σ) H3 fun σ4 H4=>tc σ4 H4 fun b H5=>
    if b=true then te σ4 H5 fun v H6=>H6 D=some (.lst ys)∧ys.length < sizeLine∧N (ys++[v]) (upd H6 D (.lst (ys++[v]))) else N ys H5)
section
variable {X:Cx} {pins:List (Addr×Obj)} {σ:St} {H:Hp} {s:Shared}
theorem IU {n:Nat} {fx:List Nat}:(dL n fx σ).length=n + fx.length:=by unfold dL;simp
theorem yi {n:Nat} {fx:List Nat} {i:Nat} {v:V} (e:(dL n fx σ)[i]? =some (some v)):∃ k j,i=n + k∧fx[k]? =some j∧σ[j]? =some (some v):=by
 unfold dL at e
 by_cases h:i < n
 ·rw [List.getElem?_append_left (by simpa using h),List.getElem?_replicate,if_pos h] at e
  cases e
 ·rw [List.getElem?_append_right (by simpa using h),List.length_replicate,List.getElem?_map] at e
  cases q:fx[i - n]? with
  | none=>rw [q] at e;cases e
  | some j=>
    rw [q] at e
    have e':(σ[j]?).join=some v:=Option.some.inj e
    refine ⟨i - n,j,by omega,q,?_⟩
    cases z:σ[j]? with
    | none=>rw [z] at e';cases e'
    | some o=>rw [z] at e';have:o=some v:=e';rw [this]
theorem OC {osc:Scope} {ON N:List Str} {n:Nat} {fx:List Nat} {sc:Scope} {cl:List (Str×Addr)} {fp:List Addr} {h4:Heap} {tk:Nat}
  (ho:X.env.scope=osc) (hN:X.N=ON) (S:iX osc ON N n fx sc)
  (hcl1:∀ p∈cl,X.env.cells.lookup p.1=some p.2) (hcl2:∀ y∈sc.names,y.2= .free→∃ c,(y.1,c)∈cl)
  (I:Inv X pins σ H s) (hf:∀ b∈fp,FpOk X pins H b) (hfo:∀ b∈fp,b < s.heap.objs.size)
  (hns:∃ m,h4.Ns s.heap.objs.size m) (old:∀ b o,s.heap.get? b=some o→h4.get? b=some o):
  Inv (iU X N sc cl s.heap.objs.size fp s H) [] (dL n fx σ) H {s with heap:=h4,toks:=tk}:=by
 have look:∀ {x:Str} {c:Addr},cl.lookup x=some c→X.env.cells.lookup x=some c:=fun {x c} e=>hcl1 (x,c) (PySem.mem_of_lookup e)
 have ok:(iU X N sc cl s.heap.objs.size fp s H).Ok:=by
  refine ⟨I.ok.mod,S.kind,I.ok.glob,I.ok.blt,Nat.le_refl _,fun x y c h1 h2=>I.ok.inj x y c (look h1) (look h2),fun x hx=>?_,fun x c z=>(by cases z),I.ok.hd,I.ok.frames,.inl rfl,fun b hb=>⟨Nat.ne_of_lt (hfo b hb),fun x c e=>(hf b hb).2.2.2.2.1 x c (look e)⟩,
   I.bs,Nat.le_trans I.ok.bsz I.sz,fun b o e hb=>?_,fun b hb z=>?_,I.stack,I.stkFree⟩
  ·have hx':∃ k',(k'=NameKind.cell∨k'=NameKind.free)∧(sc.names.map fun (n,k)=>if (k == NameKind.free&&X.env.scope.kind == .function&&X.env.kindOf n == some .cell) then (n,NameKind.cell) else (n,k)).lookup x=some k':=by
    rcases hx with hx | hx
    ·exact ⟨_,.inl rfl,hx⟩
    ·exact ⟨_,.inr rfl,hx⟩
   obtain ⟨k',hk,e⟩:=hx'
   obtain ⟨k,hm,z⟩:=nI e
   have kf:k= .free:=by
    rcases z with z | z
    ·subst z
     rcases hk with q | q
     ·exact absurd q (S.noc _ hm)
     ·exact q
    ·exact z
   subst kf
   obtain ⟨c,hc⟩:=hcl2 _ hm rfl
   exact zn hc
  ·rcases (hf b hb).2.2.2.1 with z | z
   ·exact I.ok.noex b o e z
   ·exact absurd (Nat.lt_of_lt_of_le (Heap.lt_size (I.ok.bs b o e).1) z) (Nat.lt_irrefl _)
  ·rcases List.mem_cons.mp (I.stkSub b z) with q | q
   ·exact (hf b hb).2.1 q
   ·exact (hf b hb).2.2.1 q
 obtain ⟨m,hns⟩:=hns
 refine ⟨ok,rfl,I.bare,Un.kept old,⟨m,hns,fun i x v e1 e2 e3=>?_⟩,fun x c e=>?_,I.hok.fresh (Nat.le_refl _),fun x c e=>I.freeC x c (look e),fun p hp=>absurd (show p∈([]:List (Addr×Obj)) from hp) (by simp),I.hok.kept old,?_⟩
 ·obtain ⟨k,j,rfl,hj,hv⟩:=yi e2
  obtain ⟨x',j',a1,a2,a3,a4⟩:=S.frn k (List.getElem?_eq_some_iff.mp hj).1
  have ex:x'=x:=Option.some.inj (a1.symm.trans e1)
  have ej:j'=j:=Option.some.inj (a2.symm.trans hj)
  subst ex;subst ej
  obtain ⟨m',_,hl⟩:=I.loc
  have hk:X.env.scope.names.lookup x'=some .cell∨X.env.scope.names.lookup x'=some .free:=by rw [ho];exact S.fre _ (PySem.mem_of_lookup a4) rfl
  have vis:Vis X.env.scope x':=by rcases hk with z | z;exact .inr (.inl z);exact .inr (.inr z)
  obtain ⟨u,r,q⟩:=hl j' x' v (by rw [hN];exact a3) hv vis
  rcases q with ⟨z,_⟩ | ⟨_,c,ec,ic⟩
  ·have z':X.env.scope.names.lookup x'=some .local:=z
   rcases hk with q | q<;>(rw [q] at z';cases z')
  ·refine ⟨u,r,.inr ⟨qq a4,c,?_,ic.keeps old⟩⟩
   obtain ⟨c0,hc0⟩:=hcl2 _ (PySem.mem_of_lookup a4) rfl
   obtain ⟨c1,hc1⟩:=zn hc0
   have:=look hc1
   rw [ec] at this
   cases this
   exact hc1
 ·obtain ⟨v,q⟩:=I.cell x c (look e)
  exact ⟨v,q.keeps old⟩
 ·show _=N.length
  rw [IU,S.len]
theorem Cv {osc:Scope} {ON N:List Str} {n:Nat} {fx:List Nat} {sc:Scope} {cl:List (Str×Addr)} {elt tg iter:Expr} {ifs:List Expr} {pos:Pos} {wi:TI} {g:TG} {tc:TT} {te:TE} {Q:VK} {RR:Value→Addr→Result→Shared→Prop}
  (hcalm:X.calm=true) (ho:X.env.scope=osc) (hN:X.N=ON) (S:iX osc ON N n fx sc)
  (hcl1:∀ p∈cl,X.env.cells.lookup p.1=some p.2) (hcl2:∀ y∈sc.names,y.2= .free→∃ c,(y.1,c)∈cl)
  (hi:PI X tg iter wi) (gk:Jr n g) (hb:∀ cl C fp s H,PG (iU X N sc cl C fp s H) tg g∧PTs (iU X N sc cl C fp s H) ifs tc∧PE (iU X N sc cl C fp s H) elt te)
  (I:Inv X pins σ H s) (h:Ni n fx wi g tc te σ H Q)
  (hRR:∀ D C H' s',Inv X pins σ H' s'→(∃ m,s'.heap.Ns C m)→FpOk X pins H' C→Q (.ref D) H'→RR (.ref D) C (.ok .next) s'):
  wpAny (model X.prog X.w) X.A (eval iter X.env) (fun x s₁=>wpAny (model X.prog X.w) X.A (pyIter x) (fun it s₂=>wpAny (model X.prog X.w) X.A (newList []) (fun acc s₃=>
   wpAny (model X.prog X.w) X.A (newFunctionEnv sc X.env.globals cl [] X.env.qual none .none (some X.env)) (fun cenv s₄=>
    codeAny (model X.prog X.w) X.A (.compStart (.ListComp elt [⟨tg,iter,ifs,0⟩] sc pos) 0 it acc {cenv with scope:=relabel sc X.env}) (RR acc cenv.locals) s₄) X.xe s₃) X.xe s₂) X.xe s₁) X.xe s:=by
 refine thn (hi pins s σ H _ I h) fun v s1 h1=>thn h1 fun itv s2 h2=>?_
 obtain ⟨it,fp,tn,J,H2,e2,I2,T,st2,f2,hW⟩:=h2
 subst e2
 obtain ⟨W,⟨m0,w0⟩,hturn⟩:=hW s2.heap.objs.size I2.fresh
 refine wpAny_newObj_type ?_
 have I3:Inv X pins σ (upd H2 s2.heap.objs.size (.lst [])) {s2 with heap:=s2.heap.push {cls:= .type "list",data:= .seq ([]:List Value).toArray}}:=I2.lnew (t':=s2.toks) (its:=[]) .nil (Nat.zero_le _)
 have f3:∀ b∈fp,FpOk X pins (upd H2 s2.heap.objs.size (.lst [])) b∧b < s2.heap.objs.size:=fun b hb=>by
  obtain ⟨o,e,_⟩:=T.obj _ _ st2 b hb
  have l:=Heap.lt_size e
  obtain ⟨a1,a2⟩:=f2 b hb
  exact ⟨⟨by rw [aw (Nat.ne_of_lt l)];exact a1,a2⟩,l⟩
 have sz:({s2 with heap:=s2.heap.push {cls:= .type "list",data:= .seq ([]:List Value).toArray}}:Shared).heap.objs.size=s2.heap.objs.size + 1:=Heap.size_push ..
 generalize hs3:({s2 with heap:=s2.heap.push {cls:= .type "list",data:= .seq ([]:List Value).toArray}}:Shared)=s3 at I3 sz ⊢
 generalize hH3:upd H2 s2.heap.objs.size (.lst [])=H3 at I3 f3 w0
 have old3:∀ b o,s2.heap.get? b=some o→s3.heap.get? b=some o:=fun b o e=>by rw [← hs3];exact Heap.get?_push_of_some _ e
 refine wpAny_newFunctionEnv (fun y hy=>S.noc y hy) (fun y hy=>nomatch hy) (fun h4 hns hsb=>?_) S.kind
 have old4:∀ b o,s3.heap.get? b=some o→h4.get? b=some o:=fun b o e=>hsb.extBut b o (Nat.ne_of_lt (Heap.lt_size e)) (Heap.get?_push_of_some _ e)
 have I4:=OC (tk:=s3.toks + ([]:List (Str×Value)).length) ho hN S hcl1 hcl2 I3 (fun b hb=>(f3 b hb).1) (fun b hb=>by rw [sz];exact Nat.lt_succ_of_lt (f3 b hb).2) ⟨_,hns⟩ old4
 have hb':=hb cl s3.heap.objs.size fp s3 H3
 generalize hY:iU X N sc cl s3.heap.objs.size fp s3 H3=Y at I4 hb'
 have stat:∀ {H':Hp},(∀ b∈fp,H' b=none)→∀ b∈fp,FpOk Y [] H' b:=fun {H'} hn b hb=>by
  subst hY
  obtain ⟨⟨a1,a2,a3,a4,a5,a6⟩,l⟩:=f3 b hb
  refine ⟨hn b hb,Nat.ne_of_lt (show b < s3.heap.objs.size by rw [sz];exact Nat.lt_succ_of_lt l),fun z=>?_,.inl hb,fun x c e=>a5 x c (hcl1 (x,c) (PySem.mem_of_lookup e)),fun p hp=>absurd (show p∈([]:List (Addr×Obj)) from hp) (by simp)⟩
  rcases List.mem_cons.mp (I3.stkSub b z) with q | q
  ·exact a2 q
  ·exact a3 q
 have fin:∀ {σ6:St} {H6:Hp} {s6:Shared},Inv Y [] σ6 H6 s6→Q (.ref s2.heap.objs.size) H6→RR (.ref s2.heap.objs.size) s3.heap.objs.size (.ok .next) s6:=fun {σ6 H6 s6} I6 q=>by
  subst hY
  refine hRR _ _ H6 s6 ?_ (let ⟨m,hm,_⟩:=I6.loc;⟨m,hm⟩) (I3.fpOk (Nat.le_refl _) I6.free) q
  obtain ⟨hh,gg,dd,tt,os'⟩:=s6
  obtain rfl:os'=s3.os:=I6.os
  exact I3.call (h':=hh) (g':=gg) (d':=dd) (t':=tt) (ch:=fp) I6.base I6.hok I6.bare fun b hb=>by
   obtain ⟨⟨a1,a2,a3,a4,a5,a6⟩,l⟩:=f3 b hb
   exact ⟨a4,a2,a5,a6⟩
 have pY:Y.prog=X.prog:=by subst hY;rfl
 have wY:Y.w=X.w:=by subst hY;rfl
 have kY:Y.K=X.K:=by subst hY;rfl
 have aY:Y.A=X.A:=by subst hY;rfl
 have cY:Y.calm=true:=by subst hY;exact hcalm
 have eY:Y.env=compEnvC sc cl s3.heap.objs.size X.env:=by subst hY;rfl
 have xY:Y.xe=fun _ _=>False:=by subst hY;rfl
 have T':Turn Y.prog Y.w Y.K tg J fp it tn:=by rw [pY,wY,kY];exact T
 have tn4:tn 0 h4:=T.keep _ _ _ st2 fun b hb o e=>old4 b o (old3 b o e)
 have loop:codeAny (model X.prog X.w) X.A (.compLoop (.ListComp elt [⟨tg,iter,ifs,0⟩] sc pos) 0 (.ref it) (.ref s2.heap.objs.size) (compEnvC sc cl s3.heap.objs.size X.env)) (RR (.ref s2.heap.objs.size) s3.heap.objs.size)
   {s3 with heap:=h4,toks:=s3.toks + ([]:List (Str×Value)).length}:=by
  rw [← pY,← wY,← aY,← eY]
  refine IT (fun k s'=>∃ i ys σ' H',Inv Y [] σ' H' s'∧σ'.drop n=(dL n fx σ).drop n∧σ'.length=(dL n fx σ).length∧tn i s'.heap∧(∀ b∈fp,H' b=none)∧W i k ys H') ?_ m0 ⟨0,[],_,H3,I4,rfl,rfl,tn4,fun b hb=>(f3 b hb).1.1,w0⟩
  rintro k s5 ⟨i,ys,σ5,H5,I5,ed,el,st5,fr5,w5⟩
  have I5:Inv Y [] (dL n fx σ) H5 s5:=I5.weak el.symm fun j v e=>by
   obtain ⟨k',j',rfl,_,_⟩:=yi e
   have q:=congrArg (fun l=>l[k']?) ed
   simp only [List.getElem?_drop] at q
   rw [q];exact e
  rcases hturn i k ys H5 w5 with ⟨stop,q⟩ | ⟨go,N',hN',step⟩
  ·refine wpAny_mono (T'.done Y rfl rfl rfl cY i [] s5 _ H5 (fun _ _=>False) I5 (stat fr5) st5 stop) (fun r s6 ⟨hr,I6⟩=>?_) fun _ _ z=>z
   subst hr
   exact fin I6 q
  ·rw [← xY]
   refine thn (T'.item Y rfl rfl rfl cY i [] s5 _ H5 Y.xe I5 (stat fr5) st5 go) fun r s6 ⟨u,hr,h6⟩=>?_
   subst hr
   show wpAny _ _ _ _ _ _
   refine thn h6 fun _ s7 ⟨x,H7,I7,r7,y7,st7,fr7⟩=>?_
   have I7':=I7.pinned (stat fr7) (T.obj _ _ st7)
   refine thn (hb'.1 _ s7 _ H7 x u _ I7' r7 (gk _ _ _ _ _ (fun σ' H' q e l=>(⟨q,e,l⟩:_∧_∧_)) (step x H7 y7))) fun _ s8 ⟨σ8,H8,I8,q8,ed8,el8⟩=>?_
   refine thn (hb'.2.1 _ s8 σ8 H8 _ I8 q8) fun ok s9 ⟨H9,I9,q9⟩=>?_
   have again:∀ {H10:Hp} {s10:Shared} {zs:List V},Inv Y ([]++A9 fp s7.heap) σ8 H10 s10→N' zs H10→
     ∃ m,m < k∧∃ i ys σ' H',Inv Y [] σ' H' s10∧σ'.drop n=(dL n fx σ).drop n∧σ'.length=(dL n fx σ).length∧tn i s10.heap∧(∀ b∈fp,H' b=none)∧W i m ys H':=fun {H10 s10 zs} I10 n10=>by
    obtain ⟨m',hm,w10⟩:=hN' _ _ n10
    refine ⟨m',hm,i + 1,zs,σ8,H10,I10.unpinned,ed8,el8,T.keep _ _ _ st7 fun b hb o e=>(I10.pin (b,o) (List.mem_append_right _ (List.mem_append_right _ (kN hb e)))).1,fun b hb=>?_,w10⟩
    obtain ⟨o,e,d⟩:=T.obj _ _ st7 b hb
    exact (I10.pin (b,o) (List.mem_append_right _ (List.mem_append_right _ (kN hb e)))).2.1
   cases ok with
   | false=>exact again I9 q9
   | true=>
     rw [if_pos rfl]
     refine thn (hb'.2.2 _ s9 σ8 H9 _ I9 q9) fun y s10 ⟨v',H10,I10,r10,hD10,hl10,n10⟩=>?_
     refine thn (dR (X:=Y) _ s10 σ8 H10 (.ref s2.heap.objs.size) [v'] (.ref s2.heap.objs.size) [y] (fun _ H'=>H'=upd H10 s2.heap.objs.size (.lst (ys++[v']))) I10 rfl (.cons r10 .nil) ⟨_,ys,v',rfl,rfl,hD10,hl10,rfl⟩) fun _ s11 ⟨_,H11,I11,_,e11⟩=>?_
     subst e11
     exact again I11 n10
 exact codeAny_compStart_list loop (T.self X.A 0 _ _ _ tn4 loop)
theorem bj {osc:Scope} {ON N:List Str} {n:Nat} {fx:List Nat} {sc:Scope} {elt tg iter:Expr} {ifs:List Expr} {pos:Pos} {wi:TI} {g:TG} {tc:TT} {te:TE}
  (hcalm:X.calm=true) (ho:X.env.scope=osc) (hN:X.N=ON) (S:Gr osc ON N n fx sc=true) (hi:PI X tg iter wi) (gk:Jr n g)
  (hb:∀ cl C fp s H,PG (iU X N sc cl C fp s H) tg g∧PTs (iU X N sc cl C fp s H) ifs tc∧PE (iU X N sc cl C fp s H) elt te)
  (hs:∀ x,foldedSetIterable iter X.env x=pure x:=by intro _;rfl):PE X (.ListComp elt [⟨tg,iter,ifs,0⟩] sc pos) (Ni n fx wi g tc te):=by
 intro pins s σ H Q I h
 have S:=iX.of S
 obtain ⟨cl,hcl,hcl1,hcl2⟩:=yj sc X.env fun y hy hf=>I.ok.has y.1 (by show X.env.scope.names.lookup y.1=some .cell∨X.env.scope.names.lookup y.1=some .free;rw [ho];exact S.fre y hy hf)
 rw [eval_ListComp]
 refine wpAny_comprehension_free (use:=none) rfl hs hcl S.kind S.own (Cv (RR:=fun acc C=>compPost (model X.prog X.w) X.A X.xe none (EP X pins σ Q) acc C) hcalm ho hN S hcl1 hcl2 hi gk hb I h ?_)
 intro D C H' s' I' hm hf q
 obtain ⟨m,hm⟩:=hm
 obtain ⟨f0,f1,f2,f3,f4,f5⟩:=hf
 exact ⟨m,hm,fun h' hsb=>⟨.ref D,H',I'.turned (t':=s'.toks) (fun b o hb e=>(hsb.2 b hb).trans e) f0 f1 f3 f4 f5,rfl,q⟩⟩
theorem pf {i:Nat} {x:Str} {px:Pos} {spos:Pos} {osc:Scope} {ON N:List Str} {n:Nat} {fx:List Nat} {sc:Scope} {elt tg iter:Expr} {ifs:List Expr} {pos:Pos} {wi:TI} {g:TG} {tc:TT} {te:TE}
  (hnd:X.N.Nodup) (hx:X.N[i]? =some x) (hl:X.env.scope.names.lookup x=some .local) (hsw:swapsWith (.ListComp elt [⟨tg,iter,ifs,0⟩] sc pos) (some (.Name x px)) spos.line X.env=pure true)
  (hcalm:X.calm=true) (ho:X.env.scope=osc) (hN:X.N=ON) (S:Gr osc ON N n fx sc=true) (hi:PI X tg iter wi) (gk:Jr n g)
  (hb:∀ cl C fp s H,PG (iU X N sc cl C fp s H) tg g∧PTs (iU X N sc cl C fp s H) ifs tc∧PE (iU X N sc cl C fp s H) elt te)
  (hs:∀ x,foldedSetIterable iter X.env x=pure x:=by intro _;rfl):PS X (.Assign [.Name x px] (.ListComp elt [⟨tg,iter,ifs,0⟩] sc pos) spos) (tAsg (Ni n fx wi g tc te) (LJ i)):=by
 intro pins s σ H D I h
 have S:=iX.of S
 obtain ⟨cl,hcl,hcl1,hcl2⟩:=yj sc X.env fun y hy hf=>I.ok.has y.1 (by show X.env.scope.names.lookup y.1=some .cell∨X.env.scope.names.lookup y.1=some .free;rw [ho];exact S.fre y hy hf)
 rw [exec_Assign_Name_used _ _ _ _ hsw]
 refine wpAny_bind (wpAny_standAt (wpAny_bind ?_))
 show wpAny _ X.A (do let _ ← comprehension (.ListComp elt [⟨tg,iter,ifs,0⟩] sc pos) sc X.env _ (newList []) false (eval iter X.env) (some (assign (.Name x px) X.env))) _ _ s
 refine wpAny_bind (thn (wpAny_comprehension_free (use:=some (assign (.Name x px) X.env)) (Q:=fun _ s'=>SP X pins D .next s') rfl hs hcl S.kind S.own
  (Cv (RR:=fun acc C=>compPost (model X.prog X.w) X.A X.xe (some (assign (.Name x px) X.env)) (fun _ s'=>SP X pins D .next s') acc C) hcalm ho hN S hcl1 hcl2 hi gk hb I h ?_)) fun _ s' q=>wpAny_pure (wpAny_pure q))
 intro D' C H' s' I' hm hf q
 obtain ⟨m,hm⟩:=hm
 obtain ⟨f0,f1,f2,f3,f4,f5⟩:=hf
 show wpAny _ X.A (assign (.Name x px) X.env (.ref D')) _ _ _
 refine wpAny_assign_Name (AK I' hnd hx (.inl hl) (v:= .ref D') rfl (fun s2 I2 hch=>?_) (.inr hl))
 obtain ⟨a,hsb,ha⟩:=hch
 have hCa:C≠a:=by
  rcases ha with z | z
  ·rw [z];exact f1
  ·exact fun e=>f4 _ _ z e.symm
 exact ⟨m,hm.sameBut hsb hCa,fun h' hsb'=>⟨_,H',I2.turned (t':=s2.toks) (fun b o hb e=>(hsb'.2 b hb).trans e) f0 f1 f3 f4 f5,q⟩⟩
end
section
variable {K:PySem.W.Frag} {n:Nat} {fx:List Nat} {g:TG} {tc:TT} {te:TE} {σ:St} {H1:Hp} {D:Addr} {Q:Hp→Prop}
theorem dh {lo:Int} {k:Nat} (Pv:Nat→List V→Hp→Prop) (h0:Pv 0 [] (upd H1 D (.lst [])))
  (hs:∀ i ys H,i < k→Pv i ys H→g (.int (lo + i)) (dL n fx σ) H fun σ4 H4=>tc σ4 H4 fun b H5=>if b=true then te σ4 H5 fun v H6=>H6 D=some (.lst ys)∧ys.length < sizeLine∧Pv (i + 1) (ys++[v]) (upd H6 D (.lst (ys++[v]))) else Pv (i + 1) ys H5)
  (hd:∀ ys H,Pv k ys H→Q H):
  ∃ W:Nat→Nat→List V→Hp→Prop,(∃ m,W 0 m [] (upd H1 D (.lst [])))∧∀ i m ys H2,W i m ys H2→((Itr lo k).stop i H2∧Q H2)∨
    ((Itr lo k).go i H2∧∃ N:List V→Hp→Prop,(∀ ys' H',N ys' H'→∃ m',m' < m∧W (i + 1) m' ys' H')∧∀ x H3,(Itr lo k).yld i H2 x H3→g x (dL n fx σ) H3 fun σ4 H4=>tc σ4 H4 fun b H5=>
      if b=true then te σ4 H5 fun v H6=>H6 D=some (.lst ys)∧ys.length < sizeLine∧N (ys++[v]) (upd H6 D (.lst (ys++[v]))) else N ys H5):=by
 refine ⟨fun i m ys H=>m=k - i∧i≤k∧Pv i ys H,⟨k,by simp,Nat.zero_le _,h0⟩,?_⟩
 rintro i m ys H ⟨rfl,hi,p⟩
 by_cases hlt:i < k
 ·refine .inr ⟨hlt,Pv (i + 1),fun ys' H' p'=>⟨k - (i + 1),by omega,rfl,hlt,p'⟩,fun x H' y=>?_⟩
  obtain ⟨e,y⟩:=y
  subst e;subst y
  exact hs i ys _ hlt p
 ·have e:i=k:=by omega
  subst e
  exact .inl ⟨Nat.le_refl _,hd ys H p⟩
theorem bg {a:Addr} {xs:List V} (Pv:Nat→List V→Hp→Prop) (h0:Pv 0 [] (upd H1 D (.lst []))) (hl:∀ i ys H,i≤xs.length→Pv i ys H→SqL K H a xs)
  (hs:∀ i x ys H,xs[i]? =some x→Pv i ys H→g x (dL n fx σ) H fun σ4 H4=>tc σ4 H4 fun b H5=>if b=true then te σ4 H5 fun v H6=>H6 D=some (.lst ys)∧ys.length < sizeLine∧Pv (i + 1) (ys++[v]) (upd H6 D (.lst (ys++[v]))) else Pv (i + 1) ys H5)
  (hd:∀ ys H,Pv xs.length ys H→Q H):
  ∃ W:Nat→Nat→List V→Hp→Prop,(∃ m,W 0 m [] (upd H1 D (.lst [])))∧∀ i m ys H2,W i m ys H2→((Itl K a).stop i H2∧Q H2)∨
    ((Itl K a).go i H2∧∃ N:List V→Hp→Prop,(∀ ys' H',N ys' H'→∃ m',m' < m∧W (i + 1) m' ys' H')∧∀ x H3,(Itl K a).yld i H2 x H3→g x (dL n fx σ) H3 fun σ4 H4=>tc σ4 H4 fun b H5=>
      if b=true then te σ4 H5 fun v H6=>H6 D=some (.lst ys)∧ys.length < sizeLine∧N (ys++[v]) (upd H6 D (.lst (ys++[v]))) else N ys H5):=by
 refine ⟨fun i m ys H=>m=xs.length - i∧i≤xs.length∧Pv i ys H,⟨xs.length,by simp,Nat.zero_le _,h0⟩,?_⟩
 rintro i m ys H ⟨rfl,hi,p⟩
 have q:=hl i ys H hi p
 by_cases hlt:i < xs.length
 ·refine .inr ⟨⟨xs,xs[i],q,by simp [hlt]⟩,Pv (i + 1),fun ys' H' p'=>⟨xs.length - (i + 1),by omega,rfl,hlt,p'⟩,fun x H' y=>?_⟩
  obtain ⟨e,y⟩:=y
  subst e
  exact hs i x ys _ (y xs q) p
 ·have e:i=xs.length:=by omega
  subst e
  exact .inl ⟨⟨xs,q,Nat.le_refl _⟩,hd ys H p⟩
theorem z9 {a:Addr} {xs:List V} (Pv:Nat→List V→Hp→Prop) (h0:Pv 0 [] (upd H1 D (.lst []))) (hl:∀ i ys H,i≤xs.length→Pv i ys H→SqT K H a xs)
  (hs:∀ i x ys H,xs[i]? =some x→Pv i ys H→g x (dL n fx σ) H fun σ4 H4=>tc σ4 H4 fun b H5=>if b=true then te σ4 H5 fun v H6=>H6 D=some (.lst ys)∧ys.length < sizeLine∧Pv (i + 1) (ys++[v]) (upd H6 D (.lst (ys++[v]))) else Pv (i + 1) ys H5)
  (hd:∀ ys H,Pv xs.length ys H→Q H):
  ∃ W:Nat→Nat→List V→Hp→Prop,(∃ m,W 0 m [] (upd H1 D (.lst [])))∧∀ i m ys H2,W i m ys H2→((Itt K a).stop i H2∧Q H2)∨
    ((Itt K a).go i H2∧∃ N:List V→Hp→Prop,(∀ ys' H',N ys' H'→∃ m',m' < m∧W (i + 1) m' ys' H')∧∀ x H3,(Itt K a).yld i H2 x H3→g x (dL n fx σ) H3 fun σ4 H4=>tc σ4 H4 fun b H5=>
      if b=true then te σ4 H5 fun v H6=>H6 D=some (.lst ys)∧ys.length < sizeLine∧N (ys++[v]) (upd H6 D (.lst (ys++[v]))) else N ys H5):=by
 refine ⟨fun i m ys H=>m=xs.length - i∧i≤xs.length∧Pv i ys H,⟨xs.length,by simp,Nat.zero_le _,h0⟩,?_⟩
 rintro i m ys H ⟨rfl,hi,p⟩
 have q:=hl i ys H hi p
 by_cases hlt:i < xs.length
 ·refine .inr ⟨⟨xs,xs[i],q,by simp [hlt]⟩,Pv (i + 1),fun ys' H' p'=>⟨xs.length - (i + 1),by omega,rfl,hlt,p'⟩,fun x H' y=>?_⟩
  obtain ⟨e,y⟩:=y
  subst e
  exact hs i x ys _ (y xs q) p
 ·have e:i=xs.length:=by omega
  subst e
  exact .inl ⟨⟨xs,q,Nat.le_refl _⟩,hd ys H p⟩
end
noncomputable def zB (K:PySem.W.Frag) (H:Hp) (x:V) (k:String):Prop:=match x with
 | .non=>k="NoneType"
 | .bl _=>k="bool"
 | .int _=>k="int"
 | .str _=>k="str"
 | .ref p=>(k="list"∧∃ xs,SqL K H p xs)∨(k="tuple"∧∃ xs,SqT K H p xs)∨(k="dict"∧∃ kvs,Rd H p (.dK kvs))
 | _=>False
noncomputable def subB (k T:String):Bool:=k == T||(k == "bool"&&T == "int")
noncomputable def rIsi (K:PySem.W.Frag):List V→Hp→VK→Prop:=fun xs H Q=>∃ x k T,xs=[x,.ty T]∧zB K H x k∧T∈["int","bool","str","list","tuple","dict"]∧Q (.bl (subB k T)) H
section
variable {X:Cx}
theorem OG:nj X (.builtin "isinstance") (rIsi X.K):=by
 intro pins s σ H xs us Q I r h
 obtain ⟨x,k,T,rfl,hk,hT,q⟩:=h
 obtain ⟨u,v,rfl,rx,rt⟩:=PF r
 cases rt
 have f0:∀ b,b=subB k T→EP X pins σ Q (.bool b) s:=fun b e=>⟨.bl b,H,I,rfl,by rw [e];exact q⟩
 have f1:∀ b,b=subB k T→EP X pins σ Q (.bool b) {s with toks:=s.toks + 1}:=fun b e=>⟨.bl b,H,I.tok _,rfl,by rw [e];exact q⟩
 simp only [List.mem_cons,List.not_mem_nil,or_false] at hT
 cases x with
 | non=>
   cases rx;cases hk
   rcases hT with rfl | rfl | rfl | rfl | rfl | rfl
   ·exact IsiPair.NoneType_int (f1 _ (by decide))
   ·exact IsiPair.NoneType_bool (f1 _ (by decide))
   ·exact IsiPair.NoneType_str (f1 _ (by decide))
   ·exact IsiPair.NoneType_list (f1 _ (by decide))
   ·exact IsiPair.NoneType_tuple (f1 _ (by decide))
   ·exact IsiPair.NoneType_dict (f1 _ (by decide))
 | bl b=>
   cases rx;cases hk
   rcases hT with rfl | rfl | rfl | rfl | rfl | rfl
   ·exact IsiPair.bool_int (f0 _ (by decide))
   ·exact IsiPair.bool_bool (f0 _ (by decide))
   ·exact IsiPair.bool_str (f1 _ (by decide))
   ·exact IsiPair.bool_list (f1 _ (by decide))
   ·exact IsiPair.bool_tuple (f1 _ (by decide))
   ·exact IsiPair.bool_dict (f1 _ (by decide))
 | int i=>
   obtain ⟨t,rfl⟩:=rx;cases hk
   rcases hT with rfl | rfl | rfl | rfl | rfl | rfl
   ·exact IsiPair.int_int (f0 _ (by decide))
   ·exact IsiPair.int_bool (f1 _ (by decide))
   ·exact IsiPair.int_str (f1 _ (by decide))
   ·exact IsiPair.int_list (f1 _ (by decide))
   ·exact IsiPair.int_tuple (f1 _ (by decide))
   ·exact IsiPair.int_dict (f1 _ (by decide))
 | str z=>
   obtain ⟨t,rfl⟩:=rx;cases hk
   rcases hT with rfl | rfl | rfl | rfl | rfl | rfl
   ·exact IsiPair.str_int (f1 _ (by decide))
   ·exact IsiPair.str_bool (f1 _ (by decide))
   ·exact IsiPair.str_str (f0 _ (by decide))
   ·exact IsiPair.str_list (f1 _ (by decide))
   ·exact IsiPair.str_tuple (f1 _ (by decide))
   ·exact IsiPair.str_dict (f1 _ (by decide))
 | ref p=>
   cases rx
   rcases hk with ⟨rfl,xs,hq⟩ | ⟨rfl,xs,hq⟩ | ⟨rfl,kvs,hq⟩
   ·obtain ⟨its,_,pl,_⟩:=I.list hq
    obtain ⟨o,ho,hc,_⟩:=pl.isList
    rcases hT with rfl | rfl | rfl | rfl | rfl | rfl
    ·exact IsiPair.list_int ho hc (f1 _ (by decide))
    ·exact IsiPair.list_bool ho hc (f1 _ (by decide))
    ·exact IsiPair.list_str ho hc (f1 _ (by decide))
    ·exact IsiPair.list_list ho hc (f0 _ (by decide))
    ·exact IsiPair.list_tuple ho hc (f1 _ (by decide))
    ·exact IsiPair.list_dict ho hc (f1 _ (by decide))
   ·obtain ⟨its,_,pl,_⟩:=I.tuple hq
    obtain ⟨o,ho,hc,_⟩:=pl
    rcases hT with rfl | rfl | rfl | rfl | rfl | rfl
    ·exact IsiPair.tuple_int ho hc (f1 _ (by decide))
    ·exact IsiPair.tuple_bool ho hc (f1 _ (by decide))
    ·exact IsiPair.tuple_str ho hc (f1 _ (by decide))
    ·exact IsiPair.tuple_list ho hc (f1 _ (by decide))
    ·exact IsiPair.tuple_tuple ho hc (f0 _ (by decide))
    ·exact IsiPair.tuple_dict ho hc (f1 _ (by decide))
   ·obtain ⟨_,_,_,_,o,_,_,ho,ex,_⟩:=hq.ok I.hok
    have hc:o.cls= .type "dict":=ex.1
    rcases hT with rfl | rfl | rfl | rfl | rfl | rfl
    ·exact IsiPair.dict_int ho hc (f1 _ (by decide))
    ·exact IsiPair.dict_bool ho hc (f1 _ (by decide))
    ·exact IsiPair.dict_str ho hc (f1 _ (by decide))
    ·exact IsiPair.dict_list ho hc (f1 _ (by decide))
    ·exact IsiPair.dict_tuple ho hc (f1 _ (by decide))
    ·exact IsiPair.dict_dict ho hc (f0 _ (by decide))
 | _=>exact False.elim hk
theorem yn {xs:List V} {us:List Value} (r:Vals xs us) {j:Nat} (h:j < us.toArray.size):RelV (xs.getD j .non) (us.toArray[j]):=by
 have hl:=r.length
 have h':j < us.length:=by simpa using h
 obtain ⟨u,e,ru⟩:=r.get (i:=j) (x:=xs.getD j .non) (by rw [List.getD_eq_getElem?_getD,List.getElem?_eq_getElem (by omega)];rfl)
 have e2:us.toArray[j]=u:=by
  rw [List.getElem?_eq_getElem h'] at e
  have:=Option.some.inj e
  simpa using this
 rw [e2];exact ru
end
theorem KY:typeLookup (.type "list_reverseiterator") "__len__"=pure none:=by rw [typeLookup_type,builtinLookup_eq_fast];kernel_rfl
theorem Ol:typeLookup (.type "list_reverseiterator") "__length_hint__"=pure (some (.builtin "list_reverseiterator.__length_hint__")):=by rw [typeLookup_type,builtinLookup_eq_fast];kernel_rfl
section
variable {P0:Program} {w0:World} {A0:Around} {E0':Value→Shared→Prop} {t0:Shared}
theorem IH {R:Result→Shared→Prop} {it l:Addr} {items:Array Value} (hh:A0.handled=none) (hne:l≠it) (hit:t0.heap.IsRevIter it l ((items.size:Int) - 1)) (hl:t0.heap.IsList l items) (hz:items.size≤sizeLine)
  (S:Addr) (res:Value) (c₀:Nat) (hS:t0.heap.get? S=some {cls:= .type "list",data:= .seq #[] c₀}) (hSi:S≠it) (hSl:S≠l)
  (hR:∀ h' tk acc' c',(∀ b o,b≠S→b≠it→t0.heap.get? b=some o→h'.get? b=some o)→h'.get? S=some {cls:= .type "list",dict:=none,data:= .seq acc' c',slots:=#[]}→
   ItemsOf (fun i v=>items[items.size - 1 - i]? =some v) acc' items.size→R (.ok (.ret res)) {t0 with heap:=h',toks:=tk}):
  wpAny (model P0 w0) A0.in1 (Builtin.List.listExtendWith (.ref S) (.ref it) res)
   (fun fin s'=>match fin with | .done f=>R (.ok f) s' | .again c'=>c'.quiet=true∧codeAny (model P0 w0) A0 c' R s') (fun e s'=>R (.error e) s') t0:=by
 have W:=(Walks.listRev (prog:=P0) (w:=w0) (A:=A0.in1) hh it l hne items).toS
 have st0:(0:Nat)≤items.size∧t0.heap.IsRevIter it l ((items.size:Int) - 1 - ((0:Nat):Int))∧t0.heap.IsList l items:=⟨Nat.zero_le _,by simpa using hit,hl⟩
 have h1:Builtin.List.listSameRef (.ref S) (.ref it)=false:=by simp [Builtin.List.listSameRef,hSi]
 have hSf:S∉[it,l]:=by simp [hSi,hSl]
 unfold Builtin.List.listExtendWith
 refine wpAny_bind (wpAny_typeOf hit.typeIs ?_)
 rw [if_neg (by rw [h1];decide)]
 refine wpAny_bind (wpAny_pyIter_revIter hit ?_)
 refine wpAny_bind (wpAny_holding ?_)
 unfold Builtin.List.listLengthHint
 refine wpAny_bind (wpAny_specialOf hit.typeIs KY ?_)
 show wpAny _ A0.in1 (specialOf (Value.ref it) (Str.ofString "__length_hint__") >>=_) _ _ _
 refine wpAny_bind (wpAny_specialOf hit.typeIs Ol ?_)
 (generalize hid:("list_reverseiterator.__length_hint__":String)=id0;wp_delta;rw [show splitId id0=some ("list_reverseiterator","__length_hint__") from by subst hid;decide +kernel];subst hid)
 refine wpAny_bind (wpAny_isInstance (b:=true) hit.typeIs (by rw [isSubtype_type];kernel_rfl) ?_)
 refine wpAny_pure ?_
 rw [if_neg (by decide)]
 refine wpAny_pure ⟨plainId_quiet F.plain_extend_loop _,codeAny_extend_loopS W hz S hSf res items.size 0 t0 #[] c₀ rfl (Nat.zero_le _) st0 hS (ItemsOf.nil _) fun s' acc' c' hm hS' hacc=>?_⟩
 rw [Moved.eq_with hm]
 refine hR s'.heap s'.toks acc' c' (fun b o hb hb2 e=>hm.heap b o (fun hmem=>?_) e) hS' hacc
 rcases List.mem_cons.mp hmem with z | z
 ·exact hb z
 ·exact hb2 (List.mem_singleton.mp z)
theorem Oi {R:Result→Shared→Prop} {it l:Addr} {items:Array Value} (hh:A0.handled=none) (hne:l≠it) (hit:t0.heap.IsRevIter it l ((items.size:Int) - 1)) (hl:t0.heap.IsList l items) (hz:items.size≤sizeLine)
  (S:Addr) (hS:t0.heap.get? S=some {cls:= .type "list",data:= .seq #[]}) (hSi:S≠it) (hSl:S≠l)
  (hR:∀ h' tk acc' c',(∀ b o,b≠S→b≠it→t0.heap.get? b=some o→h'.get? b=some o)→h'.get? S=some {cls:= .type "list",dict:=none,data:= .seq acc' c',slots:=#[]}→
   ItemsOf (fun i v=>items[items.size - 1 - i]? =some v) acc' items.size→R (.ok (.ret .none)) {t0 with heap:=h',toks:=tk}):
  wpAny (model P0 w0) A0.in1 (Builtin.«list.__init__» ⟨[.ref S,.ref it],[]⟩)
   (fun fin s'=>match fin with | .done f=>R (.ok f) s' | .again c'=>c'.quiet=true∧codeAny (model P0 w0) A0 c' R s') (fun e s'=>R (.error e) s') t0:=by
 show wpAny _ _ (do let old ← Builtin.List.listItems (.ref S);Builtin.List.listUpdate (.ref S) (fun _=>#[]);letGo old.toList.reverse;Builtin.List.listExtendWith (.ref S) (.ref it) .none) _ _ t0
 refine wpAny_bind ?_
 unfold Builtin.List.listItems
 refine wpAny_bind (wpAny_seqItems hS rfl (wpAny_pure ?_))
 show wpAny _ _ (updateSeq S (fun _=>#[]) >>=fun _=>letGo (#[]:Array Value).toList.reverse >>=fun _=>Builtin.List.listExtendWith (.ref S) (.ref it) .none) _ _ t0
 refine wpAny_bind (wpAny_updateSeq hS rfl ?_)
 have hS2:=Heap.get?_update_self (Obj.mapSeq (fun _=>(#[]:Array Value))) hS rfl
 have oth:∀ b o,b≠S→t0.heap.get? b=some o→(t0.heap.update S (Obj.mapSeq (fun _=>(#[]:Array Value)))).get? b=some o:=fun b o hb e=>(Heap.get?_update_other _ _ (Ne.symm hb)).trans e
 refine wpAny_bind (wpAny_letGo ?_)
 refine IH hh hne (hit.at fun o e=>oth it o (Ne.symm hSi) e) (let ⟨o,e,c⟩:=hl;⟨o,oth l o (Ne.symm hSl) e,c⟩) hz S .none _ hS2 hSi hSl fun h' tk acc' c' hk hS' hacc=>?_
 exact hR h' tk acc' c' (fun b o hb hb2 e=>hk b o hb hb2 (oth b o hb e)) hS' hacc
theorem Ab {Q:Value→Shared→Prop} {it l:Addr} {items:Array Value} (hh:A0.handled=none) (hne:l≠it) (hit:t0.heap.IsRevIter it l ((items.size:Int) - 1)) (hl:t0.heap.IsList l items) (hz:items.size≤sizeLine)
  (hQ:∀ h' tk acc' c',(∀ b o,b≠it→t0.heap.get? b=some o→h'.get? b=some o)→h'.get? t0.heap.objs.size=some {cls:= .type "list",dict:=none,data:= .seq acc' c',slots:=#[]}→
   ItemsOf (fun i v=>items[items.size - 1 - i]? =some v) acc' items.size→Q (.ref t0.heap.objs.size) {t0 with heap:=h',toks:=tk}):
  wpAny (model P0 w0) A0 (call (.type "list") [.ref it]) Q E0' t0:=by
 have lt1:it < t0.heap.objs.size:=let ⟨o,e,_⟩:=hit;Heap.lt_size e
 have lt2:l < t0.heap.objs.size:=let ⟨o,e,_⟩:=hl;Heap.lt_size e
 refine callType_codes (Q₁:=fun obj s₁=>obj= .ref t0.heap.objs.size∧s₁={t0 with heap:=t0.heap.push {cls:= .type "list",data:= .seq #[]}}) F.called_list (F.typeCall_list_1 _) F.entry_list_init (code_list_new _ ⟨rfl,rfl⟩) fun obj s₁ h₁=>?_
 obtain ⟨rfl,rfl⟩:=h₁
 have hS:(t0.heap.push {cls:= .type "list",data:= .seq #[]}).get? t0.heap.objs.size=some {cls:= .type "list",data:= .seq #[]}:=Heap.get?_push_size _ rfl
 refine ⟨⟨_,hS,rfl⟩,F.args_list_init_2 _ _,Oi (A0:=A0.in1) hh hne (hit.at fun o e=>Heap.get?_push_of_some _ e) (let ⟨o,e,c⟩:=hl;⟨o,Heap.get?_push_of_some _ e,c⟩) hz _ hS (Ne.symm (Nat.ne_of_lt lt1)) (Ne.symm (Nat.ne_of_lt lt2)) fun h' tk acc' c' hk hS' hacc=>?_⟩
 exact ⟨rfl,hQ h' tk acc' c' (fun b o hb e=>hk b o (Nat.ne_of_lt (Heap.lt_size e)) hb (Heap.get?_push_of_some _ e)) hS' hacc⟩
end
theorem Inv.laidT {X:Cx} {pins:List (Addr×Obj)} {σ:St} {H:Hp} {s:Shared} {h':Heap} {a it:Addr} {o:HO} {t':Nat} (I:Inv X pins σ H s) (k:∀ b u,b≠it→s.heap.get? b=some u→h'.get? b=some u) (hp:s.heap.objs.size≤a)
  (new:eA X.prog X.w (upd H a o) h' a o) (fp:FpOk X pins H it):Inv X pins σ (upd H a o) {s with heap:=h',toks:=t'}:=by
 obtain ⟨f0,f1,f2,f3,f4,f5⟩:=fp
 have fr:H a=none:=I.hok.fresh hp
 have nit:∀ b u,H b=some u→b≠it:=fun b u e z=>by rw [z,f0] at e;cases e
 have nci:∀ {b:Addr},b∉[it]→b≠it:=fun hb z=>hb (by rw [z];exact List.mem_singleton.mpr rfl)
 refine I.step (g':=s.gens) (d':=s.drawn) (ch:=[it]) (fun b hb=>?_) (fun b ob _ _ hc e _=>k b ob (nci hc) e) (fun b ob _ _ hc e _=>⟨ob.slots,k b ob (nci hc) e⟩) (fun b ob _ e n=>?_) (fun b ob hc e=>⟨ob,k b ob (nci hc) e⟩)
  (fun b xs e=>by rw [aw (al e fr)];exact e) (fun b ob u e=>by rw [aw (al e fr)];exact e) (fun b ps e=>⟨#[],by rw [aw (al e fr),e];simp⟩) (fun m hm=>?_) (fun b u e=>?_) I.bare
 ·have e:b=it:=List.mem_singleton.mp hb
  subst e
  exact ⟨f3,f1,f4,f5⟩
 ·rw [aw (Nat.ne_of_lt (Nat.lt_of_lt_of_le (Heap.lt_size e) hp))];exact n
 ·obtain ⟨ob,es,ep,ho,r⟩:=hm
  exact ⟨ob,es,ep,k _ ob (Ne.symm f1) ho,r⟩
 ·by_cases hb:b=a
  ·subst hb;rw [aA] at e;cases e;exact new
  ·rw [aw hb] at e
   refine (I.hok b u e).stay (fun c v hc q=>k c v ?_ q) (fun c q=>by rw [aw (al q fr)];exact q) fun c xs q=>by rw [aw (al q fr)];exact q
   rcases hc with z | z
   ·rw [z];exact nit b u e
   ·exact nit c _ z
theorem Lv {its:List Value} {acc:Array Value} (h:ItemsOf (fun i v=>its.toArray[its.toArray.size - 1 - i]? =some v) acc its.toArray.size):acc=its.reverse.toArray:=by
 obtain ⟨h1,h2⟩:=h
 apply Array.ext_getElem?
 intro i
 have hs:its.toArray.size=its.length:=by simp
 by_cases hi:i < acc.size
 ·have e:=h2 i acc[i] (Array.getElem?_eq_getElem hi)
  rw [Array.getElem?_eq_getElem hi,← e]
  rw [List.getElem?_toArray,List.getElem?_toArray,List.getElem?_reverse (by omega),hs]
 ·rw [Array.getElem?_eq_none (by omega),Array.getElem?_eq_none (by simp;omega)]
noncomputable def tRev (K:PySem.W.Frag) (te:TE):TE:=fun σ H Q=>te σ H fun x H1=>∃ a xs,x= .ref a∧SqL K H1 a xs∧∀ l,H1 l=none→Q (.ref l) (upd H1 l (.lst xs.reverse))
section
variable {X:Cx}
theorem Hk {e:Expr} {te:TE} {p1 p2 q1 q2:Pos} (g1:Gl X "list") (g2:Gl X "reversed") (n1:X.mg "list"=none) (n2:X.mg "reversed"=none) (hc:X.calm=true) (he:PE X e te)
  (h1:starEach [Expr.Call (.Name "reversed" p1) [e] [] p2] X.env=[(false,eval (.Call (.Name "reversed" p1) [e] [] p2) X.env)]:=by rfl) (h2:starEach [e] X.env=[(false,eval e X.env)]:=by rfl):
  PE X (.Call (.Name "list" q1) [.Call (.Name "reversed" p1) [e] [] p2] [] q2) (tRev X.K te):=by
 intro pins s σ H Q I h
 have inner:∀ Q':Value→Shared→Prop,(∀ v s1,(∃ a xs its H1 r,v= .ref r∧SqL X.K H1 a xs∧Vals xs its∧a≠r∧Inv X pins σ H1 s1∧s1.heap.IsRevIter r a ((its.toArray.size:Int) - 1)∧s1.heap.IsList a its.toArray∧its.length≤sizeLine∧H1 r=none∧FpOk X pins H1 r∧(∀ l,H1 l=none→Q (.ref l) (upd H1 l (.lst xs.reverse))))→Q' v s1)→
   wpAny (model X.prog X.w) X.A (eval (.Call (.Name "reversed" p1) [e] [] p2) X.env) Q' X.xe s:=fun Q' hQ'=>by
  refine Call_ (lM I g2 n2 PyProof.Rows.boot_reversed (PyProof.Rows.callWith_type1 (thn (aa he ad h2 p2 pins s σ H (fun vs H1=>match vs with | [x]=>∃ a xs,x= .ref a∧SqL X.K H1 a xs∧∀ l,H1 l=none→Q (.ref l) (upd H1 l (.lst xs.reverse)) | _=>False) I h) fun us s1 ⟨vs,H1,I1,r1,q1⟩=>?_) h2 rfl))
  match vs,r1,q1 with
  | [x],r1,⟨a,xs,e1,hq,q⟩=>
  obtain ⟨u,rfl,ru⟩:=r1.one
  subst e1
  cases ru
  obtain ⟨its,rv,pl,hz⟩:=I1.list hq
  have lt:a < s1.heap.objs.size:=let ⟨o,e,_⟩:=pl.isList;Heap.lt_size e
  refine call_reversed_list pl.isList (hQ' _ _ ⟨a,xs,its,H1,s1.heap.objs.size,rfl,hq,rv,Nat.ne_of_lt lt,I1.kept (t':=s1.toks) fun b o e=>Heap.get?_push_of_some _ e,⟨_,Heap.get?_push_size _ rfl,rfl,rfl⟩,let ⟨o,e,c⟩:=pl.isList;⟨o,Heap.get?_push_of_some _ e,c⟩,by rw [← rv.length];exact hz,I1.fresh,I1.fpOk (Nat.le_refl _) I1.fresh,q⟩)
 refine Call_ (lM I g1 n1 PyProof.Rows.boot_list (PyProof.Rows.callWith_type1 (Q:=EP X pins σ Q) ?_ h1 rfl))
 rw [h1]
 show wpAny _ _ (spliced ((false,eval (.Call (.Name "reversed" p1) [e] [] p2) X.env)::backTo q2 [])) _ _ s
 refine Calls.spliced_cons (inner _ fun v s1 hv=>Calls.spliced_nil ?_)
 obtain ⟨a,xs,its,H1,r,rfl,hq,rv,hne,I1,hit,hl,hz,hf,fp,q⟩:=hv
 refine Ab (I1.ok.hd hc) hne hit hl (by simpa using hz) fun h' tk acc c hk hS hacc=>?_
 have e:=Lv hacc
 subst e
 exact ⟨.ref s1.heap.objs.size,upd H1 s1.heap.objs.size (.lst xs.reverse),I1.laidT hk (Nat.le_refl _) ⟨by rw [List.length_reverse,rv.length];exact hz,its.reverse,c,rv.reverse,hS⟩ fp,rfl,q _ I1.fresh⟩
end
section
variable {X:Cx} {K:PySem.W.Frag}
theorem ar (h:X.K=K):IxR X (rIxL K):=by subst h;exact Q7
theorem bc (h:X.K=K):IxR X (rIxT K):=by subst h;exact Tu
theorem kJ (h:X.K=K):SlR X (rSlL K):=by subst h;exact PX
theorem eO (h:X.K=K):nj X (.builtin "isinstance") (rIsi K):=by subst h;exact OG
noncomputable def rLen (K:PySem.W.Frag):List V→Hp→VK→Prop:=fun xs H Q=>∃ x n,xs=[x]∧LenV K x H n∧Q (.int n) H
theorem aG (h:X.K=K):nj X (.builtin "len") (rLen K):=by subst h;exact OF
noncomputable def DH (K:PySem.W.Frag):List V→Hp→VK→Prop:=fun xs H Q=>∃ p ys,xs=[.ref p]∧(SqL K H p ys∨SqT K H p ys)∧∀ l,H l=none→Q (.ref l) (upd H l (.lst ys))
theorem bM (h:X.K=K):nj X (.type "list") (DH K):=by subst h;exact Cy
noncomputable def Ku (K:PySem.W.Frag):List V→Hp→VK→Prop:=fun xs H Q=>∃ p ys,xs=[.ref p]∧((SqL K H p ys∧∀ l,H l=none→Q (.ref l) (upd H l (.tup ys)))∨(SqT K H p ys∧Q (.ref p) H))
theorem dw (h:X.K=K):nj X (.type "tuple") (Ku K):=by subst h;exact Aa
theorem ba {tg l:Expr} {tl:TE} (h:X.K=K) (hl:PE X l tl):PI X tg l (Tv K tl):=by subst h;exact Qp hl
theorem mx {tg l:Expr} {tl:TE} (h:X.K=K) (hl:PE X l tl):PI X tg l (iTup K tl):=by subst h;exact S1 hl
theorem cZ {o e:Expr} {es:List Expr} {to:TE} {t:TA} {name:Str} {apos cpos:Pos} {T id:String} {r:V→List V→Hp→VK→Prop} (h:X.K=K) (pa:PlainAttrs T) (slot:Slot T name id) (hty:typeOf (.builtin id)=pure (.type "method_descriptor")) (hm:MtR X id r) (ho:PE X o to) (ha:PA X (e::es) t)
  (hbase:attributeBase o name X.env (eval o X.env)=eval o X.env:=by rfl)
  (hfew:((backTo cpos (starEach (e::es) X.env)).all (fun x=> !x.1)&&(backToKw cpos (keywordEach [] X.env)).all (fun x=>x.1.isSome)
   &&decide ((e::es).length + ([]:List Keyword).length + (if ([]:List Keyword).isEmpty then 0 else 1) < 30))=true:=by rfl)
  (hline:(apos.endLine == cpos.line)=true:=by rfl) (hs:starEach (e::es) X.env=(false,eval e X.env)::starEach es X.env:=by rfl) (hplain:(backTo cpos (starEach es X.env)).any (·.1)=false:=by rfl):
  PE X (.Call (.Attribute o name apos) (e::es) [] cpos) (tBM K T r to t):=by subst h;exact UC pa slot hty hm ho ha hbase hfew hline hs hplain
end
noncomputable def Its (x:Str):It:=⟨fun i _=>i < x.cps.size,fun i H v H'=>H'=H∧∃ c,x.cps[i]? =some c∧v= .str ⟨#[c]⟩,fun i _=>i=x.cps.size⟩
theorem FN {P:Program} {w:World} {K:PySem.W.Frag} {tg:Expr} {it:Addr} {x:Str} {t:Tok} {n:String}
  (hn:["enumerate","zip","dict_itemiterator","dict_reverseitemiterator","odict_iterator","itertools.zip_longest","itertools.pairwise"].contains n=false)
  (W:∀ A:Around,A.handled=none→Walks P w A it [it] [it] x.cps.size (SignAt x) (fun i h=>h.IsStrIter it n x t i))
  (hself:∀ (A:Around) (i:Nat) (s:Shared) (Q:Value→Shared→Prop) (E:Value→Shared→Prop),s.heap.IsStrIter it n x t i→Q (.ref it) s→wpAny (model P w) A (pyIter (.ref it)) Q E s):
  Turn P w K tg (Its x) [it] it (fun i h=>h.IsStrIter it n x t i) where
 mem:=by simp
 obj:=fun i h st b hb=>by
  have e:b=it:=by simpa using hb
  subst e
  obtain ⟨o,e,c,d⟩:=st
  exact ⟨o,e,fun v z=>by rw [d] at z;cases z⟩
 keep:=fun i h h' st k=>let ⟨o,e,r⟩:=st;⟨o,k it (by simp) o e,r⟩
 item:=by
  intro X hP hw hK hc i pins s σ H E I hf st hg
  subst hP hw hK
  obtain ⟨f0,f1,f2,f3,f4,f5⟩:=hf it (by simp)
  refine (W X.A (I.ok.hd hc)).item i s _ _ hg st fun v h' tk hv st' kk=>?_
  obtain ⟨c,u,hx,rfl⟩:=hv
  have I1:Inv X pins σ H {s with heap:=h',toks:=tk}:=I.turned (fun b o hb e=>kk b o (by simpa using hb) e) f0 f1 f3 f4 f5
  obtain ⟨o,e,c',d⟩:=id st'
  exact ⟨_,rfl,Op (s:={s with heap:=h',toks:=tk}) (n:=n) e c' d hn ⟨.str ⟨#[c]⟩,H,I1,⟨u,rfl⟩,⟨rfl,c,hx,rfl⟩,st',fun b hb=>(hf b hb).1⟩⟩
 done:=by
  intro X hP hw hK hc i pins s σ H E I hf st hg
  subst hP hw hK
  obtain ⟨f0,f1,f2,f3,f4,f5⟩:=hf it (by simp)
  have hg:i=x.cps.size:=hg
  subst hg
  exact (W X.A (I.ok.hd hc)).done s _ _ st fun h' tk kk=>⟨rfl,I.turned (fun b o hb e=>kk b o (by simpa using hb) e) f0 f1 f3 f4 f5⟩
 self:=hself
noncomputable abbrev iStr (tl:TE):TI:=fun σ H R=>tl σ H fun x H1=>∃ z,x= .str z∧R (Its z) H1
section
variable {X:Cx} {tg:Expr}
theorem O5 {l:Expr} {tl:TE} (hl:PE X l tl):PI X tg l (iStr tl):=by
 intro pins s σ H R I h
 refine thn (hl pins s σ H _ I h) fun v s1 ⟨x,H1,I1,r1,q1⟩=>?_
 obtain ⟨z,e,q⟩:=q1
 subst e
 obtain ⟨t,rfl⟩:=r1
 have fp:∀ (o:Obj),∀ b∈[s1.heap.objs.size],FpOk X pins H1 b:=fun o b hb=>by
  have e:b=s1.heap.objs.size:=by simpa using hb
  subst e
  exact I1.fpOk (Nat.le_refl _) (I1.hok.fresh (Nat.le_refl _))
 cases ha:z.cps.all (· < 128)
 ·refine wpAny_pyIter_wide ha ⟨s1.heap.objs.size,[s1.heap.objs.size],_,_,H1,rfl,I1.kept (t':=s1.toks) fun b o e=>Heap.get?_push_of_some _ e,
   FN (n:="str_iterator") (t:=t) (by decide) (fun A hA=>Walks.strWide hA _ z t) (fun _ _ _ _ _ st h=>wpAny_pyIter_striter_wide st h),⟨_,Heap.get?_push_size _ rfl,rfl,rfl⟩,fp default,q⟩
 ·refine wpAny_pyIter_ascii ha ⟨s1.heap.objs.size,[s1.heap.objs.size],_,_,H1,rfl,I1.kept (t':=s1.toks) fun b o e=>Heap.get?_push_of_some _ e,
   FN (n:="str_ascii_iterator") (t:=t) (by decide) (fun A hA=>Walks.strAscii hA _ z t) (fun _ _ _ _ _ st h=>wpAny_pyIter_striter_ascii st h),⟨_,Heap.get?_push_size _ rfl,rfl,rfl⟩,fp default,q⟩
end
section
variable {n:Nat} {fx:List Nat} {g:TG} {tc:TT} {te:TE} {σ:St} {H1:Hp} {D:Addr} {Q:Hp→Prop}
theorem Gq {z:Str} (Pv:Nat→List V→Hp→Prop) (h0:Pv 0 [] (upd H1 D (.lst [])))
  (hs:∀ i c ys H,z.cps[i]? =some c→Pv i ys H→g (.str ⟨#[c]⟩) (dL n fx σ) H fun σ4 H4=>tc σ4 H4 fun b H5=>if b=true then te σ4 H5 fun v H6=>H6 D=some (.lst ys)∧ys.length < sizeLine∧Pv (i + 1) (ys++[v]) (upd H6 D (.lst (ys++[v]))) else Pv (i + 1) ys H5)
  (hd:∀ ys H,Pv z.cps.size ys H→Q H):
  ∃ W:Nat→Nat→List V→Hp→Prop,(∃ m,W 0 m [] (upd H1 D (.lst [])))∧∀ i m ys H2,W i m ys H2→((Its z).stop i H2∧Q H2)∨
    ((Its z).go i H2∧∃ N:List V→Hp→Prop,(∀ ys' H',N ys' H'→∃ m',m' < m∧W (i + 1) m' ys' H')∧∀ x H3,(Its z).yld i H2 x H3→g x (dL n fx σ) H3 fun σ4 H4=>tc σ4 H4 fun b H5=>
      if b=true then te σ4 H5 fun v H6=>H6 D=some (.lst ys)∧ys.length < sizeLine∧N (ys++[v]) (upd H6 D (.lst (ys++[v]))) else N ys H5):=by
 refine ⟨fun i m ys H=>m=z.cps.size - i∧i≤z.cps.size∧Pv i ys H,⟨z.cps.size,by simp,Nat.zero_le _,h0⟩,?_⟩
 rintro i m ys H ⟨rfl,hi,p⟩
 by_cases hlt:i < z.cps.size
 ·refine .inr ⟨hlt,Pv (i + 1),fun ys' H' p'=>⟨z.cps.size - (i + 1),by omega,rfl,hlt,p'⟩,fun x H' y=>?_⟩
  obtain ⟨e,c,hc,y⟩:=y
  subst e;subst y
  exact hs i c ys _ hc p
 ·have e:i=z.cps.size:=by omega
  subst e
  exact .inl ⟨rfl,hd ys H p⟩
end
theorem G1 {ns:List Str}:∀ {us:List Value},Vals (ns.map V.str) us→StrsAre us ns:=by
 induction ns with
 | nil=>intro us r;rw [List.map_nil] at r;cases r;exact .nil
 | cons n ns ih=>
   intro us r
   rw [List.map_cons] at r
   cases r with
   | cons r1 r2=>
     obtain ⟨t,e⟩:=r1
     subst e
     exact .cons n t (ih r2)
noncomputable def SV (K:PySem.W.Frag):List V→Hp→VK→Prop:=fun xs H Q=>∃ (a:Addr) (bs:List Bool),xs=[.ref a]∧SqL K H a (bs.map V.bl)∧Q (.bl (bs.all id)) H
noncomputable def SU (K:PySem.W.Frag):List V→Hp→VK→Prop:=fun xs H Q=>∃ (a:Addr) (bs:List Bool),xs=[.ref a]∧SqL K H a (bs.map V.bl)∧Q (.bl (bs.any id)) H
section
variable {X:Cx} {K:PySem.W.Frag}
theorem Mg {bs:List Bool} {its:List Value} (rv:Vals (bs.map V.bl) its) {i:Nat} {v:Value} (h:its.toArray[i]? =some v):v= .bool (bs.getD i false):=by
 have h':its[i]? =some v:=by simpa using h
 have hi:i < its.length:=(List.getElem?_eq_some_iff.mp h').1
 have hl:=rv.length
 rw [List.length_map] at hl
 obtain ⟨u,e,r⟩:=rv.get (i:=i) (x:= .bl (bs.getD i false)) (by rw [List.getElem?_map,List.getElem?_eq_getElem (by omega),List.getD_eq_getElem?_getD,List.getElem?_eq_getElem (by omega)];rfl)
 rw [h'] at e
 cases e
 exact r
theorem TU (bs:List Bool):(List.range bs.length).all (fun i=>bs.getD i false)=bs.all id:=by
 rw [Bool.eq_iff_iff,List.all_eq_true,List.all_eq_true]
 constructor
 ·intro h x hx
  obtain ⟨i,hi,e⟩:=List.mem_iff_getElem.mp hx
  have:=h i (List.mem_range.mpr hi)
  rw [List.getD_eq_getElem?_getD,List.getElem?_eq_getElem hi,e] at this
  exact this
 ·intro h i hi
  have hi:=List.mem_range.mp hi
  rw [List.getD_eq_getElem?_getD,List.getElem?_eq_getElem hi]
  exact h _ (List.getElem_mem hi)
theorem CQ (bs:List Bool):(List.range bs.length).any (fun i=>bs.getD i false)=bs.any id:=by
 rw [Bool.eq_iff_iff,List.any_eq_true,List.any_eq_true]
 constructor
 ·rintro ⟨i,hi,h⟩
  have hi:=List.mem_range.mp hi
  rw [List.getD_eq_getElem?_getD,List.getElem?_eq_getElem hi] at h
  exact ⟨_,List.getElem_mem hi,h⟩
 ·rintro ⟨x,hx,h⟩
  obtain ⟨i,hi,e⟩:=List.mem_iff_getElem.mp hx
  refine ⟨i,List.mem_range.mpr hi,?_⟩
  rw [List.getD_eq_getElem?_getD,List.getElem?_eq_getElem hi,e]
  exact h
theorem Mc (h:X.K=K) (hc:X.calm=true):nj X (.builtin "all") (SV K):=by
 subst h
 intro pins s σ H xs us Q I r h
 obtain ⟨a,bs,rfl,hq,q⟩:=h
 obtain ⟨u,rfl,ru⟩:=AE r
 cases ru
 obtain ⟨its,rv,pl,hz⟩:=I.list hq
 have lt:a < s.heap.objs.size:=let ⟨o,e,_⟩:=pl.isList;Heap.lt_size e
 have hl:its.toArray.size=bs.length:=by have:=rv.length;rw [List.length_map] at this;simp [this]
 refine call_all_walk (wpAny_pyIter_list pl.isList ⟨s.heap.objs.size,_,_,its.toArray.size,_,_,fun i=>bs.getD i false,rfl,Walks.list (A:=X.A.in1) (I.ok.hd hc) s.heap.objs.size a (Nat.ne_of_lt lt) its.toArray,⟨⟨_,Heap.get?_push_size _ rfl,rfl,rfl⟩,let ⟨o,e,c⟩:=pl.isList;⟨o,Heap.get?_push_of_some _ e,c⟩⟩,fun i v s Q E hv hQ=>by rw [Mg rv hv];exact wpAny_truthy_bool hQ,fun h' tk kk=>?_⟩)
 rw [hl,TU]
 exact ⟨.bl _,H,I.kept (fun b o e=>kk b o (fun hm=>by have:=Heap.lt_size e;rw [List.mem_singleton.mp hm] at this;exact absurd this (Nat.lt_irrefl _)) (Heap.get?_push_of_some _ e)),rfl,q⟩
theorem CA (h:X.K=K) (hc:X.calm=true):nj X (.builtin "any") (SU K):=by
 subst h
 intro pins s σ H xs us Q I r h
 obtain ⟨a,bs,rfl,hq,q⟩:=h
 obtain ⟨u,rfl,ru⟩:=AE r
 cases ru
 obtain ⟨its,rv,pl,hz⟩:=I.list hq
 have lt:a < s.heap.objs.size:=let ⟨o,e,_⟩:=pl.isList;Heap.lt_size e
 have hl:its.toArray.size=bs.length:=by have:=rv.length;rw [List.length_map] at this;simp [this]
 refine call_any_walk (wpAny_pyIter_list pl.isList ⟨s.heap.objs.size,_,_,its.toArray.size,_,_,fun i=>bs.getD i false,rfl,Walks.list (A:=X.A.in1) (I.ok.hd hc) s.heap.objs.size a (Nat.ne_of_lt lt) its.toArray,⟨⟨_,Heap.get?_push_size _ rfl,rfl,rfl⟩,let ⟨o,e,c⟩:=pl.isList;⟨o,Heap.get?_push_of_some _ e,c⟩⟩,fun i v s Q E hv hQ=>by rw [Mg rv hv];exact wpAny_truthy_bool hQ,fun h' tk kk=>?_⟩)
 rw [hl,CQ]
 exact ⟨.bl _,H,I.kept (fun b o e=>kk b o (fun hm=>by have:=Heap.lt_size e;rw [List.mem_singleton.mp hm] at this;exact absurd this (Nat.lt_irrefl _)) (Heap.get?_push_of_some _ e)),rfl,q⟩
end
inductive Dt where
 | non | bl (b:Bool) | int (i:Int) | str (x:Str) | lst (xs:List Dt) | tup (xs:List Dt)
inductive Rep (K:PySem.W.Frag) (H:Hp):V→Dt→Prop where
 | non:Rep K H .non .non
 | bl (b:Bool):Rep K H (.bl b) (.bl b)
 | int (i:Int):Rep K H (.int i) (.int i)
 | str (x:Str):Rep K H (.str x) (.str x)
 | lst {p:Addr} {xs:List V} {ds:List Dt} (h:SqL K H p xs) (l:xs.length=ds.length) (r:∀ (i:Nat) x d,xs[i]? =some x→ds[i]? =some d→Rep K H x d):Rep K H (.ref p) (.lst ds)
 | tup {p:Addr} {xs:List V} {ds:List Dt} (h:SqT K H p xs) (l:xs.length=ds.length) (r:∀ (i:Nat) x d,xs[i]? =some x→ds[i]? =some d→Rep K H x d):Rep K H (.ref p) (.tup ds)
theorem Same.tup {K:PySem.W.Frag} {H H':Hp} {a:Addr} {xs:List V} (e:Same H H') (h:SqT K H a xs):SqT K H' a xs:=by
 rcases h with (h | ⟨o,h⟩) | h
 ·exact .inl (.inl (e _ _ h))
 ·exact .inl (.inr ⟨o,e _ _ h⟩)
 ·exact .inr h
theorem Rep.same {K:PySem.W.Frag} {H H':Hp} (e:Same H H') {x:V} {d:Dt} (r:Rep K H x d):Rep K H' x d:=by
 induction r with
 | non=>exact .non
 | bl b=>exact .bl b
 | int i=>exact .int i
 | str x=>exact .str x
 | lst h l r ih=>exact .lst (e.seq h) l ih
 | tup h l r ih=>exact .tup (e.tup h) l ih
mutual
noncomputable def eqD:Dt→Dt→Bool
 | .non,.non=>true
 | .bl a,.bl b=>a == b
 | .bl a,.int b=>(if a then 1 else 0) == b
 | .int a,.bl b=>a == (if b then 1 else 0)
 | .int a,.int b=>a == b
 | .str a,.str b=>a == b
 | .lst xs,.lst ys=>eqDs xs ys
 | .tup xs,.tup ys=>eqDs xs ys
 | _,_=>false
noncomputable def eqDs:List Dt→List Dt→Bool
 | [],[]=>true
 | x::xs,y::ys=>eqD x y&&eqDs xs ys
 | _,_=>false
end
mutual
noncomputable def depD:Dt→Nat
 | .lst xs=>dN xs + 1
 | .tup xs=>dN xs + 1
 | _=>0
noncomputable def dN:List Dt→Nat
 | []=>0
 | x::xs=>max (depD x) (dN xs)
end
theorem LW {ds:List Dt} {d:Dt} (h:d∈ds):depD d≤dN ds:=by
 induction ds with
 | nil=>cases h
 | cons x xs ih=>
   rw [dN]
   rcases List.mem_cons.mp h with rfl | h
   ·omega
   ·have:=ih h;omega
theorem zP:∀ {xs ys:List Dt},xs.length≠ys.length→eqDs xs ys=false
 | [],[],h=>absurd rfl h
 | [],_::_,_=>rfl
 | _::_,[],_=>rfl
 | x::xs,y::ys,h=>by rw [eqDs,zP (fun z=>h (by simp [z])),Bool.and_false]
theorem zQ:∀ {xs ys:List Dt},xs.length=ys.length→eqDs xs ys=(List.range xs.length).all fun i=>eqD (xs.getD i .non) (ys.getD i .non)
 | [],[],_=>rfl
 | [],_::_,h=>by cases h
 | _::_,[],h=>by cases h
 | x::xs,y::ys,h=>by
   rw [eqDs,zQ (by simpa using h),List.length_cons,List.range_succ_eq_map,List.all_cons,List.all_map]
   rfl
theorem zR:∀ d:Dt,eqD d d=true:=by
 intro d
 refine Dt.rec (motive_1:=fun d=>eqD d d=true) (motive_2:=fun ds=>eqDs ds ds=true) ?_ ?_ ?_ ?_ ?_ ?_ ?_ ?_ d
 ·rfl
 ·intro b;simp [eqD]
 ·intro b;simp [eqD]
 ·intro b;simp [eqD]
 ·intro xs h;rw [eqD];exact h
 ·intro xs h;rw [eqD];exact h
 ·rfl
 ·intro x xs h1 h2;rw [eqDs,h1,h2];rfl
theorem Pf:∀ {d e:Dt},d=e→eqD d e=true:=fun h=>by subst h;exact zR _
section
variable {X:Cx} {pins:List (Addr×Obj)} {σ:St} {H:Hp} {s:Shared}
theorem Inv.notBoth (I:Inv X pins σ H s) {p:Addr} {xs ys:List V} (h1:SqL X.K H p xs) (h2:SqT X.K H p ys):False:=by
 obtain ⟨_,_,pl,_⟩:=I.list h1
 obtain ⟨_,_,⟨o,ho,hc,_⟩,_⟩:=I.tuple h2
 obtain ⟨o',n,ho',hc',_⟩:=pl
 rw [ho] at ho';cases ho'
 rw [hc] at hc'
 exact absurd hc' (by decide)
theorem Rep.fun (I:Inv X pins σ H s) {x:V} {d:Dt} (r:Rep X.K H x d):∀ {e:Dt},Rep X.K H x e→d=e:=by
 induction r with
 | non=>intro e q;cases q;rfl
 | bl b=>intro e q;cases q;rfl
 | int i=>intro e q;cases q;rfl
 | str z=>intro e q;cases q;rfl
 | lst h l r ih=>
   intro e q
   cases q with
   | lst h' l' r'=>
     have ex:=I.list_inj h h'
     subst ex
     congr 1
     refine List.ext_getElem? fun i=>?_
     rename_i xs ds ds'
     by_cases hi:i < ds.length
     ·rw [List.getElem?_eq_getElem hi,List.getElem?_eq_getElem (by omega)]
      have hx:i < xs.length:=by omega
      rw [ih i _ _ (List.getElem?_eq_getElem hx) (List.getElem?_eq_getElem hi) (r' i _ _ (List.getElem?_eq_getElem hx) (List.getElem?_eq_getElem (by omega)))]
     ·rw [List.getElem?_eq_none (by omega),List.getElem?_eq_none (by omega)]
   | tup h' l' r'=>exact (I.notBoth h h').elim
 | tup h l r ih=>
   intro e q
   cases q with
   | tup h' l' r'=>
     have ex:=I.tuple_inj h h'
     subst ex
     congr 1
     refine List.ext_getElem? fun i=>?_
     rename_i xs ds ds'
     by_cases hi:i < ds.length
     ·rw [List.getElem?_eq_getElem hi,List.getElem?_eq_getElem (by omega)]
      have hx:i < xs.length:=by omega
      rw [ih i _ _ (List.getElem?_eq_getElem hx) (List.getElem?_eq_getElem hi) (r' i _ _ (List.getElem?_eq_getElem hx) (List.getElem?_eq_getElem (by omega)))]
     ·rw [List.getElem?_eq_none (by omega),List.getElem?_eq_none (by omega)]
   | lst h' l' r'=>exact (I.notBoth h' h).elim
open SeqAt in
theorem rc_D (I:Inv X pins σ H s) {x:V} {d:Dt} (r:Rep X.K H x d):∀ {A:Around} {e:Dt} {y:V} {u v:Value} (n:Nat),Rep X.K H y e→RelV x u→RelV y v→depD d≤n→A.units + n < cLine→
  EqAt A s u v (eqD d e)∧RcAt A s u v (eqD d e)∧RcNeAt A s u v (!eqD d e):=by
 induction r with
 | non=>
   intro A e y u v n q ru rv hd hu
   cases ru
   cases q with
   | non=>cases rv;exact ⟨EqAt.same _,RcAt.none_none,RcNeAt.none_none⟩
   | bl b=>cases rv;exact ⟨EqAt.none_bool b,RcAt.none_bool b,RcNeAt.none_bool b⟩
   | int b=>obtain ⟨t,rfl⟩:=rv;exact ⟨EqAt.none_int b t,RcAt.none_int b t,RcNeAt.none_int b t⟩
   | str b=>obtain ⟨t,rfl⟩:=rv;exact ⟨EqAt.none_str b t,RcAt.none_str b t,RcNeAt.none_str b t⟩
   | lst h l r=>cases rv;obtain ⟨_,_,pl,_⟩:=I.list h;exact ⟨EqAt.none_list pl.isList (by omega),RcAt.none_list pl.isList (by omega),RcNeAt.none_list pl.isList (by omega)⟩
   | tup h l r=>cases rv;obtain ⟨_,_,pl,_⟩:=I.tuple h;exact ⟨EqAt.none_tuple pl (by omega),RcAt.none_tuple pl (by omega),RcNeAt.none_tuple pl (by omega)⟩
 | bl a=>
   intro A e y u v n q ru rv hd hu
   cases ru
   cases q with
   | non=>cases rv;exact ⟨EqAt.bool_none a,RcAt.bool_none a,RcNeAt.bool_none a⟩
   | bl b=>cases rv;exact ⟨EqAt.bool_bool a b,RcAt.bool_bool a b,RcNeAt.bool_bool a b⟩
   | int b=>obtain ⟨t,rfl⟩:=rv;exact ⟨EqAt.bool_int a b t,RcAt.bool_int a b t,RcNeAt.bool_int a b t⟩
   | str b=>obtain ⟨t,rfl⟩:=rv;exact ⟨EqAt.bool_str a b t,RcAt.bool_str a b t,RcNeAt.bool_str a b t⟩
   | lst h l r=>cases rv;obtain ⟨_,_,pl,_⟩:=I.list h;exact ⟨EqAt.bool_list a pl.isList (by omega),RcAt.bool_list a pl.isList (by omega),RcNeAt.bool_list a pl.isList (by omega)⟩
   | tup h l r=>cases rv;obtain ⟨_,_,pl,_⟩:=I.tuple h;exact ⟨EqAt.bool_tuple a pl (by omega),RcAt.bool_tuple a pl (by omega),RcNeAt.bool_tuple a pl (by omega)⟩
 | int a=>
   intro A e y u v n q ru rv hd hu
   obtain ⟨t',rfl⟩:=ru
   cases q with
   | non=>cases rv;exact ⟨EqAt.int_none a t',RcAt.int_none a t',RcNeAt.int_none a t'⟩
   | bl b=>cases rv;exact ⟨EqAt.int_bool a t' b,RcAt.int_bool a t' b,RcNeAt.int_bool a t' b⟩
   | int b=>obtain ⟨t,rfl⟩:=rv;exact ⟨EqAt.int_int a t' b t,RcAt.int_int a t' b t,RcNeAt.int_int a t' b t⟩
   | str b=>obtain ⟨t,rfl⟩:=rv;exact ⟨EqAt.int_str a t' b t,RcAt.int_str a t' b t,RcNeAt.int_str a t' b t⟩
   | lst h l r=>cases rv;obtain ⟨_,_,pl,_⟩:=I.list h;exact ⟨EqAt.int_list a t' pl.isList (by omega),RcAt.int_list a t' pl.isList (by omega),RcNeAt.int_list a t' pl.isList (by omega)⟩
   | tup h l r=>cases rv;obtain ⟨_,_,pl,_⟩:=I.tuple h;exact ⟨EqAt.int_tuple a t' pl (by omega),RcAt.int_tuple a t' pl (by omega),RcNeAt.int_tuple a t' pl (by omega)⟩
 | str a=>
   intro A e y u v n q ru rv hd hu
   obtain ⟨t',rfl⟩:=ru
   cases q with
   | non=>cases rv;exact ⟨EqAt.str_none a t',RcAt.str_none a t',RcNeAt.str_none a t'⟩
   | bl b=>cases rv;exact ⟨EqAt.str_bool a t' b,RcAt.str_bool a t' b,RcNeAt.str_bool a t' b⟩
   | int b=>obtain ⟨t,rfl⟩:=rv;exact ⟨EqAt.str_int a t' b t,RcAt.str_int a t' b t,RcNeAt.str_int a t' b t⟩
   | str b=>obtain ⟨t,rfl⟩:=rv;exact ⟨EqAt.str_str a t' b t,RcAt.str_str a t' b t,RcNeAt.str_str a t' b t⟩
   | lst h l r=>cases rv;obtain ⟨_,_,pl,_⟩:=I.list h;exact ⟨EqAt.str_list a t' pl.isList (by omega),RcAt.str_list a t' pl.isList (by omega),RcNeAt.str_list a t' pl.isList (by omega)⟩
   | tup h l r=>cases rv;obtain ⟨_,_,pl,_⟩:=I.tuple h;exact ⟨EqAt.str_tuple a t' pl (by omega),RcAt.str_tuple a t' pl (by omega),RcNeAt.str_tuple a t' pl (by omega)⟩
 | @lst p xs ds h l r ih=>
   intro A e y u v n q ru rv hd hu
   cases ru
   obtain ⟨its,rw1,pl,_⟩:=I.list h
   rw [depD] at hd
   cases q with
   | non=>cases rv;exact ⟨EqAt.list_none pl.isList (by omega),RcAt.list_none pl.isList (by omega),RcNeAt.list_none pl.isList (by omega)⟩
   | bl b=>cases rv;exact ⟨EqAt.list_bool b pl.isList (by omega),RcAt.list_bool b pl.isList (by omega),RcNeAt.list_bool b pl.isList (by omega)⟩
   | int b=>obtain ⟨t,rfl⟩:=rv;exact ⟨EqAt.list_int b t pl.isList (by omega),RcAt.list_int b t pl.isList (by omega),RcNeAt.list_int b t pl.isList (by omega)⟩
   | str b=>obtain ⟨t,rfl⟩:=rv;exact ⟨EqAt.list_str b t pl.isList (by omega),RcAt.list_str b t pl.isList (by omega),RcNeAt.list_str b t pl.isList (by omega)⟩
   | tup h' l' r'=>
     cases rv;obtain ⟨_,_,pl',_⟩:=I.tuple h'
     exact ⟨EqAt.list_tuple pl.isList pl' (by omega),RcAt.list_tuple pl.isList pl' (by omega),RcNeAt.list_tuple pl.isList pl' (by omega)⟩
   | @lst p' xs' ds' h' l' r'=>
     cases rv
     obtain ⟨its',rw2,pl',_⟩:=I.list h'
     have n1:=rw1.length
     have n2:=rw2.length
     have core:RcAt A s (.ref p) (.ref p') (eqDs ds ds')∧RcNeAt A s (.ref p) (.ref p') (!eqDs ds ds'):=by
      by_cases hl:ds.length=ds'.length
      ·have e:eqDs ds ds'=(List.range its.toArray.size).all fun i=>eqD (ds.getD i .non) (ds'.getD i .non):=by
        rw [zQ hl,List.size_toArray,← n1,l]
       rw [e]
       have hz:its.toArray.size=its'.toArray.size:=by simp;omega
       have he:∀ j (h1:j < its.toArray.size) (h2:j < its'.toArray.size),EqAt A.in1 s its.toArray[j] its'.toArray[j] (eqD (ds.getD j .non) (ds'.getD j .non)):=fun j h1 h2=>by
        have h1':j < its.length:=by simpa using h1
        have h2':j < its'.length:=by simpa using h2
        have hx:j < xs.length:=by omega
        have hx':j < xs'.length:=by omega
        have hds:j < ds.length:=by omega
        have hds':j < ds'.length:=by omega
        have g1:xs[j]? =some (xs.getD j .non):=by rw [List.getD_eq_getElem?_getD,List.getElem?_eq_getElem hx];rfl
        have g2:ds[j]? =some (ds.getD j .non):=by rw [List.getD_eq_getElem?_getD,List.getElem?_eq_getElem hds];rfl
        have g3:xs'[j]? =some (xs'.getD j .non):=by rw [List.getD_eq_getElem?_getD,List.getElem?_eq_getElem hx'];rfl
        have g4:ds'[j]? =some (ds'.getD j .non):=by rw [List.getD_eq_getElem?_getD,List.getElem?_eq_getElem hds'];rfl
        have hn:n≠0:=by omega
        exact (ih j _ _ g1 g2 (n - 1) (r' j _ _ g3 g4) (yn rw1 h1) (yn rw2 h2) (by have:=LW (List.mem_of_getElem? g2);omega) (by show A.units + 1 + (n - 1) < cLine;omega)).1
       exact ⟨RcAt.lists pl.isList pl'.isList hz (by omega) he,RcNeAt.lists pl.isList pl'.isList hz (by omega) he⟩
      ·rw [zP hl]
       have hz:(its.toArray.size != its'.toArray.size)=true:=by simp;omega
       exact ⟨RcAt.lists_lengths pl.isList pl'.isList hz (by omega),RcNeAt.lists_lengths pl.isList pl'.isList hz (by omega)⟩
     rw [eqD]
     refine ⟨?_,core⟩
     by_cases hp:p=p'
     ·subst hp
      have e:Dt.lst ds=Dt.lst ds':=(Rep.lst h l r).fun I (.lst h' l' r')
      have e2:eqDs ds ds'=true:=by have:=Pf e;rw [eqD] at this;exact this
      rw [e2]
      exact EqAt.same _
     ·exact EqAt.of_refs hp core.1
 | @tup p xs ds h l r ih=>
   intro A e y u v n q ru rv hd hu
   cases ru
   obtain ⟨its,rw1,pl,_⟩:=I.tuple h
   rw [depD] at hd
   cases q with
   | non=>cases rv;exact ⟨EqAt.tuple_none pl (by omega),RcAt.tuple_none pl (by omega),RcNeAt.tuple_none pl (by omega)⟩
   | bl b=>cases rv;exact ⟨EqAt.tuple_bool b pl (by omega),RcAt.tuple_bool b pl (by omega),RcNeAt.tuple_bool b pl (by omega)⟩
   | int b=>obtain ⟨t,rfl⟩:=rv;exact ⟨EqAt.tuple_int b t pl (by omega),RcAt.tuple_int b t pl (by omega),RcNeAt.tuple_int b t pl (by omega)⟩
   | str b=>obtain ⟨t,rfl⟩:=rv;exact ⟨EqAt.tuple_str b t pl (by omega),RcAt.tuple_str b t pl (by omega),RcNeAt.tuple_str b t pl (by omega)⟩
   | lst h' l' r'=>
     cases rv;obtain ⟨_,_,pl',_⟩:=I.list h'
     exact ⟨EqAt.tuple_list pl pl'.isList (by omega),RcAt.tuple_list pl pl'.isList (by omega),RcNeAt.tuple_list pl pl'.isList (by omega)⟩
   | @tup p' xs' ds' h' l' r'=>
     cases rv
     obtain ⟨its',rw2,pl',_⟩:=I.tuple h'
     have n1:=rw1.length
     have n2:=rw2.length
     have core:RcAt A s (.ref p) (.ref p') (eqDs ds ds')∧RcNeAt A s (.ref p) (.ref p') (!eqDs ds ds'):=by
      have e:eqDs ds ds'=((List.range (min its.toArray.size its'.toArray.size)).all (fun i=>eqD (ds.getD i .non) (ds'.getD i .non))&&its.toArray.size == its'.toArray.size):=by
       by_cases hl:ds.length=ds'.length
       ·have z1:its.toArray.size=ds.length:=by simp;omega
        have z2:its'.toArray.size=ds.length:=by simp;omega
        rw [zQ hl,z1,z2,Nat.min_self,beq_self_eq_true,Bool.and_true]
       ·have z:(its.toArray.size == its'.toArray.size)=false:=by rw [beq_eq_false_iff_ne];simp;omega
        rw [zP hl,z,Bool.and_false]
      rw [e]
      have he:∀ j (h1:j < its.toArray.size) (h2:j < its'.toArray.size),EqAt A.in1 s its.toArray[j] its'.toArray[j] (eqD (ds.getD j .non) (ds'.getD j .non)):=fun j h1 h2=>by
       have h1':j < its.length:=by simpa using h1
       have h2':j < its'.length:=by simpa using h2
       have hx:j < xs.length:=by omega
       have hx':j < xs'.length:=by omega
       have hds:j < ds.length:=by omega
       have hds':j < ds'.length:=by omega
       have g1:xs[j]? =some (xs.getD j .non):=by rw [List.getD_eq_getElem?_getD,List.getElem?_eq_getElem hx];rfl
       have g2:ds[j]? =some (ds.getD j .non):=by rw [List.getD_eq_getElem?_getD,List.getElem?_eq_getElem hds];rfl
       have g3:xs'[j]? =some (xs'.getD j .non):=by rw [List.getD_eq_getElem?_getD,List.getElem?_eq_getElem hx'];rfl
       have g4:ds'[j]? =some (ds'.getD j .non):=by rw [List.getD_eq_getElem?_getD,List.getElem?_eq_getElem hds'];rfl
       have hn:n≠0:=by omega
       exact (ih j _ _ g1 g2 (n - 1) (r' j _ _ g3 g4) (yn rw1 h1) (yn rw2 h2) (by have:=LW (List.mem_of_getElem? g2);omega) (by show A.units + 1 + (n - 1) < cLine;omega)).1
      exact ⟨RcAt.tuples pl pl' (by omega) he,RcNeAt.tuples pl pl' (by omega) he⟩
     rw [eqD]
     refine ⟨?_,core⟩
     by_cases hp:p=p'
     ·subst hp
      have e:Dt.tup ds=Dt.tup ds':=(Rep.tup h l r).fun I (.tup h' l' r')
      have e2:eqDs ds ds'=true:=by have:=Pf e;rw [eqD] at this;exact this
      rw [e2]
      exact EqAt.same _
     ·exact EqAt.of_refs hp core.1
end
noncomputable def rEqD (K:PySem.W.Frag) (neg:Bool):R2:=fun x y H Q=>∃ d e,Rep K H x d∧Rep K H y e∧depD d≤100∧Q (.bl (if neg then !eqD d e else eqD d e)) H
section
variable {X:Cx} {K:PySem.W.Frag}
theorem my (h:X.K=K) (hu:X.A.units + 100 < cLine):OpR X (compareOp .Eq) (rEqD K false):=by
 subst h
 intro pins s σ H x y v u Q I rx ry h
 obtain ⟨d,e,r1,r2,hd,q⟩:=h
 exact (rc_D I r1 100 r2 rx ry hd hu).2.1 X.prog X.w X.xe _ ⟨.bl _,H,I,rfl,q⟩
theorem im (h:X.K=K) (hu:X.A.units + 100 < cLine):OpR X (compareOp .NotEq) (rEqD K true):=by
 subst h
 intro pins s σ H x y v u Q I rx ry h
 obtain ⟨d,e,r1,r2,hd,q⟩:=h
 exact (rc_D I r1 100 r2 rx ry hd hu).2.2 X.prog X.w X.xe _ ⟨.bl _,H,I,rfl,q⟩
end
inductive Jl:St→Nat→Option V→St→Prop where
 | z {a v:Option V} {l:St}:Jl (a::l) 0 v (v::l)
 | s {a v:Option V} {l l':St} {i:Nat}:Jl l i v l'→Jl (a::l) (i + 1) v (a::l')
theorem Jl.eq {l l':St} {i:Nat} {v:Option V} (h:Jl l i v l'):l.set i v=l':=by
 induction h with
 | z=>rfl
 | s _ ih=>rw [List.set_cons_succ,ih]
inductive Jm:St→Nat→V→Prop where
 | z {v:V} {l:St}:Jm (some v::l) 0 v
 | s {a:Option V} {v:V} {l:St} {i:Nat}:Jm l i v→Jm (a::l) (i + 1) v
theorem Jm.eq {l:St} {i:Nat} {v:V} (h:Jm l i v):l[i]? =some (some v):=by
 induction h with
 | z=>rfl
 | s _ ih=>rw [List.getElem?_cons_succ];exact ih
section
variable {σ σ':St} {H:Hp} {Q:VK} {D:Ends} {ta tb tc te:TE} {t u:TS} {tt tt':TT} {r r':R2} {x y v:V}
theorem aT {N:List Str} {vs:List V} {t:TS} (e:start N vs=σ') (h:t D σ' H):t D (start N vs) H:=by rw [e];exact h
theorem Uq {i:Nat} (e:Jm σ i v) (h:Q v H):tVar i σ H Q:=⟨v,e.eq,h⟩
theorem s_rI {C:Int→Int→Prop} {g:Int→Int→V} {i j:Int} (c:C i j) (h:Q (g i j) H):rI C g (.int i) (.int j) H Q:=⟨i,j,rfl,rfl,c,h⟩
theorem Uu {g:Int→Int→V} {i j:Int} (h:Q (g i j) H):rI0 g (.int i) (.int j) H Q:=⟨i,j,rfl,rfl,h⟩
theorem Uv (e:scal x y=true) (h:Q (.bl (decide (x=y))) H):rEq x y H Q:=⟨e,h⟩
theorem Ut (e:scal x y=true) (h:Q (.bl (!decide (x=y))) H):rNe x y H Q:=⟨e,h⟩
theorem Sm (h:D.nx σ H):R8 D σ H:=h
theorem P9 {i:Nat} {Q:St→Hp→Prop} (e:Jl σ i (some v) σ') (h:Q σ' H):LJ i v σ H Q:=by show Q (σ.set i (some v)) H;rw [e.eq];exact h
theorem SD {Q:St→Hp→Prop} (h:Q σ H):gNil [] σ H Q:=⟨rfl,h⟩
theorem Qa {g:TG} {gs:TGs} {vs:List V} {Q:St→Hp→Prop} (h:g v σ H fun σ' H'=>gs vs σ' H' Q):Rb g gs (v::vs) σ H Q:=⟨v,vs,rfl,h⟩
theorem SB {K:PySem.W.Frag} {n:Nat} {gs:TGs} {p:Addr} {xs:List V} {Q:St→Hp→Prop} (e:SqT K H p xs) (l:xs.length=n) (h:gs xs σ H Q):gTup K n gs (.ref p) σ H Q:=⟨p,xs,rfl,e,l,h⟩
noncomputable def NewT (Q:VK) (xs:List V) (H:Hp):Prop:=xs.length≤sizeLine∧∀ p,H p=none→Q (.ref p) (upd H p (.tup xs))
noncomputable def NewL (Q:VK) (xs:List V) (H:Hp):Prop:=xs.length≤sizeLine∧∀ p,H p=none→Q (.ref p) (upd H p (.lst xs))
theorem Ur {tr:TA} (h:tr σ H (NewT Q)):tTup tr σ H Q:=h
theorem Uw {tr:TA} (h:tr σ H (NewL Q)):tLst tr σ H Q:=h
theorem bX {H:Hp} {D:Addr} {o:HO} (h:H D=none):Same H (upd H D o):=fun b u e=>by rw [aw (al e h)];exact e
theorem gC {o:HO} (h:∀ p H2,H p=none→Same H H2→H2 p=some o→Q (.ref p) H2):∀ p,H p=none→Q (.ref p) (upd H p o):=fun p hp=>h p _ hp (bX hp) aA
theorem Same.get {H H':Hp} (e:Same H H') {b:Addr} {o:HO} (h:H b=some o):H' b=some o:=e b o h
theorem Sn {xs:List V} (l:xs.length≤sizeLine) (h:∀ p H2,H p=none→Same H H2→H2 p=some (.tup xs)→Q (.ref p) H2):NewT Q xs H:=⟨l,gC h⟩
theorem So {xs:List V} (l:xs.length≤sizeLine) (h:∀ p H2,H p=none→Same H H2→H2 p=some (.lst xs)→Q (.ref p) H2):NewL Q xs H:=⟨l,gC h⟩
theorem Qg {sp:Sp} {E:XK} {tr:TA} (h:tr σ H fun vs H1=>sp vs H1 Q E):Nj sp [] E tr σ H Q:=by unfold Nj;simp only [List.append_nil];exact h
theorem Us {K:PySem.W.Frag} {p:Addr} {xs:List V} {lo hi:Option Int} (e:SqL K H p xs) (h:∀ q H2,H q=none→Same H H2→H2 q=some (.lst (cutV xs lo hi))→Q (.ref q) H2):rSlL K (.ref p) lo hi H Q:=⟨p,xs,rfl,e,gC h⟩
theorem mi {K:PySem.W.Frag} {p:Addr} {xs:List V} {i:Int} (e:SqL K H p xs) (a:atI xs i=some v) (h:Q v H):rIxL K (.ref p) (.int i) H Q:=⟨p,xs,i,v,rfl,rfl,e,a,h⟩
theorem Ux {K:PySem.W.Frag} {p:Addr} {xs:List V} {i:Int} (e:SqT K H p xs) (a:atI xs i=some v) (h:Q v H):rIxT K (.ref p) (.int i) H Q:=⟨p,xs,i,v,rfl,rfl,e,a,h⟩
theorem P8 {z:Str} {i:Int} {c:Nat} (e:z.length≤sizeLine) (a:atI z.cps.toList i=some c) (h:Q (.str ⟨#[c]⟩) H):rIxS (.str z) (.int i) H Q:=⟨z,i,c,rfl,rfl,e,a,h⟩
theorem Lb {n:Nat} (h:n≤1000):n≤sizeLine:=Nat.le_of_lt (cj h)
theorem rh {K:PySem.W.Frag} {neg:Bool} {d e:Dt} (r1:Rep K H x d) (r2:Rep K H y e) (hd:depD d≤100) (h:Q (.bl (if neg then !eqD d e else eqD d e)) H):rEqD K neg x y H Q:=⟨d,e,r1,r2,hd,h⟩
theorem s_ty {K:PySem.W.Frag} {T:String} {A:Prop} (e:tyV K T x H) (h:A):tyV K T x H∧A:=⟨e,h⟩
theorem Sy {K:PySem.W.Frag} {p:Addr} {xs:List V} (e:SqL K H p xs) (h:Q (.int xs.length) H):rLen K [.ref p] H Q:=⟨_,_,rfl,.inl ⟨xs,e,rfl⟩,h⟩
theorem Su {K:PySem.W.Frag} {p:Addr} {xs:List V} (e:SqT K H p xs) (h:Q (.int xs.length) H):rLen K [.ref p] H Q:=⟨_,_,rfl,.inr ⟨xs,e,rfl⟩,h⟩
theorem Sw {K:PySem.W.Frag} {z:Str} (e:z.length≤sizeLine) (h:Q (.int z.length) H):rLen K [.str z] H Q:=⟨_,_,rfl,⟨e,rfl⟩,h⟩
theorem Uy {K:PySem.W.Frag} {T k:String} (e:zB K H x k) (m:T∈["int","bool","str","list","tuple","dict"]) (h:Q (.bl (subB k T)) H):rIsi K [x,.ty T] H Q:=⟨x,k,T,rfl,e,m,h⟩
theorem SH (h:∀ p H2,H p=none→Same H H2→H2 p=some (.dK [])→Q (.ref p) H2):OW σ H Q:=gC h
theorem Uz {wi:TI} {g:TG} {tb:TS} (h:wi σ H fun J H1=>∃ W:Nat→Nat→St→Hp→Prop,(∃ m,W 0 m σ H1)∧∀ i m σ H,W i m σ H→(J.stop i H∧D.nx σ H)∨(J.go i H∧∃ N:St→Hp→Prop,(∀ σ' H',N σ' H'→∃ m',m' < m∧W (i + 1) m' σ' H')∧∀ x H',J.yld i H x H'→g x σ H' fun σ2 H2=>tb {D with nx:=N,ct:=N,bk:=D.nx} σ2 H2)):tFor wi g tb D σ H:=h
theorem Up {Q:Bool→Hp→Prop} (h:Q true H):tYes σ H Q:=h
theorem Sj {A B:Prop} (h:A):if true=true then A else B:=by rw [if_pos rfl];exact h
theorem Qb {A B:Prop} (h:B):if false=true then A else B:=by rw [if_neg Bool.false_ne_true];exact h
theorem i4 {c:Bool} {A B:Prop} (e:c=true) (h:A):if c=true then A else B:=by rw [if_pos e];exact h
theorem gl {c:Bool} {A B:Prop} (e:c=false) (h:B):if c=true then A else B:=by rw [e,if_neg Bool.false_ne_true];exact h
theorem SK {n:Nat} {fx:List Nat} {wi:TI} {g:TG} (h:wi σ H fun J H1=>∀ D,H1 D=none→
 ∃ W:Nat→Nat→List V→Hp→Prop,(∃ m,W 0 m [] (upd H1 D (.lst [])))∧∀ i m ys H2,W i m ys H2→(J.stop i H2∧Q (.ref D) H2)∨
   (J.go i H2∧∃ N:List V→Hp→Prop,(∀ ys' H',N ys' H'→∃ m',m' < m∧W (i + 1) m' ys' H')∧∀ x H3,J.yld i H2 x H3→g x (dL n fx σ) H3 fun σ4 H4=>tt σ4 H4 fun b H5=>
    if b=true then te σ4 H5 fun v H6=>H6 D=some (.lst ys)∧ys.length < sizeLine∧N (ys++[v]) (upd H6 D (.lst (ys++[v]))) else N ys H5)):Ni n fx wi g tt te σ H Q:=h
theorem SL {K:PySem.W.Frag} {p:Addr} {bs:List Bool} (e:SqL K H p (bs.map V.bl)) (h:Q (.bl (bs.all id)) H):SV K [.ref p] H Q:=⟨p,bs,rfl,e,h⟩
theorem OX {K:PySem.W.Frag} {p:Addr} {bs:List Bool} (e:SqL K H p (bs.map V.bl)) (h:Q (.bl (bs.any id)) H):SU K [.ref p] H Q:=⟨p,bs,rfl,e,h⟩
theorem NF {j:Int} {A:Prop} (h1: -(2 ^ 62)≤j) (h2:j < 2 ^ 62) (h:A): -(2 ^ 62)≤j∧j < 2 ^ 62∧A:=⟨h1,h2,h⟩
end
noncomputable def tCut (t u:TS):TS:=fun D σ H=>∃ P:St→Hp→Prop,t {D with nx:=P} σ H∧∀ σ' H',P σ' H'→u D σ' H'
theorem DI {X:Cx} {st:Stmt} {rest:List Stmt} {t u:TS} (h1:PS X st t) (h2:PSs X rest u):PSs X (st::rest) (tCut t u):=by
 intro pins s σ H D I ⟨P,a,b⟩
 refine wpAny_execs_cons (thn (h1 pins s σ H {D with nx:=P} I a) fun f s1 q=>?_)
 cases f with
 | next=>obtain ⟨σ1,H1,I1,q1⟩:=q;exact h2 pins s1 σ1 H1 D I1 (b σ1 H1 q1)
 | brk=>exact q
 | cont=>exact q
 | ret v=>exact q
theorem s_cut {t u:TS} {D:Ends} {σ:St} {H:Hp} (P:St→Hp→Prop) (h:t {D with nx:=P} σ H) (k:∀ σ' H',P σ' H'→u D σ' H'):tCut t u D σ H:=⟨P,h,k⟩
section
variable {K:PySem.W.Frag} {n:Nat} {fx:List Nat} {g:TG} {tc:TT} {te:TE} {σ:St} {H1:Hp} {D:Addr} {Q:Hp→Prop}
structure Cs (Pv:Nat→List V→Prop) (H1:Hp) (D:Addr) (i:Nat) (ys:List V) (H:Hp):Prop where
 pv:Pv i ys
 same:Same H1 H
 at':H D=some (.lst ys)
 len:ys.length≤i
theorem Cs.put {Pv:Nat→List V→Prop} {i:Nat} {ys:List V} {v:V} {H6:Hp} (f:H1 D=none) (s:Same H1 H6) (e:H6 D=some (.lst ys)) (l:ys.length≤i) (hi:i < 16777216) (p:Pv (i + 1) (ys++[v])):
  H6 D=some (.lst ys)∧ys.length < sizeLine∧Cs Pv H1 D (i + 1) (ys++[v]) (upd H6 D (.lst (ys++[v]))):=
 ⟨e,by rw [sizeLine_eq];omega,p,fun b o h=>by rw [aw (al h f)];exact s b o h,aA,by rw [List.length_append];simpa using l⟩
theorem Cs.skip {Pv:Nat→List V→Prop} {i:Nat} {ys:List V} {H6:Hp} (s:Same H1 H6) (e:H6 D=some (.lst ys)) (l:ys.length≤i) (p:Pv (i + 1) ys):Cs Pv H1 D (i + 1) ys H6:=⟨p,s,e,by omega⟩
theorem Cs.zero {Pv:Nat→List V→Prop} (f:H1 D=none) (p:Pv 0 []):Cs Pv H1 D 0 [] (upd H1 D (.lst [])):=⟨p,bX f,aA,Nat.le_refl _⟩
end
structure Pr (K:PySem.W.Frag) (C:Addr) (m:Str) (f:Addr):Prop where
 ga:PySem.W.specialIn K (.ref C) "__getattribute__"=some (some (.builtin "type.__getattribute__"))
 rd:PySem.W.readsIn K C (.type "type")=true
 fd:PySem.W.findCls K (.ref C) (.type "type") m=some (.val (.ref f))
 hd:PySem.W.handedIn (.ref f)=true
 kp:PySem.W.keepIn K (.ref f)=true
section
variable {X:Cx} {CX:CXT} {k:Nat} {f C:Addr} {fd:FuncData} {ps:List Str} {sp:Sp} {dvs:List V} {ds:List Value} {E:XK} {x m:Str} {p pos apos:Pos} {e o:Expr} {es:List Expr} {ta:TE} {t:TA}
theorem t8 {pl:Sem Bool} (hg:Gl X x) (hx:X.mg x=some (.ref C)) (c:Pr X.K C m f) (F:FnOk X.prog X.w X.K X.mg X.base CX k f fd ps sp) (hr:Room k X.A) (hb:bT X.K fd ps ds) (hd:Vals dvs ds) (hpass:qP CX X E) (ha:PA X (e::es) t)
  (hdb:(x == ("__debug__":Str))=false:=by decide) (hst:starEach (e::es) X.env=(false,eval e X.env)::starEach es X.env:=by rfl) (hpl:(backTo pos (starEach es X.env)).any (·.1)=false:=by rfl)
  (ht:eval (.Call (.Attribute (.Name x p) m apos) (e::es) [] pos) X.env=(do
   let ov ← eval (.Name x p) X.env
   standAt apos.atName
   let (f,first) ← holding [ov] (getMethod ov m pl)
   callWith pos f first (backTo pos (starEach (e::es) X.env)) (backToKw pos (keywordEach [] X.env))):=by rfl):
  PE X (.Call (.Attribute (.Name x p) m apos) (e::es) [] pos) (Nj sp dvs E t):=by
 intro pins s σ H Q I h
 refine PySem.W.methodCall_KW (pl:=pl) (gJ I hg hx ?_ hdb) ht
 refine PySem.W.method_cls I.kIn c.ga (PySem.W.cls_value I.kIn c.rd c.fd c.hd ?_)
 have I1:=I.tok (s.toks + 1)
 refine PySem.W.callWith_K (first:=[]) (h₀:=X.base) I1.ok.mod.kin c.kp (thn (ha pos pins _ σ H _ I1 h) fun us s2 ⟨vs,H2,I2,r,q2⟩=>⟨I2.kIn,?_⟩) hst hpl
 exact Kr (us:=us) (vs:=vs) F hr hb hd hpass I2 r q2
end
structure MB (K:PySem.W.Frag) (D:Addr):Prop where
 cls:Cls K D
 ha:PySem.W.findIn K (.ref D) "__class__"=some (some (.builtin "object.__class__"))
 hn:PySem.W.specialIn K (.builtin "object.__class__") "__get__"=some (some (.builtin "getset_descriptor.__get__"))
 tk:PySem.W.takesIn K (.builtin "object.__class__")=some true
 hm:PySem.W.mroIn K D (.type "object")=some true
section
variable {X:Cx} {K:PySem.W.Frag}
theorem fz {e:Expr} {ta:TE} {f:Str} {pos:Pos} (h:X.K=K) (he:PE X e ta) (hb:attributeBase e f X.env (eval e X.env)=eval e X.env):PE X (.Attribute e f pos) (tFld K ta f):=by subst h;exact S5 he hb
theorem gE {o value:Expr} {ta tv:TE} {f:Str} {pos pos':Pos} (h:X.K=K) (ha:PE X o ta) (hv:PE X value tv) (hs:swapsWith value (some (.Attribute o f pos')) pos.line X.env=pure false):PS X (.Assign [.Attribute o f pos'] value pos) (sFld K ta tv f):=by subst h;exact SY ha hv hs
end
section
variable {σ:St} {H:Hp} {Q:VK} {D:Ends} {te tv ta:TE} {x y v:V}
noncomputable def RK (K:PySem.W.Frag) (f:Str) (Q:VK) (x:V) (H:Hp):Prop:=∃ a C dx fs v,x= .ref a∧H a=some (.ins C dx fs)∧Cls K C∧aq K C f∧fs.lookup f=some v∧Q v H
theorem UA {K:PySem.W.Frag} {f:Str} (h:te σ H (RK K f Q)):tFld K te f σ H Q:=h
theorem dY {K:PySem.W.Frag} {f:Str} {p C dx:Addr} {fs:List (Str×V)} (e:H p=some (.ins C dx fs)) (c:Cls K C) (n:aq K C f) (l:fs.lookup f=some v) (h:Q v H):RK K f Q (.ref p) H:=⟨p,C,dx,fs,v,rfl,e,c,n,l,h⟩
structure Upd (H H':Hp) (p:Addr) (o:HO):Prop where
 at':H' p=some o
 oth:∀ b u,b≠p→H b=some u→H' b=some u
 non:∀ b,b≠p→H b=none→H' b=none
theorem Upd.of {H:Hp} {p:Addr} {o:HO}:Upd H (upd H p o) p o:=⟨aA,fun b u n h=>by rw [aw n];exact h,fun b n h=>by rw [aw n];exact h⟩
noncomputable def T2 (K:PySem.W.Frag) (f:Str) (y:V) (D:Ends) (σ:St) (x:V) (H:Hp):Prop:=∃ a C dx fs,x= .ref a∧H a=some (.ins C dx fs)∧Cls K C∧aq K C f∧fs.length < 1000∧D.nx σ (upd H a (.ins C dx (putF f y fs)))
theorem Ny {K:PySem.W.Frag} {f:Str} (h:tv σ H fun y H1=>te σ H1 (T2 K f y D σ)):sFld K te tv f D σ H:=h
theorem gA {K:PySem.W.Frag} {f:Str} {p C dx:Addr} {fs fs':List (Str×V)} (e:H p=some (.ins C dx fs)) (c:Cls K C) (n:aq K C f) (l:fs.length < 1000) (ef:putF f y fs=fs') (h:∀ H2,Upd H H2 p (.ins C dx fs')→D.nx σ H2):
  T2 K f y D σ (.ref p) H:=⟨p,C,dx,fs,rfl,e,c,n,l,by rw [ef];exact h _ Upd.of⟩
noncomputable def Pm (C:Addr) (sp:Sp) (E:XK) (Q:VK) (vs:List V) (H:Hp):Prop:=∀ x dx,H x=none→H dx=none→dx≠x→sp (.ref x::(vs++[])) (upd (upd H dx (.own x)) x (.ins C dx [])) (fun v H2=>v= .non∧Q (.ref x) H2) E
theorem Sr {C:Addr} {sp:Sp} {E:XK} {tr:TA} (h:tr σ H (Pm C sp E Q)):Sa C sp [] E tr σ H Q:=h
theorem NB {C:Addr} {sp:Sp} {E:XK} {vs:List V} (h:∀ x dx H2,H x=none→Same H H2→H2 x=some (.ins C dx [])→sp (.ref x::vs) H2 (fun v H2=>v= .non∧Q (.ref x) H2) E):Pm C sp E Q vs H:=by
 intro x dx f1 f2 n
 rw [List.append_nil]
 exact h x dx _ f1 (fun b o e=>by rw [aw (al e f1),aw (al e f2)];exact e) aA
theorem Upd.trans {H2 H3:Hp} {p:Addr} {o o':HO} (u:Upd H H2 p o) (w:Upd H2 H3 p o'):Upd H H3 p o':=⟨w.at',fun b q n e=>w.oth b q n (u.oth b q n e),fun b n e=>w.non b n (u.non b n e)⟩
end
theorem Inv.laidCh {X:Cx} {pins:List (Addr×Obj)} {σ:St} {H:Hp} {s:Shared} {h':Heap} {a:Addr} {o:HO} {t':Nat} {ch:List Addr} (I:Inv X pins σ H s) (k:∀ b u,b∉ch→s.heap.get? b=some u→h'.get? b=some u) (hp:s.heap.objs.size≤a)
  (new:eA X.prog X.w (upd H a o) h' a o) (fp:∀ b∈ch,FpOk X pins H b):Inv X pins σ (upd H a o) {s with heap:=h',toks:=t'}:=by
 have fr:H a=none:=I.hok.fresh hp
 have nit:∀ b u,H b=some u→b∉ch:=fun b u e z=>by rw [(fp b z).1] at e;cases e
 refine I.step (g':=s.gens) (d':=s.drawn) (ch:=ch) (fun b hb=>?_) (fun b ob _ _ hc e _=>k b ob hc e) (fun b ob _ _ hc e _=>⟨ob.slots,k b ob hc e⟩) (fun b ob _ e n=>?_) (fun b ob hc e=>⟨ob,k b ob hc e⟩)
  (fun b xs e=>by rw [aw (al e fr)];exact e) (fun b ob u e=>by rw [aw (al e fr)];exact e) (fun b ps e=>⟨#[],by rw [aw (al e fr),e];simp⟩) (fun m hm=>?_) (fun b u e=>?_) I.bare
 ·obtain ⟨f0,f1,f2,f3,f4,f5⟩:=fp b hb
  exact ⟨f3,f1,f4,f5⟩
 ·rw [aw (Nat.ne_of_lt (Nat.lt_of_lt_of_le (Heap.lt_size e) hp))];exact n
 ·obtain ⟨ob,es,ep,ho,r⟩:=hm
  exact ⟨ob,es,ep,k _ ob (fun z=>(fp _ z).2.1 rfl) ho,r⟩
 ·by_cases hb:b=a
  ·subst hb;rw [aA] at e;cases e;exact new
  ·rw [aw hb] at e
   refine (I.hok b u e).stay (fun c v hc q=>k c v ?_ q) (fun c q=>by rw [aw (al q fr)];exact q) fun c xs q=>by rw [aw (al q fr)];exact q
   rcases hc with z | z
   ·rw [z];exact nit b u e
   ·exact nit c _ z
theorem Inv.turnedCh {X:Cx} {pins:List (Addr×Obj)} {σ:St} {H:Hp} {s:Shared} {h':Heap} {t':Nat} {ch:List Addr} (I:Inv X pins σ H s) (k:∀ b u,b∉ch→s.heap.get? b=some u→h'.get? b=some u)
  (fp:∀ b∈ch,FpOk X pins H b):Inv X pins σ H {s with heap:=h',toks:=t'}:=by
 have nit:∀ b u,H b=some u→b∉ch:=fun b u e z=>by rw [(fp b z).1] at e;cases e
 refine I.step (g':=s.gens) (d':=s.drawn) (ch:=ch) (fun b hb=>?_) (fun b ob _ _ hc e _=>k b ob hc e) (fun b ob _ _ hc e _=>⟨ob.slots,k b ob hc e⟩) (fun b ob _ e n=>n) (fun b ob hc e=>⟨ob,k b ob hc e⟩)
  (fun b xs e=>e) (fun b ob u e=>e) (fun b ps e=>⟨#[],by rw [e];simp⟩) (fun m hm=>?_) (fun b u e=>?_) I.bare
 ·obtain ⟨f0,f1,f2,f3,f4,f5⟩:=fp b hb
  exact ⟨f3,f1,f4,f5⟩
 ·obtain ⟨ob,es,ep,ho,r⟩:=hm
  exact ⟨ob,es,ep,k _ ob (fun z=>(fp _ z).2.1 rfl) ho,r⟩
 ·refine (I.hok b u e).stay (fun c v hc q=>k c v ?_ q) (fun c q=>q) fun c xs q=>q
  rcases hc with z | z
  ·rw [z];exact nit b u e
  ·exact nit c _ z
noncomputable def Ite (K:PySem.W.Frag) (a:Addr):It:=
 ⟨fun i H=>∃ xs x,SqL K H a xs∧xs[i]? =some x,fun i H x H'=>∃ p v,H p=none∧x= .ref p∧H'=upd H p (.tup [.int i,v])∧∀ xs,SqL K H a xs→xs[i]? =some v,fun i H=>∃ xs,SqL K H a xs∧xs.length=i⟩
theorem JO:(2:Nat)≤sizeLine:=by rw [sizeLine_eq];decide
theorem GT {P:Program} {w:World} {K:PySem.W.Frag} {elts:List Expr} {k:Nat} {pos:Pos} (a e it:Addr) (hei:e≠it):
  Turn P w K (.Tuple elts k pos) (Ite K a) [e,it] e (fun i h=>(∃ old,IsEnum h e it i old)∧h.IsListIter it a i) where
 mem:=by simp
 obj:=fun i h st b hb=>by
  obtain ⟨⟨old,he⟩,⟨o,ho,hc,hd⟩⟩:=st
  rcases List.mem_cons.mp hb with z | z
  ·subst z;exact ⟨_,he,fun v z=>by cases z⟩
  ·rw [List.mem_singleton.mp z];exact ⟨o,ho,fun v z=>by rw [hd] at z;cases z⟩
 keep:=fun i h h' st k=>⟨let ⟨old,he⟩:=st.1;⟨old,k e (by simp) _ he⟩,st.2.at fun o z=>k it (by simp) o z⟩
 item:=by
  intro X hP hw hK hc i pins s σ H E I hf st hg
  subst hP hw hK
  obtain ⟨xs,x,hq,hx⟩:=hg
  obtain ⟨its,rv,p,hz⟩:=I.list hq
  obtain ⟨⟨old,he⟩,hl⟩:=st
  have hai:a≠it:=fun z=>by
   obtain ⟨o,ho,hcl,_⟩:=hl
   obtain ⟨o',n,ho',hcl',_⟩:=p
   rw [z,ho] at ho';cases ho';rw [hcl] at hcl';exact absurd hcl' (by decide)
  have hae:a≠e:=fun z=>by
   obtain ⟨o',n,ho',hcl',_⟩:=p
   rw [z,he] at ho';cases ho';exact absurd (show Value.type "enumerate"= .type "list" from hcl') (by decide)
  have W:=WalksT.enumerateD (prog:=X.prog) (w:=X.w) (A:=X.A) (Draws.list (A:=X.A.in1) (I.ok.hd hc) it a hai its.toArray) e hei (by simp [hei,Ne.symm hae]) (by simp)
  have hi:i < its.toArray.size:=by have:=rv.length;have:=(List.getElem?_eq_some_iff.mp hx).1;simp;omega
  refine W.item i s _ _ hi ⟨⟨old,he⟩,hl,p.isList⟩ fun T vals h' tk hPt hT htup hmid hk=>⟨_,rfl,W.go elts k pos i T _ _ _ hmid fun h'' hst hk2=>?_⟩
  obtain ⟨t,x',hx',rfl⟩:=hPt
  have hap:=W.apart i T h' hmid
  have ru:RelV x x':=by
   obtain ⟨u,hu,r⟩:=rv.get hx
   have hx'':its[i]? =some x':=by simpa using hx'
   rw [hu] at hx'';cases hx'';exact r
  have kk:∀ b u,b∉[e,it]→s.heap.get? b=some u→h''.get? b=some u:=fun b u hb q=>hk2 b u hb (hk b u hb q)
  have fr:H T=none:=I.hok.fresh hT
  refine ⟨.ref T,upd H T (.tup [.int i,x]),I.laidCh (t':=tk) kk hT ⟨JO,[.int i t,x'],.cons ⟨t,rfl⟩ (.cons ru .nil),?_⟩ hf,rfl,⟨T,x,fr,rfl,rfl,fun ys hy=>by rw [I.list_inj hy hq];exact hx⟩,⟨hst.1,hst.2.1⟩,fun b hb=>?_⟩
  ·obtain ⟨o,ho,r⟩:=htup
   exact ⟨o,hk2 T o hap ho,r⟩
  ·have fb:=(hf b hb)
   rw [aw (fun z=>?_)]
   ·exact fb.1
   ·have lt:b < s.heap.objs.size:=by
     rcases List.mem_cons.mp hb with z | z
     ·subst z;exact Heap.lt_size he
     ·rw [List.mem_singleton.mp z];obtain ⟨o,ho,_⟩:=hl;exact Heap.lt_size ho
    rw [z] at lt
    exact absurd (Nat.lt_of_lt_of_le lt hT) (Nat.lt_irrefl _)
 done:=by
  intro X hP hw hK hc i pins s σ H E I hf st hg
  subst hP hw hK
  obtain ⟨xs,hq,hx⟩:=hg
  obtain ⟨its,rv,p,hz⟩:=I.list hq
  obtain ⟨⟨old,he⟩,hl⟩:=st
  have hai:a≠it:=fun z=>by
   obtain ⟨o,ho,hcl,_⟩:=hl
   obtain ⟨o',n,ho',hcl',_⟩:=p
   rw [z,ho] at ho';cases ho';rw [hcl] at hcl';exact absurd hcl' (by decide)
  have hae:a≠e:=fun z=>by
   obtain ⟨o',n,ho',hcl',_⟩:=p
   rw [z,he] at ho';cases ho';exact absurd (show Value.type "enumerate"= .type "list" from hcl') (by decide)
  have W:=WalksT.enumerateD (prog:=X.prog) (w:=X.w) (A:=X.A) (Draws.list (A:=X.A.in1) (I.ok.hd hc) it a hai its.toArray) e hei (by simp [hei,Ne.symm hae]) (by simp)
  have hn:its.toArray.size=i:=by have:=rv.length;simp;omega
  subst hn
  exact W.done s _ _ ⟨⟨old,he⟩,hl,p.isList⟩ fun h' tk hk=>⟨rfl,I.turnedCh hk hf⟩
 self:=fun _ _ _ _ _ st h=>let ⟨_,he⟩:=st.1;wpAny_pyIter_enum he h
theorem Ou {K:PySem.W.Frag} {a:Addr} {xs:List V} {g:TG} {tb:TS} {D:Ends} {σ:St} {H:Hp} (Pv:Nat→St→Hp→Prop) (h0:Pv 0 σ H) (hl:∀ i σ H,i≤xs.length→Pv i σ H→SqL K H a xs)
  (hs:∀ i x σ H p H',xs[i]? =some x→Pv i σ H→H p=none→Same H H'→H' p=some (.tup [.int i,x])→g (.ref p) σ H' fun σ2 H2=>tb {D with nx:=Pv (i + 1),ct:=Pv (i + 1),bk:=D.nx} σ2 H2) (hd:∀ σ H,Pv xs.length σ H→D.nx σ H):
  ∃ W:Nat→Nat→St→Hp→Prop,(∃ m,W 0 m σ H)∧∀ i m σ H,W i m σ H→
    ((Ite K a).stop i H∧D.nx σ H)∨((Ite K a).go i H∧∃ N:St→Hp→Prop,(∀ σ' H',N σ' H'→∃ m',m' < m∧W (i + 1) m' σ' H')∧∀ x H',(Ite K a).yld i H x H'→g x σ H' fun σ2 H2=>tb {D with nx:=N,ct:=N,bk:=D.nx} σ2 H2):=by
 refine ⟨fun i m σ H=>m=xs.length - i∧i≤xs.length∧Pv i σ H,⟨xs.length,by simp,Nat.zero_le _,h0⟩,?_⟩
 rintro i m σ H ⟨rfl,hi,p⟩
 have q:=hl i σ H hi p
 by_cases hlt:i < xs.length
 ·refine .inr ⟨⟨xs,xs[i],q,by simp [hlt]⟩,Pv (i + 1),fun σ' H' p'=>⟨xs.length - (i + 1),by omega,rfl,hlt,p'⟩,fun x H' y=>?_⟩
  obtain ⟨r,v,f,e1,e2,y⟩:=y
  subst e1 e2
  exact hs i v σ H r _ (y xs q) p f (bX f) aA
 ·have e:i=xs.length:=by omega
  subst e
  exact .inl ⟨⟨xs,q,rfl⟩,hd σ H p⟩
noncomputable def OZ:V→List V→Hp→VK→Prop:=fun x xs H Q=>∃ z y,x= .str z∧xs=[.str y]∧y.length≠0∧z.length + 2≤sizeLine∧∀ D,H D=none→Q (.ref D) (upd H D (.lst ((Txt.split z y).map V.str)))
theorem AD:∀ (ss:List Str) (n:Nat),Vals (ss.map V.str) (strsFrom n ss)
 | [],_=> .nil
 | x::r,n=> .cons ⟨n,rfl⟩ (AD r (n + 1))
section
variable {X:Cx}
theorem Od:MtR X "str.split" OZ:=by
 intro pins s σ H x xs v us Q I rx rs h
 obtain ⟨z,y,rfl,rfl,hy,hz,q⟩:=h
 obtain ⟨t,rfl⟩:=rx
 obtain ⟨u,rfl,ru⟩:=AE rs
 obtain ⟨t',rfl⟩:=ru
 have hy:(y.length == 0)=false:=beq_eq_false_iff_ne.mpr hy
 have hle:=split_le z y
 have fr:=I.hok.fresh (Nat.le_refl s.heap.objs.size)
 have itself:Txt.split z y=[z]→EP X pins σ Q (.ref s.heap.objs.size) {s with heap:=s.heap.push {cls:= .type "list",data:= .seq [Value.str z t].toArray}}:=fun e=>
  ⟨.ref s.heap.objs.size,_,I.laid (t':=s.toks) (o:= .lst ((Txt.split z y).map V.str)) (fun b o e=>Heap.get?_push_of_some _ e) (Nat.le_refl _) ⟨by rw [List.length_map];omega,[.str z t],0,by rw [e];exact .cons ⟨t,rfl⟩ .nil,Heap.get?_push_size _ rfl⟩,rfl,q _ fr⟩
 cases h1:(decide (z.length < y.length)||decide (Builtin.Str.strKind z < Builtin.Str.strKind y)) with
 | true=>exact call_meets F.slot_str_split (typeIs_str _ _ _) F.entry_str_split (F.args_str_split_2 _ _) (meets_str_split_cannot_occur z y t t' h1) (itself (if_pos h1))
 | false=>
   cases hf:(Builtin.Str.occurrences z y 0 z.length (z.length + 1)).isEmpty with
   | true=>exact call_meets F.slot_str_split (typeIs_str _ _ _) F.entry_str_split (F.args_str_split_2 _ _) (meets_str_split_not_found z y t t' h1 hy hf) (itself ((if_neg (ne_true_of_eq_false h1)).trans (if_pos hf)))
   | false=>
     have e:Txt.split z y=Builtin.Str.partsBetween z (Builtin.Str.occurrences z y 0 z.length (z.length + 1)) y.length:=(if_neg (ne_true_of_eq_false h1)).trans (if_neg (ne_true_of_eq_false hf))
     refine call_meets F.slot_str_split (typeIs_str _ _ _) F.entry_str_split (F.args_str_split_2 _ _) (meets_str_split_sep z y t t' h1 hy hf (by omega) (by rw [← e];omega)) ?_
     refine ⟨.ref s.heap.objs.size,_,I.laid (fun b o e=>Heap.get?_push_of_some _ e) (Nat.le_refl _) (o:= .lst ((Txt.split z y).map V.str)) ⟨by rw [List.length_map];omega,_,0,?_,Heap.get?_push_size _ rfl⟩,rfl,q _ fr⟩
     rw [e]
     exact AD _ _
end
section
variable {σ:St} {H:Hp} {Q:VK} {D:Ends} {te ty tv td:TE} {x y v:V}
theorem P4 {z w:Str} (hw:w.length≠0) (hz:z.length + 2≤sizeLine) (h:∀ p H2,H p=none→Same H H2→H2 p=some (.lst ((Txt.split z w).map V.str))→Q (.ref p) H2):OZ (.str z) [.str w] H Q:=⟨z,w,rfl,rfl,hw,hz,gC h⟩
theorem gm {l:Addr} {xs:List V} (e:H l=some (.lst xs)) (hz:xs.length < sizeLine) (h:∀ H2,Upd H H2 l (.lst (xs++[y]))→Q .non H2):Kz (.ref l) [y] H Q:=⟨l,xs,y,rfl,rfl,e,hz,h _ Upd.of⟩
noncomputable def Po (v:V) (x:V) (D:Ends) (σ:St) (y:V) (H:Hp):Prop:=∃ a H4,x= .ref a∧DPut H a y v H4∧D.nx σ H4
theorem SE (h:tv σ H fun v H1=>td σ H1 fun x H2=>ty σ H2 (Po v x D σ)):SN td ty tv D σ H:=h
theorem Qc {p:Addr} {kvs:List (Key×V)} {z:Str} (e:H p=some (.dK kvs)) (hl:kvs.length < sizeLine) (h:∀ H2,Upd H H2 p (.dK (putK kvs (Sum.inr z) v))→D.nx σ H2):Po v (.ref p) D σ (.str z) H:=⟨p,_,rfl,DPut.k (k:=Sum.inr z) e hl,h _ Upd.of⟩
noncomputable def Pq (x:V) (Q:VK) (y:V) (H:Hp):Prop:=∃ a v,x= .ref a∧DGet H a y (some v)∧Q v H
theorem SJ (h:td σ H fun x H1=>ty σ H1 (Pq x Q)):Sd td ty σ H Q:=h
theorem Qe {p:Addr} {kvs:List (Key×V)} {z:Str} (e:H p=some (.dK kvs)) (l:valV kvs (Sum.inr z)=some v) (h:Q v H):Pq (.ref p) Q (.str z) H:=⟨p,v,rfl,by rw [← l];exact DGet.k (k:=Sum.inr z) e,h⟩
noncomputable def Pl (C:Addr) (m:Str) (sp:Sp) (E:XK) (tr:TA) (σ:St) (Q:VK) (x:V) (H:Hp):Prop:=∃ a dx fs,x= .ref a∧H a=some (.ins C dx fs)∧fs.lookup m=none∧tr σ H fun vs H2=>sp (x::(vs++[])) H2 Q E
theorem Sq {C:Addr} {m:Str} {sp:Sp} {E:XK} {tr:TA} (h:te σ H (Pl C m sp E tr σ Q)):R9 C m sp [] E te tr σ H Q:=h
theorem nH {C dx p:Addr} {m:Str} {fs:List (Str×V)} {sp:Sp} {E:XK} {tr:TA} (e:H p=some (.ins C dx fs)) (l:fs.lookup m=none) (h:tr σ H fun vs H2=>sp (.ref p::vs) H2 Q E):Pl C m sp E tr σ Q (.ref p) H:=⟨p,dx,fs,rfl,e,l,by simp only [List.append_nil];exact h⟩
theorem P7 {K:PySem.W.Frag} {p:Addr} {xs:List V} (e:SqL K H p xs) (h:∀ q H2,H q=none→Same H H2→H2 q=some (.lst xs)→Q (.ref q) H2):DH K [.ref p] H Q:=⟨p,xs,rfl,.inl e,gC h⟩
theorem P6 {K:PySem.W.Frag} {p:Addr} {xs:List V} (e:SqT K H p xs) (h:∀ q H2,H q=none→Same H H2→H2 q=some (.lst xs)→Q (.ref q) H2):DH K [.ref p] H Q:=⟨p,xs,rfl,.inr e,gC h⟩
theorem Si {K:PySem.W.Frag} {p:Addr} {xs:List V} (e:SqL K H p xs) (h:∀ q H2,H q=none→Same H H2→H2 q=some (.tup xs)→Q (.ref q) H2):Ku K [.ref p] H Q:=⟨p,xs,rfl,.inl ⟨e,gC h⟩⟩
theorem Sh {K:PySem.W.Frag} {p:Addr} {xs:List V} (e:SqT K H p xs) (h:Q (.ref p) H):Ku K [.ref p] H Q:=⟨p,xs,rfl,.inr ⟨e,h⟩⟩
end
noncomputable def Mv (ch fr:List Addr) (h h':Heap):Prop:=(∀ b o,b∉ch→b∉fr→h.get? b=some o→h'.get? b=some o)∧∀ b o,b∉ch→b∈fr→h.get? b=some o→∃ sl,h'.get? b=some {o with slots:=sl}
noncomputable def Js (h:Heap) (e:Addr) (C:Value) (dx:Option Addr) (T:Option (Addr×Value)):Prop:=
 ∃ oe vs,h.get? e=some oe∧oe.cls=C∧oe.dict=dx∧oe.data= .fields vs∧1 < vs.size∧
   match T with
   | none=>vs[1]? =some .none
   | some (t,fl)=>vs[1]? =some (.ref t)∧t≠e∧∃ oT ts,h.get? t=some oT∧oT.data= .fields ts∧ts[3]? =some fl
section
variable {M:Model} {A:Around} {E:Value→Shared→Prop} {s:Shared}
theorem Ce {h:Heap} {a:Addr} {o:Obj} {vs:Array Value} {i:Nat} {v:Value} (ho:h.get? a=some o) (hd:o.data= .fields vs):
  ∃ o',(h.update a (Obj.mapFields (·.setIfInBounds i v))).get? a=some o'∧o'.cls=o.cls∧o'.dict=o.dict∧o'.data= .fields (vs.setIfInBounds i v):=by
 have hd':=Obj.data_mapFields hd (·.setIfInBounds i v)
 refine ⟨_,Heap.get?_update_self (Obj.mapFields (·.setIfInBounds i v)) ho (Obj.isFreed_of_fields hd'),Obj.cls_mapFields _ _,?_,hd'⟩
 obtain ⟨c,d,dt,sl⟩:=o
 have hd:dt= .fields vs:=hd
 subst hd
 rfl
theorem Oy {base:Heap} {env:Env} {outer:List Env} {L e:Addr} {oe:Obj} {vs:Array Value} {head:Value} {b:Bool} {Q:Unit→Shared→Prop}
  (hfr:A.frames=some (env::outer)) (hl:s.heap.FunFrames base (env::outer)) (hf:env.frame=some L) (he:s.heap.get? e=some oe) (hd:oe.data= .fields vs) (hsz:1 < vs.size)
  (h:∀ h',Mv [e] (frs (env::outer)) s.heap h'→Js h' e oe.cls oe.dict (some (s.heap.objs.size,rawInt L))→Q () {s with heap:=h'}):
  wpAny M A (do let a ← frameOf env;let pl ← entryPlaceOf L b;let t ← EntryCells.newEntry head a .none (rawInt L) .none pl;setField (.ref e) 1 t) Q E s:=by
 have ne:e∉frs (env::outer):=fun hm=>by
  obtain ⟨_,o,ho,hnf⟩:=hl.mem hm
  rw [he] at ho;cases ho;exact hnf vs hd
 refine wpAny_bind (wpAny_frameOf_fun hfr hl hf fun g1 z1=>?_)
 refine wpAny_bind (wpAny_entryPlaceOf fun pl isp=>?_)
 unfold EntryCells.newEntry newFields
 refine wpAny_bind (wpAny_newObj_type ?_ (isp.sizeOk5 _ _ _ _ _))
 have e1:g1.get? e=some oe:=(z1.2.1 e ne).trans he
 have sz:g1.objs.size=s.heap.objs.size:=z1.1
 generalize hob:({cls:= .type "traceback",dict:=none,data:= .fields ([head,.ref L,.none,rawInt L,.none]++(if pl.isEmpty then List.replicate 6 Value.none else pl)).toArray}:Obj)=ob
 have e2:(g1.push ob).get? e=some oe:=Heap.get?_push_of_some ob e1
 refine wpAny_setField e2 hd hsz ?_
 have lt:e < g1.objs.size:=Heap.lt_size e1
 obtain ⟨o',q1,q2,q3,q4⟩:=Ce (i:=1) (v:= .ref g1.objs.size) e2 hd
 have oth:∀ c,c≠e→((g1.push ob).update e (Obj.mapFields (·.setIfInBounds 1 (Value.ref g1.objs.size)))).get? c=(g1.push ob).get? c:=fun c hc=>Heap.get?_update_other _ _ (Ne.symm hc)
 have old:∀ c o,c≠e→g1.get? c=some o→((g1.push ob).update e (Obj.mapFields (·.setIfInBounds 1 (Value.ref g1.objs.size)))).get? c=some o:=fun c o hc q=>(oth c hc).trans (Heap.get?_push_of_some ob q)
 refine h _ ⟨fun c o n m q=>old c o (fun z=>n (by rw [z];exact List.mem_singleton.mpr rfl)) ((z1.2.1 c m).trans q),fun c o n m q=>?_⟩ ⟨o',_,q1,q2,q3,q4,by simpa using hsz,?_⟩
 ·obtain ⟨sl,q'⟩:=z1.2.2 c o q
  exact ⟨sl,old c _ (fun z=>n (by rw [z];exact List.mem_singleton.mpr rfl)) q'⟩
 ·have nt:g1.objs.size≠e:=Nat.ne_of_gt lt
  refine ⟨by rw [← sz];simp [hsz],by rw [← sz];exact nt,ob,_,?_,by rw [← hob],?_⟩
  ·rw [← sz,oth _ nt]
   exact Heap.get?_push_size g1 (by rw [← hob];rfl)
  ·first | (simp;done) | (rcases isp with rfl | ⟨_,_,_,_,_,_,_,rfl⟩<;>simp)
theorem LK {e t:Addr} {C:Value} {dx:Option Addr} {fl:Value} {fr:Option Addr} {Q:Unit→Shared→Prop} (x:Js s.heap e C dx (some (t,fl)))
  (h:∀ h',(∀ b o,b≠t→s.heap.get? b=some o→h'.get? b=some o)→Js h' e C dx (some (t,fr.elim .none fun f=>rawInt f))→Q () {s with heap:=h'}):wpAny M A (setFlight (.ref e) fr) Q E s:=by
 obtain ⟨oe,vs,he,hc,hdx,hd,hsz,h1,hte,oT,ts,hT,hdT,h3⟩:=x
 unfold setFlight
 refine wpAny_bind (wpAny_field he hd h1 ?_)
 rw [if_pos (show (Value.ref t != Value.none)=true from by simp)]
 refine wpAny_setField hT hdT (Array.getElem?_eq_some_iff.mp h3).1 ?_
 obtain ⟨o',q1,q2,q3,q4⟩:=Ce (i:=3) (v:=fr.elim .none fun f=>rawInt f) hT hdT
 have oth:∀ c,c≠t→(s.heap.update t (Obj.mapFields (·.setIfInBounds 3 (fr.elim Value.none fun f=>rawInt f)))).get? c=s.heap.get? c:=fun c hc=>Heap.get?_update_other _ _ (Ne.symm hc)
 refine h _ (fun b o hb q=>(oth b hb).trans q) ⟨oe,vs,(oth e (Ne.symm hte)).trans he,hc,hdx,hd,hsz,h1,hte,o',_,q1,q4,?_⟩
 have:=(Array.getElem?_eq_some_iff.mp h3).1
 simp [this]
end
section
variable {X:Cx} {pins:List (Addr×Obj)} {σ:St} {H:Hp} {s:Shared}
theorem Inv.mv {h':Heap} {ch:List Addr} (I:Inv X pins σ H s) (m:Mv ch (frs X.stack) s.heap h') (fp:∀ b∈ch,FpOk X pins H b):Inv X pins σ H {s with heap:=h'}:=by
 have nit:∀ b u,H b=some u→b∉ch:=fun b u e z=>by rw [(fp b z).1] at e;cases e
 have nfr:∀ b u,H b=some u→b∉frs X.stack:=fun b u e z=>by rw [I.stkFree b z] at e;cases e
 have any:∀ b o,b∉ch→s.heap.get? b=some o→∃ sl,h'.get? b=some {o with slots:=sl}:=fun b o n e=>by
  by_cases z:b∈frs X.stack
  ·exact m.2 b o n z e
  ·exact ⟨o.slots,m.1 b o n z e⟩
 refine I.step (g':=s.gens) (d':=s.drawn) (t':=s.toks) (ch:=ch) (fun b hb=>?_) (fun b ob hL hb hc e _=>m.1 b ob hc (fun z=>(List.mem_cons.mp (I.stkSub b z)).elim hL hb) e) (fun b ob _ _ hc e _=>any b ob hc e) (fun b ob _ e n=>n) (fun b ob hc e=>let ⟨sl,q⟩:=any b ob hc e;⟨_,q⟩)
  (fun b xs e=>e) (fun b ob u e=>e) (fun b ps e=>⟨#[],by rw [e];simp⟩) (fun m' hm=>?_) (fun b u e=>?_) I.bare
 ·obtain ⟨f0,f1,f2,f3,f4,f5⟩:=fp b hb
  exact ⟨f3,f1,f4,f5⟩
 ·obtain ⟨ob,es,ep,ho,r⟩:=hm
  obtain ⟨sl,q⟩:=any _ ob (fun z=>(fp _ z).2.1 rfl) ho
  exact ⟨_,es,ep,q,r⟩
 ·refine (I.hok b u e).stay (fun c v hc q=>m.1 c v ?_ ?_ q) (fun c q=>q) fun c xs q=>q
  ·rcases hc with z | z
   ·rw [z];exact nit b u e
   ·exact nit c _ z
  ·rcases hc with z | z
   ·rw [z];exact nfr b u e
   ·exact nfr c _ z
theorem eA.there {P:Program} {w:World} {h:Heap} {a:Addr} {o:HO} (x:eA P w H h a o):∃ o',h.get? a=some o':=by
 cases o with
 | lst xs=>obtain ⟨_,_,_,_,e⟩:=x;exact ⟨_,e⟩
 | tup xs=>obtain ⟨_,_,_,_,e,_⟩:=x;exact ⟨_,e⟩
 | dK kvs=>obtain ⟨_,_,_,_,o,_,_,e,_⟩:=x;exact ⟨_,e⟩
 | dT kvs=>obtain ⟨_,_,_,_,o,_,_,e,_⟩:=x;exact ⟨_,e⟩
 | set S n=>obtain ⟨o,_,_,_,e,_⟩:=x;exact ⟨_,e⟩
 | ins C dx fs=>obtain ⟨_,_,_,e,_⟩:=x;exact ⟨_,e⟩
 | own y=>obtain ⟨_,e⟩:=x;exact ⟨_,e⟩
 | xd fs=>obtain ⟨_,⟨_,_,_,e,_⟩,_⟩:=x;exact ⟨_,e⟩
 | rng lo hi=>obtain ⟨_,_,_,e⟩:=x;exact ⟨_,e⟩
 | frz ob u=>obtain ⟨e,_⟩:=x;exact ⟨_,e⟩
 | tbl ps=>exact ⟨_,(show h.get? a=some _ from x)⟩
 | met f y=>exact ⟨_,(show h.get? a=some _ from x)⟩
 | ext φ=>obtain ⟨_,⟨_,e⟩,_⟩:=x;exact ⟨_,e⟩
theorem HOk.none_ {P:Program} {w:World} {h:Heap} {a:Addr} (x:HOk P w H h) (e:h.get? a=none):H a=none:=by
 cases q:H a with
 | none=>rfl
 | some u=>obtain ⟨o,z⟩:=(x a u q).there;rw [e] at z;cases z
noncomputable def FpN (X:Cx) (pins:List (Addr×Obj)) (H:Hp) (b:Addr):Prop:=
 H b=none∧b≠X.env.locals∧b∉X.fs∧(b∈X.ex∨X.s₀.heap.get? b=none)∧(∀ x c,X.env.cells.lookup x=some c→c≠b)∧∀ p∈X.pn++pins,p.1≠b
theorem FpOk.n {b:Addr} (f:FpOk X pins H b):FpN X pins H b:=⟨f.1,f.2.1,f.2.2.1,f.2.2.2.1.imp id Heap.get?_none_of_le,f.2.2.2.2⟩
theorem Inv.fpN {H':Hp} {b:Addr} (I:Inv X pins σ H s) (hb:s.heap.get? b=none) (hn:H' b=none):FpN X pins H' b:=by
 refine ⟨hn,fun z=>?_,fun z=>?_,?_,fun x c e z=>?_,fun p hp z=>?_⟩
 ·obtain ⟨m,⟨o,es,ep,ho,r⟩,_⟩:=I.loc
  rw [← z,hb] at ho;cases ho
 ·obtain ⟨_,o,ho,_⟩:=I.ok.funs.mem z
  obtain ⟨o',e'⟩:=I.base.there b o ho fun y=>I.ok.exfs b y z
  rw [hb] at e';cases e'
 ·by_cases z:b∈X.ex
  ·exact .inl z
  ·cases q:X.s₀.heap.get? b with
   | none=>exact .inr rfl
   | some o=>obtain ⟨o',e'⟩:=I.base.there b o q z;rw [hb] at e';cases e'
 ·obtain ⟨v,o,q,_⟩:=I.cell x c e
  rw [z,hb] at q;cases q
 ·have:=(I.pin p hp).1
  rw [z,hb] at this;cases this
theorem Inv.mvN {h':Heap} {ch:List Addr} (I:Inv X pins σ H s) (m:Mv ch (frs X.stack) s.heap h') (fp:∀ b∈ch,FpN X pins H b):Inv X pins σ H {s with heap:=h'}:=by
 have out:∀ b o,X.s₀.heap.get? b=some o→b∉X.ex→b∉ch++X.ex:=fun b o e n z=>by
  rcases List.mem_append.mp z with z | z
  ·rcases (fp b z).2.2.2.1 with y | y
   ·exact n y
   ·rw [e] at y;cases y
  ·exact n z
 have sub:∀ b,b∉ch++X.ex→b∉X.ex:=fun b n z=>n (List.mem_append_right _ z)
 have ok:Cx.Ok {X with ex:=ch++X.ex}:=⟨I.ok.mod,I.ok.kind,I.ok.glob,I.ok.blt,I.ok.above,I.ok.inj,I.ok.has,I.ok.cab,I.ok.hd,I.ok.frames,I.ok.stk,
  fun b hb=>(List.mem_append.mp hb).elim (fun z=>⟨(fp b z).2.1,(fp b z).2.2.2.2.1⟩) (I.ok.exf b),I.ok.bs,I.ok.bsz,fun b o e=>out b o (I.ok.bs b o e).1 (I.ok.noex b o e),
  fun b hb=>(List.mem_append.mp hb).elim (fun z=>(fp b z).2.2.1) (I.ok.exfs b),I.ok.funs,I.ok.frf⟩
 have U:=I.base
 have J:Inv {X with ex:=ch++X.ex} pins σ H s:=⟨ok,I.os,I.bare,⟨fun b o e n f z=>U.keep b o e n f (sub b z),fun b o e n f z=>U.slot b o e n f (sub b z),fun b o e n z=>U.free b o e n (sub b z),fun b o e z=>U.there b o e (sub b z),U.tups,U.frzs,U.tbls⟩,
  I.loc,I.cell,I.free,I.freeC,I.pin,I.hok,I.len⟩
 have J':=J.mv (h':=h') (ch:=ch) m fun b hb=>⟨(fp b hb).1,(fp b hb).2.1,(fp b hb).2.2.1,.inl (List.mem_append_left _ hb),(fp b hb).2.2.2.2⟩
 have V:=J'.base
 exact ⟨I.ok,J'.os,J'.bare,⟨fun b o e n f z=>V.keep b o e n f (out b o e z),fun b o e n f z=>V.slot b o e n f (out b o e z),fun b o e n z=>V.free b o e n (out b o e z),fun b o e z=>V.there b o e (out b o e z),V.tups,V.frzs,V.tbls⟩,
  J'.loc,J'.cell,J'.free,J'.freeC,J'.pin,J'.hok,J'.len⟩
structure Fly (X:Cx) (pins:List (Addr×Obj)) (H:Hp) (e:Addr) (C:Value) (dx:Option Addr) (T:Option (Addr×Value)) (h:Heap):Prop where
 at_:Js h e C dx T
 fe:FpN X pins H e
 ft:∀ t fl,T=some (t,fl)→FpN X pins H t
noncomputable def Own (X:Cx):Prop:=X.stack=X.env::X.outer∧X.env.frame=some X.env.locals
theorem Ep {M:Model} {E:Value→Shared→Prop} {e:Addr} {C:Value} {dx:Option Addr} {T:Option (Addr×Value)} {Q:Unit→Shared→Prop} (I:Inv X pins σ H s) (ow:Own X) (f:Fly X pins H e C dx T s.heap)
  (h:∀ h' t,Inv X pins σ H {s with heap:=h'}→Fly X pins H e C dx (some (t,rawInt X.env.locals)) h'→Q () {s with heap:=h'}):wpAny M X.A (noteFrame (.ref e) X.env) Q E s:=by
 obtain ⟨ho,hf⟩:=ow
 have hfr:X.A.frames=some (X.env::X.outer):=by rw [I.ok.frames,ho]
 have hst:s.heap.FunFrames X.base (X.env::X.outer):=by rw [← ho];exact I.stack
 obtain ⟨⟨oe,vs,he,hc,hdx,hd,hsz,hT⟩,fe,ft⟩:=f
 have fin:∀ (s1:Shared) (oe1:Obj) (vs1:Array Value) (hd1:Value) (b1:Bool),Inv X pins σ H s1→s1.heap.objs.size=s.heap.objs.size→s1={s with heap:=s1.heap}→s1.heap.get? e=some oe1→oe1.cls=C→oe1.dict=dx→oe1.data= .fields vs1→1 < vs1.size→
   wpAny M X.A (do let a ← frameOf X.env;let pl ← entryPlaceOf X.env.locals b1;let t ← EntryCells.newEntry hd1 a .none (rawInt X.env.locals) .none pl;setField (.ref e) 1 t) Q E s1:=by
  intro s1 oe1 vs1 hd1 b1 I1 hz hs1 q1 q2 q3 q4 q5
  have hst1:s1.heap.FunFrames X.base (X.env::X.outer):=by rw [← ho];exact I1.stack
  refine Oy hfr hst1 hf q1 q4 q5 fun h' m x=>?_
  have I2:Inv X pins σ H {s1 with heap:=h'}:=I1.mvN (ch:=[e]) (by rw [ho];exact m) fun b hb=>by rw [List.mem_singleton.mp hb];exact fe
  have e2:({s1 with heap:=h'}:Shared)={s with heap:=h'}:=by rw [hs1]
  rw [e2] at I2 ⊢
  rw [q2,q3] at x
  exact h h' _ I2 ⟨x,fe,fun t fl z=>by cases z;exact (I1.fpOk (Nat.le_refl _) (I1.hok.fresh (Nat.le_refl _))).n⟩
 unfold noteFrame
 simp only [hf]
 cases T with
 | none=>
   have h1:vs[1]? =some .none:=hT
   refine wpAny_bind (wpAny_field he hd h1 ?_)
   rw [if_neg (by decide)]
   exact fin s oe vs _ _ I rfl rfl he hc hdx hd hsz
 | some p=>
   obtain ⟨t,fl⟩:=p
   obtain ⟨h1,hte,oT,ts,hTt,hdT,h3⟩:=hT
   refine wpAny_bind (wpAny_field he hd h1 ?_)
   rw [if_pos (show (Value.ref t != Value.none)=true from by simp)]
   refine wpAny_bind (wpAny_field hTt hdT h3 ?_)
   by_cases hz:(fl == rawInt X.env.locals)=true
   ·rw [if_pos hz]
    have hz':=eq_of_beq hz
    subst hz'
    exact wpAny_pure (h s.heap t I ⟨⟨oe,vs,he,hc,hdx,hd,hsz,h1,hte,oT,ts,hTt,hdT,h3⟩,fe,ft⟩)
   ·rw [if_neg hz]
    refine wpAny_bind (wpAny_setField hTt hdT (Array.getElem?_eq_some_iff.mp h3).1 ?_)
    have oth:∀ c,c≠t→(s.heap.update t (Obj.mapFields (·.setIfInBounds 3 Value.none))).get? c=s.heap.get? c:=fun c hc=>Heap.get?_update_other _ _ (Ne.symm hc)
    have m1:Mv [t] (frs X.stack) s.heap (s.heap.update t (Obj.mapFields (·.setIfInBounds 3 Value.none))):=
     ⟨fun b o n _ q=>(oth b (fun z=>n (by rw [z];exact List.mem_singleton.mpr rfl))).trans q,fun b o n _ q=>⟨o.slots,(oth b (fun z=>n (by rw [z];exact List.mem_singleton.mpr rfl))).trans q⟩⟩
    have I1:=I.mvN m1 fun b hb=>by rw [List.mem_singleton.mp hb];exact ft t fl rfl
    exact fin _ oe vs _ _ I1 (Heap.size_after_update ..) rfl ((oth e (Ne.symm hte)).trans he) hc hdx hd hsz
theorem yg {M:Model} {A:Around} {E:Value→Shared→Prop} {e t:Addr} {C:Value} {dx:Option Addr} {fl:Value} {fr:Option Addr} {Q:Unit→Shared→Prop} (I:Inv X pins σ H s) (f:Fly X pins H e C dx (some (t,fl)) s.heap)
  (h:∀ h',Inv X pins σ H {s with heap:=h'}→Fly X pins H e C dx (some (t,fr.elim .none fun f=>rawInt f)) h'→Q () {s with heap:=h'}):wpAny M A (setFlight (.ref e) fr) Q E s:=by
 refine LK f.at_ fun h' k x=>h h' (I.mvN (ch:=[t]) ⟨fun b o n _ q=>k b o (fun z=>n (by rw [z];exact List.mem_singleton.mpr rfl)) q,fun b o n _ q=>⟨o.slots,k b o (fun z=>n (by rw [z];exact List.mem_singleton.mpr rfl)) q⟩⟩ fun b hb=>by rw [List.mem_singleton.mp hb];exact f.ft t fl rfl) ⟨x,f.fe,fun t' fl' z=>by cases z;exact f.ft t fl rfl⟩
end
noncomputable abbrev XW:=St→XK
noncomputable def XE (X:Cx) (W:XW) (e:Value) (s:Shared):Prop:=∃ pins x C dx T σ H,e= .ref x∧Inv X pins σ H s∧Fly X pins H x C dx T s.heap∧W σ C dx H
noncomputable def Thr (X:Cx) (W:XW):Prop:=∀ e s,XE X W e s→X.xe e s
noncomputable abbrev Cx.thr (X:Cx) (W:XW):Cx:=X.wish (XE X W)
noncomputable abbrev W0:XW:=fun _ _ _ _=>False
section
variable {X:Cx} {W:XW} {pins:List (Addr×Obj)} {σ:St} {H:Hp} {s:Shared}
theorem Fly.wish {E:Value→Shared→Prop} {e:Addr} {C:Value} {dx:Option Addr} {T:Option (Addr×Value)} {h:Heap} (f:Fly (X.wish E) pins H e C dx T h):Fly X pins H e C dx T h:=⟨f.at_,f.fe,f.ft⟩
theorem cD:Thr (X.thr W) W:=fun e s ⟨pins,x,C,dx,T,σ,H,he,I,f,w⟩=>⟨pins,x,C,dx,T,σ,H,he,I.unwish,f.wish,w⟩
theorem thr0:Thr X W0:=fun e s ⟨pins,x,C,dx,T,σ,H,he,I,f,w⟩=>w.elim
theorem Hl (ow:Own X):PassesOwn (model X.prog X.w) X.A X.env (XE X W):=by
 intro e s' ⟨pins,x,C,dx,T,σ,H,he,I,f,w⟩
 subst he
 unfold notedBy
 refine Ep I ow f fun h' t I' f'=>?_
 unfold cameBackBy
 obtain ⟨⟨oe,vs,q1,q2,q3,q4,q5,q6,q7⟩,fe,ft⟩:=id f'
 refine wpAny_bind (wpAny_field q1 q4 q6 ?_)
 rw [if_neg (by simp)]
 refine yg I' f' fun h2 I2 f2=>?_
 rw [ow.2] at f2
 exact ⟨pins,x,C,dx,_,σ,H,rfl,I2,f2,w⟩
theorem fA (ow:Own X):PassesOwn (model X.prog X.w) X.A X.env (X.thr W).xe:=Hl ow
theorem PSs.thr {st:List Stmt} {t:TS} (h:PSs (X.thr W) st t) (k:Thr X W):PSs X st t:=fun pins s σ H D I hw=>
 wpAny_mono (h pins s σ H D (I.wish _) hw) (fun _ _ q=>q.unwish) k
end
noncomputable def CX1 (P:Program) (w:World):CXT:=fun outer H s E e s'=>∃ x C dx t H',e= .ref x∧s'.os=s.os∧AllBare s'.gens∧Un (frs outer) [] H H' s.heap s'.heap∧HOk P w H' s'.heap∧
 Js s'.heap x C dx (some (t,.none))∧s.heap.get? x=none∧s.heap.get? t=none∧H' x=none∧H' t=none∧E C dx H'
section
variable {P:Program} {w:World} {K:PySem.W.Frag} {mg:Str→Option Value} {base:Heap}
theorem Of {N:List Str} {qual:Str} {scope:Scope} {f:Addr} {cd:Value} {A:Around} {outer:List Env} {s:Shared} {H:Hp} {E:XK}:
  Thr (cxOf (CX1 P w) P w K mg base N qual scope f cd A outer s H E) fun _=>E:=by
 intro e s' ⟨pins,x,C,dx,T,σ,H',he,I,f',wq⟩
 subst he
 have own:Own (cxOf (CX1 P w) P w K mg base N qual scope f cd A outer s H E):=⟨rfl,rfl⟩
 show wpAny _ _ (leaving _ _) _ _ _
 unfold leaving
 refine wpAny_bind (Ep I own f' fun h1 t I1 f1=>?_)
 refine yg (fr:=none) I1 f1 fun h2 I2 f2=>?_
 have fx:=f2.fe
 have ft:=f2.ft t _ rfl
 have no:∀ b:Addr,(b∈([]:List Addr)∨s.heap.get? b=none)→s.heap.get? b=none:=fun b z=>z.elim (fun q=>absurd q (by simp)) id
 exact ⟨x,C,dx,t,H',rfl,I2.os,I2.bare,I2.base,I2.hok,f2.at_,no x fx.2.2.2.1,no t ft.2.2.2.1,fx.1,ft.1,wq⟩
theorem Fun.okX {x qual:Str} {st:Stmt} {f:Addr} {fd:FuncData} {N ps:List Str} {k:Nat} {sp:Sp} (F:Fun K x qual st f fd) (S:aQ N ps (ae st)) (len:∀ vs H Q E,sp vs H Q E→vs.length=ps.length)
  (hbody:∀ (cdv:Value) (A:Around) (outer:List Env) (s:Shared) (H:Hp) (vs:List V) (Q:VK) (E:XK),Room k (A.deeper (envOfC qual (ae st) s.heap.objs.size f cdv))→sp vs H Q E→
   ∃ t,PSs ((cxOf (CX1 P w) P w K mg base N qual (ae st) f cdv A outer s H E).thr fun _=>E) (aJ st) t∧t {nx:=fun _ H'=>Q .non H',rt:=Q} (start N vs) H):FnOk P w K mg base (CX1 P w) (k + 1) f fd ps sp:=by
 obtain ⟨oc,od,kV,doc,pm,an,cdv,ct,osl,rfl,lk,hcd⟩:=F.ex
 refine Tz lk hcd S len fun A outer s H vs Q E hr hsp=>?_
 obtain ⟨t,h,q⟩:=hbody cdv A outer s H vs Q E hr hsp
 exact ⟨t,h.thr Of,q⟩
end
section
variable {X:Cx} {W:XW} {pins:List (Addr×Obj)} {σ:St} {H:Hp} {s s':Shared}
theorem Inv.afterX {e:Value} (I:Inv X pins σ H s) (hx:Thr X W) (h:CX1 X.prog X.w X.stack H s (W σ) e s'):X.xe e s':=by
 obtain ⟨x,C,dx,t,H',rfl,os,bare,un,hok,ea,zx,zt,nx,nt,w⟩:=h
 refine hx _ _ ⟨pins,x,C,dx,_,σ,H',rfl,I.call' (ch:=[]) os un hok bare (fun b z=>absurd z (by simp)),⟨ea,I.fpN zx nx,fun t' fl z=>?_⟩,w⟩
 cases z
 exact I.fpN zt nt
variable {k:Nat} {f C:Addr} {fd:FuncData} {ps:List Str} {sp:Sp} {dvs:List V} {ds:List Value} {x m:Str} {p pos apos:Pos} {e o:Expr} {es:List Expr} {ta:TE} {t:TA}
theorem Qh {Q:VK} {us:List Value} {vs:List V} (F:FnOk X.prog X.w X.K X.mg X.base (CX1 X.prog X.w) k f fd ps sp) (hr:Room k X.A) (hb:bT X.K fd ps ds) (hd:Vals dvs ds) (hx:Thr X W)
  (I:Inv X pins σ H s) (r:Vals vs us) (h:sp (vs++dvs) H Q (W σ)):wpAny (model X.prog X.w) X.A (call (.ref f) us) (EP X pins σ Q) X.xe s:=by
 have r2:Vals (vs++dvs) (us++ds):=r.append hd
 have hl:(us++ds).length=ps.length:=by rw [← r2.length];exact F.len _ _ _ _ h
 refine wpAny_call (codeAny_mono (F.run X.A X.stack s H ⟨us,[]⟩ (us++ds) (vs++dvs) Q (W σ) hr I.env0 (hb s us I.kIn hl) r2 h) fun r s' hq=>?_)
 cases r with
 | error e=>exact I.afterX hx hq
 | ok fl=>
   cases fl with
   | ret u=>exact I.after hq
   | next=>exact False.elim hq
   | brk=>exact False.elim hq
   | cont=>exact False.elim hq
noncomputable def JW (sp:Sp) (dvs:List V) (W:XW) (t:TA):TE:=fun σ H Q=>t σ H fun vs H1=>sp (vs++dvs) H1 Q (W σ)
theorem Qf {σ:St} {H:Hp} {Q:VK} {sp:Sp} {W:XW} {t:TA} (h:t σ H fun vs H1=>sp vs H1 Q (W σ)):JW sp [] W t σ H Q:=by
 unfold JW
 simpa using h
theorem ja (F:FnOk X.prog X.w X.K X.mg X.base (CX1 X.prog X.w) k f fd ps sp) (hr:Room k X.A) (hg:Gl X x) (hm:X.mg x=some (.ref f)) (hk:PySem.W.keepIn X.K (.ref f)=true) (hb:bT X.K fd ps ds) (hd:Vals dvs ds) (hx:Thr X W)
  (ha:PA X (e::es) t) (hdb:(x == ("__debug__":Str))=false:=by decide) (he:starEach (e::es) X.env=(false,eval e X.env)::starEach es X.env:=by rfl) (hpl:(backTo pos (starEach es X.env)).any (·.1)=false:=by rfl):
  PE X (.Call (.Name x p) (e::es) [] pos) (JW sp dvs W t):=by
 intro pins s σ H Q I h
 refine wpAny_Call_Name_kw (gJ I hg hm ?_ hdb)
 refine PySem.W.callWith_K (h₀:=X.base) I.ok.mod.kin hk (thn (ha pos pins s σ H _ I h) fun us s1 ⟨vs,H1,I1,r,q⟩=>⟨I1.kIn,?_⟩) he hpl
 exact Qh F hr hb hd hx I1 r q
end
structure XCls (h:Heap) (C:Addr) (bmB:List Value) (newId:String):Prop where
 obj:∃ bm N nm q bs hdct sn sub ab col dd k0 k1 k2 k3 k5 mN,h.get? C=some (excClassObj nm q C N bs bm hdct sn sub ab col dd k0 k1 k2 k3 k5 newId)∧h.Ns N mN∧mN "__init__"=none∧OwnTail h bmB bm
theorem PD {K:PySem.W.Frag} {h:Heap} {C:Addr} {bmB:List Value} {newId:String} (X:K.In h) (q:PySem.W.excIn K C bmB newId=true):XCls h C bmB newId:=by
 refine ⟨?_⟩
 unfold PySem.W.excIn at q
 split at q
 next dd cd sl ho=>
  split at q
  next C' bm k0 k1 k2 k3 n k5 hm hs=>
   simp only [Bool.and_eq_true,beq_iff_eq,Bool.not_eq_true'] at q
   obtain ⟨⟨⟨⟨⟨e1,e2⟩,hdel⟩,ht⟩,hok⟩,hni⟩:=q
   subst e1 e2
   cases cd with
   | mk nm bs mro ns qn hd sn sub ab col del=>
   have hm:mro=_:=hm
   have hdel:del=false:=hdel
   subst hm hdel
   have hsl:sl=#[k0,k1,k2,k3,some (.builtin n),k5]:=by rw [← hs]
   subst hsl
   exact ⟨bm,ns,nm,qn,bs,hd,sn,sub,ab,col,dd,k0,k1,k2,k3,k5,_,X _ _ ho,.of_isNs (PySem.W.isNs_of_in X hok),PySem.W.nsMap_none_of_in X hok hni,PySem.W.tail_of_in X ht⟩
  next=>cases q
 next=>cases q
section
variable {X:Cx} {W:XW} {C:Addr} {x:Str} {np cpos pos:Pos} {e:Expr} {es:List Expr} {t:TA} {B newId initId:String} {bmB:List Value}
noncomputable def OU (C:Addr) (W:XW) (t:TA):TS:=fun _ σ H=>t σ H fun vs H1=>vs.length≤sizeLine∧W σ (.ref C) none H1
theorem K8 {pins:List (Addr×Obj)} {σ:St} {H:Hp} {s:Shared} {h':Heap} {a:Addr} {vs:List Value} (I:Inv X pins σ H s) (m:Heap.MadeExcOf s.heap h' a (.ref C) vs):
  Inv X pins σ H {s with heap:=h'}∧Fly X pins H a (.ref C) none none h':=by
 obtain ⟨tt,q1,q2,q3⟩:=m.there
 exact ⟨I.mvN (ch:=[]) ⟨fun b o _ _ e=>m.keeps b o e,fun b o _ _ e=>⟨o.slots,m.keeps b o e⟩⟩ fun b z=>absurd z (by simp),⟨⟨_,_,q1,rfl,rfl,rfl,by simp,by simp⟩,I.fpN m.new (I.hok.none_ m.new),fun t fl z=>by cases z⟩⟩
theorem nL (FB:ExcBaseFacts B newId initId bmB) (q:PySem.W.excIn X.K C bmB newId=true) (hx:Thr X W) (hc:X.calm=true) (hg:Gl X x) (hm:X.mg x=some (.ref C)) (ha:PA X (e::es) t)
  (hdb:(x == ("__debug__":Str))=false:=by decide) (he:starEach (e::es) X.env=(false,eval e X.env)::starEach es X.env:=by rfl) (hpl:(backTo cpos (starEach es X.env)).any (·.1)=false:=by rfl):
  PS X (.Raise (some (.Call (.Name x np) (e::es) [] cpos)) none pos) (OU C W t):=by
 intro pins s σ H D I h
 obtain ⟨tl,N,nm,qn,bs,hdct,sn,sub,ab,col,dd,k0,k1,k2,k3,k5,mN,hC,hN,hni,T⟩:=(PD I.ok.mod.kin q).obj
 refine wpAny_Raise_call_subT (C:=C) (nm:=nm) (q:=qn) (N:=N) (bs:=bs) (bm:=tl) (hdct:=hdct) (sn:=sn) (sub:=sub) (ab:=ab) (col:=col) (dd:=dd) (k0:=k0) (k1:=k1) (k2:=k2) (k3:=k3) (k5:=k5)
  FB (mN:=mN) (T.hasType FB.hasBase) (I.ok.hd hc) (by rw [he];show (false||(backTo cpos (starEach es X.env)).any (·.1))=false;rw [hpl];rfl) hni (gJ I hg hm ⟨rfl,?_⟩ hdb)
 have ha':=ha cpos pins s σ H _ I h
 rw [he] at ha' ⊢
 refine Calls.evalArgs_plain (wpAny_mono ha' (fun us s2 ⟨vs,H1,I1,r,z,w⟩=>⟨rfl,?_,I1.bk _ _ hC,hN.keeps I1.bk,T.keeps I1.bk,fun h' a m=>?_⟩) fun _ _ y=>y)
 ·show us.length≤_
  rw [← r.length];exact z
 ·obtain ⟨I2,f2⟩:=K8 I1 m
  exact hx _ _ ⟨pins,a,.ref C,none,none,σ,H1,rfl,I2,f2,w⟩
end
structure jx (K:PySem.W.Frag) (G:Addr):Prop where
 ty:PySem.W.typeIn K (.ref G)=some (.type "type")
 cls:PySem.W.isClsIn K G=true
 base:PySem.W.mroIn K G (.type "BaseException")=some true
theorem BG {K:PySem.W.Frag} {M:Model} {h:Heap} {G:Addr} (X:K.In h) (c:PySem.W.isClsIn K G=true):PySem.W.Looks M h (isType (.ref G)) true:=by
 unfold PySem.W.isClsIn PySem.W.clsIn at c
 split at c
 next c' d' cd' sl' ho=>
  intro A' Q' E' s' k q
  unfold isType loadHead
  exact wpAny_bind (wpAny_loadPart (k _ _ (X _ _ ho)) (wpAny_pure q))
 next=>cases c
theorem kO {K:PySem.W.Frag} {M:Model} {A:Around} {E:Value→Shared→Prop} {s:Shared} {a G C:Addr} {oe:Obj} {b:Bool} {Q:Bool→Shared→Prop} (X:K.In s.heap) (c:jx K G) (he:s.heap.get? a=some oe) (hc:oe.cls= .ref C)
  (hm:PySem.W.mroIn K C (.ref G)=some b) (q:Q b s):wpAny M A (excMatches (.ref a) (.ref G)) Q E s:=by
 unfold excMatches isInstance
 refine wpAny_bind (wpAny_bind ((PySem.W.looks_typeIn X c.ty).here ?_))
 rw [tc_notTuple]
 refine wpAny_pure ?_
 simp only [Bool.false_eq_true,if_false]
 refine wpAny_bind (wpAny_pure ?_)
 simp only [List.forIn_cons,List.forIn_nil]
 unfold isExcClass
 refine wpAny_bind (wpAny_bind (wpAny_bind (wpAny_bind ((BG X c.cls).here ?_))))
 simp only [if_true]
 refine (PySem.W.looks_mroIn X c.base).here ?_
 simp only [Bool.not_true,Bool.false_eq_true,if_false]
 refine wpAny_pure (wpAny_pure ?_)
 have L:PySem.W.Looks M s.heap (typeOf (.ref a)) (.ref C):=hc ▸ (PySem.W.Looks.ld he).andThen .now
 refine wpAny_bind (L.here ?_)
 refine wpAny_bind (wpAny_bind (wpAny_bind ((PySem.W.looks_mroIn X hm).here ?_)))
 cases b<;>simp only [Bool.false_eq_true,if_false,if_true]
 ·exact wpAny_pure (wpAny_pure (wpAny_pure q))
 ·exact wpAny_pure (wpAny_pure (wpAny_pure q))
section
variable {X:Cx} {pins:List (Addr×Obj)} {σ:St} {H:Hp} {s:Shared}
theorem zF {M:Model} {A:Around} {E:Value→Shared→Prop} {i:Nat} {n:Str} {pos:Pos} {Q:Unit→Shared→Prop} (I:Inv X pins σ H s) (hN:X.N.Nodup) (hi:X.N[i]? =some n) (hk:X.env.scope.names.lookup n=some .local)
  (h:∀ s',Inv X pins (σ.set i none) H s'→Q () s'):wpAny M A (do bindName X.env n .none;unbindBehindTheSuite X.env n pos) Q E s:=by
 obtain ⟨m,hn,hl⟩:=id I.loc
 have hcls:(X.env.scope.kind == .class||(X.env.scope.kind == .module&&X.env.locals != X.env.globals))=false:=by rw [I.ok.kind];rfl
 refine wpAny_nameGoes_keeps hk hn hcls fun h' v hn' hs=>h _ ?_
 obtain ⟨oL,_,_,hoL,_⟩:=id hn
 have far:∀ b o,X.s₀.heap.get? b=some o→b≠X.env.locals:=fun b o e=>Nat.ne_of_lt (Nat.lt_of_lt_of_le (Heap.lt_size e) I.ok.above)
 have U:=I.base
 refine ⟨I.ok,I.os,I.bare,⟨fun b o e n hb hx=>(hs.2 b (far b o e)).trans (U.keep b o e n hb hx),fun b o e n hb hx=>?_,U.free,fun b o e hx=>?_,U.tups,U.frzs,U.tbls⟩,⟨_,hn',fun j y v' e1 e2 e3=>?_⟩,fun y c e=>?_,I.free,I.freeC,fun p hp=>?_,fun b ob e=>?_,by simpa using I.len⟩
 ·obtain ⟨sl,e1⟩:=U.slot b o e n hb hx
  exact ⟨sl,(hs.2 b (far b o e)).trans e1⟩
 ·obtain ⟨o',e1⟩:=U.there b o e hx
  exact ⟨o',(hs.2 b (far b o e)).trans e1⟩
 ·by_cases hj:j=i
  ·subst hj
   have hiσ:j < σ.length:=by rw [I.len];exact (List.getElem?_eq_some_iff.mp hi).1
   rw [List.getElem?_set_self hiσ] at e2
   cases e2
  ·rw [List.getElem?_set_ne (Ne.symm hj)] at e2
   obtain ⟨u',r',q⟩:=hl j y v' e1 e2 e3
   refine ⟨u',r',?_⟩
   rcases q with ⟨k,e⟩ | ⟨k,c,e,z⟩
   ·refine .inl ⟨k,?_⟩
    have:y≠n:=fun e=>hj (zh hN e1 (e ▸ hi))
    simp [this,e]
   ·exact .inr ⟨k,c,e,z.sameBut hs (I.cne y c e)⟩
 ·obtain ⟨w',z⟩:=I.cell y c e
  exact ⟨w',z.sameBut hs (I.cne y c e)⟩
 ·obtain ⟨e,n,ne,nf,d⟩:=I.pin p hp
  exact ⟨(hs.2 p.1 ne).trans e,n,ne,nf,d⟩
 ·refine (I.hok b ob e).stay (fun c w' hc q=>(hs.2 c ?_).trans q) (fun _ q=>q) fun _ _ q=>q
  intro z
  subst z
  rcases hc with hc | hc
  ·rw [← hc,I.free] at e;cases e
  ·rw [I.free] at hc;cases hc
theorem Inv.track {x:Addr} {o:HO} (I:Inv X pins σ H s) (f:FpN X pins H x) (new:eA X.prog X.w (upd H x o) s.heap x o):Inv X pins σ (upd H x o) s:=by
 obtain ⟨f0,f1,f2,f3,f4,f5⟩:=f
 have ne:∀ b u,H b=some u→b≠x:=fun b u e z=>by rw [z,f0] at e;cases e
 have old:∀ b u,H b=some u→upd H x o b=some u:=fun b u e=>by rw [aw (ne b u e)];exact e
 have U:=I.base
 refine ⟨I.ok,I.os,I.bare,⟨U.keep,U.slot,fun b ob e n hx=>?_,U.there,fun b xs e=>old b _ (U.tups b xs e),fun b ob u e=>old b _ (U.frzs b ob u e),fun b ps e=>?_⟩,I.loc,I.cell,?_,fun y c e=>?_,fun p hp=>?_,fun b ob e=>?_,I.len⟩
 ·rw [aw (fun z=>?_)]
  ·exact U.free b ob e n hx
  ·subst z
   rcases f3 with y | y
   ·exact hx y
   ·rw [e] at y;cases y
 ·obtain ⟨m,q⟩:=U.tbls b ps e
  exact ⟨m,old b _ q⟩
 ·rw [aw (Ne.symm f1)];exact I.free
 ·rw [aw (f4 y c e)];exact I.freeC y c e
 ·obtain ⟨e,n,r⟩:=I.pin p hp
  exact ⟨e,by rw [aw (f5 p hp)];exact n,r⟩
 ·by_cases z:b=x
  ·subst z
   rw [aA] at e
   cases e
   exact new
  ·rw [aw z] at e
   exact (I.hok b ob e).stay (fun _ _ _ q=>q) (fun c q=>old c _ q) fun c xs q=>old c _ q
end
noncomputable def ExcO (x:Addr) (C:Value) (dx:Option Addr):HO:= .ext fun h=>∃ oe vs,h.get? x=some oe∧oe.cls=C∧oe.dict=dx∧oe.data= .fields vs
theorem Re {P:Program} {w:World} {H:Hp} {h:Heap} {x:Addr} {C:Value} {dx:Option Addr} {T:Option (Addr×Value)} (e:Js h x C dx T):eA P w H h x (ExcO x C dx):=by
 obtain ⟨oe,vs,q1,q2,q3,q4,_⟩:=e
 exact ⟨⟨oe,vs,q1,q2,q3,q4⟩,⟨oe,q1⟩,fun h1 h2 ⟨oe,vs,q1,q2,q3,q4⟩ k=>⟨oe,vs,k _ q1,q2,q3,q4⟩⟩
noncomputable abbrev Cx.pin (X:Cx) (pins:List (Addr×Obj)):Cx:={X with pn:=X.pn++pins}
noncomputable abbrev Cx.mark (X:Cx) (pins:List (Addr×Obj)) (e:Value):Cx:={X with A:=X.A.mark (some e),calm:=false,pn:=X.pn++pins,xe:=fun _ _=>False}
section
variable {X:Cx} {pins pins':List (Addr×Obj)} {σ:St} {H:Hp} {s:Shared} {e:Value}
theorem Inv.toPin (I:Inv X pins σ H s):Inv (X.pin pins) [] σ H s:=
 ⟨⟨I.ok.mod,I.ok.kind,I.ok.glob,I.ok.blt,I.ok.above,I.ok.inj,I.ok.has,I.ok.cab,I.ok.hd,I.ok.frames,I.ok.stk,I.ok.exf,I.ok.bs,I.ok.bsz,I.ok.noex,I.ok.exfs,I.ok.funs,I.ok.frf⟩,I.os,I.bare,I.base,I.loc,I.cell,I.free,I.freeC,
   fun p hp=>I.pin p (by simpa using hp),I.hok,I.len⟩
theorem Inv.ofPin (ok:X.Ok) (I:Inv (X.pin pins) pins' σ H s):Inv X pins σ H s:=
 ⟨ok,I.os,I.bare,I.base,I.loc,I.cell,I.free,I.freeC,fun p hp=>I.pin p (List.mem_append_left _ hp),I.hok,I.len⟩
theorem Inv.toMark (I:Inv X pins σ H s):Inv (X.mark pins e) [] σ H s:=
 ⟨⟨I.ok.mod,I.ok.kind,I.ok.glob,I.ok.blt,I.ok.above,I.ok.inj,I.ok.has,I.ok.cab,(fun z=>absurd (show false=true from z) (by decide)),I.ok.frames,I.ok.stk,I.ok.exf,I.ok.bs,I.ok.bsz,I.ok.noex,I.ok.exfs,I.ok.funs,I.ok.frf⟩,I.os,I.bare,I.base,I.loc,I.cell,I.free,I.freeC,
   fun p hp=>I.pin p (by simpa using hp),I.hok,I.len⟩
theorem Inv.ofMark (ok:X.Ok) (I:Inv (X.mark pins e) pins' σ H s):Inv X pins σ H s:=
 ⟨ok,I.os,I.bare,I.base,I.loc,I.cell,I.free,I.freeC,fun p hp=>I.pin p (List.mem_append_left _ hp),I.hok,I.len⟩
theorem FpN.ofPin {b:Addr} (f:FpN (X.pin pins) pins' H b):FpN X pins H b:=⟨f.1,f.2.1,f.2.2.1,f.2.2.2.1,f.2.2.2.2.1,fun p hp=>f.2.2.2.2.2 p (List.mem_append_left _ hp)⟩
theorem Fly.ofPin {x:Addr} {C:Value} {dx:Option Addr} {T:Option (Addr×Value)} {h:Heap} (f:Fly (X.pin pins) pins' H x C dx T h):Fly X pins H x C dx T h:=⟨f.at_,f.fe.ofPin,fun t fl z=>(f.ft t fl z).ofPin⟩
end
noncomputable def Ends.less (D:Ends) (i:Nat):Ends:={nx:=fun σ H=>D.nx (σ.set i none) H,rt:=D.rt,bk:=fun σ H=>D.bk (σ.set i none) H,ct:=fun σ H=>D.ct (σ.set i none) H}
noncomputable def WTry (K:PySem.W.Frag) (G:Addr) (i:Nat) (Wo:XW) (ts:TS) (D:Ends):XW:=fun σ C dx H=>∃ c,C= .ref c∧((PySem.W.mroIn K c (.ref G)=some true∧∀ x,H x=none→ts (D.less i) (σ.set i (some (.ref x))) (upd H x (ExcO x C dx)))∨
 (PySem.W.mroIn K c (.ref G)=some false∧Wo σ C dx H))
structure XIsi (K:PySem.W.Frag) (D:Addr):Prop where
 cls:PySem.W.isClsIn K D=true
 ga:PySem.W.findIn K (.ref D) "__getattribute__"=some (some (.builtin "BaseException.__getattribute__"))
 gr:PySem.W.findIn K (.ref D) "__getattr__"=some none
 ha:PySem.W.findIn K (.ref D) "__class__"=some (some (.builtin "object.__class__"))
 hn:PySem.W.specialIn K (.builtin "object.__class__") "__get__"=some (some (.builtin "getset_descriptor.__get__"))
 tk:PySem.W.takesIn K (.builtin "object.__class__")=some true
 hm:PySem.W.mroIn K D (.type "object")=some true
 base:PySem.W.mroIn K D (.type "BaseException")=some true
noncomputable def dV:V→Value
 | .ref a=> .ref a
 | .ty n=> .type n
 | _=> .none
section
variable {σ:St} {H:Hp} {Q:VK} {D:Ends} {W:XW} {t:TA}
theorem P5 {C:Addr} (h:t σ H fun vs H1=>vs.length≤sizeLine∧W σ (.ref C) none H1):OU C W t D σ H:=h
theorem sZ {K:PySem.W.Frag} {G c:Addr} {i:Nat} {Wo:XW} {ts:TS} {dx:Option Addr} (m:PySem.W.mroIn K c (.ref G)=some true) (h:∀ x H',H x=none→Upd H H' x (ExcO x (.ref c) dx)→ts (D.less i) (σ.set i (some (.ref x))) H'):WTry K G i Wo ts D σ (.ref c) dx H:=
 ⟨c,rfl,.inl ⟨m,fun x n=>h x _ n Upd.of⟩⟩
theorem xW {K:PySem.W.Frag} {G c:Addr} {i:Nat} {Wo:XW} {ts:TS} {dx:Option Addr} (m:PySem.W.mroIn K c (.ref G)=some false) (h:Wo σ (.ref c) dx H):WTry K G i Wo ts D σ (.ref c) dx H:=⟨c,rfl,.inr ⟨m,h⟩⟩
theorem FT {i:Nat} (h:D.nx (σ.set i none) H):(D.less i).nx σ H:=h
end
theorem zA {K:PySem.W.Frag} {C:Addr} {b:Bool} (h:PySem.W.mroIn K C (.type "ValueError")=some b):PySem.W.kitOne K (.ref C) (.type "ValueError")=some b:=by
 unfold PySem.W.kitOne
 rw [if_neg (fun z=>by cases beq_iff_eq.mp z)]
 unfold PySem.W.kitCls
 dsimp only
 rw [if_pos (by decide +kernel)]
 exact h
theorem yH {X:Cx} {K:PySem.W.Frag} {es:List Expr} {k:Nat} {t:TGs} {n:Nat} {pos:Pos} (h:X.K=K) (hc:X.calm=true) (ht:PGs X es t)
  (hn:(assignEach es X.env).length=n:=by rfl) (hst:(assignEach es X.env).findIdx? (·.1)=none:=by rfl):PG X (.Tuple es k pos) (gTup K n t):=by subst h;exact x6 hc ht hn hst
theorem Bd {α β:Type} {F:α→β→Prop}:∀ {l:List α} {m:List β},l.length=m.length→(∀ (i:Nat) (a:α) (b:β),l[i]? =some a→m[i]? =some b→F a b)→Paired F l m
 | [],[],_,_=> .nil
 | a::l,b::m,hl,h=> .cons (h 0 a b rfl rfl) (Bd (by simpa using hl) fun i x y hx hy=>h (i + 1) x y (by simpa using hx) (by simpa using hy))
 | [],_::_,hl,_=>by simp at hl
 | _::_,[],hl,_=>by simp at hl
section
variable {σ:St} {H:Hp} {Q:VK} {D:Ends} {te ty tv td:TE} {x y v:V}
noncomputable def T9 (y:V) (Q:VK) (x:V) (H:Hp):Prop:=∃ a o,x= .ref a∧DGet H a y o∧Q (.bl o.isSome) H
theorem UB (h:ty σ H fun y H1=>td σ H1 (T9 y Q)):tDIn ty td σ H Q:=h
theorem Ko {p:Addr} {kvs:List (Key×V)} {z:Str} (e:H p=some (.dK kvs)) (h:Q (.bl (valV kvs (Sum.inr z)).isSome) H):T9 (.str z) Q (.ref p) H:=⟨p,_,rfl,DGet.k (k:=Sum.inr z) e,h⟩
noncomputable def Pp (y:V) (Q:VK) (x:V) (H:Hp):Prop:=∃ a o,x= .ref a∧DGet H a y o∧Q (.bl (!o.isSome)) H
theorem SG (h:ty σ H fun y H1=>td σ H1 (Pp y Q)):JV ty td σ H Q:=h
theorem Qd {p:Addr} {kvs:List (Key×V)} {z:Str} (e:H p=some (.dK kvs)) (h:Q (.bl (!(valV kvs (Sum.inr z)).isSome)) H):Pp (.str z) Q (.ref p) H:=⟨p,_,rfl,DGet.k (k:=Sum.inr z) e,h⟩
theorem pe {l b:Addr} {xs zs:List V} (e:H l=some (.lst xs)) (e':H b=some (.lst zs)) (hz:xs.length + zs.length≤sizeLine) (h:∀ p H2,H p=none→Same H H2→H2 p=some (.lst (xs++zs))→Q (.ref p) H2):rCat (.ref l) (.ref b) H Q:=⟨l,b,xs,zs,rfl,rfl,e,e',hz,gC h⟩
end
section
variable {X:Cx}
theorem BF {α β:Type} (f:α→β):∀ (l:List α) (j:Nat),(l.eraseIdx j).map f=(l.map f).eraseIdx j
 | [],_=>rfl
 | a::l,0=>rfl
 | a::l,j + 1=>by simp [List.eraseIdx,BF f l j]
end
noncomputable def RH (K:PySem.W.Frag) (G:Addr) (Wo:XW) (ts:TS) (D:Ends):XW:=fun σ C dx H=>∃ c,C= .ref c∧((PySem.W.mroIn K c (.ref G)=some true∧ts D σ H)∨(PySem.W.mroIn K c (.ref G)=some false∧Wo σ C dx H))
section
variable {K:PySem.W.Frag} {G:Addr} {Wo:XW} {tb:XW→TS} {ts:TS} {D:Ends} {σ:St} {H:Hp}
theorem Kp {c:Addr} {dx:Option Addr} (m:PySem.W.mroIn K c (.ref G)=some true) (h:ts D σ H):RH K G Wo ts D σ (.ref c) dx H:=⟨c,rfl,.inl ⟨m,h⟩⟩
end
section
variable {X:Cx} {W:XW} {k:Nat} {f C:Addr} {fd:FuncData} {ps:List Str} {sp:Sp} {dvs:List V} {ds:List Value} {x m:Str} {p pos apos:Pos} {e o:Expr} {es:List Expr} {ta:TE} {t:TA}
theorem Kq {pins:List (Addr×Obj)} {σ:St} {H:Hp} {s:Shared} {Q:VK} {us:List Value} {vs:List V} (M:Mk X.K C f) (F:FnOk X.prog X.w X.K X.mg X.base (CX1 X.prog X.w) k f fd ps sp) (hr:Room (k + 1) X.A) (hb:bT X.K fd ps ds) (hd:Vals dvs ds)
  (hx:Thr X W) (I:Inv X pins σ H s) (r:Vals vs us)
  (h:∀ x dx,H x=none→H dx=none→dx≠x→sp (.ref x::(vs++dvs)) (upd (upd H dx (.own x)) x (.ins C dx [])) (fun v H2=>v= .non∧Q (.ref x) H2) (W σ)):
  wpAny (model X.prog X.w) X.A (call (.ref C) us) (EP X pins σ Q) X.xe s:=by
 have hq:=h (s.heap.objs.size + 1) s.heap.objs.size (I.hok.fresh (Nat.le_succ _)) (I.hok.fresh (Nat.le_refl _)) (Nat.ne_of_lt (Nat.lt_succ_self _))
 have I2:=Inv.made (C:=C) I
 have r2:Vals (V.ref (s.heap.objs.size + 1)::(vs++dvs)) (Value.ref (s.heap.objs.size + 1)::(us++ds)):= .cons rfl (r.append hd)
 have hl:(Value.ref (s.heap.objs.size + 1)::us++ds).length=ps.length:=by
  have e:=r2.length
  rw [F.len _ _ _ _ hq] at e
  exact e.symm
 refine wpAny_call (F8 (f:=f) I.kIn M.makes M.init (beq_iff_eq.mp M.fn) (codeAny_mono (F.run _ X.stack _ _ ⟨Value.ref (s.heap.objs.size + 1)::us,[]⟩ (Value.ref (s.heap.objs.size + 1)::(us++ds)) _ _ (W σ) (hr.make C us [])
  (I2.env0.make C us []) (hb _ (Value.ref (s.heap.objs.size + 1)::us) I2.kIn hl) r2 hq) fun r s' hq'=>?_))
 cases r with
 | error e=>exact I2.afterX hx hq'
 | ok fl=>
   cases fl with
   | ret u=>
     obtain ⟨v,H',I3,rv,ev,q3⟩:=I2.after hq'
     subst ev
     exact ⟨rv,⟨V.ref (s.heap.objs.size + 1),H',I3,rfl,q3⟩⟩
   | next=>exact False.elim hq'
   | brk=>exact False.elim hq'
   | cont=>exact False.elim hq'
noncomputable def OV (C:Addr) (sp:Sp) (dvs:List V) (W:XW) (t:TA):TE:=fun σ H Q=>t σ H fun vs H1=>∀ x dx,H1 x=none→H1 dx=none→dx≠x→sp (.ref x::(vs++dvs)) (upd (upd H1 dx (.own x)) x (.ins C dx [])) (fun v H2=>v= .non∧Q (.ref x) H2) (W σ)
theorem FZ (M:Mk X.K C f) (F:FnOk X.prog X.w X.K X.mg X.base (CX1 X.prog X.w) k f fd ps sp) (hr:Room (k + 1) X.A) (hg:Gl X x) (hm:X.mg x=some (.ref C)) (hb:bT X.K fd ps ds) (hd:Vals dvs ds) (hx:Thr X W)
  (ha:PA X (e::es) t) (hdb:(x == ("__debug__":Str))=false:=by decide) (he:starEach (e::es) X.env=(false,eval e X.env)::starEach es X.env:=by rfl) (hpl:(backTo pos (starEach es X.env)).any (·.1)=false:=by rfl):
  PE X (.Call (.Name x p) (e::es) [] pos) (OV C sp dvs W t):=by
 intro pins s σ H Q I h
 refine wpAny_Call_Name_kw (gJ I hg hm ?_ hdb)
 refine PySem.W.callWith_K (h₀:=X.base) I.ok.mod.kin M.kp (thn (ha pos pins s σ H _ I h) fun us s1 ⟨vs,H1,I1,r,q⟩=>⟨I1.kIn,?_⟩) he hpl
 exact Kq M F hr hb hd hx I1 r q
end
open AutoSeq1 (wpAny_loadPart')
section
variable {prog:Program} {w:World} {A:Around} {E:Value→Shared→Prop} {s:Shared}
theorem pL {it t:Addr} {i:Nat} {items:Array Value} {x:Value} {Q:Value→Shared→Prop} (hit:s.heap.IsTupleIter it t i) (ht:s.heap.IsTuple t items) (hx:items[i]? =some x)
  (hQ:∀ h',h'.IsTupleIter it t (i + 1)→Heap.SameBut it s.heap h'→Q x {s with heap:=h'}):
  wpAny (model prog w) A (Builtin.SmallTypes.nextOf (.ref it)) Q E s:=by
 obtain ⟨o,ho,hc,hd⟩:=id hit
 obtain ⟨ol,hol,_,nl,hdl⟩:=ht
 unfold Builtin.SmallTypes.nextOf
 refine wpAny_bind (wpAny_callSpecial?_slot (name:=Str.ofString "__next__") hit.typeIs F.slot_tuple_iterator_next
  (wpAny_call_entry F.slot_tuple_iterator_next hit.typeIs F.entry_tuple_iterator_next ?_ (F.args_tuple_iterator_next_1 _)))
 show wpAny _ _ (field (.ref it) 0 >>=_) _ _ s
 refine wpAny_bind (wpAny_field ho hd (x:= .ref t) rfl ?_)
 show wpAny _ _ (if (Value.ref t == Value.none)=true then _ else _) _ _ s
 rw [if_neg (show ¬ ((Value.ref t == Value.none)=true) from Bool.false_ne_true)]
 show wpAny _ _ (field (.ref it) 1 >>=_) _ _ s
 refine wpAny_bind (wpAny_field ho hd (x:= .int i 0) rfl ?_)
 show wpAny _ _ (seqItems? (.ref t) >>=_) _ _ s
 refine wpAny_bind (wpAny_seqItems hol hdl ?_)
 simp only [Int.toNat_natCast,hx]
 refine wpAny_bind (wpAny_setField ho hd (by simp) (wpAny_pure ⟨x,rfl,wpAny_pure (hQ _ ?_ (Heap.SameBut.update ..))⟩))
 exact ⟨_,Heap.get?_update_self _ ho (Obj.isFreed_of_fields (Obj.data_mapFields hd _)),(Obj.cls_mapFields ..).trans hc,by
  rw [Obj.data_mapFields hd];simp [rawInt]⟩
theorem r8 {it t:Addr} {i:Nat} {items:Array Value} {Q:Value→Shared→Prop} (hh:A.handled=none) (hit:s.heap.IsTupleIter it t i) (ht:s.heap.IsTuple t items) (hx:items[i]? =none)
  (hE:∀ h' e,Heap.ExtBut it s.heap h'→(∃ o,h'.get? e=some o∧o.cls= .type "StopIteration")→E (.ref e) {s with heap:=h'}):
  wpAny (model prog w) A (Builtin.SmallTypes.nextOf (.ref it)) Q E s:=by
 obtain ⟨o,ho,hc,hd⟩:=id hit
 obtain ⟨ol,hol,_,nl,hdl⟩:=ht
 unfold Builtin.SmallTypes.nextOf
 refine wpAny_bind (wpAny_callSpecial?_slot (name:=Str.ofString "__next__") hit.typeIs F.slot_tuple_iterator_next
  (wpAny_call_entry F.slot_tuple_iterator_next hit.typeIs F.entry_tuple_iterator_next ?_ (F.args_tuple_iterator_next_1 _)))
 show wpAny _ _ (field (.ref it) 0 >>=_) _ _ s
 refine wpAny_bind (wpAny_field ho hd (x:= .ref t) rfl ?_)
 show wpAny _ _ (if (Value.ref t == Value.none)=true then _ else _) _ _ s
 rw [if_neg (show ¬ ((Value.ref t == Value.none)=true) from Bool.false_ne_true)]
 show wpAny _ _ (field (.ref it) 1 >>=_) _ _ s
 refine wpAny_bind (wpAny_field ho hd (x:= .int i 0) rfl ?_)
 show wpAny _ _ (seqItems? (.ref t) >>=_) _ _ s
 refine wpAny_bind (wpAny_seqItems hol hdl ?_)
 simp only [Int.toNat_natCast,hx]
 refine wpAny_bind (wpAny_rule (wpAny_bind (wpAny_setField ho hd (by simp) ?_)))
 show wpAny _ _ (newExc (.type "StopIteration") [] >>=_) _ _ _
 refine wpAny_bind ?_
 simp only [newExc,newTuple]
 refine wpAny_bind (wpAny_newObj_type ?_ (by size_fits))
 refine wpAny_bind (m:=firstArgMember _ _) (wpAny_of_eq (a:=Value.none) (by first | rfl | (simp only [firstArgMember];rfl)) ?_)
 refine wpAny_newObj_type ?_ (by size_fits)
 simp only [raiseNew]
 refine wpAny_bind (wpAny_handled ?_)
 first | rw [show A.in1.handled=none from hh] | rw [hh]
 refine wpAny_bind (wpAny_pure (wpAny_throw ?_))
 exact hE _ _ (((Heap.SameBut.update ..).extBut.push _).push _) ⟨_,Heap.get?_push_size _ rfl,rfl⟩
end
theorem Draws.tuple {prog:Program} {w:World} {A:Around} (hh:A.handled=none) (it l:Addr) (hne:l≠it) (items:Array Value):
  Draws prog w A it [it,l] items.size (fun i v=>items[i]? =some v) (fun i h=>h.IsTupleIter it l i∧h.IsTuple l items) where
 live:=fun _ _ st=>let ⟨o,ho,_⟩:=st.1;⟨o,ho⟩
 frame:=fun _ _ _ st hk=>⟨let ⟨o,ho,r⟩:=st.1;⟨o,hk it (by simp) o ho,r⟩,let ⟨o,ho,r⟩:=st.2;⟨o,hk l (by simp) o ho,r⟩⟩
 item:=fun i s Q E hi st hQ=>by
  refine pL st.1 st.2 (x:=items[i]) (by simp [hi]) fun h' hit' hs'=>?_
  exact hQ _ h' s.toks (by simp [hi]) ⟨hit',st.2.extBut hs'.extBut hne⟩ hs'
 done:=fun s Q E st hE=>r8 hh st.1 st.2 (by simp) hE
theorem kZ (l:Addr) (items:Array Value) (n:Nat) (dct:Option Addr) (sl:Array (Option Value)):
  Meets (Builtin.«enumerate.__new__» ⟨[.type "enumerate",.ref l],[]⟩) (fun _ R s=>s.heap.get? l=some {cls:= .type "tuple",dict:=dct,data:= .seq items n,slots:=sl}∧
   R (.ok (.ret (.ref (s.heap.push {cls:= .type "tuple_iterator",data:= .fields #[.ref l,.int 0 0]}).objs.size)))
     {s with heap:=(s.heap.push {cls:= .type "tuple_iterator",data:= .fields #[.ref l,.int 0 0]}).push {cls:= .type "enumerate",data:= .fields #[.none,.bool false,.ref s.heap.objs.size,rawInt 0,.none,.none]}}):=
 .of_wp fun prog w A R s h=>by
  obtain ⟨hp,g,d,tk,os⟩:=s;obtain ⟨hl,h⟩:=h
  have hsub:=sub_enumerate
  have hL:Heap.IsTuple (Shared.heap ⟨hp,g,d,tk,os⟩) l items:=⟨_,hl,rfl,n,rfl⟩
  wp_walk using wpAny_loadPart' hl
  refine wpAny_stack_any fun st=>wpAny_pure ?_
  split
  ·rename_i c _ _ _ _ _
   cases (c == Value.type "enumerate")
   ·wp_walk using wpAny_loadPart' hl,wpAny_pyIter_tuple hL
    exact ⟨_,rfl,h⟩
   ·wp_walk using wpAny_loadPart' hl,wpAny_pyIter_tuple hL
    exact ⟨_,rfl,h⟩
  ·wp_walk using wpAny_loadPart' hl,wpAny_pyIter_tuple hL
   exact ⟨_,rfl,h⟩
theorem k7 {prog:Program} {w:World} {A:Around} {E:Value→Shared→Prop} {s:Shared} {l:Addr} {items:Array Value} {Q:Value→Shared→Prop} (hL:s.heap.IsTuple l items)
  (h:∀ h',IsEnum h' (s.heap.objs.size + 1) s.heap.objs.size 0 .none→h'.IsTupleIter s.heap.objs.size l 0→h'.objs.size=s.heap.objs.size + 2→
   (∀ b o,s.heap.get? b=some o→h'.get? b=some o)→Q (.ref (s.heap.objs.size + 1)) {s with heap:=h'}):
  wpAny (model prog w) A (call (.type "enumerate") [.ref l]) Q E s:=by
 obtain ⟨⟨c,dct,dt,sl⟩,hl,hc,n,hd⟩:=hL
 replace hc:c= .type "tuple":=hc
 replace hd:dt= .seq items n:=hd
 subst hc hd
 refine callType_new F.called_enumerate (by decide) (F.typeCall_enumerate_1 _) (F.newCall_enumerate_1 _) (fun obj=>F.args_object_init_2 obj _) F.entry_enumerate_new
  (kZ l items n dct sl) ⟨hl,?_⟩
 have hz:(s.heap.push {cls:= .type "tuple_iterator",data:= .fields #[.ref l,.int 0 0]}).objs.size=s.heap.objs.size + 1:=Heap.size_push ..
 show _∧_
 rw [hz]
 have he:IsEnum ((s.heap.push {cls:= .type "tuple_iterator",data:= .fields #[.ref l,.int 0 0]}).push
   {cls:= .type "enumerate",data:= .fields #[.none,.bool false,.ref s.heap.objs.size,rawInt 0,.none,.none]}) (s.heap.objs.size + 1) s.heap.objs.size 0 .none:=by
  have:=Heap.get?_push_size (s.heap.push {cls:= .type "tuple_iterator",data:= .fields #[.ref l,.int 0 0]})
   (o:={cls:= .type "enumerate",data:= .fields #[.none,.bool false,.ref s.heap.objs.size,rawInt 0,.none,.none]}) rfl
  rw [hz] at this;exact this
 refine ⟨⟨_,he,rfl⟩,h _ he ⟨_,Heap.get?_push_of_some _ (Heap.get?_push_size _ rfl),rfl,rfl⟩ (by rw [Heap.size_push,hz]) fun b o x=>Heap.get?_push_of_some _ (Heap.get?_push_of_some _ x)⟩
noncomputable def Itet (K:PySem.W.Frag) (a:Addr):It:=
 ⟨fun i H=>∃ xs x,SqT K H a xs∧xs[i]? =some x,fun i H x H'=>∃ p v,H p=none∧x= .ref p∧H'=upd H p (.tup [.int i,v])∧∀ xs,SqT K H a xs→xs[i]? =some v,fun i H=>∃ xs,SqT K H a xs∧xs.length=i⟩
theorem GS {P:Program} {w:World} {K:PySem.W.Frag} {elts:List Expr} {k:Nat} {pos:Pos} (a e it:Addr) (hei:e≠it):
  Turn P w K (.Tuple elts k pos) (Itet K a) [e,it] e (fun i h=>(∃ old,IsEnum h e it i old)∧h.IsTupleIter it a i) where
 mem:=by simp
 obj:=fun i h st b hb=>by
  obtain ⟨⟨old,he⟩,⟨o,ho,hc,hd⟩⟩:=st
  rcases List.mem_cons.mp hb with z | z
  ·subst z;exact ⟨_,he,fun v z=>by cases z⟩
  ·rw [List.mem_singleton.mp z];exact ⟨o,ho,fun v z=>by rw [hd] at z;cases z⟩
 keep:=fun i h h' st k=>⟨let ⟨old,he⟩:=st.1;⟨old,k e (by simp) _ he⟩,(let ⟨o,ho,r⟩:=st.2;⟨o,k it (by simp) o ho,r⟩)⟩
 item:=by
  intro X hP hw hK hc i pins s σ H E I hf st hg
  subst hP hw hK
  obtain ⟨xs,x,hq,hx⟩:=hg
  obtain ⟨its,rv,p,hz⟩:=I.tuple hq
  have pT:s.heap.IsTuple a its.toArray:=p
  obtain ⟨⟨old,he⟩,hl⟩:=st
  have hai:a≠it:=fun z=>by
   obtain ⟨o,ho,hcl,_⟩:=hl
   obtain ⟨o',ho',hcl',_⟩:=pT
   rw [z,ho] at ho';cases ho';rw [hcl] at hcl';exact absurd hcl' (by decide)
  have hae:a≠e:=fun z=>by
   obtain ⟨o',ho',hcl',_⟩:=pT
   rw [z,he] at ho';cases ho';exact absurd (show Value.type "enumerate"= .type "tuple" from hcl') (by decide)
  have W:=WalksT.enumerateD (prog:=X.prog) (w:=X.w) (A:=X.A) (Draws.tuple (A:=X.A.in1) (I.ok.hd hc) it a hai its.toArray) e hei (by simp [hei,Ne.symm hae]) (by simp)
  have hi:i < its.toArray.size:=by have:=rv.length;have:=(List.getElem?_eq_some_iff.mp hx).1;simp;omega
  refine W.item i s _ _ hi ⟨⟨old,he⟩,hl,pT⟩ fun T vals h' tk hPt hT htup hmid hk=>⟨_,rfl,W.go elts k pos i T _ _ _ hmid fun h'' hst hk2=>?_⟩
  obtain ⟨t,x',hx',rfl⟩:=hPt
  have hap:=W.apart i T h' hmid
  have ru:RelV x x':=by
   obtain ⟨u,hu,r⟩:=rv.get hx
   have hx'':its[i]? =some x':=by simpa using hx'
   rw [hu] at hx'';cases hx'';exact r
  have kk:∀ b u,b∉[e,it]→s.heap.get? b=some u→h''.get? b=some u:=fun b u hb q=>hk2 b u hb (hk b u hb q)
  have fr:H T=none:=I.hok.fresh hT
  refine ⟨.ref T,upd H T (.tup [.int i,x]),I.laidCh (t':=tk) kk hT ⟨JO,[.int i t,x'],.cons ⟨t,rfl⟩ (.cons ru .nil),?_⟩ hf,rfl,⟨T,x,fr,rfl,rfl,fun ys hy=>by rw [I.tuple_inj hy hq];exact hx⟩,⟨hst.1,hst.2.1⟩,fun b hb=>?_⟩
  ·obtain ⟨o,ho,r⟩:=htup
   exact ⟨o,hk2 T o hap ho,r⟩
  ·have fb:=(hf b hb)
   rw [aw (fun z=>?_)]
   ·exact fb.1
   ·have lt:b < s.heap.objs.size:=by
     rcases List.mem_cons.mp hb with z | z
     ·subst z;exact Heap.lt_size he
     ·rw [List.mem_singleton.mp z];obtain ⟨o,ho,_⟩:=hl;exact Heap.lt_size ho
    rw [z] at lt
    exact absurd (Nat.lt_of_lt_of_le lt hT) (Nat.lt_irrefl _)
 done:=by
  intro X hP hw hK hc i pins s σ H E I hf st hg
  subst hP hw hK
  obtain ⟨xs,hq,hx⟩:=hg
  obtain ⟨its,rv,p,hz⟩:=I.tuple hq
  have pT:s.heap.IsTuple a its.toArray:=p
  obtain ⟨⟨old,he⟩,hl⟩:=st
  have hai:a≠it:=fun z=>by
   obtain ⟨o,ho,hcl,_⟩:=hl
   obtain ⟨o',ho',hcl',_⟩:=pT
   rw [z,ho] at ho';cases ho';rw [hcl] at hcl';exact absurd hcl' (by decide)
  have hae:a≠e:=fun z=>by
   obtain ⟨o',ho',hcl',_⟩:=pT
   rw [z,he] at ho';cases ho';exact absurd (show Value.type "enumerate"= .type "tuple" from hcl') (by decide)
  have W:=WalksT.enumerateD (prog:=X.prog) (w:=X.w) (A:=X.A) (Draws.tuple (A:=X.A.in1) (I.ok.hd hc) it a hai its.toArray) e hei (by simp [hei,Ne.symm hae]) (by simp)
  have hn:its.toArray.size=i:=by have:=rv.length;simp;omega
  subst hn
  exact W.done s _ _ ⟨⟨old,he⟩,hl,pT⟩ fun h' tk hk=>⟨rfl,I.turnedCh hk hf⟩
 self:=fun _ _ _ _ _ st h=>let ⟨_,he⟩:=st.1;wpAny_pyIter_enum he h
noncomputable def Pc (K:PySem.W.Frag) (tl:TE):TI:=fun σ H R=>tl σ H fun x H1=>∃ a,x= .ref a∧(((∃ xs,SqL K H1 a xs)∧R (Ite K a) H1)∨((∃ xs,SqT K H1 a xs)∧R (Itet K a) H1))
section
variable {X:Cx} {K:PySem.W.Frag}
theorem yG {l:Expr} {tl:TE} {elts:List Expr} {k:Nat} {tpos p pos:Pos} (h:X.K=K) (hg:Gl X "enumerate") (hm:X.mg "enumerate"=none) (hl:PE X l tl) (hs:starEach [l] X.env=[(false,eval l X.env)]:=by rfl):
  PI X (.Tuple elts k tpos) (.Call (.Name "enumerate" p) [l] [] pos) (Pc K tl):=by
 subst h
 intro pins s σ H R I h
 refine Call_ (lM I hg hm boot_enumerate (PyProof.Rows.callWith_type1 (thn (aa hl ad hs pos pins s σ H (fun vs H1=>match vs with | [x]=>∃ a,x= .ref a∧(((∃ xs,SqL X.K H1 a xs)∧R (Ite X.K a) H1)∨((∃ xs,SqT X.K H1 a xs)∧R (Itet X.K a) H1)) | _=>False) I h) fun us s1 ⟨vs,H1,I1,r1,q1⟩=>?_) hs rfl))
 match vs,r1,q1 with
 | [x],r1,q1=>
 obtain ⟨u,rfl,ru⟩:=r1.one
 obtain ⟨a,rfl,q1⟩:=q1
 cases ru
 have fin:∀ b∈[s1.heap.objs.size + 1,s1.heap.objs.size],FpOk X pins H1 b:=fun b hb=>by
  have hb':s1.heap.objs.size≤b:=(List.mem_cons.mp hb).elim (fun z=>by rw [z];exact Nat.le_succ _) (fun z=>by rw [List.mem_singleton.mp z];exact Nat.le_refl _)
  exact I1.fpOk hb' (I1.hok.fresh hb')
 rcases q1 with ⟨⟨xs,hq⟩,q⟩ | ⟨⟨xs,hq⟩,q⟩
 ·obtain ⟨its,rv,pl,hz⟩:=I1.list hq
  refine call_enumerate_list pl.isList fun h' he hit hsz hk=>wpAny_pyIter_enum he ?_
  exact ⟨s1.heap.objs.size + 1,[s1.heap.objs.size + 1,s1.heap.objs.size],_,_,H1,rfl,I1.kept (t':=s1.toks) hk,GT a _ _ (Nat.ne_of_gt (Nat.lt_succ_self _)),⟨⟨_,he⟩,hit⟩,fin,q⟩
 ·obtain ⟨its,rv,pl,hz⟩:=I1.tuple hq
  refine k7 (show s1.heap.IsTuple a its.toArray from pl) fun h' he hit hsz hk=>wpAny_pyIter_enum he ?_
  exact ⟨s1.heap.objs.size + 1,[s1.heap.objs.size + 1,s1.heap.objs.size],_,_,H1,rfl,I1.kept (t':=s1.toks) hk,GS a _ _ (Nat.ne_of_gt (Nat.lt_succ_self _)),⟨⟨_,he⟩,hit⟩,fin,q⟩
end
theorem yh {K:PySem.W.Frag} {n:Nat} {fx:List Nat} {g:TG} {tc:TT} {te:TE} {σ:St} {H1:Hp} {D:Addr} {Q:Hp→Prop} {a:Addr} {xs:List V} (Pv:Nat→List V→Hp→Prop) (h0:Pv 0 [] (upd H1 D (.lst []))) (hl:∀ i ys H,i≤xs.length→Pv i ys H→SqT K H a xs)
  (hs:∀ i x ys H p H',xs[i]? =some x→Pv i ys H→H p=none→Same H H'→H' p=some (.tup [.int i,x])→g (.ref p) (dL n fx σ) H' fun σ4 H4=>tc σ4 H4 fun b H5=>if b=true then te σ4 H5 fun v H6=>H6 D=some (.lst ys)∧ys.length < sizeLine∧Pv (i + 1) (ys++[v]) (upd H6 D (.lst (ys++[v]))) else Pv (i + 1) ys H5)
  (hd:∀ ys H,Pv xs.length ys H→Q H):
  ∃ W:Nat→Nat→List V→Hp→Prop,(∃ m,W 0 m [] (upd H1 D (.lst [])))∧∀ i m ys H2,W i m ys H2→((Itet K a).stop i H2∧Q H2)∨
    ((Itet K a).go i H2∧∃ N:List V→Hp→Prop,(∀ ys' H',N ys' H'→∃ m',m' < m∧W (i + 1) m' ys' H')∧∀ x H3,(Itet K a).yld i H2 x H3→g x (dL n fx σ) H3 fun σ4 H4=>tc σ4 H4 fun b H5=>
      if b=true then te σ4 H5 fun v H6=>H6 D=some (.lst ys)∧ys.length < sizeLine∧N (ys++[v]) (upd H6 D (.lst (ys++[v]))) else N ys H5):=by
 refine ⟨fun i m ys H=>m=xs.length - i∧i≤xs.length∧Pv i ys H,⟨xs.length,by simp,Nat.zero_le _,h0⟩,?_⟩
 rintro i m ys H ⟨rfl,hi,p⟩
 have q:=hl i ys H hi p
 by_cases hlt:i < xs.length
 ·refine .inr ⟨⟨xs,xs[i],q,by simp [hlt]⟩,Pv (i + 1),fun ys' H' p'=>⟨xs.length - (i + 1),by omega,rfl,hlt,p'⟩,fun x H' y=>?_⟩
  obtain ⟨r,v,f,e1,e2,y⟩:=y
  subst e1 e2
  exact hs i v ys H r _ (y xs q) p f (bX f) aA
 ·have e:i=xs.length:=by omega
  subst e
  exact .inl ⟨⟨xs,q,rfl⟩,hd ys H p⟩
section
variable {σ:St} {H:Hp} {te:TE} {R:It→Hp→Prop}
theorem cz {K:PySem.W.Frag} (h:te σ H fun x H1=>∃ a,x= .ref a∧(((∃ xs,SqL K H1 a xs)∧R (Ite K a) H1)∨((∃ xs,SqT K H1 a xs)∧R (Itet K a) H1))):Pc K te σ H R:=h
end
namespace ZP
noncomputable abbrev Busy (h:Heap) (z TI TO T:Addr) (fl:Bool):Prop:=h.get? z=some {cls:= .type "zip",data:= .fields #[rawInt T,.bool fl,.bool false,.ref TI,.ref TO]}
section
variable {prog:Program} {w:World} {A:Around} {E:Value→Shared→Prop} {s:Shared}
structure ZGot (h:Heap) (lo:Nat) (xs ys:Array Value) (as:List Addr):Prop where
 rise:as.Pairwise (· < ·)
 above:∀ a∈as,lo≤a∧a < h.objs.size
 pairs:∀ (j:Nat) (a:Addr),as[j]? =some a→∃ x y,xs[j]? =some x∧ys[j]? =some y∧h.IsTuple a #[x,y]
structure ZSt (h:Heap) (z TI TO i1 i2 l1 l2:Addr) (lo:Nat) (xs ys:Array Value) (i:Nat) (as:List Addr):Prop where
 zp:(i=0∧IsZip h z TI TO .none)∨∃ T fl,Busy h z TI TO T fl∧as[0]? =some T
 hI:IsPair h TI (.ref i1) (.ref i2)
 hO:∃ a b,IsPair h TO a b
 h1:h.IsListIter i1 l1 i
 h2:h.IsListIter i2 l2 i
 hl1:h.IsList l1 xs
 hl2:h.IsList l2 ys
 len:as.length=i
 got:ZGot h lo xs ys as
structure Und (z TI TO i1 i2 l1 l2 S:Addr) (lo:Nat):Prop where
 ap:ZipApart z TI TO i1 i2 l1 l2
 Sz:S≠z
 STI:S≠TI
 STO:S≠TO
 Si1:S≠i1
 Si2:S≠i2
 Sl1:S≠l1
 Sl2:S≠l2
 z:z < lo
 TO:TO < lo
 i1:i1 < lo
 i2:i2 < lo
 S:S < lo
structure New (h:Heap) (z TI TO i1 i2 l1 l2:Addr) (xs ys:Array Value):Prop where
 ap:ZipApart z TI TO i1 i2 l1 l2
 hz:IsZip h z TI TO .none
 hI:IsPair h TI (.ref i1) (.ref i2)
 hO:∃ a b,IsPair h TO a b
 h1:h.IsListIter i1 l1 0
 h2:h.IsListIter i2 l2 0
 hl1:h.IsList l1 xs
 hl2:h.IsList l2 ys
end
end ZP
open PySem PySem.Spec PyProof.Rows
structure FunD (K:PySem.W.Frag) (x qual:Str) (st:Stmt) (f:Addr) (fd:FuncData) (dv:Value):Prop where
 ex:∃ (oc:Value) (od:Option Addr) (T:Addr) (kV doc pm:Value) (an:Option Addr) (cdv ct:Value) (osl:Array (Option Value)) (tc:Value) (td:Option Addr) (n:Nat) (tsl:Array (Option Value)),
  fd=PySem.W.fnOf x qual (aN st) (aJ st) (ae st) (.ref T) kV doc pm an cdv ct∧K.lookup f=some ⟨oc,od,.func fd,osl⟩∧PySem.W.codeIn K cdv qual=true∧K.lookup T=some ⟨tc,td,.seq #[dv] n,tsl⟩
 kp:PySem.W.keepIn K (.ref f)=true
noncomputable def Itzp (K:PySem.W.Frag) (a b:Addr):It:=
 ⟨fun i H=>∃ xs ys x y,SqL K H a xs∧SqL K H b ys∧xs[i]? =some x∧ys[i]? =some y,
  fun i H x H'=>∃ p u v,H p=none∧x= .ref p∧H'=upd H p (.tup [u,v])∧(∀ xs,SqL K H a xs→xs[i]? =some u)∧∀ ys,SqL K H b ys→ys[i]? =some v,
  fun i H=>∃ xs ys,SqL K H a xs∧SqL K H b ys∧xs.length=ys.length∧xs.length=i⟩
theorem M6 {P:Program} {w:World} {K:PySem.W.Frag} {elts:List Expr} {k:Nat} {pos:Pos} (a b z TI TO i1 i2:Addr) (D:ZipApart z TI TO i1 i2 a b):
  Turn P w K (.Tuple elts k pos) (Itzp K a b) [z,TI,TO,i1,i2] z (fun i h=>IsZip h z TI TO .none∧IsPair h TI (.ref i1) (.ref i2)∧(∃ u v,IsPair h TO u v)∧h.IsListIter i1 a i∧h.IsListIter i2 b i) where
 mem:=by simp
 obj:=fun i h st c hb=>by
  obtain ⟨hz,hTI,⟨u,v,hTO⟩,⟨o1,ho1,_,hd1⟩,⟨o2,ho2,_,hd2⟩⟩:=st
  simp only [List.mem_cons,List.not_mem_nil,or_false] at hb
  rcases hb with e | e | e | e | e
  ·rw [e];exact ⟨_,hz,fun v z=>by cases z⟩
  ·rw [e];exact ⟨_,hTI,fun v z=>by cases z⟩
  ·rw [e];exact ⟨_,hTO,fun v z=>by cases z⟩
  ·rw [e];exact ⟨o1,ho1,fun v z=>by rw [hd1] at z;cases z⟩
  ·rw [e];exact ⟨o2,ho2,fun v z=>by rw [hd2] at z;cases z⟩
 keep:=fun i h h' st k=>by
  obtain ⟨hz,hTI,⟨u,v,hTO⟩,h1,h2⟩:=st
  exact ⟨k z (by simp) _ hz,k TI (by simp) _ hTI,⟨u,v,k TO (by simp) _ hTO⟩,h1.at fun o e=>k i1 (by simp) o e,h2.at fun o e=>k i2 (by simp) o e⟩
 item:=by
  intro X hP hw hK hc i pins s σ H E I hf st hg
  subst hP hw hK
  obtain ⟨xs,ys,x,y,qa,qb,hx,hy⟩:=hg
  obtain ⟨its,ra,pa,hza⟩:=I.list qa
  obtain ⟨jts,rb,pb,hzb⟩:=I.list qb
  obtain ⟨hz,hTI,hTO,h1,h2⟩:=st
  have W:=WalksT.zip2 (prog:=X.prog) (w:=X.w) (A:=X.A) (I.ok.hd hc) z TI TO i1 i2 a b D its.toArray jts.toArray
  have hi1:i < its.length:=by have:=ra.length;have:=(List.getElem?_eq_some_iff.mp hx).1;omega
  have hi2:i < jts.length:=by have:=rb.length;have:=(List.getElem?_eq_some_iff.mp hy).1;omega
  have lts:∀ c∈[z,TI,TO,i1,i2],c < s.heap.objs.size:=fun c hb=>by
   obtain ⟨u,v,hTO⟩:=hTO
   obtain ⟨o1,ho1,_⟩:=h1
   obtain ⟨o2,ho2,_⟩:=h2
   simp only [List.mem_cons,List.not_mem_nil,or_false] at hb
   rcases hb with e | e | e | e | e
   ·rw [e];exact Heap.lt_size hz
   ·rw [e];exact Heap.lt_size hTI
   ·rw [e];exact Heap.lt_size hTO
   ·rw [e];exact Heap.lt_size ho1
   ·rw [e];exact Heap.lt_size ho2
  refine W.item i s _ _ (by simp;omega) ⟨hz,hTI,hTO,h1,h2,pa.isList,pb.isList⟩ fun T vals h' tk hPt hT htup hmid hk=>⟨_,rfl,W.go elts k pos i T _ _ _ hmid fun h'' hst hk2=>?_⟩
  obtain ⟨x',y',hx',hy',rfl⟩:=hPt
  have hap:=W.apart i T h' hmid
  have ru:RelV x x':=by
   obtain ⟨u,hu,r⟩:=ra.get hx
   have hx'':its[i]? =some x':=by simpa using hx'
   rw [hu] at hx'';cases hx'';exact r
  have rv:RelV y y':=by
   obtain ⟨u,hu,r⟩:=rb.get hy
   have hy'':jts[i]? =some y':=by simpa using hy'
   rw [hu] at hy'';cases hy'';exact r
  have sub:∀ c,c∉[z,TI,TO,i1,i2]→c∉[z,TO,i1,i2]:=fun c h z'=>h (by
   simp only [List.mem_cons,List.not_mem_nil,or_false] at z' ⊢
   rcases z' with e | e | e | e<;>simp [e])
  have kk:∀ c u,c∉[z,TI,TO,i1,i2]→s.heap.get? c=some u→h''.get? c=some u:=fun c u hb q=>hk2 c u (sub c hb) (hk c u (sub c hb) q)
  have fr:H T=none:=I.hok.fresh hT
  refine ⟨.ref T,upd H T (.tup [x,y]),I.laidCh (t':=tk) kk hT ⟨JO,[x',y'],.cons ru (.cons rv .nil),?_⟩ hf,rfl,⟨T,x,y,fr,rfl,rfl,fun zs hz'=>by rw [I.list_inj hz' qa];exact hx,fun zs hz'=>by rw [I.list_inj hz' qb];exact hy⟩,⟨hst.1,hst.2.1,hst.2.2.1,hst.2.2.2.1,hst.2.2.2.2.1⟩,fun c hb=>?_⟩
  ·obtain ⟨o,ho,r⟩:=htup
   exact ⟨o,hk2 T o hap ho,r⟩
  ·rw [aw (fun e=>?_)]
   ·exact (hf c hb).1
   ·have:=lts c hb
    rw [e] at this
    exact absurd (Nat.lt_of_lt_of_le this hT) (Nat.lt_irrefl _)
 done:=by
  intro X hP hw hK hc i pins s σ H E I hf st hg
  subst hP hw hK
  obtain ⟨xs,ys,qa,qb,hl,hn⟩:=hg
  obtain ⟨its,ra,pa,hza⟩:=I.list qa
  obtain ⟨jts,rb,pb,hzb⟩:=I.list qb
  obtain ⟨hz,hTI,hTO,h1,h2⟩:=st
  have W:=WalksT.zip2 (prog:=X.prog) (w:=X.w) (A:=X.A) (I.ok.hd hc) z TI TO i1 i2 a b D its.toArray jts.toArray
  have e:min its.toArray.size jts.toArray.size=i:=by have:=ra.length;have:=rb.length;simp;omega
  rw [e] at W
  have sub:∀ c,c∉[z,TI,TO,i1,i2]→c∉[z,TO,i1,i2]:=fun c h z'=>h (by
   simp only [List.mem_cons,List.not_mem_nil,or_false] at z' ⊢
   rcases z' with e | e | e | e<;>simp [e])
  exact W.done s _ _ ⟨hz,hTI,hTO,h1,h2,pa.isList,pb.isList⟩ fun h' tk hk=>⟨rfl,I.turnedCh (fun c u hb q=>hk c u (sub c hb) q) hf⟩
 self:=fun _ _ _ _ _ st h=>wpAny_pyIter_zip st.1 h
noncomputable def RG (K:PySem.W.Frag) (R:It→Hp→Prop) (x y:V) (H:Hp):Prop:=∃ a b xs ys,x= .ref a∧y= .ref b∧SqL K H a xs∧SqL K H b ys∧xs.length=ys.length∧R (Itzp K a b) H
noncomputable def iZip (K:PySem.W.Frag) (t1 t2:TE):TI:=fun σ H R=>t1 σ H fun x H1=>t2 σ H1 fun y H2=>RG K R x y H2
theorem SA {K:PySem.W.Frag} {t1 t2:TE} {σ:St} {H:Hp} {R:It→Hp→Prop} (h:t1 σ H fun x H1=>t2 σ H1 fun y H2=>RG K R x y H2):iZip K t1 t2 σ H R:=h
section
variable {X:Cx} {K:PySem.W.Frag}
theorem S0 {e1 e2:Expr} {t1 t2:TE} {elts:List Expr} {k:Nat} {tpos p pos:Pos} (hK:X.K=K) (g2:Gl X "zip") (n2:X.mg "zip"=none) (he1:PE X e1 t1) (he2:PE X e2 t2)
  (h2:starEach [e1,e2] X.env=(false,eval e1 X.env)::starEach [e2] X.env:=by rfl) (h3:starEach [e2] X.env=[(false,eval e2 X.env)]:=by rfl):
  PI X (.Tuple elts k tpos) (.Call (.Name "zip" p) [e1,e2] [] pos) (iZip K t1 t2):=by
 subst hK
 intro pins s σ H R I h
 refine Call_ (lM I g2 n2 PyProof.Rows.boot_zip (PyProof.Rows.callWith_type1 (thn (aa he1 (aa he2 ad h3) h2 pos pins s σ H (fun vs H1=>match vs with | [x,y]=>RG X.K R x y H1 | _=>False) I h) fun us s1 ⟨vs,H1,I1,r1,q1⟩=>?_) h2 (by rw [h3];rfl)))
 match vs,r1,q1 with
 | [x,y],r1,q1=>
 obtain ⟨a,b,xs,ys,ex,ey,sa,sb,hl,q⟩:=q1
 subst ex ey
 cases r1 with
 | cons rx r2=>
 cases r2 with
 | cons ry r3=>
 cases r3
 cases rx
 cases ry
 obtain ⟨its,ra,pa,hza⟩:=I1.list sa
 obtain ⟨jts,rb,pb,hzb⟩:=I1.list sb
 have la:a < s1.heap.objs.size:=let ⟨o,e,_⟩:=pa.isList;Heap.lt_size e
 have lb:b < s1.heap.objs.size:=let ⟨o,e,_⟩:=pb.isList;Heap.lt_size e
 have fin:∀ c∈[s1.heap.objs.size + 4,s1.heap.objs.size + 2,s1.heap.objs.size + 3,s1.heap.objs.size,s1.heap.objs.size + 1],FpOk X pins H1 c:=fun c hb=>by
  have hb':s1.heap.objs.size≤c:=by
   simp only [List.mem_cons,List.not_mem_nil,or_false] at hb
   rcases hb with e | e | e | e | e<;>rw [e]<;>omega
  exact I1.fpOk hb' (I1.hok.fresh hb')
 refine call_zip_2 pa.isList pb.isList fun h' z1 z2 z3 z4 z5 hsz k=>wpAny_pyIter_zip z1 ?_
 exact ⟨s1.heap.objs.size + 4,_,_,_,H1,rfl,I1.kept (t':=s1.toks) k,M6 a b _ _ _ _ _ (zipApart_new la lb),⟨z1,z2,⟨_,_,z3⟩,z4,z5⟩,fin,q⟩
end
theorem Rc {K:PySem.W.Frag} {a b:Addr} {xs ys:List V} {g:TG} {tb:TS} {D:Ends} {σ:St} {H:Hp} (hl:xs.length=ys.length) (Pv:Nat→St→Hp→Prop) (h0:Pv 0 σ H) (hq:∀ i σ H,i≤xs.length→Pv i σ H→SqL K H a xs∧SqL K H b ys)
  (hs:∀ i x y σ H p H',xs[i]? =some x→ys[i]? =some y→Pv i σ H→H p=none→Same H H'→H' p=some (.tup [x,y])→g (.ref p) σ H' fun σ2 H2=>tb {D with nx:=Pv (i + 1),ct:=Pv (i + 1),bk:=D.nx} σ2 H2) (hd:∀ σ H,Pv xs.length σ H→D.nx σ H):
  ∃ W:Nat→Nat→St→Hp→Prop,(∃ m,W 0 m σ H)∧∀ i m σ H,W i m σ H→
    ((Itzp K a b).stop i H∧D.nx σ H)∨((Itzp K a b).go i H∧∃ N:St→Hp→Prop,(∀ σ' H',N σ' H'→∃ m',m' < m∧W (i + 1) m' σ' H')∧∀ x H',(Itzp K a b).yld i H x H'→g x σ H' fun σ2 H2=>tb {D with nx:=N,ct:=N,bk:=D.nx} σ2 H2):=by
 refine ⟨fun i m σ H=>m=xs.length - i∧i≤xs.length∧Pv i σ H,⟨xs.length,by simp,Nat.zero_le _,h0⟩,?_⟩
 rintro i m σ H ⟨rfl,hi,p⟩
 obtain ⟨qa,qb⟩:=hq i σ H hi p
 by_cases hlt:i < xs.length
 ·refine .inr ⟨⟨xs,ys,xs[i],ys[i]'(by omega),qa,qb,by simp [hlt],by simp [show i < ys.length by omega]⟩,Pv (i + 1),fun σ' H' p'=>⟨xs.length - (i + 1),by omega,rfl,hlt,p'⟩,fun x H' y=>?_⟩
  obtain ⟨r,u,v,f,e1,e2,y1,y2⟩:=y
  subst e1 e2
  exact hs i u v σ H r _ (y1 xs qa) (y2 ys qb) p f (bX f) aA
 ·have e:i=xs.length:=by omega
  subst e
  exact .inl ⟨⟨xs,ys,qa,qb,hl,rfl⟩,hd σ H p⟩
noncomputable abbrev xBM:List Value:=[.type "ValueError",.type "Exception",.type "BaseException",.type "object"]
noncomputable abbrev xRec (C:Addr) (dx:Option Addr) (t:Addr):Obj:={cls:= .ref C,dict:=dx,data:= .fields #[.ref t,.none,.none,.none,.bool false,.none]}
noncomputable def ExcF (p C:Addr) (dx:Option Addr):HO:= .ext fun h=>∃ t,h.get? p=some (xRec C dx t)
theorem EW {P:Program} {w:World} {H:Hp} {h:Heap} {p C t:Addr} {dx:Option Addr} (e:h.get? p=some (xRec C dx t)):eA P w H h p (ExcF p C dx):=
 ⟨⟨t,e⟩,⟨_,e⟩,fun _ _ ⟨t,e⟩ k=>⟨t,k _ e⟩⟩
noncomputable def ExcV (H:Hp) (p C:Addr) (fs:List (Str×V)):Prop:=∃ dx,H p=some (ExcF p C dx)∧match dx with | none=>fs=[] | some d=>H d=some (.xd fs)
structure XOwn (K:PySem.W.Frag) (C W f:Addr):Prop where
 lk:∃ nm q N bs sn sub ab col dd k0 k1 k2 k3 k5,K.lookup C=some (excClassObj nm q C N bs (.ref W::xBM) true sn sub ab col dd k0 k1 k2 k3 k5 "ValueError.__new__")
 up:PySem.W.excIn K W xBM "ValueError.__new__"=true
 init:PySem.W.findIn K (.ref C) "__init__"=some (some (.ref f))
 fn:PySem.W.isFn K (.ref f)=true
 kp:PySem.W.keepIn K (.ref C)=true
 sa:PySem.W.findIn K (.ref C) "__setattr__"=some (some (.builtin "object.__setattr__"))
 mo:PySem.W.mroIn K C (.type "object")=some true
 mv:PySem.W.mroIn K C (.type "ValueError")=some true
theorem JS {K:PySem.W.Frag} {W:Addr} (q:PySem.W.excIn K W xBM "ValueError.__new__"=true):PySem.W.tailIn K xBM (.ref W::xBM)=true:=by
 unfold PySem.W.excIn at q
 unfold PySem.W.tailIn
 split at q
 next dd cd sl ho=>
  split at q
  next C' bm k0 k1 k2 k3 n k5 hm hs=>
   simp only [Bool.and_eq_true,beq_iff_eq,Bool.not_eq_true'] at q
   obtain ⟨⟨⟨⟨⟨e1,e2⟩,hdel⟩,ht⟩,hok⟩,hni⟩:=q
   rw [Bool.or_eq_true]
   refine .inr ?_
   dsimp only
   rw [ho]
   dsimp only
   rw [hok,hni]
   unfold PySem.W.tailIn
   simp
  next=>cases q
 next=>cases q
section
variable {prog:Program} {w:World} {A:Around} {E:Value→Shared→Prop} {h:Heap} {g:Array GenState} {d:Drawn} {t:Nat} {os:OsState}
variable {nm q:Str} {C N:Addr} {bs bm bmB:List Value} {hdct:Bool} {sn:List Str} {sub:List Value} {ab:Bool} {col:Option Bool} {dd:Option Addr} {k0 k1 k2 k3 k5:Option Value} {B newId initId:String}
theorem wt (F:ExcBaseFacts B newId initId bmB) (T:OwnTail h bmB bm) {K:PySem.W.Frag} (X:K.In h) {rest:List Value} {fI:Addr} {Q:Fin→Shared→Prop}
  (hC:h.get? C=some (excClassObj nm q C N bs bm hdct sn sub ab col dd k0 k1 k2 k3 k5 newId)) (hi:PySem.W.findIn K (.ref C) "__init__"=some (some (.ref fI))) (hf:PySem.W.typeIn K (.ref fI)=some (.type "function"))
  (hq:∀ h' e,Heap.MadeExcOf h h' e (.ref C) rest→
   wpAny (model prog w) A (call (.ref fI) (.ref e::rest)) (fun r s'=>r= .none∧Q (.done (.ret (.ref e))) s') E ⟨h',g,d,t,os⟩) (hrest:rest.length≤sizeLine):
  wpAny (model prog w) A (Builtin.«type.__call__» ⟨.ref C::rest,[]⟩) Q E ⟨h,g,d,t,os⟩:=by
 repeat (first | with_reducible refine wpAny_loadPart_at hC ?_ | with_reducible refine wpAny_madeBy_exc hC ?_ | wp_step)
 refine codeAny_call_builtin_code (Code.quiet_builtin _ F.quiet) (wpAny_check_new_subT F T hC ?_)
 refine codeAny_exc_new_subT F T hC ?_ hrest
 show wpAny _ _ _ _ _ _
 have hC₁:=Heap.get?_push_of_some {cls:= .ref C,data:= .fields #[.ref h.objs.size,.none,.none,.none,.bool false,.none]}
  (Heap.get?_push_of_some {cls:= .type "tuple",data:= .seq rest.toArray} hC)
 have X₁:K.In ((h.push {cls:= .type "tuple",data:= .seq rest.toArray}).push {cls:= .ref C,data:= .fields #[.ref h.objs.size,.none,.none,.none,.bool false,.none]}):=
  X.keeps fun b o e=>Heap.get?_push_of_some _ (Heap.get?_push_of_some _ e)
 have hget:((h.push {cls:= .type "tuple",data:= .seq rest.toArray}).push
   {cls:= .ref C,data:= .fields #[.ref h.objs.size,.none,.none,.none,.bool false,.none]}).get? (h.objs.size + 1)=some
   {cls:= .ref C,data:= .fields #[.ref h.objs.size,.none,.none,.none,.bool false,.none]}:=by heap_get
 have hcC:(Value.ref C::bm).contains (.ref C)=true:=by simp
 unfold isInstance
 repeat (first | with_reducible refine wpAny_loadPart_at hget ?_ | (with_reducible refine wpAny_isSubtype_exc hC₁ ?_;rw [hcC]) | wp_step)
 show wpAny _ _ (typeLookup (.ref C) _) _ _ _
 refine (PySem.W.looks_findIn X₁ hi).at ?_
 refine wpAny_holding (wpAny_bind ?_)
 unfold bindSpecial
 refine wpAny_bind ((PySem.W.looks_typeIn X₁ hf).at ?_)
 rw [if_pos (by decide)]
 refine wpAny_pure (wpAny_bind (wpAny_mono (hq _ (h.objs.size + 1) ⟨fun b o hb=>Heap.get?_push_of_some _ (Heap.get?_push_of_some _ hb),Heap.get?_none_of_le (Nat.le_succ _),h.objs.size,hget,Heap.get?_none_of_le (Nat.le_refl _),?_⟩) (fun r s' hr=>?_) fun _ _ x=>x))
 ·exact Heap.get?_push_of_some _ (Heap.get?_push_at rfl rfl)
 ·obtain ⟨rfl,hQ⟩:=hr
  wp_walk
  exact hQ
theorem Mb (F:ExcBaseFacts B newId initId bmB) (T:OwnTail h bmB bm) {K:PySem.W.Frag} (X:K.In h) {rest:List Value} {fI:Addr} {Q:Value→Shared→Prop}
  (hC:h.get? C=some (excClassObj nm q C N bs bm hdct sn sub ab col dd k0 k1 k2 k3 k5 newId)) (hi:PySem.W.findIn K (.ref C) "__init__"=some (some (.ref fI))) (hf:PySem.W.typeIn K (.ref fI)=some (.type "function"))
  (hq:∀ h' e,Heap.MadeExcOf h h' e (.ref C) rest→
   wpAny (model prog w) (A.under (.builtin "type.__call__" ⟨.ref C::rest,[]⟩)) (call (.ref fI) (.ref e::rest)) (fun r s'=>r= .none∧Q (.ref e) s') E ⟨h',g,d,t,os⟩) (hrest:rest.length≤sizeLine):
  wpAny (model prog w) A (call (.ref C) rest) Q E ⟨h,g,d,t,os⟩:=by
 have f1:=tc_lookup
 have f2:=tc_bind (.ref C)
 have hT:(⟨h,g,d,t,os⟩:Shared).TypeIs (.ref C) "type":=⟨_,hC,rfl⟩
 refine wpAny_call (codeAny_of_tree ?_)
 show wpAny _ _ (callAny (.ref C) _) _ _ _
 repeat (any_goals (first | assumption | with_reducible refine wpAny_loadPart_at hC ?_ | wp_step))
 refine ⟨rfl,?_⟩
 refine codeAny_call_builtin_at (Code.quiet_builtin _ (by decide +kernel)) entry_typeCall (wpAny_check_type_call_sub hC (wt F T X hC hi hf (fun h' e hm=>?_) hrest))
 exact hq h' e hm
end
section
variable {prog:Program} {w:World} {A:Around} {E:Value→Shared→Prop} {s:Shared} {K:PySem.W.Frag} {x C W f:Addr} {name:Str} {v:Value}
theorem XOwn.cls {h:Heap} (c:XOwn K C W f):∃ cd,PySem.W.clsIn K C=some cd∧cd.hasDict=true∧cd.mro= .ref C:: .ref W::xBM:=by
 obtain ⟨nm,q,N,bs,sn,sub,ab,col,dd,k0,k1,k2,k3,k5,e⟩:=c.lk
 refine ⟨{name:=nm,bases:=bs,mro:= .ref C:: .ref W::xBM,ns:=N,qualname:=q,hasDict:=true,slotNames:=sn,subclasses:=sub,abstract:=ab,collection:=col,hasDel:=false},?_,rfl,rfl⟩
 unfold PySem.W.clsIn
 rw [e]
open Builtin.ObjectAttr in
theorem KP {ox:Obj} {od:Option Obj} {tk:Tok} {R:Result→Shared→Prop} (X:K.In s.heap) (I:PySem.W.InstAt s.heap x ox C od) (c:XOwn K C W f) (n:aq K C name)
  (h:∀ b,wpAny (model prog w) A.in1 (storeInOwnDict (.ref x) (.ref C) (.str name tk) name v b)
   (fun fin s'=>match fin with | .done f=>R (.ok f) s' | .again c'=>c'.quiet=true∧codeAny (model prog w) A c' R s') (fun e s'=>R (.error e) s') s):
  codeAny (model prog w) A (.call (.builtin "object.__setattr__") ⟨[.ref x,.str name tk,v],[]⟩) R s:=by
 have SF:=PySem.F.store_object
 obtain ⟨cd,hc,hd,hm⟩:=c.cls (h:=s.heap)
 have sub:PySem.W.Looks (model prog w) s.heap (isInstance (.ref x) (.type "object")) true:=I.type.andThen (PySem.W.looks_mroIn X c.mo)
 refine codeAny_call_builtin SF.slot.plain SF.entry (@PySem.W.check_slot (model prog w) _ _ s "object.__setattr__" "object" "__setattr__" (.ref x) [.str name tk,v] [] _ SF.kind SF.split sub (SF.args (.ref x) (.str name tk) v) ?_)
 have L1:PySem.W.Looks (model prog w) s.heap (mroOf (.ref C)) (.ref C:: .ref W::xBM):=hm ▸ (PySem.W.looks_clsIn X hc).andThen .now
 have ha:PySem.W.findIn K (.ref C) name=some none:=n
 have L3:PySem.W.Looks (model prog w) s.heap (storeTaker? none) none:= .now
 rw [PySem.W.osa_eq,refuse_eq]
 refine wpAny_bind (wpAny_bind (I.type.here (wpAny_bind (L1.here ?_))))
 rw [refuseLoop_ref,refuseLoop_ref,PySem.F.store_ValueError.passes]
 refine wpAny_pure (wpAny_bind (I.type.here (wpAny_bind ((PySem.W.looks_findIn X ha).here (wpAny_bind (L3.here ?_))))))
 exact h _
open Builtin.ObjectAttr in
theorem P1 {t:Addr} {Q:Unit→Shared→Prop} (X:K.In s.heap) (c:XOwn K C W f) (n:aq K C name) (e:s.heap.get? x=some (xRec C none t))
  (h:∀ h',h'.Ns1 s.heap.objs.size (fun y=>if y=name then some v else none)→h'.get? x=some (xRec C (some s.heap.objs.size) t)→(∀ b o,b≠x→s.heap.get? b=some o→h'.get? b=some o)→Q () {s with heap:=h',toks:=s.toks + 2}):
  wpAny (model prog w) A (setAttr (.ref x) name v) Q E s:=by
 have J:PySem.W.InstAt s.heap x (xRec C none t) C none:=⟨e,rfl,rfl,trivial⟩
 refine PySem.W.set_plain X J c.sa (KP (s:={s with toks:=s.toks + 1}) X J c n fun b=>?_)
 obtain ⟨cd,hc,hd,hm⟩:=c.cls (h:=s.heap)
 refine wpAny_bind (wpAny_pure (wpAny_bind (wpAny_bind (wpAny_loadPart e (wpAny_bind (PySem.W.Looks.here (s:={s with toks:=s.toks + 1}) (PySem.W.looks_clsIn X hc) ?_))))))
 rw [hd]
 have hx₁:(s.heap.push {cls:= .type "dict",data:= .dict #[]}).get? x=some (xRec C none t):=Heap.get?_push_of_some _ e
 have hxs:x≠s.heap.objs.size:=Nat.ne_of_lt (Heap.lt_size e)
 refine wpAny_bind (wpAny_alloc' ?_)
 refine wpAny_bind (wpAny_update' hx₁ ?_)
 refine wpAny_pure ?_
 have hgd:((s.heap.push {cls:= .type "dict",data:= .dict #[]}).update x fun o=>{cls:=o.cls,dict:=some s.heap.objs.size,data:=o.data,slots:=o.slots}).get? s.heap.objs.size
   =some {cls:= .type "dict",data:= .dict #[]}:=(Heap.get?_update_ne _ _ _ _ hxs.symm).trans (Heap.get?_push_at rfl rfl)
 have hnd:((s.heap.push {cls:= .type "dict",data:= .dict #[]}).update x fun o=>{cls:=o.cls,dict:=some s.heap.objs.size,data:=o.data,slots:=o.slots}).Ns s.heap.objs.size (fun _=>none):=
  ⟨_,#[],_,hgd,rfl,fun e he=>absurd he (by simp),fun _=>rfl⟩
 have hgx:((s.heap.push {cls:= .type "dict",data:= .dict #[]}).update x fun o=>{cls:=o.cls,dict:=some s.heap.objs.size,data:=o.data,slots:=o.slots}).get? x=some (xRec C (some s.heap.objs.size) t):=
  Heap.get?_update_self _ hx₁ rfl
 show wpAny _ _ (storeInDict s.heap.objs.size (.str name _) name v) _ _ _
 unfold storeInDict newKeyGuard
 refine wpAny_bind (wpAny_pure (wpAny_bind (wpAny_nsSet1 (Heap.Ns1.of_empty hnd) fun h' hn' hs=>?_)))
 obtain ⟨oD,esD,epD,hoD,hdD,hcD⟩:=hn'.count (Within.cons name v Within.nil)
 refine wpAny_bind (wpAny_lookBehind hoD (by rw [hdD];exact pastItsLine_dict (Nat.le_trans hcD (by rw [List.length_cons,List.length_nil,sizeLine_eq];omega))) ?_)
 exact wpAny_pure (h h' hn' ((hs.2 x hxs).trans hgx) fun b o hb q=>(hs.2 b (Nat.ne_of_lt (Heap.lt_size q))).trans ((Heap.get?_update_ne _ _ _ _ hb).trans (Heap.get?_push_of_some _ q)))
theorem Ra {ox:Obj} {odo:Option Obj} {expr:Bool} {Q:Value→Shared→Prop} (X:K.In s.heap) (c:XIsi K C) (I:PySem.W.InstAt s.heap x ox C odo) (hf:PySem.W.findObj K C odo name=some (.value v)) (hv:PySem.W.handedIn v=true)
  (h:Q v {s with toks:=s.toks + 1}):wpAny (model prog w) A (getAttr (.ref x) name expr) Q E s:=by
 obtain ⟨hh,gg,d,t,os⟩:=s
 have L0:=I.type (M:=model prog w)
 have L1:=PySem.W.looks_findIn (M:=model prog w) X c.ga
 have L2:=PySem.W.looks_findIn (M:=model prog w) X c.gr
 have L3:=PySem.W.looks_find (M:=model prog w) X I hf
 have LI:PySem.W.Looks (model prog w) hh (isInstance (.ref x) (.type "BaseException")) true:=L0.andThen (PySem.W.looks_mroIn X c.base)
 unfold getAttr getAttrBy
 refine wpAny_bind (wpAny_mkText (wpAny_holding (wpAny_bind (L0.at (wpAny_bind (L1.at ?_))))))
 dsimp only
 have hx2:(Value.builtin "BaseException.__getattribute__" == Value.builtin "object.__getattribute__")=false:=by decide +kernel
 rw [if_neg (by rw [hx2,Bool.and_false];exact Bool.false_ne_true)]
 unfold getAttrByItsOwn hookBefore
 rw [if_pos (by rfl)]
 refine wpAny_bind (L2.at (wpAny_bind (wpAny_attempt (wpAny_holding ?_))))
 unfold callGetattribute
 rw [show (expr&&onTheHeap (Value.builtin "BaseException.__getattribute__"))=false from Bool.and_false _,if_neg (by simp)]
 unfold boundAndCalled
 refine wpAny_bind (wpAny_of_eq (F.attr_ValueError.ga.bind _) ?_)
 have hk:builtinKind "BaseException.__getattribute__"=some .slot:=by decide +kernel
 have hsplit:splitId "BaseException.__getattribute__"=some ("BaseException","__getattribute__"):=by decide +kernel
 have pl:=F.attr_ValueError.ga.plain
 have en:=F.entry_bexc_ga
 show wpAny _ _ (call (.builtin "BaseException.__getattribute__") [.ref x,.str name t]) _ _ _
 refine wpAny_call (codeAny_call_builtin pl en ?_)
 have ag:=F.args_bexc_ga (.ref x) (.str name t)
 generalize hgid:"BaseException.__getattribute__"=id0 at hk hsplit ag ⊢
 refine PySem.W.check_slot (self:= .ref x) (rest:=[.str name t]) (kw:=[]) hk hsplit LI ag ?_
 unfold Builtin.«object.__getattribute__»
 refine wpAny_bind (wpAny_of_eq (a:=(Value.ref x,[Value.str name t])) rfl ?_)
 dsimp only
 refine wpAny_bind (wpAny_of_eq (a:=name) rfl ?_)
 refine wpAny_bind (L0.at (wpAny_bind (L3.at ?_)))
 refine wpAny_pure ?_
 show wpAny _ _ (handedOut v) _ _ _
 rw [PySem.W.handedOut_of hv]
 exact wpAny_pure h
end
theorem Ga {α:Type} {x:α}:[x].length≤sizeLine:=by show 1≤_;rw [sizeLine_eq];decide
section
variable {X:Cx} {pins:List (Addr×Obj)} {σ:St} {H:Hp} {s:Shared} {p C W f:Addr} {fs:List (Str×V)}
noncomputable def SM (K:PySem.W.Frag) (ta tv:TE) (f:Str):TS:=fun D σ H=>tv σ H fun y H1=>ta σ H1 fun x H2=>∃ p C W g,x= .ref p∧H2 p=some (ExcF p C none)∧XOwn K C W g∧aq K C f∧
 ∀ d,H2 d=none→d≠p→D.nx σ (upd (upd H2 d (.xd [(f,y)])) p (ExcF p C (some d)))
noncomputable def Pj (K:PySem.W.Frag) (f:Str) (y:V) (D:Ends) (σ:St) (x:V) (H:Hp):Prop:=∃ p C W g,x= .ref p∧H p=some (ExcF p C none)∧XOwn K C W g∧aq K C f∧
 ∀ d,H d=none→d≠p→D.nx σ (upd (upd H d (.xd [(f,y)])) p (ExcF p C (some d)))
theorem tS {K:PySem.W.Frag} {f:Str} {te tv:TE} {D:Ends} (h:tv σ H fun y H1=>te σ H1 (Pj K f y D σ)):SM K te tv f D σ H:=h
theorem sX {K:PySem.W.Frag} {f:Str} {y:V} {D:Ends} {g:Addr} (e:H p=some (ExcF p C none)) (c:XOwn K C W g) (n:aq K C f)
  (h:∀ H2,ExcV H2 p C [(f,y)]→(∀ b u,b≠p→H b=some u→H2 b=some u)→D.nx σ H2):Pj K f y D σ (.ref p) H:=
 ⟨p,C,W,g,rfl,e,c,n,fun d hd ne=>h _ ⟨some d,aA,by show upd _ p _ d=_;rw [aw ne,aA]⟩ fun b u hb q=>by rw [aw hb,aw (al q hd)];exact q⟩
theorem yA {K:PySem.W.Frag} {o value:Expr} {ta tv:TE} {f:Str} {pos pos':Pos} (h:X.K=K) (ha:PE X o ta) (hv:PE X value tv) (hs:swapsWith value (some (.Attribute o f pos')) pos.line X.env=pure false):PS X (.Assign [.Attribute o f pos'] value pos) (SM K ta tv f):=by
 subst h
 intro pins s σ H D I h
 refine plainObj_wpAny_Assign_Attribute (thn (hv pins s σ H _ I h) fun u s1 ⟨y,H1,I1,ry,q⟩=>thn (ha pins s1 σ H1 _ I1 q) fun ov s2 ⟨x,H2,I2,rx,p,C,W,g,ex,ea,c,n,q2⟩=>?_) hs
 subst ex
 obtain rfl:ov=Value.ref p:=rx
 obtain ⟨⟨t,e0⟩,_⟩:=I2.hok p _ ea
 refine P1 I2.kIn c n e0 fun h' ns hx keep=>?_
 have hf:=I2.hok.fresh (Nat.le_refl s2.heap.objs.size)
 have hne:s2.heap.objs.size≠p:=Nat.ne_of_gt (Heap.lt_size e0)
 obtain ⟨oD,es,ep,hoD,hrest⟩:=id ns
 have hfr:=(Heap.get?_some_iff.mp hoD).2
 have hD:(s2.heap.push oD).get? s2.heap.objs.size=some oD:=Heap.get?_push_size s2.heap hfr
 have I3:=I2.laid (a:=s2.heap.objs.size) (o:= .xd [(f,y)]) (h':=s2.heap.push oD) (t':=s2.toks) (fun b u q=>Heap.get?_push_of_some _ q) (Nat.le_refl _)
  ⟨_,⟨oD,es,ep,hD,hrest⟩,fun k=>by
    by_cases hk:k=f
    ·subst hk
     simp only [if_true,List.lookup,beq_self_eq_true]
     exact ry
    ·have hb:(k == f)=false:=beq_eq_false_iff_ne.mpr hk
     simp only [if_neg hk,List.lookup,hb]
     exact trivial⟩
 have I4:=I3.write (x:=p) (e:=p) (o:=ExcF p C (some s2.heap.objs.size)) (h':=h') (t':=s2.toks + 2) (by rw [aw hne.symm,ea];exact True.intro) (.inl rfl) (fun b u hb q=>?_) ⟨_,hx⟩ (EW hx)
 ·exact ⟨σ,_,I4,q2 _ hf hne⟩
 ·by_cases hz:b=s2.heap.objs.size
  ·subst hz
   have q:(s2.heap.push oD).get? s2.heap.objs.size=some u:=q
   rw [hD] at q
   cases q
   exact hoD
  ·refine keep b u hb ?_
   have q:(s2.heap.push oD).get? b=some u:=q
   rw [Heap.get?_push_ne _ _ _ hz] at q
   exact q
structure TZ (K:PySem.W.Frag) (W:Addr):Prop where
 ga:PySem.W.specialIn K (.ref W) "__getattribute__"=some (some (.builtin "type.__getattribute__"))
 rd:PySem.W.readsIn K W (.type "type")=true
 fd:PySem.W.findCls K (.ref W) (.type "type") "__init__"=some (.val (.builtin "ValueError.__init__"))
noncomputable def OS (K:PySem.W.Frag) (t:TA):TE:=fun σ H Q=>t σ H fun vs H1=>∃ p C W g dx u,vs=[.ref p,u]∧H1 p=some (ExcF p C dx)∧XOwn K C W g∧Q .non H1
noncomputable def Ms (K:PySem.W.Frag) (Q:VK) (vs:List V) (H:Hp):Prop:=∃ p C W g dx u,vs=[.ref p,u]∧H p=some (ExcF p C dx)∧XOwn K C W g∧Q .non H
theorem mf {K:PySem.W.Frag} {t:TA} {Q:VK} (h:t σ H (Ms K Q)):OS K t σ H Q:=h
theorem nG {K:PySem.W.Frag} {dx:Option Addr} {u:V} {Q:VK} (e:H p=some (ExcF p C dx)) (m:XOwn K C W f) (h:Q .non H):Ms K Q [.ref p,u] H:=⟨p,C,W,f,dx,u,rfl,e,m,h⟩
theorem M4 {a:Value} {dx:Option Addr} {Q:VK} (I:Inv X pins σ H s) (e:H p=some (ExcF p C dx)) (m:XOwn X.K C W f) (h:Q .non H):
  wpAny (model X.prog X.w) X.A (call (.builtin "ValueError.__init__") [.ref p,a]) (EP X pins σ Q) X.xe s:=by
 obtain ⟨⟨t,e0⟩,_⟩:=I.hok p _ e
 have FB:=PySem.F.excBase_ValueError
 obtain ⟨nm,qn,N,bs,sn,sub,ab,col,dd,k0,k1,k2,k3,k5,lk⟩:=m.lk
 have hC:=I.kIn _ _ lk
 have T:OwnTail s.heap xBM (.ref W::xBM):=PySem.W.tail_of_in I.kIn (JS m.up)
 obtain ⟨hh,g,d,tk,os⟩:=s
 refine wpAny_call (codeAny_call_builtin FB.init.plain FB.initEntry (wpAny_check_init_subT FB T hC e0 rfl ?_))
 unfold Builtin.«BaseException.__init__»
 show wpAny _ _ (newTuple [a] >>=fun tv=>Builtin.BaseException.bexcPut (.ref p) 0 tv >>=fun _=>ret .none) _ _ _
 refine wpAny_bind (wpAny_newTuple ?_ Ga)
 have e1:(hh.push {cls:= .type "tuple",data:= .seq [a].toArray}).get? p=some (xRec C dx t):=Heap.get?_push_of_some _ e0
 unfold Builtin.BaseException.bexcPut
 refine wpAny_bind (wpAny_bind (wpAny_field e1 rfl rfl (wpAny_bind (wpAny_setField e1 rfl (Nat.succ_pos 5) ?_))))
 have e2:=Heap.get?_update_self (Obj.mapFields (·.setIfInBounds 0 (.ref hh.objs.size))) e1 rfl
 have I1:=(I.kept (t':=tk) (h':=hh.push {cls:= .type "tuple",data:= .seq [a].toArray}) (fun b u q=>Heap.get?_push_of_some _ q)).write (x:=p) (e:=p) (o:=ExcF p C dx)
  (h':=(hh.push {cls:= .type "tuple",data:= .seq [a].toArray}).update p (Obj.mapFields (·.setIfInBounds 0 (.ref hh.objs.size)))) (t':=tk) (by rw [e];exact True.intro) (.inl rfl) (fun b u hb q=>(Heap.get?_update_ne _ _ _ _ hb).trans q) ⟨_,e2⟩ (EW (t:=hh.objs.size) e2)
 have eH:upd H p (ExcF p C dx)=H:=by
  funext b
  by_cases hb:b=p
  ·subst hb;rw [aA,e]
  ·rw [aw hb]
 rw [eH] at I1
 unfold letGo letGo
 refine wpAny_bind (wpAny_holding (wpAny_point ?_))
 exact wpAny_pure (wpAny_pure ⟨.non,H,I1,rfl,h⟩)
theorem tj {x:Str} {np apos pos:Pos} {e:Expr} {es:List Expr} {t:TA} {K:PySem.W.Frag} {pl:Sem Bool} (hK:X.K=K) (hg:Gl X x) (hx:X.mg x=some (.ref W)) (c:TZ K W) (ha:PA X (e::es) t)
  (hdb:(x == ("__debug__":Str))=false:=by decide) (hst:starEach (e::es) X.env=(false,eval e X.env)::starEach es X.env:=by rfl) (hpl:(backTo pos (starEach es X.env)).any (·.1)=false:=by rfl)
  (ht:eval (.Call (.Attribute (.Name x np) "__init__" apos) (e::es) [] pos) X.env=(do
   let ov ← eval (.Name x np) X.env
   standAt apos.atName
   let (f,first) ← holding [ov] (getMethod ov "__init__" pl)
   callWith pos f first (backTo pos (starEach (e::es) X.env)) (backToKw pos (keywordEach [] X.env))):=by rfl):
  PE X (.Call (.Attribute (.Name x np) "__init__" apos) (e::es) [] pos) (OS K t):=by
 subst hK
 intro pins s σ H Q I h
 refine PySem.W.methodCall_KW (pl:=pl) (gJ I hg hx ?_ hdb) ht
 refine PySem.W.method_cls I.kIn c.ga (PySem.W.cls_value I.kIn c.rd c.fd rfl ?_)
 have I1:=I.tok (s.toks + 1)
 refine PyProof.Rows.callWith_builtin1 (thn (ha pos pins _ σ H _ I1 h) fun us s1 ⟨vs,H1,I2,r,p,C,W2,g2,dx,u,ev,hp,hm,q2⟩=>?_) hst hpl
 subst ev
 obtain ⟨a1,a2,rfl,ra,rb⟩:=PF r
 obtain rfl:a1= .ref p:=ra
 exact M4 I2 hp hm q2
theorem yB {st:Stmt}:PS X st (fun _ _ _=>False):=fun _ _ _ _ _ _ h=>h.elim
end
end L2
namespace PySem
theorem F.entry_dict_update_loop:entryFor table "dict.update.loop"=some Builtin.«dict.update.loop»:=entryFor_of_tree (by kernel_rfl)
theorem F.plain_dict_update_loop:plainId "dict.update.loop"=true:=by decide +kernel
theorem F.list_keys_none:typeLookup (.type "list") "keys"=pure none:=by rw [typeLookup_type,builtinLookup_eq_fast];kernel_rfl
theorem Er {prog:Program} {w:World} {A:Around} {E:Value→Shared→Prop} {s:Shared} {a:Addr} {xs:Array Value} {k:Nat} {name:Str} {Q:Option Value→Shared→Prop}
  (hx:s.heap.get? a=some {cls:= .type "list",data:= .seq xs k}) (hmiss:typeLookup (.type "list") name=pure none) (hname:(["__module__","__name__","__qualname__","__doc__","__annotations__"]:List Str).contains name=false) (hA:A.handled=none)
  (h:∀ h' tk,(∀ b o,s.heap.get? b=some o→h'.get? b=some o)→Q none {s with heap:=h',toks:=tk}) (hsz:name.length + 100≤sizeLine:=by size_fits):
  wpAny (model prog w) A (getAttr? (.ref a) name) Q E s:=by
 obtain ⟨hp,g,d,tk,os⟩:=s
 have hT:∀ tk',(⟨hp,g,d,tk',os⟩:Shared).TypeIs (.ref a) "list":=fun _=>⟨_,hx,rfl⟩
 have f1:=sub_AttributeError
 have f3:=F.slot_list_getattribute.lookup
 have f4:=F.slot_list_getattribute.bind (.ref a)
 have f5:=am_list_getattr_none
 unfold getAttr? getAttrBy? getAttrBy
 repeat (any_goals (first | assumption | exact hT _ | ((with_reducible show wpAny _ _ (call (Value.builtin "list.__getattribute__") _ _) _ _ _);refine call_meets F.slot_list_getattribute (hT _) am_entry_list_getattribute (F.args_list_getattribute_2 _ _) (meets_getattribute_miss_list a xs k #[] name _ hmiss hname hsz) ⟨hx,hA,fun h' tk' e hx'=>?_⟩) | wp_step))
 obtain ⟨t',u',he⟩:=hx'.there
 show wpAny _ _ (getattributeRaised _ _ _ _ _ _ _) _ _ _
 unfold getattributeRaised
 repeat (any_goals (first | assumption | wp_step))
 exact h _ _ hx'.keeps
section
variable {prog:Program} {w:World} {K:Type} [DecidableEq K] {knd:KeyKind prog w K} {A:Around} {R:Result→Shared→Prop} {I:Addr} {fp wr:List Addr} {n:Nat} {P:Nat→Value→Prop} {St:Nat→Heap→Prop}
noncomputable def Pk (knd:KeyKind prog w K) (h:Heap) (a:Addr) (kv:K×Value):Prop:=∃ key o n,h.get? a=some o∧o.cls= .type "tuple"∧o.data= .seq #[key,kv.2] n∧knd.is kv.1 key=true
theorem vp {h h':Heap} {d:Addr} {kvs:List (K×Value)} (hm:h.DictOf knd d kvs) (f:∀ o,h.get? d=some o→h'.get? d=some o):h'.DictOf knd d kvs:=let ⟨o,es,ep,ho,r⟩:=hm;⟨o,es,ep,f o ho,r⟩
theorem m7 (W:Walks prog w A.in1 I fp wr n P St) (d:Addr) (hdf:d∉fp) (more:List (K×Value)) (hn:more.length=n) (hsz:n≤sizeLine) (tup:Nat→Addr) (htw:∀ i,i < n→tup i∉wr∧tup i≠d) (hP:∀ i v,i < n→P i v→v= .ref (tup i)):
  ∀ (k j:Nat) (s:Shared) (ix:Int) (t:Tok),n - j=k→j≤n→St j s.heap→s.heap.DictOf knd d (merged [] (more.take j))→(∀ i kv,more[i]? =some kv→Pk knd s.heap (tup i) kv)→
  (∀ h' tk,h'.DictOf knd d (merged [] more)→(∀ b o,b∉wr→b≠d→s.heap.get? b=some o→h'.get? b=some o)→R (.ok (.ret .none)) {s with heap:=h',toks:=tk})→
  codeAny (model prog w) A (.builtin "dict.update.loop" ⟨[.ref d,.ref I,.int ix t,.none],[]⟩) R s:=by
 have hdw:d∉wr:=fun h=>hdf (W.sub _ h)
 intro k
 induction k with
 | zero=>
   intro j s ix t hk hj hst hd hp hR
   have hin:j=n:=by omega
   subst hin
   refine codeAny_builtin F.entry_dict_update_loop ?_
   rw [Around.under_plainId F.plain_dict_update_loop _]
   show wpAny _ A.in1 (pyNext (.ref I) >>=_) _ _ s
   refine wpAny_bind (W.done s _ _ hst fun h' tk hk'=>?_)
   show wpAny _ A.in1 (Builtin.Dict.addKeywords d [] >>=_) _ _ _
   refine wpAny_bind (wpAny_pure (wpAny_pure ?_))
   rw [← hn,List.take_length] at hd
   exact hR h' tk (vp hd fun o e=>hk' d o hdw e) fun b o hb _ e=>hk' b o hb e
 | succ k ih=>
   intro j s ix t hk hj hst hd hp hR
   have hlt:j < n:=by omega
   refine codeAny_builtin F.entry_dict_update_loop ?_
   rw [Around.under_plainId F.plain_dict_update_loop _]
   show wpAny _ A.in1 (pyNext (.ref I) >>=_) _ _ s
   refine wpAny_bind (W.item j s _ _ hlt hst fun v h' tk hPv hst' hk'=>?_)
   have ev:=hP j v hlt hPv
   subst ev
   obtain ⟨kv,hkv⟩:∃ kv,more[j]? =some kv:=⟨_,List.getElem?_eq_getElem (by omega)⟩
   obtain ⟨key,ob,m,ht,hcl,hda,hkey⟩:=hp j kv hkv
   have ht':=hk' _ _ (htw j hlt).1 ht
   show wpAny _ A.in1 (holding [Value.ref (tup j)] _ >>=_) _ _ _
   refine wpAny_bind (wpAny_holding (wpAny_bind (wpAny_tryCatch ?_)))
   unfold Builtin.Dict.pairItems
   refine wpAny_bind (wpAny_typeOf (T:="tuple") ⟨_,ht',hcl⟩ ?_)
   rw [if_pos (by decide)]
   refine wpAny_bind (wpAny_seqItems ht' hda ?_)
   refine wpAny_pure ?_
   show wpAny _ A.in1 (holding [key,kv.2] (dictSet d key kv.2)) _ _ _
   have hd':h'.DictOf knd d (merged [] (more.take j)):=vp hd fun o e=>hk' d o hdw e
   refine wpAny_holding (wpAny_dictSet_pairs (s:={s with heap:=h',toks:=tk}) hkey hd' (fun h2 hd2 hs2=>?_) (hsz:=by have:=merged_length_le [] (more.take j);rw [List.length_nil,List.length_take] at this;omega))
   rw [← merged_take_succ [] more j kv hkv] at hd2
   have kp:∀ b o,b∉wr→b≠d→s.heap.get? b=some o→h2.get? b=some o:=fun b o hb hbd e=>(hs2.2 b hbd).trans (hk' b o hb e)
   refine wpAny_pure ⟨plainId_quiet F.plain_dict_update_loop _,ih (j + 1) _ _ _ (by omega) hlt (W.frame _ _ _ hst' fun b hb o e=>?_) hd2 (fun i kv' hi=>?_) fun h3 tk3 hd3 hk3=>?_⟩
   ·exact (hs2.2 b fun z=>hdf (z ▸ hb)).trans e
   ·obtain ⟨key',o',m',e',x'⟩:=hp i kv' hi
    have hi':i < n:=by rw [← hn];exact (List.getElem?_eq_some_iff.mp hi).1
    exact ⟨key',o',m',kp _ _ (htw i hi').1 (htw i hi').2 e',x'⟩
   ·exact hR h3 tk3 hd3 fun b o hb hbd e=>hk3 b o hb hbd (kp b o hb hbd e)
end
section
variable {prog:Program} {w:World} {K:Type} [DecidableEq K] {knd:KeyKind prog w K} {A:Around} {E:Value→Shared→Prop} {s:Shared}
theorem vN {l:Addr} {its:Array Value} {c:Nat} {more:List (K×Value)} {tup:Nat→Addr} {Q:Value→Shared→Prop} (hA:A.handled=none) (hl:s.heap.get? l=some {cls:= .type "list",data:= .seq its c})
  (hn:more.length=its.size) (hsz:its.size≤sizeLine) (hit:∀ (i:Nat) (v:Value),its[i]? =some v→v= .ref (tup i)) (hp:∀ i kv,more[i]? =some kv→Pk knd s.heap (tup i) kv) (nd:(more.map (·.1)).Nodup)
  (h:∀ h' tk,h'.DictOf knd s.heap.objs.size more→(∀ b o,s.heap.get? b=some o→h'.get? b=some o)→Q (.ref s.heap.objs.size) {s with heap:=h',toks:=tk}):
  wpAny (model prog w) A (call (.type "dict") [.ref l]) Q E s:=by
 refine callType_codes (Q₁:=fun obj s₁=>obj= .ref s.heap.objs.size∧s₁={s with heap:=s.heap.push {cls:= .type "dict",data:= .dict #[]}}) F.kt_called_dict (F.kt_typeCall_dict_1 _) F.entry_dict_init (kt_code_dict_new _ ⟨rfl,rfl⟩) ?_
 rintro obj s₁ ⟨rfl,rfl⟩
 have hnew:(s.heap.push {cls:= .type "dict",data:= .dict #[]}).DictOf knd s.heap.objs.size []:=Heap.DictOf.new s.heap
 have hl':(s.heap.push {cls:= .type "dict",data:= .dict #[]}).get? l=some {cls:= .type "list",data:= .seq its c}:=Heap.get?_push_of_some _ hl
 refine ⟨hnew.typeIs,F.args_dict_init_2 _ _,?_⟩
 unfold Builtin.«dict.__init__»
 refine wpAny_bind ?_
 unfold Builtin.Dict.selfAndRest
 refine wpAny_bind (wpAny_notOrdered_dict hnew.typeIs ?_)
 show wpAny _ _ (pure (s.heap.objs.size,[Value.ref l])) _ _ _
 refine wpAny_pure ?_
 show wpAny _ _ (Builtin.Dict.updateFrom "dict.__init__" s.heap.objs.size (.ref l) [] .none) _ _ _
 unfold Builtin.Dict.updateFrom
 refine wpAny_bind (wpAny_typeOf (T:="list") ⟨_,hl',rfl⟩ ?_)
 rw [if_pos (by decide)]
 refine wpAny_bind (Er hl' F.list_keys_none (by decide) hA fun h' tk hk=>?_)
 rw [if_pos (show (none:Option Value).isNone=true from rfl)]
 have hl2:=hk _ _ hl'
 have hlt:l < s.heap.objs.size:=Heap.lt_size hl
 have hd2:h'.DictOf knd s.heap.objs.size []:=vp hnew fun o e=>hk _ _ e
 have hds:s.heap.objs.size < h'.objs.size:=by obtain ⟨o,_,_,ho,_⟩:=hd2;exact Heap.lt_size ho
 have htl:∀ i,i < its.size→tup i < s.heap.objs.size:=fun i hi=>by
  obtain ⟨kv,hkv⟩:∃ kv,more[i]? =some kv:=⟨_,List.getElem?_eq_getElem (by omega)⟩
  obtain ⟨_,_,_,e,_⟩:=hp i kv hkv
  exact Heap.lt_size e
 refine wpAny_bind (wpAny_rule ?_)
 refine wpAny_bind (wpAny_pyIter_list (items:=its) ⟨_,hl2,rfl,c,rfl⟩ ?_)
 have W:=Walks.list (prog:=prog) (w:=w) (A:=A.in1.in1) hA h'.objs.size l (Nat.ne_of_lt (Nat.lt_trans hlt hds)) its
 refine wpAny_pure ⟨plainId_quiet F.plain_dict_update_loop _,m7 (knd:=knd) (A:=A.in1) W s.heap.objs.size ?_ more hn hsz tup (fun i hi=>⟨?_,?_⟩) (fun i v _ e=>hit i v e) _ 0 _ _ _ rfl (Nat.zero_le _) ⟨⟨_,Heap.get?_push_size _ rfl,rfl,rfl⟩,?_⟩ ?_ (fun i kv hi=>?_) fun h3 tk3 hd3 hk3=>?_⟩
 ·intro hm
  rcases List.mem_cons.mp hm with e | hm
  ·exact absurd e (Nat.ne_of_lt hds)
  ·exact absurd (List.mem_singleton.mp hm).symm (Nat.ne_of_lt hlt)
 ·intro hm
  exact absurd (List.mem_singleton.mp hm) (Nat.ne_of_lt (Nat.lt_trans (htl i hi) hds))
 ·exact Nat.ne_of_lt (htl i hi)
 ·exact ⟨_,Heap.get?_push_of_some _ hl2,rfl,c,rfl⟩
 ·exact hd2.push _
 ·obtain ⟨key,ob,m,e,x⟩:=hp i kv hi
  exact ⟨key,ob,m,Heap.get?_push_of_some _ (hk _ _ (Heap.get?_push_of_some _ e)),x⟩
 ·rw [merged_nil_of_nodup more nd] at hd3
  refine ⟨rfl,h h3 tk3 hd3 fun b o e=>hk3 b o (fun hm=>?_) ?_ (Heap.get?_push_of_some _ (hk _ _ (Heap.get?_push_of_some _ e)))⟩
  ·exact absurd (List.mem_singleton.mp hm) (Nat.ne_of_lt (Nat.lt_trans (Heap.lt_size e) hds))
  ·exact Nat.ne_of_lt (Heap.lt_size e)
end
end PySem
namespace L2
open PySem PySem.Spec PyProof.Rows
noncomputable def O0:List V→Hp→VK→Prop:=fun xs H Q=>∃ (l:Addr) (ps:List (Addr×Key×V)),xs=[.ref l]∧H l=some (.lst (ps.map fun q=>V.ref q.1))∧(∀ q∈ps,H q.1=some (.tup [kV q.2.1,q.2.2]))∧(ps.map fun q=>q.2.1).Nodup∧
 ∀ d,H d=none→Q (.ref d) (upd H d (.dK (ps.map (·.2))))
section
variable {X:Cx}
theorem qc (hc:X.calm=true):nj X (.type "dict") O0:=by
 intro pins s σ H xs us Q I r h
 obtain ⟨l,ps,rfl,hl,ht,nd,q⟩:=h
 obtain ⟨u,rfl,rx⟩:=AE r
 cases rx
 obtain ⟨z,its,c,rv,ll,el⟩:=I.lstM hl
 rw [List.length_map] at z ll
 have get:∀ (i:Nat) q,ps[i]? =some q→its[i]? =some (.ref q.1)∧∃ key v o n,s.heap.get? q.1=some o∧o.cls= .type "tuple"∧o.data= .seq #[key,v] n∧(dM X.prog X.w).is q.2.1 key=true∧RelV q.2.2 v:=fun i q hq=>by
  obtain ⟨u,hu,ru⟩:=Vals.get (x:=V.ref q.1) rv (by rw [List.getElem?_map,hq];rfl)
  cases ru
  refine ⟨hu,?_⟩
  have e:=ht q (List.mem_of_getElem? hq)
  obtain ⟨_,us,rt,it⟩:=I.hok _ _ e
  obtain ⟨a,b,rfl,ra,rb⟩:=Vals.two rt
  obtain ⟨o,ho,hcl,n,hda⟩:=it
  exact ⟨a,b,o,n,ho,hcl,hda,Ik ra,rb⟩
 obtain ⟨vs,hvs⟩:∃ vs:List (Key×Value),vs=(List.range ps.length).map fun i=>match ps[i]? with
  | some q=>(q.2.1,match s.heap.get? q.1 with | some o=>(match o.data with | .seq xs _=>xs.getD 1 .none | _=> .none) | none=> .none)
  | none=>(.inl 0,.none):=⟨_,rfl⟩
 have hv:∀ (i:Nat) q,ps[i]? =some q→∃ key v o n,vs[i]? =some (q.2.1,v)∧s.heap.get? q.1=some o∧o.cls= .type "tuple"∧o.data= .seq #[key,v] n∧(dM X.prog X.w).is q.2.1 key=true∧RelV q.2.2 v:=fun i q hq=>by
  obtain ⟨_,key,v,o,n,e,e2,e3,k,rv⟩:=get i q hq
  have hi:=(List.getElem?_eq_some_iff.mp hq).1
  refine ⟨key,v,o,n,?_,e,e2,e3,k,rv⟩
  rw [hvs,List.getElem?_map,List.getElem?_range hi]
  show some (match ps[i]? with | some q=>_ | none=>_)=_
  rw [hq]
  show some (q.2.1,match s.heap.get? q.1 with | some o=>_ | none=>_)=_
  rw [e]
  show some (q.2.1,match o.data with | .seq xs _=>_ | _=>_)=_
  rw [e3];rfl
 have lv:vs.length=ps.length:=by rw [hvs,List.length_map,List.length_range]
 clear hvs
 have keys:vs.map (·.1)=ps.map fun q=>q.2.1:=by
  apply List.ext_getElem?;intro i
  rw [List.getElem?_map,List.getElem?_map]
  cases hq:ps[i]? with
  | none=>rw [List.getElem?_eq_none (by rw [lv];exact List.getElem?_eq_none_iff.mp hq)];rfl
  | some q=>obtain ⟨_,v,_,_,e,_⟩:=hv i q hq;rw [e];rfl
 have kv:KV (ps.map (·.2)) vs:=by
  refine Bd (by rw [List.length_map,lv]) fun i a b ha hb=>?_
  rw [List.getElem?_map] at ha
  obtain ⟨q,hq,rfl⟩:=Option.map_eq_some_iff.mp ha
  obtain ⟨_,v,_,_,e,_,_,_,_,rv⟩:=hv i q hq
  rw [e] at hb
  cases hb
  exact ⟨rfl,rv⟩
 refine vN (knd:=dM X.prog X.w) (its:=its.toArray) (c:=c) (more:=vs) (tup:=fun i=>match ps[i]? with | some q=>q.1 | none=>0) (I.ok.hd hc) el (by rw [lv,ll];simp) (by simpa using (ll ▸ z)) (fun i v e=>?_) (fun i kv' e=>?_) (by rw [keys];exact nd) fun h' tk hd hk=>?_
 ·have hi:i < ps.length:=by rw [ll];have:=(Array.getElem?_eq_some_iff.mp e).1;simpa using this
  obtain ⟨q',hq⟩:∃ q',ps[i]? =some q':=⟨_,List.getElem?_eq_getElem hi⟩
  have e2:=(get i q' hq).1
  have e:its[i]? =some v:=by simpa using e
  rw [e2] at e
  cases e
  rw [hq]
 ·have hi:i < ps.length:=by rw [← lv];exact (List.getElem?_eq_some_iff.mp e).1
  obtain ⟨q',hq⟩:∃ q',ps[i]? =some q':=⟨_,List.getElem?_eq_getElem hi⟩
  obtain ⟨key,v,o,n,e1,e2,e3,e4,e5,_⟩:=hv i q' hq
  rw [e1] at e
  cases e
  rw [hq]
  exact ⟨key,o,n,e2,e3,e4,e5⟩
 ·refine ⟨.ref s.heap.objs.size,_,I.laid (t':=tk) hk (Nat.le_refl _) (show eA X.prog X.w _ h' _ (.dK (ps.map (·.2))) from ⟨by rw [List.length_map];exact z,beq_eq_false_iff_ne.mpr fun e=>absurd e.symm (Nat.ne_of_lt I.big),vs,kv,hd⟩),rfl,q _ (I.hok.fresh (Nat.le_refl _))⟩
end
section
variable {H:Hp} {Q:VK}
theorem DF {l:Addr} {ps:List (Addr×Key×V)} (e:H l=some (.lst (ps.map fun q=>V.ref q.1))) (ht:∀ q∈ps,H q.1=some (.tup [kV q.2.1,q.2.2])) (nd:(ps.map fun q=>q.2.1).Nodup) (h:∀ d H2,H d=none→Same H H2→H2 d=some (.dK (ps.map (·.2)))→Q (.ref d) H2):O0 [.ref l] H Q:=⟨l,ps,rfl,e,ht,nd,gC h⟩
end
end L2
namespace PySem
section
variable {M:Model} {A:Around} {E:Value→Shared→Prop} {env:Env} {s:Shared}
variable {nm q:Str} {C N:Addr} {bs bm:List Value} {hdct:Bool} {sn:List Str} {sub:List Value} {ab:Bool} {col:Option Bool} {dd:Option Addr} {k0 k1 k2 k3 k5:Option Value} {newId:String}
theorem mj {x:Sem Value} {Q:Flow→Shared→Prop} (hbase:bm.contains (.type "BaseException")=true) (hh:A.handled=none)
  (h:wpAny M A x (fun v s₁=>∃ e t dx,v= .ref e∧s₁.heap.get? C=some (excClassObj nm q C N bs bm hdct sn sub ab col dd k0 k1 k2 k3 k5 newId)∧
   s₁.heap.get? e=some {cls:= .ref C,dict:=dx,data:= .fields #[.ref t,.none,.none,.none,.bool false,.none]}∧E (.ref e) s₁) E s):
  wpAny M A (raiseStmt env (some x) none) Q E s:=by
 have hcB:(Value.ref C::bm).contains (.type "BaseException")=true:=by rw [List.contains_cons,hbase,Bool.or_true]
 unfold raiseStmt
 refine wpAny_bind (wpAny_mono h (fun v s₁ h₁=>?_) fun _ _ x=>x)
 obtain ⟨e,t,dx,rfl,hC,he,hE⟩:=h₁
 obtain ⟨hp,g,d,tk,os⟩:=s₁
 repeat (first | with_reducible refine wpAny_loadPart_at he ?_ | with_reducible refine wpAny_loadPart_at hC ?_ | (with_reducible refine wpAny_isSubtype_exc hC ?_;rw [hcB]) | wp_step)
 exact wpAny_raiseNew_none hh hE
theorem FF {x:Expr} {pos:Pos} {Q:Flow→Shared→Prop} (hbase:bm.contains (.type "BaseException")=true) (hh:A.handled=none)
  (h:wpAny M A (eval x env) (fun v s₁=>∃ e t dx,v= .ref e∧s₁.heap.get? C=some (excClassObj nm q C N bs bm hdct sn sub ab col dd k0 k1 k2 k3 k5 newId)∧
   s₁.heap.get? e=some {cls:= .ref C,dict:=dx,data:= .fields #[.ref t,.none,.none,.none,.bool false,.none]}∧E (.ref e) s₁) E s):
  wpAny M A (exec (.Raise (some x) none pos) env) Q E s:=by
 rw [arm_exec_Raise]
 first
  | exact wpAny_bind (wpAny_standAt (mj hbase hh (wpAny_bind (wpAny_mono h (fun v s₁ h₁=>wpAny_bind (wpAny_standAt (wpAny_pure h₁))) fun _ _ x=>x))))
  | (simp only [evalOpt,Option.map];exact wpAny_bind (wpAny_standAt (mj hbase hh (wpAny_bind (wpAny_mono h (fun v s₁ h₁=>wpAny_bind (wpAny_standAt (wpAny_pure h₁))) fun _ _ x=>x)))))
  | (show wpAny M A (do standAt pos;raiseStmt env (some (do let v ← eval x env;standAt pos;pure v)) none) Q E s;exact wpAny_bind (wpAny_standAt (mj hbase hh (wpAny_bind (wpAny_mono h (fun v s₁ h₁=>wpAny_bind (wpAny_standAt (wpAny_pure h₁))) fun _ _ x=>x)))))
end
end PySem
namespace L2
open PySem PySem.Spec PyProof.Rows
noncomputable def del (H:Hp) (p:Addr):Hp:=fun b=>if b=p then none else H b
theorem Go {H:Hp} {p:Addr}:del H p p=none:=if_pos rfl
theorem qJ {H:Hp} {p b:Addr} (h:b≠p):del H p b=H b:=if_neg h
theorem tD {H:Hp} {p b:Addr} (h:H b=none):del H p b=none:=by unfold del;split;rfl;exact h
theorem oF {H:Hp} {p b:Addr} {o u:HO} (e:H p=some o) (h:H b=some u) (n:o≠u):del H p b=some u:=by
 rw [qJ fun z=>by subst z;rw [e] at h;cases h;exact n rfl];exact h
section
variable {X:Cx} {pins:List (Addr×Obj)} {σ:St} {H:Hp} {s:Shared} {p:Addr}
theorem Inv.untrack {φ:Heap→Prop} (I:Inv X pins σ H s) (e:H p=some (.ext φ)):Inv X pins σ (del H p) s:=by
 have U:=I.base
 refine ⟨I.ok,I.os,I.bare,⟨U.keep,U.slot,fun b ob q n hx=>tD (U.free b ob q n hx),U.there,fun b xs q=>oF e (U.tups b xs q) (fun z=>by cases z),fun b o u q=>oF e (U.frzs b o u q) (fun z=>by cases z),fun b ps q=>?_⟩,I.loc,I.cell,tD I.free,fun y c q=>tD (I.freeC y c q),fun p' hp=>?_,fun b ob q=>?_,I.len⟩
 ·obtain ⟨m,q'⟩:=U.tbls b ps q
  exact ⟨m,oF e q' (fun z=>by cases z)⟩
 ·obtain ⟨q,n,r⟩:=I.pin p' hp
  exact ⟨q,tD n,r⟩
 ·by_cases z:b=p
  ·rw [z,Go] at q;cases q
  ·rw [qJ z] at q
   exact (I.hok b ob q).stay (fun _ _ _ q=>q) (fun c q=>oF e q (fun z=>by cases z)) fun c xs q=>oF e q (fun z=>by cases z)
noncomputable def JT (C:Addr) (sp:Sp) (E:XK) (Wx:XW) (t:TA):TS:=fun _ σ H=>t σ H fun vs H1=>∃ v,vs=[v]∧∀ x,H1 x=none→sp [.ref x,v] (upd H1 x (ExcF x C none)) (fun v H2=>v= .non∧∃ dx,H2 x=some (ExcF x C dx)∧Wx σ (.ref C) dx (del H2 x)) E
noncomputable def As (C:Addr) (sp:Sp) (E:XK) (Wx:XW) (σ:St) (vs:List V) (H:Hp):Prop:=∃ v,vs=[v]∧∀ x,H x=none→sp [.ref x,v] (upd H x (ExcF x C none)) (fun v H2=>v= .non∧∃ dx,H2 x=some (ExcF x C dx)∧Wx σ (.ref C) dx (del H2 x)) E
theorem i3 {C:Addr} {sp:Sp} {E:XK} {Wx:XW} {t:TA} {D:Ends} (h:t σ H (As C sp E Wx σ)):JT C sp E Wx t D σ H:=h
theorem kL {C:Addr} {sp:Sp} {E:XK} {Wx:XW} {v:V} (h:∀ x H2,H x=none→Same H H2→H2 x=some (ExcF x C none)→sp [.ref x,v] H2 (fun v H2=>v= .non∧∃ dx,H2 x=some (ExcF x C dx)∧Wx σ (.ref C) dx (del H2 x)) E):As C sp E Wx σ [v] H:=
 ⟨v,rfl,fun x f=>h x _ f (fun b o e=>by rw [aw (al e f)];exact e) aA⟩
theorem nK {C W f:Addr} {CX:CXT} {k:Nat} {fd:FuncData} {ps:List Str} {sp:Sp} {E:XK} {Wx:XW} {x:Str} {np cpos pos:Pos} {e:Expr} {es:List Expr} {t:TA} (M:XOwn X.K C W f) (F:FnOk X.prog X.w X.K X.mg X.base CX k f fd ps sp) (hr:Room (k + 1) X.A) (hg:Gl X x) (hm:X.mg x=some (.ref C))
  (hb:bT X.K fd ps []) (hx:qP CX X E) (ht:Thr X Wx) (hc:X.calm=true) (ha:PA X (e::es) t)
  (hdb:(x == ("__debug__":Str))=false:=by decide) (he:starEach (e::es) X.env=(false,eval e X.env)::starEach es X.env:=by rfl) (hpl:(backTo cpos (starEach es X.env)).any (·.1)=false:=by rfl):
  PS X (.Raise (some (.Call (.Name x np) (e::es) [] cpos)) none pos) (JT C sp E Wx t):=by
 intro pins s σ H D I h
 obtain ⟨nm,qn,N,bs,sn,sub,ab,col,dd,k0,k1,k2,k3,k5,lk⟩:=M.lk
 refine FF (C:=C) (nm:=nm) (q:=qn) (N:=N) (bs:=bs) (bm:= .ref W::xBM) (hdct:=true) (sn:=sn) (sub:=sub) (ab:=ab) (col:=col) (dd:=dd) (k0:=k0) (k1:=k1) (k2:=k2) (k3:=k3) (k5:=k5) (newId:="ValueError.__new__") (by simp) (I.ok.hd hc) ?_
 refine wpAny_Call_Name_kw (gJ I hg hm ?_ hdb)
 refine PySem.W.callWith_K (h₀:=X.base) I.ok.mod.kin M.kp (thn (ha cpos pins s σ H _ I h) fun us s1 ⟨vs,H1,I1,r,v,ev,q⟩=>⟨I1.kIn,?_⟩) he hpl
 subst ev
 have hC:=I1.kIn _ _ lk
 have T:OwnTail s1.heap xBM (.ref W::xBM):=PySem.W.tail_of_in I1.kIn (JS M.up)
 have KI:=I1.kIn
 obtain ⟨hh,g,d,tk,os⟩:=s1
 refine Mb PySem.F.excBase_ValueError T KI hC M.init (beq_iff_eq.mp M.fn) (fun h' e m=>?_) (by show us.length≤_;rw [← r.length];exact Ga)
 obtain ⟨tt,q1,q2,q3⟩:=m.there
 obtain ⟨I2,f2⟩:=K8 I1 m
 have I3:=I2.track f2.fe (EW q1)
 have hq:=q e f2.fe.1
 have r2:Vals [V.ref e,v] (Value.ref e::us):= .cons rfl r
 have hl:(Value.ref e::us++[]).length=ps.length:=by
  have z:=r2.length
  rw [F.len _ _ _ _ hq] at z
  rw [List.append_nil]
  exact z.symm
 have bd:=hb _ (Value.ref e::us) I3.kIn hl
 rw [List.append_nil] at bd
 refine wpAny_call (codeAny_mono (F.run _ X.stack _ _ ⟨Value.ref e::us,[]⟩ (Value.ref e::us) _ _ E (hr.make C us []) (I3.env0.make C us []) bd r2 hq) fun r s' hq'=>?_)
 cases r with
 | error e=>exact hx pins σ _ _ e s' I3 hq'
 | ok fl=>
   cases fl with
   | ret u=>
     obtain ⟨v,H',I4,rv,ev,dx,hp,wq⟩:=I3.after hq'
     subst ev
     obtain ⟨⟨t4,e4⟩,_⟩:=I4.hok e _ hp
     obtain ⟨f0,f1,f2',f3,f4,f5⟩:=f2.fe
     exact ⟨rv,e,t4,dx,rfl,I4.kIn _ _ lk,e4,ht _ _ ⟨pins,e,.ref C,dx,none,σ,del H' e,rfl,I4.untrack hp,⟨⟨_,_,e4,rfl,rfl,rfl,by simp,by simp⟩,⟨Go,f1,f2',f3,f4,f5⟩,fun t fl z=>by cases z⟩,wq⟩⟩
   | next=>exact False.elim hq'
   | brk=>exact False.elim hq'
   | cont=>exact False.elim hq'
end
noncomputable def ExcC (H:Hp) (p C:Addr) (fs:List (Str×V)):Prop:=∃ d,H p=some (ExcO p (.ref C) (some d))∧H d=some (.xd fs)
section
variable {X:Cx} {pins:List (Addr×Obj)} {σ:St} {H:Hp} {s:Shared} {p C:Addr} {fs:List (Str×V)}
theorem ExcC.inst (I:Inv X pins σ H s) (e:ExcC H p C fs):∃ (ox o:Obj) (mA:Str→Option Value),PySem.W.InstAt s.heap p ox C (some o)∧(∀ n,PySem.W.lookIn n o=some (mA n))∧∀ n,RelO (fs.lookup n) (mA n):=by
 obtain ⟨d,a,b⟩:=e
 obtain ⟨⟨oe,vs,e0,e1,e2,e3⟩,_⟩:=I.hok p _ a
 obtain ⟨mA,ns,r⟩:=I.hok d _ b
 obtain ⟨od,ho,hl⟩:=BH ns
 exact ⟨oe,od,mA,⟨e0,e1,by unfold PySem.W.notCls;rw [e3],by rw [e2];exact ho⟩,hl,r⟩
noncomputable def Sc (K:PySem.W.Frag) (ta:TE) (f:Str):TE:=fun σ H Q=>ta σ H fun x H1=>∃ p C fs v,x= .ref p∧ExcC H1 p C fs∧XIsi K C∧PySem.W.hasDictIn K C=true∧aq K C f∧fs.lookup f=some v∧Q v H1
noncomputable def Pn (K:PySem.W.Frag) (f:Str) (Q:VK) (x:V) (H:Hp):Prop:=∃ p C fs v,x= .ref p∧ExcC H p C fs∧XIsi K C∧PySem.W.hasDictIn K C=true∧aq K C f∧fs.lookup f=some v∧Q v H
theorem tT {K:PySem.W.Frag} {f:Str} {te:TE} {Q:VK} (h:te σ H (Pn K f Q)):Sc K te f σ H Q:=h
theorem sY {K:PySem.W.Frag} {f:Str} {v:V} {Q:VK} (e:ExcC H p C fs) (c:XIsi K C) (d:PySem.W.hasDictIn K C=true) (n:aq K C f) (l:fs.lookup f=some v) (h:Q v H):Pn K f Q (.ref p) H:=⟨p,C,fs,v,rfl,e,c,d,n,l,h⟩
theorem yI {K:PySem.W.Frag} {e:Expr} {ta:TE} {f:Str} {pos:Pos} (h:X.K=K) (he:PE X e ta) (hb:attributeBase e f X.env (eval e X.env)=eval e X.env):PE X (.Attribute e f pos) (Sc K ta f):=by
 subst h
 intro pins s σ H Q I h
 refine Mh hb (thn (he pins s σ H _ I h) fun u s1 ⟨x,H1,I1,rx,p,C,fs,v,ex,ea,c,d,n,l,q⟩=>?_)
 subst ex
 obtain rfl:u=Value.ref p:=rx
 obtain ⟨ox,o,mA,J,hl,r⟩:=ea.inst I1
 obtain ⟨u',hu,ru⟩:=RelO.some_of (v:=v) (o:=mA f) (by rw [← l];exact r f)
 exact Ra I1.kIn c J (PySem.W.findObj_own (attr:=none) d n rfl (by rw [hl,hu])) (B0 ru) ⟨v,H1,I1.tok _,ru,q⟩
end
inductive PH (X:Cx) (Wo:XW):List ExceptHandler→(Ends→XW)→Prop where
 | nil:PH X Wo [] (fun _=>Wo)
 | cons {G:Addr} {g n:Str} {i:Nat} {gp hp:Pos} {b₀:Stmt} {suite:List Stmt} {ts:TS} {hs:List ExceptHandler} {WR:Ends→XW} (cg:jx X.K G) (hg:Gl X g) (hm:X.mg g=some (.ref G)) (hi:X.N[i]? =some n) (hk:X.env.scope.names.lookup n=some .local)
   (hs':∀ pins e,PSs (X.mark pins e) (b₀::suite) ts) (hdb:(g == ("__debug__":Str))=false) (r:PH X Wo hs WR):PH X Wo (.ExceptHandler (some (.Name g gp)) (some n) (b₀::suite) hp::hs) (fun D=>WTry X.K G i (WR D) ts D)
noncomputable def Kw:V→List V→Hp→VK→Prop:=fun x vs H Q=>∃ (l:Addr) (zs:List Str) (z:Str) (j:Nat),x= .ref l∧vs=[.str z]∧H l=some (.lst (zs.map V.str))∧zs[j]? =some z∧(∀ i,i < j→zs[i]? ≠some z)∧Q (.int j) H
noncomputable def AI (m:Str):Value→Bool
 | .str i _=>i.cps.toList == m.cps.toList
 | _=>false
section
variable {X:Cx}
theorem K6:MtM X "list.index" Kw:=by
 intro pins s σ H x xs v us Q I rx rs h
 obtain ⟨l,ns,m,j,rfl,rfl,hH,hj,hno,q⟩:=h
 cases rx
 obtain ⟨u,rfl,ru⟩:=Vals.one rs
 obtain ⟨t,rfl⟩:=ru
 obtain ⟨z,its,n,r,hl,e⟩:=I.lstM hH
 have at':∀ i:Nat,∀ (h:i < its.length),∃ k t,ns[i]? =some k∧its[i]= .str k t:=fun i h=>by
  have hi:i < ns.length:=by rw [List.length_map] at hl;omega
  obtain ⟨u,hu,ru⟩:=r.get (i:=i) (x:= .str ns[i]) (by rw [List.getElem?_map,List.getElem?_eq_getElem hi];rfl)
  obtain ⟨t,rfl⟩:=ru
  rw [List.getElem?_eq_getElem h] at hu
  exact ⟨ns[i],t,List.getElem?_eq_getElem hi,Option.some.inj hu⟩
 have hjl:j < its.length:=by
  have:=(List.getElem?_eq_some_iff.mp hj).1
  rw [List.length_map] at hl;omega
 refine call_meets F.slot_list_index ⟨_,e,rfl⟩ F.entry_list_index (F.args_list_index_2 _ _)
  (MeetsSeq.list_index l its.toArray n (.str m t) (AI m) ?_ j (by rw [List.size_toArray];exact hjl) (by have:sizeLine=sizeLine:=rfl;rw [sizeLine_eq] at *;omega) ?_ ?_) ⟨e,?_⟩
 ·intro y hy
  rw [List.mem_toArray] at hy
  obtain ⟨i,hi,rfl⟩:=List.mem_iff_getElem.mp hy
  obtain ⟨k,t2,_,ek⟩:=at' i hi
  rw [ek]
  exact SeqRoads2.EqGives.str k m t2 t
 ·obtain ⟨k,t2,hk,ek⟩:=at' j hjl
  rw [hj] at hk
  cases hk
  show AI m its[j]=true
  rw [ek];simp [AI]
 ·intro i hi hij
  rw [List.size_toArray] at hi
  obtain ⟨k,t2,hk,ek⟩:=at' i hi
  show AI m its[i]=false
  rw [ek]
  show (k.cps.toList == m.cps.toList)=false
  rw [beq_eq_false_iff_ne]
  intro e'
  have e':k=m:=by cases k;cases m;congr 1;exact Array.toList_inj.mp e'
  rw [e'] at hk
  exact hno i hij hk
 ·exact ⟨.int j,H,I.tok _,⟨_,rfl⟩,q⟩
end
theorem ND {l:Addr} {zs:List Str} {z:Str} {j:Nat} {H:Hp} {Q:VK} (e:H l=some (.lst (zs.map V.str))) (hj:zs[j]? =some z) (hn:∀ i,i < j→zs[i]? ≠some z) (h:Q (.int j) H):Kw (.ref l) [.str z] H Q:=⟨l,zs,z,j,rfl,rfl,e,hj,hn,h⟩
structure RW (osc:Scope) (ON N:List Str) (n:Nat) (fx:List Nat) (x0:Str) (sc:Scope):Prop where
 kind:sc.kind= .function
 one:∃ pre post,sc.names=pre++(x0,.cell)::post∧(∀ y∈pre,y.2≠.cell)∧∀ y∈post,y.2≠.cell
 its:sc.names.lookup x0=some .cell
 own:∀ y∈sc.names,y.2= .local→sc.names.lookup y.1=some .local
 fre:∀ y∈sc.names,y.2= .free→osc.names.lookup y.1=some .cell∨osc.names.lookup y.1=some .free
 len:N.length=n + fx.length
 frn:∀ k,k < fx.length→∃ x j,N[n + k]? =some x∧fx[k]? =some j∧ON[j]? =some x∧sc.names.lookup x=some .free
section
variable {X:Cx} {pins:List (Addr×Obj)} {σ:St} {H:Hp} {s:Shared}
noncomputable def NK (osc sc:Scope):Scope:={sc with names:=sc.names.map fun (n,k)=>if (k == NameKind.free&&osc.kind == .function&&osc.names.lookup n == some .cell) then (n,NameKind.cell) else (n,k)}
theorem Rz {osc:Scope} {N:List Str} {sc:Scope} {cl:List (Str×Addr)} {C:Addr} {fp:List Addr} (h:X.env.scope=osc):(iU X N sc cl C fp s H).env.scope=NK osc sc:=by subst h;rfl
end
section
variable {σ:St} {H:Hp} {D:Ends} {t u:TS}
theorem Sk (h:∀ R:St→Hp→Prop,(∀ σ H,u D σ H→R σ H)→t {D with nx:=R} σ H):tSeq t u D σ H:=h _ fun _ _ q=>q
theorem s_go {R X:St→Hp→Prop} (e:∀ σ H,X σ H→R σ H) (h:X σ H):R σ H:=e _ _ h
end
end L2
namespace ST
open PySem PySem.SetTable
structure Tb (t:SetTable) (hs:List Int):Prop where
 dm:t.dummies=#[]
 pn:t.plain=true
 rs:t.place.toList.Pairwise (· < ·)
 sz:t.place.toList.length=hs.length
 nf:hs.length * 5 < t.mask * 3
 k:(t.mask=7∧∀ j∈t.place.toList,j≤7)∨((t.mask=31∨t.mask=127)∧t.place.toList.map (fun n:Nat=>(n:Int))=hs)
noncomputable def bm:List Nat→Nat
 | []=>0
 | j::l=>2 ^ j||| bm l
structure Ow (M:Nat) (owner:Array (Option Nat)) (pre:List Int):Prop where
 sz:owner.size=M + 1
 at':∀ j,j≤M→owner.getD j none=pre.findIdx? (· == (j:Int))
noncomputable def fin (t:SetTable) (es:Array (Int×Value)) (h:Int) (x:Value):Array (Int×Value)×SetTable:=
 if (!(layNew t es h x).2.2.1&&(layNew t es h x).2.1.tooFull)=true then ((relayAll (layNew t es h x).2.1 (layNew t es h x).1 (grown (layNew t es h x).1.size)).1,(relayAll (layNew t es h x).2.1 (layNew t es h x).1 (grown (layNew t es h x).1.size)).2.1) else ((layNew t es h x).1,(layNew t es h x).2.1)
open PyProof.Rows
noncomputable abbrev byT (w:World):Bool:=w.params.followText "set-order"
structure SI (w:World) (o:Obj) (ns:List Int) (es:Array (Int×Value)) (ep:Nat) (t:SetTable):Prop where
 ex:o.ExactSet
 d:o.data= .set es ep t
 v:∀ e∈es.toList,∃ tk,e.2= .int e.1 tk
 p:(es.toList.map (·.1)).Perm ns
 f:t.fits es.size=true
 l:t.led= !byT w
 tb:byT w=false→Tb t (es.toList.map (·.1))
section
variable {prog:Program} {w:World} {A:Around} {E:Value→Shared→Prop} {s:Shared}
noncomputable abbrev nso (w:World):Obj:={cls:= .type "set",dict:=none,data:= .set #[] 0 (.fresh 0 0 (!byT w))}
theorem OE (a:Value) {Q:Value→Shared→Prop} (h:Q (.ref s.heap.objs.size) {s with heap:=s.heap.push (nso w)}):
  codeAny (model prog w) A (.call (.builtin "set.__new__") ⟨[.type "set",a],[]⟩) (wants Q E) s:=by
 refine codeAny_of_tree (show wpAny _ A.in1 (checkBuiltinCall "set.__new__" ⟨[.type "set",a],[]⟩ >>=fun _=>again (.builtin "set.__new__" ⟨[.type "set",a],[]⟩)) _ _ s from ?_)
 refine wpAny_bind (wpAny_of_eq (F.newCall_set_1 a) (wpAny_pure ⟨plainId_quiet F.plain_set_new _,codeAny_builtin F.entry_set_new ?_⟩))
 rw [Around.under_plainId F.plain_set_new _]
 unfold Builtin.«set.__new__» Builtin.Frozenset.newClass
 have hsub:=sub_set_self
 obtain ⟨hp,g,d,tk,os⟩:=s
 dsimp only
 wp_walk
 refine wpAny_askSetting (wpAny_pure ?_)
 dsimp only
 simp only [newObj]
 exact wpAny_bind (wpAny_alloc (wpAny_pure (wpAny_pure h)))
end
open PySem.W PySem.Spec L2
end ST
namespace L2
open PySem PySem.Spec PyProof.Rows
end L2
namespace ST
open PySem PySem.SetTable PyProof.Rows
section
variable {prog:Program} {w:World} {A:Around} {R:Result→Shared→Prop} {I:Addr} {fp wr:List Addr} {G:Array GenState→Array GenState→Prop} {P:Nat→Value→Prop} {St:Nat→Shared→Prop}
noncomputable def SS (prog:Program) (w:World) (h:Heap) (a:Addr) (zs:List Str):Prop:=h.SetOf (strKind prog w) a (fun k=>decide (k∈zs)) zs.length
theorem SS.at' {h h':Heap} {a:Addr} {zs:List Str} (S:SS prog w h a zs) (hk:∀ o,h.get? a=some o→h'.get? a=some o):SS prog w h' a zs:=by
 obtain ⟨o,es,ep,t,ho,rest⟩:=S
 exact ⟨o,es,ep,t,hk _ ho,rest⟩
theorem K9 {zs:List Str} (W:WalksS prog w A.in1 I fp wr G zs.length P St) (S:Addr) (hSf:S∉fp) (hv:∀ i v,P i v→∃ n t,zs[i]? =some n∧v= .str n t) (nd:zs.Nodup) (hl:zs.length < 1000):
  ∀ (k i:Nat) (s:Shared),zs.length - i=k→i≤zs.length→St i s→SS prog w s.heap S (zs.take i)→
    (∀ s',Moved (S::wr) G s s'→SS prog w s'.heap S zs→R (.ok (.ret .none)) s')→
    codeAny (model prog w) A (.builtin "set.update.loop" ⟨[.ref S,.ref I],[]⟩) R s:=by
 have hSw:S∉wr:=fun z=>hSf (W.sub _ z)
 have up:∀ b∈wr,b∈S::wr:=fun _ z=>List.mem_cons_of_mem _ z
 intro k
 induction k with
 | zero=>
   intro i s e1 e2 st hS hR
   obtain rfl:i=zs.length:=by omega
   rw [List.take_length] at hS
   refine codeAny_builtin F.entry_set_update_loop ?_
   rw [Around.under_plainId F.plain_set_update_loop _]
   exact wpAny_bind (m:=pyNext (.ref I)) (W.done s _ _ st fun s' mv=>wpAny_pure (hR s' (mv.mono up) (hS.at' fun o e=>mv.heap S _ hSw e)))
 | succ k ih=>
   intro i s e1 e2 st hS hR
   have lt:i < zs.length:=by omega
   refine codeAny_builtin F.entry_set_update_loop ?_
   rw [Around.under_plainId F.plain_set_update_loop _]
   refine wpAny_bind (m:=pyNext (.ref I)) (W.item i s _ _ lt st fun v s' hP st' mv=>?_)
   obtain ⟨n,tk,hn,rfl⟩:=hv i v hP
   have hS':=hS.at' (h':=s'.heap) fun o e=>mv.heap S _ hSw e
   refine wpAny_bind (m:=holding [Value.str n tk] (setAdd S (.str n tk))) (wpAny_holding ?_)
   unfold setAdd
   have hkey:(strKind prog w).is n (.str n tk)=true:=by show Value.isStrOf n (.str n tk)=true;simp [Value.isStrOf]
   refine wpAny_holding (wpAny_bind ((strKind prog w).pyHash (k:=n) hkey ?_))
   have hne:n∉zs.take i:=fun z=>by
    obtain ⟨j,hj,e⟩:=List.mem_iff_getElem.mp z
    rw [List.length_take] at hj
    rw [List.getElem_take] at e
    have:=List.pairwise_iff_getElem.mp nd j i (by omega) lt (by omega)
    rw [e,(List.getElem?_eq_some_iff.mp hn).2] at this
    exact this rfl
   refine wpAny_setAddHashed_of (knd:=strKind prog w) (s:={s' with toks:=s'.toks + 1}) hkey rfl hS' (by rw [List.length_take];unfold scanBound;omega) fun h' sb hS2=>?_
   have hS3:SS prog w h' S (zs.take (i + 1)):=by
    refine SetOf_congr hS2 (fun k'=>?_) ?_
    ·rw [List.take_add_one,hn,Option.toList_some]
     by_cases h1:k'∈zs.take i<;>by_cases h2:k'=n<;>simp [h1,h2]
    ·rw [decide_eq_false hne,List.length_take,List.length_take]
     show min i zs.length + 1=min (i + 1) zs.length
     omega
   refine wpAny_pure ⟨plainId_quiet F.plain_set_update_loop _,ih (i + 1) _ (by omega) lt (W.frame _ s' _ _ st' (Nat.le_succ _) fun b hb o e=>?_) hS3 fun s'' mv' hS4=>?_⟩
   ·rw [sb.2 b (fun z=>hSf (z ▸ hb))];exact e
   ·refine hR s'' (Moved.trans W.gtrans ((mv.mono up).then_heap (Nat.le_succ _) fun b o hb e=>?_) mv') hS4
    rw [sb.2 b (fun z=>hb (by rw [z];exact List.mem_cons_self))];exact e
end
section
variable {prog:Program} {w:World} {A:Around} {E:Value→Shared→Prop} {s:Shared}
theorem FQ:∀ {vs:List Value} {ys:List Str},StrsAre vs ys→vs.length=ys.length
 | _,_,.nil=>rfl
 | _,_,.cons y t h=>by rw [List.length_cons,List.length_cons,FQ h]
theorem JZ:∀ {vs:List Value} {ys:List Str},StrsAre vs ys→∀ (i:Nat) (v:Value),vs[i]? =some v→∃ n t,ys[i]? =some n∧v= .str n t
 | _,_,.nil,i,v,h=>by simp at h
 | _,_,.cons y t hr,0,v,h=>by simp at h;exact ⟨y,t,rfl,h.symm⟩
 | _,_,.cons y t hr,i + 1,v,h=>by
   simp only [List.getElem?_cons_succ] at h ⊢
   exact JZ hr i v h
theorem SS.new {h:Heap} {a:Addr} (e:h.get? a=some (nso w)):SS prog w h a []:=
 SetOf_congr ((setObjOf_fresh (knd:=strKind prog w) (!byT w)).setOf e (by unfold scanBound;omega)) (fun k=>by simp) rfl
theorem call_setS {l:Addr} {items:Array Value} {zs:List Str} {Q:Value→Shared→Prop} (hh:A.handled=none) (hl:s.heap.IsList l items) (hi:StrsAre items.toList zs) (nd:zs.Nodup) (hl10:zs.length < 1000)
  (h:∀ (h':Heap) (tk:Nat),SS prog w h' s.heap.objs.size zs→s.heap.objs.size < h'.objs.size→(∀ b o,s.heap.get? b=some o→h'.get? b=some o)→Q (.ref s.heap.objs.size) {s with heap:=h',toks:=tk}):
  wpAny (model prog w) A (call (.type "set") [.ref l]) Q E s:=by
 obtain ⟨c,tl,hmro⟩:=F.called_set.mro
 have hmade:=F.called_set.made
 have hsub:=F.called_set.sub
 have hsz:items.size=zs.length:=by have:=FQ hi;rw [Array.length_toList] at this;exact this
 refine wpAny_call (codeAny_of_tree (show wpAny _ _ (callAny (.type "set") _) _ _ _ from ?_))
 refine wpAny_pure ⟨Code.quiet_builtin _ (by decide +kernel),codeAny_builtin F.entry_type_call ?_⟩
 rw [Around.under_plain (weight_type_call_type "set" [.ref l] []) rfl]
 have h1:=F.called_set.notType
 have h2:=F.called_set.canCreate
 have hct:=F.typeCall_set_1 (.ref l)
 repeat (any_goals (first | assumption | wp_step))
 refine codeAny_mono (OE (.ref l) (E:=E) (Q:=fun obj s₁=>obj= .ref s.heap.objs.size∧s₁={s with heap:=s.heap.push (nso w)}) ⟨rfl,rfl⟩) fun r s₁ hr=>?_
 rcases r with e | fl
 ·exact hr
 cases fl with
 | ret obj=>
   obtain ⟨rfl,rfl⟩:=hr
   have hS:(s.heap.push (nso w)).get? s.heap.objs.size=some (nso w):=Heap.get?_push_size _ rfl
   have hT:Shared.TypeIs {s with heap:=s.heap.push (nso w)} (.ref s.heap.objs.size) "set":=⟨_,hS,rfl⟩
   have hli:=F.called_set.init.lookup
   have hbi:=F.called_set.init.bind (.ref s.heap.objs.size)
   repeat (any_goals (first | assumption | wp_step))
   refine codeAny_mono (codeAny_call_builtin (R:=wants (fun r s₂=>r= .none∧∃ h' tk,s₂={s with heap:=h',toks:=tk}∧SS prog w h' s.heap.objs.size zs∧s.heap.objs.size < h'.objs.size∧(∀ b o,s.heap.get? b=some o→h'.get? b=some o)) E) F.called_set.init.plain F.entry_set_init (check_set_init_1 hT ?_)) fun r₂ s₂ hr₂=>?_
   ·obtain ⟨ol,hol,hcl,nl,hdl⟩:=hl
    obtain ⟨ocls,odict,odata,oslots⟩:=ol
    dsimp only at hcl hdl
    subst hcl hdl
    have hol':=Heap.get?_push_of_some (nso w) hol
    have hsls:=F.sub_list_set
    have hslf:=F.sub_list_frozenset
    have hne:(Value.type "list" == Value.type "dict")=false:=by decide
    have hl1:(s.heap.push (nso w)).IsList l items:=⟨_,hol',rfl,nl,rfl⟩
    unfold Builtin.«set.__init__» noKeywords Builtin.Frozenset.updateFrom
    generalize hPI:pyIter=PI
    wp_walk
    subst hPI
    refine wpAny_pyIter_list hl1 (wpAny_bind (wpAny_runValue ?_))
    have hlS:l < s.heap.objs.size:=Heap.lt_size hol
    have hne2:l≠(s.heap.push (nso w)).objs.size:=by rw [Heap.size_push];exact Nat.ne_of_lt (Nat.lt_succ_of_lt hlS)
    have W:=(Walks.list (prog:=prog) (w:=w) (A:=A.in1.in1.in1) (by simp [hh]) (s.heap.push (nso w)).objs.size l hne2 items).toS
    rw [hsz] at W
    have hSf:s.heap.objs.size∉[(s.heap.push (nso w)).objs.size,l]:=by
     rw [Heap.size_push];simp only [List.mem_cons,List.not_mem_nil,or_false,not_or]
     exact ⟨Nat.ne_of_lt (Nat.lt_succ_self _),Nat.ne_of_gt hlS⟩
    refine K9 W s.heap.objs.size hSf (fun i v hv=>JZ hi i v (by rw [Array.getElem?_toList];exact hv)) nd hl10 (zs.length - 0) 0 _ (by omega) (Nat.zero_le _) ⟨⟨_,Heap.get?_push_size _ rfl,rfl,rfl⟩,hl1.push _⟩ (SS.new (Heap.get?_push_of_some _ hS)) fun s' mv hS'=>?_
    obtain ⟨h',g',d',tk',os'⟩:=s'
    obtain rfl:g'=s.gens:=mv.gens
    obtain rfl:d'=s.drawn:=mv.drawn
    obtain rfl:os'=s.os:=mv.os
    obtain ⟨oS,_,_,_,hoS,_⟩:=id hS'
    refine wpAny_pure (wpAny_pure ⟨rfl,h',tk',rfl,hS',Heap.lt_size hoS,fun b o e=>?_⟩)
    have hb:=Heap.lt_size e
    exact mv.heap b o (by rw [Heap.size_push];simp only [List.mem_cons,List.not_mem_nil,or_false,not_or];exact ⟨Nat.ne_of_lt hb,Nat.ne_of_lt (Nat.lt_succ_of_lt hb)⟩) (Heap.get?_push_of_some _ (Heap.get?_push_of_some _ e))
   ·rcases r₂ with e | fl₂
    ·exact hr₂
    cases fl₂ with
    | ret r=>
      obtain ⟨rfl,h',tk,rfl,a1,a2,a3⟩:=hr₂
      repeat (any_goals (first | assumption | wp_step))
      exact h _ _ a1 a2 a3
    | _=>exact hr₂.elim
 | _=>exact hr.elim
end
end ST
namespace L2
open PySem PySem.Spec PyProof.Rows
section
variable {X:Cx}
noncomputable def MA (Q:VK) (x:V) (H1:Hp):Prop:=∃ (p:Addr) (zs:List Str),x= .ref p∧H1 p=some (.lst (zs.map V.str))∧zs.Nodup∧zs.length < 1000∧Q (.int zs.length) H1
noncomputable def Sb (t:TE):TE:=fun σ H Q=>t σ H (MA Q)
theorem Ss {t:TE} {σ:St} {H:Hp} {Q:VK} (h:t σ H (MA Q)):Sb t σ H Q:=h
theorem KL {e:Expr} {t:TE} {p1 p2 q1 q2:Pos} (hc:X.calm=true) (g1:Gl X "len") (g2:Gl X "set") (n1:X.mg "len"=none) (n2:X.mg "set"=none) (he:PE X e t)
  (h1:starEach [Expr.Call (.Name "set" p1) [e] [] p2] X.env=[(false,eval (.Call (.Name "set" p1) [e] [] p2) X.env)]:=by rfl) (h2:starEach [e] X.env=[(false,eval e X.env)]:=by rfl):
  PE X (.Call (.Name "len" q1) [.Call (.Name "set" p1) [e] [] p2] [] q2) (Sb t):=by
 intro pins s σ H Q I h
 refine wpAny_Call_Name_kw (lM I g1 n1 boot_len (callWith_builtin1 (Q:=EP X pins σ Q) ?_ h1 rfl))
 rw [h1]
 refine Calls.spliced_cons ?_
 refine Call_ (lM I g2 n2 boot_set (callWith_type1 (thn (aa he ad h2 p2 pins s σ H (fun vs H1=>match vs with | [x]=>MA Q x H1 | _=>False) I h) fun us s1 ⟨vs,H1,I1,r1,q1⟩=>?_) h2 rfl))
 match vs,r1,q1 with
 | [x],r1,q1=>
 obtain ⟨p,zs,rfl,hp,nd,hl10,q⟩:=q1
 cases r1 with
 | cons r rr=>
 cases rr
 cases r
 obtain ⟨z,its,nl,rv,hl,el⟩:=I1.lstM hp
 have hi:StrsAre its.toArray.toList zs:=by simpa using G1 rv
 refine ST.call_setS (zs:=zs) (I1.ok.hd hc) ⟨_,el,rfl,_,rfl⟩ hi nd hl10 fun h' tk hS hsz hk=>?_
 refine Calls.spliced_nil ?_
 obtain ⟨oS,es,ep,tb,hoS,hex,hd,hel,hmem,hb,hf,hn⟩:=hS
 have I2:∀ tk',Inv X pins σ H1 {s1 with heap:=h',toks:=tk'}:=fun tk'=>I1.kept (t':=tk') hk
 refine call_len_set (s:={s1 with heap:=h',toks:=tk}) hoS hex hd hf (by omega) ?_
 exact ⟨.int zs.length,H1,I2 _,⟨_,by rw [hn]⟩,q⟩
end
noncomputable def Kv:V→List V→Hp→VK→Prop:=fun x vs H Q=>∃ (l:Addr) (xs:List V) (k:Nat) (y:V),x= .ref l∧(∃ i:Int,i=(k:Int)∧vs=[.int i,y])∧H l=some (.lst xs)∧k≤xs.length∧k < 1000000∧xs.length < sizeLine∧Q .non (upd H l (.lst (xs.take k++y::xs.drop k)))
section
variable {X:Cx}
theorem K5:MtM X "list.insert" Kv:=by
 intro pins s σ H x vs v us Q I rx rv h
 obtain ⟨l,xs,k,y,rfl,⟨i,hi,rfl⟩,hH,hk,hk2,hz,q⟩:=h
 cases rx
 obtain ⟨_,u,rfl,r1,ru⟩:=Vals.two rv
 obtain ⟨t,rfl⟩:=r1
 obtain ⟨z,its,n,r,hl,e⟩:=I.lstM hH
 have hc0:¬ (!Builtin.List.listFitsIndex i)=true:=by
  have h1:Builtin.List.listFitsIndex i=true:=fitsIndex_both (by omega) (by omega)
  rw [h1];decide
 have hsz:its.toArray.size≤sizeLine:=by rw [List.size_toArray];omega
 have hm:=PySem.AutoListH.list_insert_list_int_val_1 l its.toArray n i t u hc0 hsz
 refine call_meets F.slot_list_insert ⟨_,e,rfl⟩ F.entry_list_insert (F.args_list_insert_3 _ _ _) hm ⟨e,?_⟩
 refine ⟨.non,_,I.lset (its':=its.take k++u::its.drop k) hH e ?_ ((Vals.take k r).append (.cons ru (Vals.drop k r))) ?_,rfl,q⟩
 ·have e1:¬ (i < 0):=by omega
  have e2:min i.toNat its.toArray.size=k:=by rw [hi,Int.toNat_natCast,List.size_toArray];omega
  apply Array.toList_inj.mp
  simp only [e1,if_false,e2]
  have e3:List.take (its.length - k) (its.drop k)=its.drop k:=List.take_of_length_le (by rw [List.length_drop];omega)
  simp [e3]
 ·rw [List.length_append,List.length_cons,List.length_take,List.length_drop]
  omega
end
theorem NC {l:Addr} {xs:List V} {k:Nat} {y:V} {H:Hp} {Q:VK} (e:H l=some (.lst xs)) (hk:k≤xs.length) (hk2:k < 1000000) (hz:xs.length < sizeLine) (h:∀ H2,Upd H H2 l (.lst (xs.take k++y::xs.drop k))→Q .non H2):Kv (.ref l) [.int (k:Int),y] H Q:=⟨l,xs,k,y,rfl,⟨_,rfl,rfl⟩,e,hk,hk2,hz,h _ Upd.of⟩
inductive PH2 (X:Cx) (Wo:XW):List ExceptHandler→(Ends→XW)→Prop where
 | nil:PH2 X Wo [] (fun _=>Wo)
 | cons {G:Addr} {g n:Str} {i:Nat} {gp hp:Pos} {b₀:Stmt} {suite:List Stmt} {ts:TS} {hs:List ExceptHandler} {WR:Ends→XW} (cg:jx X.K G) (hg:Gl X g) (hm:X.mg g=some (.ref G)) (hi:X.N[i]? =some n) (hk:X.env.scope.names.lookup n=some .local)
   (hs':∀ pins e,PSs (X.mark pins e) (b₀::suite) ts) (hdb:(g == ("__debug__":Str))=false) (r:PH2 X Wo hs WR):PH2 X Wo (.ExceptHandler (some (.Name g gp)) (some n) (b₀::suite) hp::hs) (fun D=>WTry X.K G i (WR D) ts D)
 | cons0 {G:Addr} {g:Str} {gp hp:Pos} {b₀:Stmt} {suite:List Stmt} {ts:TS} {hs:List ExceptHandler} {WR:Ends→XW} (cg:jx X.K G) (hg:Gl X g) (hm:X.mg g=some (.ref G))
   (hs':∀ pins e,PSs (X.mark pins e) (b₀::suite) ts) (hdb:(g == ("__debug__":Str))=false) (r:PH2 X Wo hs WR):PH2 X Wo (.ExceptHandler (some (.Name g gp)) none (b₀::suite) hp::hs) (fun D=>RH X.K G (WR D) ts D)
section
variable {X:Cx} {Wo:XW} {b₀:Stmt} {body:List Stmt} {tb:XW→TS}
theorem On {hs:List ExceptHandler} {WH:Ends→XW} (ph:PH2 X Wo hs WH) (ow:Own X) (hx:Thr X Wo) (hN:X.N.Nodup):∀ {pins:List (Addr×Obj)} {s:Shared} {σ1:St} {H1:Hp} {x c t:Addr} {dx:Option Addr} {D:Ends},Inv X pins σ1 H1 s→Fly X pins H1 x (.ref c) dx (some (t,.none)) s.heap→WH D σ1 (.ref c) dx H1→
  wpAny (model X.prog X.w) X.A (handleBy (.ref x) X.env hs) (SP X pins D) X.xe s:=by
 induction ph with
 | nil=>
   intro pins s σ1 H1 x c t dx D J3 g3 w
   obtain ⟨⟨oe,vs,he,hc,hdx,hd,hsz,hT⟩,fe,ft⟩:=id g3
   refine wpAny_handleBy_nil ?_
   unfold PySem.passOn
   refine wpAny_bind (wpAny_field he hd hT.1 ?_)
   rw [if_neg (by simp)]
   refine wpAny_bind (yg J3 g3 fun h4 J4 g4=>?_)
   exact wpAny_throw (hx _ _ ⟨pins,x,.ref c,dx,_,σ1,H1,rfl,J4,g4,w⟩)
 | cons cg hg hm hi hk hs' hdb r ih=>
   intro pins s σ1 H1 x c t dx D J3 g3 w
   have ok:=J3.ok
   obtain ⟨⟨oe,vs,he,hc,hdx,hd,hsz,hT⟩,fe,ft⟩:=id g3
   obtain ⟨c',ec,w⟩:=w
   cases ec
   refine wpAny_handleBy_cons (codeAny_handlers_test (gJ (X:=X.mark pins (.ref x)) J3.toMark hg hm ?_ hdb)) (by intro q;cases q)
   rcases w with ⟨hmr,w⟩ | ⟨hmr,w⟩
   ·refine kO J3.kIn cg he hc hmr (codeAny_handlers_suite_as ?_)
    refine yg (fr:=none) J3 g3 fun h4 J4 g4=>?_
    have J5:=J4.track g4.fe (Re (P:=X.prog) (w:=X.w) (H:=upd H1 x (ExcO x (.ref c) dx)) g4.at_)
    refine yp J5 hN hi (.inl hk) (v:= .ref x) rfl (fun s6 J6=>?_) (.inr hk)
    refine wpAny_mono (hs' pins (.ref x) [] s6 _ _ _ J6.toMark (w x g4.fe.1)) (fun fl s7 q=>?_) fun _ _ z=>False.elim z
    cases fl with
    | next=>obtain ⟨σ',H',I',z⟩:=q;exact zF (I'.ofMark ok) hN hi hk fun s8 I8=>⟨_,H',I8,z⟩
    | brk=>obtain ⟨σ',H',I',z⟩:=q;exact zF (I'.ofMark ok) hN hi hk fun s8 I8=>⟨_,H',I8,z⟩
    | cont=>obtain ⟨σ',H',I',z⟩:=q;exact zF (I'.ofMark ok) hN hi hk fun s8 I8=>⟨_,H',I8,z⟩
    | ret u=>obtain ⟨v,σ',H',I',r,z⟩:=q;exact zF (I'.ofMark ok) hN hi hk fun s8 I8=>⟨v,_,H',I8,r,z⟩
   ·refine kO J3.kIn cg he hc hmr ?_
    exact ih J3 g3 w
 | cons0 cg hg hm hs' hdb r ih=>
   intro pins s σ1 H1 x c t dx D J3 g3 w
   have ok:=J3.ok
   obtain ⟨⟨oe,vs,he,hc,hdx,hd,hsz,hT⟩,fe,ft⟩:=id g3
   obtain ⟨c',ec,w⟩:=w
   cases ec
   refine wpAny_handleBy_cons (codeAny_handlers_test (gJ (X:=X.mark pins (.ref x)) J3.toMark hg hm ?_ hdb)) (by intro q;cases q)
   rcases w with ⟨hmr,w⟩ | ⟨hmr,w⟩
   ·refine kO J3.kIn cg he hc hmr (codeAny_handlers_suite ?_)
    refine yg (fr:=none) J3 g3 fun h4 J4 g4=>?_
    refine wpAny_mono (hs' pins (.ref x) [] _ _ _ _ J4.toMark w) (fun fl s7 q=>?_) fun _ _ z=>False.elim z
    cases fl with
    | next=>obtain ⟨σ',H',I',z⟩:=q;exact ⟨σ',H',I'.ofMark ok,z⟩
    | brk=>obtain ⟨σ',H',I',z⟩:=q;exact ⟨σ',H',I'.ofMark ok,z⟩
    | cont=>obtain ⟨σ',H',I',z⟩:=q;exact ⟨σ',H',I'.ofMark ok,z⟩
    | ret u=>obtain ⟨v,σ',H',I',r,z⟩:=q;exact ⟨v,σ',H',I'.ofMark ok,r,z⟩
   ·refine kO J3.kIn cg he hc hmr ?_
    exact ih J3 g3 w
noncomputable def OT (WH:Ends→XW) (tb:XW→TS):TS:=fun D σ H=>tb (WH D) D σ H
theorem P3 {WH:Ends→XW} {D:Ends} {σ:St} {H:Hp} (h:tb (WH D) D σ H):OT WH tb D σ H:=h
theorem NO {h₀:ExceptHandler} {hs:List ExceptHandler} {WH:Ends→XW} {pos:Pos} (ow:Own X) (hx:Thr X Wo) (hN:X.N.Nodup) (ph:PH2 X Wo (h₀::hs) WH) (hc:∀ D σ C dx H,WH D σ C dx H→∃ c,C= .ref c)
  (hb:∀ pins W,PSs ((X.pin pins).thr W) body (tb W)):PS X (.Try body (h₀::hs) [] [] pos) (OT WH tb):=by
 intro pins s σ H D I h
 have ok:=I.ok
 refine wpAny_Try_except (wpAny_mono (hb pins _ [] s σ H D (I.toPin.wish _) h) (fun fl s1 q=>?_) fun e s1 q=>?_)
 ·have q':=q.unwish
  cases fl with
  | next=>obtain ⟨σ',H',I',z⟩:=q';exact wpAny_pure ⟨σ',H',I'.ofPin ok,z⟩
  | brk=>obtain ⟨σ',H',I',z⟩:=q';exact ⟨σ',H',I'.ofPin ok,z⟩
  | cont=>obtain ⟨σ',H',I',z⟩:=q';exact ⟨σ',H',I'.ofPin ok,z⟩
  | ret u=>obtain ⟨v,σ',H',I',r,z⟩:=q';exact ⟨v,σ',H',I'.ofPin ok,r,z⟩
 ·obtain ⟨pins',x,C,dx,T,σ1,H1,rfl,I1,f1,w⟩:=q
  obtain ⟨c,rfl⟩:=hc _ _ _ _ _ w
  have J1:=I1.ofPin ok
  have g1:=f1.ofPin
  refine Ep J1 ow g1 fun h2 t J2 g2=>?_
  refine yg (fr:=none) J2 g2 fun h3 J3 g3=>?_
  exact On ph ow hx hN J3 g3 w
end
noncomputable def FX:V→List V→Hp→VK→Prop:=fun x vs H Q=>∃ (l:Addr) (ns:List Str) (m:Str) (j:Nat),x= .ref l∧vs=[.str m]∧H l=some (.lst (ns.map V.str))∧ns[j]? =some m∧(∀ i,i < j→ns[i]? ≠some m)∧Q .non (upd H l (.lst ((ns.eraseIdx j).map V.str)))
section
variable {X:Cx}
theorem HJ:MtM X "list.remove" FX:=by
 intro pins s σ H x xs v us Q I rx rs h
 obtain ⟨l,ns,m,j,rfl,rfl,hH,hj,hno,q⟩:=h
 cases rx
 obtain ⟨u,rfl,ru⟩:=Vals.one rs
 obtain ⟨t,rfl⟩:=ru
 obtain ⟨z,its,n,r,hl,e⟩:=I.lstM hH
 have at':∀ i:Nat,∀ (h:i < its.length),∃ k t,ns[i]? =some k∧its[i]= .str k t:=fun i h=>by
  have hi:i < ns.length:=by rw [List.length_map] at hl;omega
  obtain ⟨u,hu,ru⟩:=r.get (i:=i) (x:= .str ns[i]) (by rw [List.getElem?_map,List.getElem?_eq_getElem hi];rfl)
  obtain ⟨t,rfl⟩:=ru
  rw [List.getElem?_eq_getElem h] at hu
  exact ⟨ns[i],t,List.getElem?_eq_getElem hi,Option.some.inj hu⟩
 have hjl:j < its.length:=by
  have:=(List.getElem?_eq_some_iff.mp hj).1
  rw [List.length_map] at hl;omega
 refine call_meets F.slot_list_remove ⟨_,e,rfl⟩ F.entry_list_remove (F.args_list_remove_2 _ _)
  (MeetsSeq.list_remove l its.toArray n (.str m t) (AI m) ?_ j (by rw [List.size_toArray];exact hjl) ?_ ?_ (by rw [List.size_toArray];omega)) ⟨e,?_⟩
 ·intro y hy
  rw [List.mem_toArray] at hy
  obtain ⟨i,hi,rfl⟩:=List.mem_iff_getElem.mp hy
  obtain ⟨k,t2,_,ek⟩:=at' i hi
  rw [ek]
  exact SeqRoads2.EqGives.str k m t2 t
 ·obtain ⟨k,t2,hk,ek⟩:=at' j hjl
  rw [hj] at hk
  cases hk
  show AI m its[j]=true
  rw [ek];simp [AI]
 ·intro i hi hij
  rw [List.size_toArray] at hi
  obtain ⟨k,t2,hk,ek⟩:=at' i hi
  show AI m its[i]=false
  rw [ek]
  show (k.cps.toList == m.cps.toList)=false
  rw [beq_eq_false_iff_ne]
  intro e'
  have e':k=m:=by cases k;cases m;congr 1;exact Array.toList_inj.mp e'
  rw [e'] at hk
  exact hno i hij hk
 ·refine ⟨.non,_,I.lset (its':=its.eraseIdx j) hH e ?_ (r.eraseIdx j) ?_,rfl,by rw [BF] at q;exact q⟩
  ·show its.toArray.eraseIdxIfInBounds j=(its.eraseIdx j).toArray
   rw [List.eraseIdxIfInBounds_toArray]
  ·have:=BJ (ns.map V.str) j
   omega
end
theorem Km {l:Addr} {zs:List Str} {z:Str} {j:Nat} {H:Hp} {Q:VK} (e:H l=some (.lst (zs.map V.str))) (hj:zs[j]? =some z) (hn:∀ i,i < j→zs[i]? ≠some z) (h:∀ H2,Upd H H2 l (.lst ((zs.eraseIdx j).map V.str))→Q .non H2):FX (.ref l) [.str z] H Q:=⟨l,zs,z,j,rfl,rfl,e,hj,hn,h _ Upd.of⟩
end L2
set_option autoImplicit false
namespace M
noncomputable def pb:Nat→Nat→Bool
 | 0,_=>false
 | w + 1,m=>(m.testBit w)^^(pb w m)
noncomputable def pl (w m:Nat):List Nat:=(List.range w).filter m.testBit
noncomputable def Span:List Nat→Nat→Prop
 | [],x=>x=0
 | r::rs,x=>Span rs x∨Span rs (x^^^r)
noncomputable def sm:List Nat→Nat→Nat
 | [],_=>0
 | r::rs,p=>(if p.testBit 0 then r else 0)^^^sm rs (p / 2)
noncomputable def Fre (rows:List Nat) (i:Nat):Prop:=i < rows.length∧¬ Span (rows.take i) (rows.getD i 0)
noncomputable def Frs (rows:List Nat) (q:Nat):Prop:=∀ i,q.testBit i=true→Fre rows i
structure Ech (es:List (Nat×Nat)) (rows:List Nat):Prop where
 nz:∀ e∈es,e.1≠0
 lt:∀ e∈es,e.2 < 2 ^ rows.length
 sm:∀ e∈es,sm rows e.2=e.1
 nd:(es.map fun e=>e.1.log2).Nodup
 all:∀ y,Span rows y→y≠0→∃ e∈es,e.1.log2=y.log2
 sub:∀ e∈es,Frs rows e.2
noncomputable def tt (p:Prop):Bool:=@decide p (Classical.propDecidable p)
noncomputable def fr (rows:List Nat):List Nat:=(List.range rows.length).filter fun i=> !tt (Span (rows.take i) (rows.getD i 0))
structure Nul (nms rows:List Nat):Prop where
 lt:∀ x∈nms,x < 2 ^ rows.length
 nz:∀ x∈nms,x≠0
 sm:∀ x∈nms,sm rows x=0
 pw:nms.Pairwise fun a b=>a.log2 < b.log2
 len:nms.length + (fr rows).length=rows.length
structure NulF (nms rows:List Nat):Prop extends Nul nms rows where
 frs:∀ x∈nms,Frs rows (x^^^2 ^ x.log2)
noncomputable def Inj (ws:List Nat):Prop:=∀ p,p < 2 ^ ws.length→sm ws p=0→p=0
structure Sums (ks rows:List Nat):Prop where
 nd:ks.Nodup
 all:∀ x,x∈ks↔Span rows x
end M
namespace Sx
open PySem L2
noncomputable abbrev nat (k:Nat):V:= .int (k:Int)
theorem jQ {k:Nat} {A:Around} (r:Room k A):A.units + 100 < cLine:=by have:=r.un;omega
structure En where
 a:Addr
 m:Nat
 p:Nat
noncomputable def UL (es:List En):List (Key×V):=es.map fun e=>(Sum.inl ((e.m.log2:Nat):Int),V.ref e.a)
theorem NM {kvs:List (Key×V)} {k:Key} {v:V} (h:valV kvs k=none):putK kvs k v=kvs++[(k,v)]:=by
 unfold putK
 rw [ny,h]
 rfl
structure StA (H:Hp) (C p d f n:Addr) (rows:List Nat):Prop where
 ho:∃ dx,H p=some (.ins C dx [("by_top",.ref d),("free_places",.ref f),("null_masks",.ref n)])
 he:∃ es:List En,H d=some (.dK (UL es))∧(∀ e∈es,H e.a=some (.tup [nat e.m,nat e.p]))∧M.Ech (es.map fun e=>(e.m,e.p)) rows∧es.length=(M.fr rows).length
 hf:H f=some (.lst ((M.fr rows).map nat))
 hn:∃ nms,H n=some (.lst (nms.map nat))∧M.NulF nms rows
 ne:f≠n
theorem be {α:Type} {f:α→V} {ws:List α} {i:Nat} {x:V} (h:(ws.map f)[i]? =some x):∃ k,ws[i]? =some k∧x=f k:=by
 rw [List.getElem?_map] at h
 cases e:ws[i]? with
 | none=>rw [e] at h;cases h
 | some k=>rw [e] at h;exact ⟨k,rfl,(Option.some.inj h).symm⟩
theorem take_succ {α:Type} {ws:List α} {i:Nat} {w:α} (h:ws[i]? =some w):ws.take (i + 1)=ws.take i++[w]:=by rw [List.take_succ,h];rfl
noncomputable def FR (K:PySem.W.Frag):Sp:=fun vs H Q _=>∃ (a:Addr) (ns:List Int),vs=[.ref a]∧SqL K H a (ns.map V.int)∧ns.length≤63∧∀ H',Q (.bl true) H'
structure Prs (H:Hp) (ws:List Nat) (D:Addr) (ps:List (Addr×Nat)):Prop where
 l:H D=some (.lst (ps.map fun q=>V.ref q.1))
 t:∀ q∈ps,H q.1=some (.tup [nat q.2,nat (M.sm ws q.2)])
 b:∀ q∈ps,q.2 < 2 ^ ws.length
end Sx
namespace M
noncomputable def xs (rows ps:List Nat):Nat:=ps.foldl (fun a k=>a^^^rows.getD k 0) 0
end M
namespace Sx
open PySem L2
end Sx
namespace M
noncomputable abbrev od (m:Nat):Bool:=pb 1000 m
structure Bar (rows:List Nat) (b m:Nat):Prop where
 ev:∀ y,Span rows y→od (m&&&y)=false
 bit:m.testBit b=true
 low:∀ k,k < b→m.testBit k=false
 oth:∀ k,k≠b→(∀ y,Span rows y→y≠0→y.log2≠k)→m.testBit k=false
 lt:∀ W,(∀ r∈rows,r < 2 ^ W)→b < W→m < 2 ^ W
structure BarI (es:List (Nat×Nat)) (ts:List Nat) (b m:Nat):Prop where
 ev:∀ e∈es,e.1.log2∈ts→od (m&&&e.1)=false
 bit:m.testBit b=true
 low:∀ k,k < b→m.testBit k=false
 oth:∀ k,k≠b→(∀ e∈es,e.1.log2≠k)→m.testBit k=false
 lt:∀ W,(∀ e∈es,e.1 < 2 ^ W)→b < W→m < 2 ^ W
end M
namespace Sx
open PySem L2
noncomputable def cell (ns:List Int) (k:Int):Int:=if k < ns.length then ns.getD k.toNat 0 else 41 * k + 3
noncomputable def FS (K:PySem.W.Frag):Sp:=fun vs H Q _=>∃ (p:Addr) (ns:List Int) (k:Int),vs=[.ref p,.int k]∧SqL K H p (ns.map V.int)∧0≤k∧Q (.int (cell ns k)) H
theorem Ah {K:PySem.W.Frag} {H:Hp} {Q:VK} {E:XK} {p:Addr} {ns:List Int} {k:Int} (e:SqL K H p (ns.map V.int)) (h0:0≤k) (q:Q (.int (cell ns k)) H):FS K [.ref p,.int k] H Q E:=⟨p,ns,k,rfl,e,h0,q⟩
noncomputable def UR (rows:List Nat) (b:Nat):Prop:=∀ y,M.Span rows y→y≠0→y.log2≠b
structure Acr (rows:List Nat) (wd:Nat) (ms:List Nat):Prop where
 len:ms.length + (M.fr rows).length=wd
 inj:M.Inj ms
 lt:∀ m∈ms,m < 2 ^ wd
 ev:∀ m∈ms,∀ y,M.Span rows y→M.od (m&&&y)=false
 all:∀ z,z < 2 ^ wd→(∀ y,M.Span rows y→M.od (z&&&y)=false)→M.Span ms z
end Sx
namespace M
noncomputable def cm (a b:Nat):Nat:=if b=0 then 0 else (if b % 2=1 then a else 0)^^^2 * cm a (b / 2)
termination_by b
decreasing_by omega
noncomputable def Dv (d x:Nat):Prop:=∃ q,cm q d=x
structure Rm (d x r:Nat):Prop where
 lt:r < 2 ^ d.log2
 dv:Dv d (x^^^r)
end M
namespace Sx
open PySem L2
noncomputable def dg (m:Nat):Int:=(Builtin.Int.intBits (m:Int):Int) - 1
noncomputable def tm (a:Nat) (ps:List Nat):Nat:=ps.foldl (fun z k=>z^^^a * 2 ^ k) 0
end Sx
namespace M
structure Ord (d e:Nat):Prop where
 pos:1≤e
 one:Rm d (2 ^ e) 1
 least:∀ j,1≤j→j < e→¬ Rm d (2 ^ j) 1
 le:e≤2 ^ d.log2
end M
namespace Sx
open PySem L2
noncomputable def Tl (x:V) (w:Int):Bool:=match x with
 | .int i=>decide (0≤i)&&decide (((Builtin.Int.intBits i:Nat):Int)≤w)
 | _=>false
theorem cA {c m:Int} (h:0 < m):∃ k:Nat,c % m=(k:Int)∧(k:Int) < m:=by
 obtain ⟨k,hk⟩:=Int.eq_ofNat_of_zero_le (Int.emod_nonneg c (Int.ne_of_gt h))
 exact ⟨k,hk,by rw [← hk];exact Int.emod_lt_of_pos c h⟩
theorem Nz {H:Hp} {Q:VK} {l:Addr} {k:Int} {xs:List V} (e:H l=some (.lst xs)) (h0: -(2 ^ 63)≤k) (h1:k < 2 ^ 63) (hz:xs.length * k.toNat≤sizeLine) (h:∀ p H2,H p=none→Same H H2→H2 p=some (.lst (List.replicate k.toNat xs).flatten)→Q (.ref p) H2):rRep (.ref l) (.int k) H Q:=
 ⟨l,k,xs,rfl,rfl,e,h0,h1,hz,gC h⟩
end Sx
namespace M
noncomputable def bn (b:Bool):Nat:=if b then 1 else 0
noncomputable def pk (s:Nat→Bool) (t:Nat):Nat→Nat
 | 0=>0
 | L + 1=>pk s t L^^^(if s (t + L) then 2 ^ L else 0)
noncomputable def lf (G:Nat):Nat→(Nat→Bool)→Nat→Bool
 | 0,_,_=>false
 | L + 1,s,t=>lf G L s t^^(G.testBit L&&s (t + L))
noncomputable def tr (as:List Nat) (x:Nat):Nat:=pk (fun k=>od (as.getD k 0&&&x)) 0 as.length
noncomputable def stt (as:List Nat) (x:Nat):Nat→Nat
 | 0=>x
 | t + 1=>tr as (stt as x t)
noncomputable def ans (as:List Nat) (o x t:Nat):Bool:=od (o&&&stt as x t)
noncomputable def lm (L G:Nat):List Nat:=(List.range (L - 1)).map (fun p=>2 ^ (p + 1))++(if 0 < L then [G] else [])
end M
namespace Sx
open PySem L2
noncomputable abbrev Pr3:=Addr×Nat×Nat
noncomputable def refs (ps:List Pr3):List V:=ps.map fun q=>V.ref q.1
noncomputable def Prt (H:Hp) (ps:List Pr3):Prop:=∀ q∈ps,H q.1=some (.tup [nat q.2.1,nat q.2.2])
structure MaA (H:Hp) (C p:Addr) (m:Nat) (nx os:List Pr3):Prop where
 ho:∃ dx tn to,H p=some (.ins C dx [("inputs",nat m),("nexts",.ref tn),("outs",.ref to)])∧H tn=some (.tup (refs nx))∧H to=some (.tup (refs os))
 hn:Prt H nx
 hs:Prt H os
noncomputable def sq (bs:List Bool):Nat→Bool:=fun i=>bs.getD i false
structure Tab (H:Hp) (n o:Addr) (m:Nat) (nx os:List Pr3):Prop where
 m6:m≤6
 n:H n=some (.lst (refs nx))
 o:H o=some (.lst (refs os))
 pn:Prt H nx
 po:Prt H os
 ln:nx.length≤120
 lo:os.length≤6
 bn:∀ q∈nx++os,q.2.1 < 2 ^ nx.length∧q.2.2 < 2 ^ m
structure Lfsr (nx os:List Pr3) (L G:Nat):Prop where
 nx:nx.map (fun q=>q.2.1)=M.lm L G
 os:∃ t,os=[(t,(if 0 < L then 1 else 0),0)]
noncomputable abbrev ms (nx:List Pr3):List Nat:=nx.map fun q=>q.2.1
theorem Q8 {n j:Nat} (h:j < n):ixN n (j:Int)=some j:=by unfold ixN;rw [if_pos (Int.natCast_nonneg j),if_pos (by omega),Int.toNat_natCast]
theorem tR {H:Hp} {Q:Hp→Prop} {p:Addr} {xs:List V} {j:Nat} {v:V} (e:H p=some (.lst xs)) (hj:j < xs.length) (h:∀ H2,Upd H H2 p (.lst (xs.set j v))→Q H2):SR (.ref p) (.int (j:Int)) v H Q:=
 ⟨p,xs,j,j,rfl,rfl,e,Q8 hj,h _ Upd.of⟩
theorem SC {σ:St} {H:Hp} {to ti:TE} {t:TSet} {v:V} {Q:St→Hp→Prop} (h:to σ H fun o H1=>ti σ H1 fun i H2=>t o i v H2 fun H3=>Q σ H3):gSub to ti t v σ H Q:=h
end Sx
namespace M
noncomputable def tr2 (ps:List (Nat×Nat)) (x r:Nat):Nat:=pk (fun k=>od ((ps.getD k (0,0)).1&&&x)^^od ((ps.getD k (0,0)).2&&&r)) 0 ps.length
noncomputable def wan (ps os:List (Nat×Nat)):Nat→List Nat→List Nat
 | _,[]=>[]
 | x,r::rs=>tr2 os x r::wan ps os (tr2 ps x r) rs
noncomputable def pulse (i T:Nat):List Nat:=(List.range T).map fun t=>if t=0 then 2 ^ i else 0
end M
namespace Sx
open PySem L2
structure MaG (m:Nat) (nx os:List Pr3):Prop where
 m6:m≤6
 ln:nx.length≤120
 lo:os.length≤6
 bn:∀ q∈nx++os,q.2.1 < 2 ^ nx.length∧q.2.2 < 2 ^ m
noncomputable abbrev prs (nx:List Pr3):List (Nat×Nat):=nx.map (·.2)
noncomputable def T5 (K:PySem.W.Frag) (H:Hp) (xs:List V):Prop:=∀ x∈xs,∃ k,zB K H x k
theorem Gp (xs:List V) (y:Nat) (hy:y≤xs.length):cutV xs none (some (y:Int))=xs.take y:=by
 unfold cutV
 rw [HT.sIx_nat,HT.sIx_none,Nat.min_eq_left hy,Nat.sub_zero,List.drop_zero]
structure U0 (K:PySem.W.Frag) (H:Hp) (C p rr:Addr) (m:Nat) (nx os:List Pr3) (x:V) (xs:List V):Prop where
 ma:MaA H C p m nx os
 g:MaG m nx os
 kx:∃ k,zB K H x k
 sq:SqL K H rr xs
 ks:T5 K H xs
 ln:xs.length≤1000
structure TabT (H:Hp) (t n o:Addr) (m:Nat) (nx os:List Pr3):Prop where
 t:H t=some (.tup [nat m,.ref n,.ref o])
 tab:Tab H n o m nx os
theorem zZ (xs:List V) (k:Nat) (h:k≤xs.length):cutV xs (some (k:Int)) none=xs.drop k:=by
 unfold cutV
 rw [HT.sIx_nat,HT.sIx_none,Nat.min_eq_left h]
 exact List.take_of_length_le (by rw [List.length_drop];exact Nat.le_refl _)
end Sx
namespace M
noncomputable def bkI (A:List Nat) (s:Nat):Nat→Nat
 | 0=>s
 | i + 1=>sm A (bkI A s i)
end M
namespace Sx
open PySem L2
noncomputable abbrev nA (nx:List Pr3):List Nat:=nx.map fun q=>q.2.1
theorem tU {K:PySem.W.Frag} {H:Hp} {α:Type} (f:α→V) (g:α→Dt) (r:∀ x,Rep K H (f x) (g x)) (xs:List α):∀ (i:Nat) x d,(xs.map f)[i]? =some x→(xs.map g)[i]? =some d→Rep K H x d:=by
 intro i x d h1 h2
 rw [List.getElem?_map] at h1 h2
 cases e:xs[i]? with
 | none=>rw [e] at h1;cases h1
 | some y=>rw [e] at h1 h2;cases h1;cases h2;exact r y
theorem nB {H H':Hp} {x:Addr} {o:HO} (n:H x=none) (u:Upd H H' x o):Same H H':=fun b o h=>u.oth b o (fun z=>by rw [z,n] at h;cases h) h
theorem Sl {K:PySem.W.Frag} {te:TE} {σ:St} {H:Hp} {Q:VK} (h:te σ H fun x H1=>∃ a xs,x= .ref a∧SqL K H1 a xs∧∀ l,H1 l=none→Q (.ref l) (upd H1 l (.lst xs.reverse))):tRev K te σ H Q:=h
noncomputable def low (c:Nat):Bool:=decide (97≤c)&&decide (c≤122)
noncomputable def fig (c:Nat):Bool:=decide (48≤c)&&decide (c≤57)
noncomputable def nm (l:List Nat):Bool:=match l with
 | []=>false
 | c::r=>decide ((c::r).length≤6)&&low c&&(c::r).all fun c=>low c||fig c
noncomputable def K0 (x:V):Bool:=match x with
 | .str z=>nm z.cps.toList
 | _=>false
noncomputable def Nm (z:Str):Prop:=nm z.cps.toList=true
noncomputable def PU (K:PySem.W.Frag):Sp:=fun vs H Q _=>∃ x k,vs=[x]∧zB K H x k∧(∀ z,x= .str z→z.length≤1000)∧∀ H',Same H H'→Q (.bl (K0 x)) H'
theorem memL (c:Nat):decide (c∈("abcdefghijklmnopqrstuvwxyz":Str).cps.toList)=low c:=by
 have e:("abcdefghijklmnopqrstuvwxyz":Str).cps.toList=List.range' 97 26:=by decide +kernel
 rw [e]
 unfold low
 rw [Bool.eq_iff_iff,Bool.and_eq_true,decide_eq_true_eq,decide_eq_true_eq,decide_eq_true_eq,List.mem_range']
 constructor
 ·rintro ⟨i,h,rfl⟩;omega
 ·rintro ⟨h1,h2⟩;exact ⟨c - 97,by omega,by omega⟩
theorem memN (c:Nat):decide (c∈("abcdefghijklmnopqrstuvwxyz0123456789":Str).cps.toList)=(low c||fig c):=by
 have e:("abcdefghijklmnopqrstuvwxyz0123456789":Str).cps.toList=List.range' 97 26++List.range' 48 10:=by decide +kernel
 rw [e]
 unfold low fig
 rw [Bool.eq_iff_iff,Bool.or_eq_true,Bool.and_eq_true,Bool.and_eq_true,decide_eq_true_eq,decide_eq_true_eq,decide_eq_true_eq,decide_eq_true_eq,decide_eq_true_eq,List.mem_append,List.mem_range',List.mem_range']
 constructor
 ·rintro (⟨i,h,rfl⟩ | ⟨i,h,rfl⟩)
  ·left;omega
  ·right;omega
 ·rintro (⟨h1,h2⟩ | ⟨h1,h2⟩)
  ·exact .inl ⟨c - 97,by omega,by omega⟩
  ·exact .inr ⟨c - 48,by omega,by omega⟩
theorem je (z:Str):z.cps.toList.length=z.length:=by simp [Str.length]
theorem J0 {z:Str}:z=""↔z.cps.toList=[]:=by
 constructor
 ·rintro rfl;decide +kernel
 ·intro h;cases z with | mk c=>cases c with | mk l=>have h:l=[]:=h;subst h;decide +kernel
noncomputable def Nv (K:PySem.W.Frag):Sp:=fun vs H Q _=>∃ x C dx nm,vs=[.ref x,nm]∧Cls K C∧aq K C "name"∧H x=some (.ins C dx [])∧∀ H2,Upd H H2 x (.ins C dx [("name",nm)])→Q .non H2
noncomputable def Nu (C:Addr):Sp:=fun vs H Q _=>∃ x dx nm k,vs=[.ref x,nm,k]∧H x=some (.ins C dx [])∧∀ H2,Upd H H2 x (.ins C dx [("name",nm),("number",k)])→Q .non H2
noncomputable def Nr (C:Addr):Sp:=fun vs H Q _=>∃ x dx nm w k,vs=[.ref x,nm,w,k]∧H x=some (.ins C dx [])∧∀ H2,Upd H H2 x (.ins C dx [("name",nm),("wire",w),("number",k)])→Q .non H2
structure Nt where
 ins:List Str
 sums:List (Str×List Str)
 sts:List (Str×Str)
 outs:List Str
noncomputable def Nt.names (N:Nt):List Str:=N.ins++N.sums.map (·.1)++N.sts.map (·.1)
structure Gn (N:Nt):Prop where
 li:N.ins.length≤6
 ls:N.sums.length≤40
 lt:N.sts.length≤16
 lo:N.outs.length≤6
 lw:∀ r∈N.sums,r.2.length≤24
 nm:∀ z∈N.names,Nm z
 nd:N.names.Nodup
 ws:∀ r∈N.sums,∀ z∈r.2,z∈N.names
 ts:∀ r∈N.sts,r.2∈N.names
 os:∀ z∈N.outs,z∈N.names
 rk:∃ rank:Str→Nat,∀ r∈N.sums,∀ z∈r.2,z∈N.sums.map (·.1)→rank z < rank r.1
structure Topo (sums:List (Str×List Str)) (od:List Str):Prop where
 perm:od.Perm (sums.map (·.1))
 need:∀ (i:Nat) z,od[i]? =some z→∀ ws,(z,ws)∈sums→∀ y∈ws,y∈sums.map (·.1)→y∈od.take i
noncomputable abbrev Rw:=Addr×Addr×Str×List Str
noncomputable abbrev Qs:=Addr×Str×Str
structure Hnd (H:Hp) (i s t o:Addr) (rs:List Rw) (qs:List Qs) (N:Nt):Prop where
 i:H i=some (.lst (N.ins.map V.str))
 s:H s=some (.lst (rs.map fun r=>V.ref r.1))
 sr:∀ r∈rs,H r.1=some (.tup [.str r.2.2.1,.ref r.2.1])∧H r.2.1=some (.lst (r.2.2.2.map V.str))
 es:rs.map (·.2.2)=N.sums
 t:H t=some (.lst (qs.map fun q=>V.ref q.1))
 tr:∀ q∈qs,H q.1=some (.tup [.str q.2.1,.str q.2.2])
 et:qs.map (·.2)=N.sts
 o:H o=some (.lst (N.outs.map V.str))
theorem Hnd.same {H H2:Hp} {i s t o:Addr} {rs:List Rw} {qs:List Qs} {N:Nt} (x:Hnd H i s t o rs qs N) (h:Same H H2):Hnd H2 i s t o rs qs N:=⟨h.get x.i,h.get x.s,fun r m=>⟨h.get (x.sr r m).1,h.get (x.sr r m).2⟩,x.es,h.get x.t,fun q m=>h.get (x.tr q m),x.et,h.get x.o⟩
structure Kpt (H:Hp) (i s t o:Addr) (rs:List Rw) (qs:List Qs) (N:Nt):Prop where
 i:H i=some (.tup (N.ins.map V.str))
 s:H s=some (.tup (rs.map fun r=>V.ref r.1))
 sr:∀ r∈rs,H r.1=some (.tup [.str r.2.2.1,.ref r.2.1])∧H r.2.1=some (.tup (r.2.2.2.map V.str))
 es:rs.map (·.2.2)=N.sums
 t:H t=some (.tup (qs.map fun q=>V.ref q.1))
 tr:∀ q∈qs,H q.1=some (.tup [.str q.2.1,.str q.2.2])
 et:qs.map (·.2)=N.sts
 o:H o=some (.tup (N.outs.map V.str))
theorem Kpt.same {H H2:Hp} {i s t o:Addr} {rs:List Rw} {qs:List Qs} {N:Nt} (x:Kpt H i s t o rs qs N) (h:Same H H2):Kpt H2 i s t o rs qs N:=⟨h.get x.i,h.get x.s,fun r m=>⟨h.get (x.sr r m).1,h.get (x.sr r m).2⟩,x.es,h.get x.t,fun q m=>h.get (x.tr q m),x.et,h.get x.o⟩
noncomputable def Knw (H:Hp) (d:Addr) (zs:List Str):Prop:=∃ kvs:List (Key×V),H d=some (.dK kvs)∧kvs.map (·.1)=zs.map Sum.inr
theorem Knw.same {H H2:Hp} {d:Addr} {zs:List Str} (x:Knw H d zs) (h:Same H H2):Knw H2 d zs:=let ⟨k,e,f⟩:=x;⟨k,h.get e,f⟩
theorem nv {kvs:List (Key×V)} {zs:List Str} (e:kvs.map (·.1)=zs.map Sum.inr) (z:Str):(valV kvs (Sum.inr z)).isSome=decide (z∈zs):=by
 cases h:valV kvs (Sum.inr z) with
 | none=>
   have:=M5 h
   rw [e] at this
   rw [decide_eq_false fun m=>this (List.mem_map.mpr ⟨z,m,rfl⟩)];rfl
 | some v=>
   have:=PJ h
   rw [e] at this
   obtain ⟨y,hy,ey⟩:=List.mem_map.mp this
   cases ey
   rw [decide_eq_true hy];rfl
theorem Qm {kvs:List (Key×V)} {zs:List Str} (e:kvs.map (·.1)=zs.map Sum.inr) {z:Str} (h:z∉zs) (v:V):putK kvs (Sum.inr z) v=kvs++[(Sum.inr z,v)]:=by
 refine NM ?_
 rw [← Option.not_isSome_iff_eq_none,nv e z,decide_eq_false h];exact Bool.false_ne_true
inductive Wob (H:Hp) (CI CS CT:Addr) (N:Nt) (z:Str) (w:Addr):Prop where
 | i (k:Nat) (dx:Addr) (hk:N.ins[k]? =some z) (e:H w=some (.ins CI dx [("name",.str z),("number",nat k)])):Wob H CI CS CT N z w
 | s (ws:List Str) (dx tw:Addr) (hk:(z,ws)∈N.sums) (e:H w=some (.ins CS dx [("name",.str z),("wires",.ref tw)])) (et:H tw=some (.tup (ws.map V.str))):Wob H CI CS CT N z w
 | t (k:Nat) (y:Str) (dx:Addr) (hk:N.sts[k]? =some (z,y)) (e:H w=some (.ins CT dx [("name",.str z),("wire",.str y),("number",nat k)])):Wob H CI CS CT N z w
theorem Wob.same {H H2:Hp} {CI CS CT:Addr} {N:Nt} {z:Str} {w:Addr} (x:Wob H CI CS CT N z w) (h:Same H H2):Wob H2 CI CS CT N z w:=by
 cases x with
 | i k dx hk e=>exact .i k dx hk (h.get e)
 | s ws dx tw hk e et=>exact .s ws dx tw hk (h.get e) (h.get et)
 | t k y dx hk e=>exact .t k y dx hk (h.get e)
structure WiA (H:Hp) (CI CS CT d:Addr) (N:Nt) (ws:List (Str×Addr)):Prop where
 d:H d=some (.dK (ws.map fun q=>(Sum.inr q.1,V.ref q.2)))
 nm:ws.map (·.1)=N.names
 ob:∀ q∈ws,Wob H CI CS CT N q.1 q.2
theorem WiA.same {H H2:Hp} {CI CS CT d:Addr} {N:Nt} {ws:List (Str×Addr)} (x:WiA H CI CS CT d N ws) (h:Same H H2):WiA H2 CI CS CT d N ws:=⟨h.get x.d,x.nm,fun q m=>(x.ob q m).same h⟩
noncomputable def sp_wbyname (CI CS CT:Addr):Sp:=fun vs H Q _=>∃ (i s t o:Addr) (rs:List Rw) (qs:List Qs) (N:Nt),vs=[.ref i,.ref s,.ref t]∧Kpt H i s t o rs qs N∧Gn N∧∀ (d:Addr) (H2:Hp) (ws:List (Str×Addr)),H d=none→Same H H2→WiA H2 CI CS CT d N ws→Q (.ref d) H2
noncomputable def dX (zs:List Str) (ws:List Str):Bool:=ws.any fun w=>decide (w∈zs)
noncomputable def Nn:Sp:=fun vs H Q _=>∃ (r:Rw) (d:Addr) (zs:List Str),vs=[.ref r.1,.ref d]∧H r.1=some (.tup [.str r.2.2.1,.ref r.2.1])∧H r.2.1=some (.tup (r.2.2.2.map V.str))∧r.2.2.2.length≤24∧Knw H d zs∧∀ H2,Same H H2→Q (.bl (dX zs r.2.2.2)) H2
theorem dS {H:Hp} {Q:VK} {l b:Addr} {xs zs:List V} (e1:H l=some (.lst xs)) (e2:H b=some (.lst zs)) (hl:xs.length + zs.length≤sizeLine) (h:∀ H2,Upd H H2 l (.lst (xs++zs))→Q .non H2):Ky (.ref l) [.ref b] H Q:=⟨l,b,xs,zs,rfl,rfl,e1,e2,hl,h _ Upd.of⟩
structure WL (H0 H:Hp) (CI CS CT:Addr) (N:Nt) (D:Addr) (ys:List V) (zs:List Str) (ws:List (Str×Addr)):Prop where
 ey:ys=ws.map fun q=>V.ref q.2
 nm:ws.map (·.1)=zs
 ob:∀ q∈ws,Wob H CI CS CT N q.1 q.2
 same:Same H0 H
 d:H D=some (.lst ys)
noncomputable def Ki (K:PySem.W.Frag) (C:Addr):Sp:=fun vs H Q _=>∃ x dx nm tw ws,vs=[.ref x,nm,.ref tw]∧H tw=some (.tup ws)∧H x=some (.ins C dx [])∧
 ∀ H2,Upd H H2 x (.ins C dx [("name",nm),("wires",.ref tw)])→Q .non H2
structure Otp (sums:List (Str×List Str)) (od:List Str) (lf:List (Str×List Str)):Prop where
 perm:(od++lf.map (·.1)).Perm (sums.map (·.1))
 sub:∀ r∈lf,r∈sums
 need:∀ (i:Nat) z,od[i]? =some z→∀ ws,(z,ws)∈sums→∀ y∈ws,y∈sums.map (·.1)→y∈od.take i
theorem Otp.start (sums:List (Str×List Str)):Otp sums [] sums:=⟨List.Perm.refl _,fun _ h=>h,fun i z h=>by simp at h⟩
theorem Otp.done {sums:List (Str×List Str)} {od:List Str} (o:Otp sums od []):Topo sums od:=⟨by have:=o.perm;rwa [List.map_nil,List.append_nil] at this,o.need⟩
theorem QD {sums:List (Str×List Str)} (nd:(sums.map (·.1)).Nodup) {z:Str} {ws ws':List Str} (h:(z,ws)∈sums) (h':(z,ws')∈sums):ws=ws':=by
 induction sums with
 | nil=>cases h
 | cons r l ih=>
   rw [List.map_cons,List.nodup_cons] at nd
   rcases List.mem_cons.mp h with e | h
   ·rcases List.mem_cons.mp h' with e' | h'
    ·rw [← e] at e';exact (Prod.mk.inj e').2.symm
    ·exact absurd (List.mem_map.mpr ⟨_,h',rfl⟩) (by rw [← e] at nd;exact nd.1)
   ·rcases List.mem_cons.mp h' with e' | h'
    ·exact absurd (List.mem_map.mpr ⟨_,h,rfl⟩) (by rw [← e'] at nd;exact nd.1)
    ·exact ih nd.2 h h'
theorem Otp.step {sums:List (Str×List Str)} (nd:(sums.map (·.1)).Nodup) {od:List Str} {lf:List (Str×List Str)} (o:Otp sums od lf):
  Otp sums (od++(lf.filter fun r=> !dX (lf.map (·.1)) r.2).map (·.1)) (lf.filter fun r=>dX (lf.map (·.1)) r.2):=by
 refine ⟨?_,fun r h=>o.sub r (List.mem_filter.mp h).1,fun i z hz ws hw y hy hs=>?_⟩
 ·refine List.Perm.trans ?_ o.perm
  rw [List.append_assoc,← List.map_append]
  refine List.Perm.append_left _ (List.Perm.map _ ?_)
  refine List.Perm.trans List.perm_append_comm ?_
  exact List.filter_append_perm _ _
 ·by_cases hi:i < od.length
  ·rw [List.getElem?_append_left hi] at hz
   rw [List.take_append_of_le_length (Nat.le_of_lt hi)]
   exact o.need i z hz ws hw y hy hs
  ·rw [List.getElem?_append_right (by omega)] at hz
   have hm:=List.mem_of_getElem? hz
   obtain ⟨r,hr,rfl⟩:=List.mem_map.mp hm
   obtain ⟨hr1,hr2⟩:=List.mem_filter.mp hr
   have e:ws=r.2:=QD nd hw (o.sub r hr1)
   subst e
   have hn:y∉lf.map (·.1):=fun m=>by
    have:dX (lf.map (·.1)) r.2=true:=List.any_eq_true.mpr ⟨y,hy,decide_eq_true m⟩
    rw [this] at hr2
    cases hr2
   have:=(o.perm.mem_iff (a:=y)).mpr hs
   rcases List.mem_append.mp this with h | h
   ·rw [List.take_append,List.mem_append]
    left
    rw [List.take_of_length_le (by omega)]
    exact h
   ·exact absurd h hn
theorem EV {α:Type} (p:α→Bool):∀ l:List α,0 < (l.filter fun x=> !p x).length→(l.filter p).length < l.length:=fun l h=>by
 have:=(List.filter_append_perm p l).length_eq
 rw [List.length_append] at this
 omega
structure NetA (H:Hp) (C CI CS CT p:Addr) (N:Nt) (od:List Str):Prop where
 ho:∃ (dx i s t o d tq:Addr) (rs:List Rw) (qs:List Qs) (ws:List (Str×Addr)),H p=some (.ins C dx [("ins",.ref i),("sums",.ref s),("kept_stores",.ref t),("outs",.ref o),("by_name",.ref d),("sum_order",.ref tq)])∧Kpt H i s t o rs qs N∧WiA H CI CS CT d N ws∧H tq=some (.tup (od.map V.str))
 g:Gn N
 tp:Topo N.sums od
theorem NetA.same {H H2:Hp} {C CI CS CT p:Addr} {N:Nt} {od:List Str} (x:NetA H C CI CS CT p N od) (h:Same H H2):NetA H2 C CI CS CT p N od:=
 ⟨let ⟨dx,i,s,t,o,d,tq,rs,qs,ws,a,b,c,e⟩:=x.ho;⟨dx,i,s,t,o,d,tq,rs,qs,ws,h.get a,b.same h,c.same h,h.get e⟩,x.g,x.tp⟩
noncomputable def Kx (x:Addr) (H H2:Hp):Prop:=∀ b ob,b≠x→H b=some ob→H2 b=some ob
theorem Kx.trans {x:Addr} {H H2 H3:Hp} (a:Kx x H H2) (b:Kx x H2 H3):Kx x H H3:=fun c o n e=>b c o n (a c o n e)
theorem Kx.same {x:Addr} {H H2:Hp} (s:Same H H2):Kx x H H2:=fun _ _ _ e=>s.get e
theorem Kx.upd {x:Addr} {H H2:Hp} {o:HO} (u:Upd H H2 x o):Kx x H H2:=u.oth
theorem Kx.tup {x:Addr} {H H2:Hp} (k:Kx x H H2) {C dx:Addr} {fs:List (Str×V)} (hx:H x=some (.ins C dx fs)) {b:Addr} {xs:List V} (e:H b=some (.tup xs)):H2 b=some (.tup xs):=k b _ (iQ e hx fun z=>by cases z) e
theorem Kx.lst {x:Addr} {H H2:Hp} (k:Kx x H H2) {C dx:Addr} {fs:List (Str×V)} (hx:H x=some (.ins C dx fs)) {b:Addr} {xs:List V} (e:H b=some (.lst xs)):H2 b=some (.lst xs):=k b _ (iQ e hx fun z=>by cases z) e
noncomputable def RwK (H:Hp) (rs:List Rw):Prop:=∀ r∈rs,H r.1=some (.tup [.str r.2.2.1,.ref r.2.1])∧H r.2.1=some (.tup (r.2.2.2.map V.str))
noncomputable def QsK (H:Hp) (qs:List Qs):Prop:=∀ q∈qs,H q.1=some (.tup [.str q.2.1,.str q.2.2])
theorem RwK.same {H H2:Hp} {rs:List Rw} (h:RwK H rs) (s:Same H H2):RwK H2 rs:=fun r m=>⟨s.get (h r m).1,s.get (h r m).2⟩
theorem QsK.same {H H2:Hp} {qs:List Qs} (h:QsK H qs) (s:Same H H2):QsK H2 qs:=fun q m=>s.get (h q m)
theorem RwK.updL {H H2:Hp} {rs:List Rw} (h:RwK H rs) {D:Addr} {xs:List V} (hD:H D=some (.lst xs)) (k:∀ b o,b≠D→H b=some o→H2 b=some o):RwK H2 rs:=fun r m=>⟨k _ _ (iQ (h r m).1 hD fun z=>by cases z) (h r m).1,k _ _ (iQ (h r m).2 hD fun z=>by cases z) (h r m).2⟩
theorem QsK.updL {H H2:Hp} {qs:List Qs} (h:QsK H qs) {D:Addr} {xs:List V} (hD:H D=some (.lst xs)) (k:∀ b o,b≠D→H b=some o→H2 b=some o):QsK H2 qs:=fun q m=>k _ _ (iQ (h q m) hD fun z=>by cases z) (h q m)
theorem Kx.kpt {x:Addr} {H H2:Hp} (k:Kx x H H2) {C dx:Addr} {fs:List (Str×V)} (hx:H x=some (.ins C dx fs)) {i s t o:Addr} {rs:List Rw} {qs:List Qs} {N:Nt} (h:Kpt H i s t o rs qs N):Kpt H2 i s t o rs qs N:=
 ⟨k.tup hx h.i,k.tup hx h.s,fun r m=>⟨k.tup hx (h.sr r m).1,k.tup hx (h.sr r m).2⟩,h.es,k.tup hx h.t,fun q m=>k.tup hx (h.tr q m),h.et,k.tup hx h.o⟩
theorem Kx.wia {x:Addr} {H H2:Hp} (k:Kx x H H2) {CI CS CT d:Addr} {N:Nt} {ws:List (Str×Addr)} (h:WiA H CI CS CT d N ws) (hd:d≠x) (hw:∀ q∈ws,q.2≠x) {C dx:Addr} {fs:List (Str×V)} (hx:H x=some (.ins C dx fs)):WiA H2 CI CS CT d N ws:=
 ⟨k _ _ hd h.d,h.nm,fun q m=>by
  cases h.ob q m with
  | i k' dx' hk e=>exact .i k' dx' hk (k _ _ (hw q m) e)
  | s ws' dx' tw hk e et=>exact .s ws' dx' tw hk (k _ _ (hw q m) e) (k.tup hx et)
  | t k' y dx' hk e=>exact .t k' y dx' hk (k _ _ (hw q m) e)⟩
noncomputable def xb (f:Str→Bool) (ws:List Str):Bool:=ws.foldl (fun a w=>a^^f w) false
structure Val (N:Nt) (row st:Nat) (f:Str→Bool):Prop where
 i:∀ (k:Nat) z,N.ins[k]? =some z→f z=row.testBit k
 t:∀ (k:Nat) z y,N.sts[k]? =some (z,y)→f z=st.testBit k
 s:∀ z ws,(z,ws)∈N.sums→f z=xb f ws
noncomputable def mat (f:Str→Bool) (ws:List Str):Nat:=M.pk (fun k=>f (ws.getD k "")) 0 ws.length
noncomputable def fv (N:Nt) (row st:Nat):Str→Bool:=Classical.epsilon (Val N row st)
noncomputable def nst (N:Nt) (row st:Nat):Nat:=mat (fv N row st) (N.sts.map (·.2))
noncomputable def UY (N:Nt):Prop:=∀ r s,∃ f,Val N r s f
noncomputable def need (N:Nt) (od:List Str):List Str:=N.ins++N.sts.map (·.1)++od
structure Pre (N:Nt) (row st:Nat) (pre:List Str) (f:Str→Bool):Prop where
 i:∀ (k:Nat) z,N.ins[k]? =some z→z∈pre→f z=row.testBit k
 t:∀ (k:Nat) z y,N.sts[k]? =some (z,y)→z∈pre→f z=st.testBit k
 s:∀ z ws,(z,ws)∈N.sums→z∈pre→f z=xb f ws∧∀ w∈ws,w∈pre
structure Bt (N:Nt) (row st:Nat) (pre:List Str) (f:Str→Bool) (z:Str) (v:Bool):Prop where
 i:∀ k:Nat,N.ins[k]? =some z→v=row.testBit k
 t:∀ (k:Nat) y,N.sts[k]? =some (z,y)→v=st.testBit k
 s:∀ ws,(z,ws)∈N.sums→v=xb f ws∧∀ w∈ws,w∈pre
section
variable {N:Nt} (g:Gn N)
include g
variable {od:List Str} (tp:Topo N.sums od)
include tp
end
noncomputable abbrev NP:=Hp→Addr→Nt→List Str→Prop
noncomputable def G4 (NA:NP):Sp:=fun vs H Q _=>∃ (p:Addr) (N:Nt) (od:List Str),vs=[.ref p]∧NA H p N od∧∀ (D:Addr) (H2:Hp),H D=none→Same H H2→H2 D=some (.lst (N.ins.map V.str))→Q (.ref D) H2
noncomputable def PR (NA:NP):Sp:=fun vs H Q _=>∃ (p:Addr) (N:Nt) (od:List Str),vs=[.ref p]∧NA H p N od∧∀ (D:Addr) (H2:Hp),H D=none→Same H H2→H2 D=some (.lst (N.outs.map V.str))→Q (.ref D) H2
noncomputable def J7 (NA:NP):Sp:=fun vs H Q _=>∃ (p:Addr) (N:Nt) (od:List Str),vs=[.ref p]∧NA H p N od∧∀ (D:Addr) (H2:Hp) (qs:List Qs),H D=none→Same H H2→H2 D=some (.lst (qs.map fun q=>V.ref q.1))→QsK H2 qs→qs.map (·.2)=N.sts→Q (.ref D) H2
structure RunA (NA:NP) (H:Hp) (C p l n:Addr) (N:Nt) (od:List Str) (st:Nat) (as:List Nat):Prop where
 ho:∃ (dx d:Addr),H p=some (.ins C dx [("net",.ref n),("held",nat st),("bits",.ref d),("given",.ref l)])
 hl:H l=some (.lst (as.map nat))
 na:NA H n N od
noncomputable def mixV (c k:Int):Int:=((c % 2147483647 * 48271 + 7919 * k + 11) % 2147483647 * ((c % 2147483647 * 48271 + 7919 * k + 11) % 2147483647) % 2147483629) * ((c % 2147483647 * 48271 + 7919 * k + 11) % 2147483647 * ((c % 2147483647 * 48271 + 7919 * k + 11) % 2147483647) % 2147483629 + 48271 * k + 7) % 2147483587
theorem QU (c k:Int):0≤mixV c k:=Int.emod_nonneg _ (by decide)
theorem QV (c k:Int):mixV c k < 2147483587:=Int.emod_lt_of_pos _ (by decide)
noncomputable def J9:Sp:=fun vs H Q _=>∃ (c k:Int),vs=[.int c,.int k]∧0≤k∧k < 100000∧Q (.int (mixV c k)) H
noncomputable def JN:Str:=("cut x x0 x1 fresh new zero none nil tmp c c0 cut0 cut1 gnd off in out sum store":Str)++(" i0 i1 s0 s1 n0 n1 o0 o1 net wire a b z y0 t0 w w0 k dead open":Str)
noncomputable def W40:List Str:=Txt.split JN " "
theorem Ar:W40.length=40:=by decide +kernel
theorem T1:W40.Nodup:=by decide +kernel
theorem T0:∀ z∈W40,nm z.cps.toList=true:=by decide +kernel
noncomputable def dval (l:List Nat):Nat:=l.foldl (fun a c=>10 * a + (c - 48)) 0
noncomputable def tx (n:Nat):Str:=(toString (n:Int):String)
noncomputable def txB (n:Nat):Bool:=decide ((dval (tx n).cps.toList=n∧(tx n).cps.toList.all fig=true)∧(tx n).cps.toList.length≤4)
noncomputable def txR (k:Nat):Bool:=(List.range 250).all fun i=>txB (250 * k + i)
theorem txk:∀ k,k < 10→txR k=true
 | 0,_=>by decide +kernel
 | 1,_=>by decide +kernel
 | 2,_=>by decide +kernel
 | 3,_=>by decide +kernel
 | 4,_=>by decide +kernel
 | 5,_=>by decide +kernel
 | 6,_=>by decide +kernel
 | 7,_=>by decide +kernel
 | 8,_=>by decide +kernel
 | 9,_=>by decide +kernel
 | k + 10,h=>absurd h (by omega)
theorem FM:∀ n:Fin 2500,(dval (tx n.1).cps.toList=n.1∧(tx n.1).cps.toList.all fig=true)∧(tx n.1).cps.toList.length≤4:=fun n=>by
 have h:=List.all_eq_true.mp (txk (n.1 / 250) (by omega)) (n.1 % 250) (List.mem_range.mpr (by omega))
 rw [Nat.div_add_mod] at h
 exact of_decide_eq_true h
noncomputable def nmf (c k:Int):Str:=if mixV c 402 % 2=0 then W40.getD ((k + mixV c 403) % 40).toNat "" else (⟨#[97 + (mixV c 400 % 26).toNat]⟩:Str)++tx ((mixV c 401 % 1000).toNat + 37 * k.toNat)
theorem Mi (x y:Str):(x++y).cps.toList=x.cps.toList++y.cps.toList:=by
 show (x.cps++y.cps).toList=_
 rw [Array.toList_append]
theorem Ti (c:Int) {k:Int} (h0:0≤k) (h1:k < 40):Nm (nmf c k):=by
 unfold nmf
 by_cases h:mixV c 402 % 2=0
 ·rw [if_pos h]
  have hi:((k + mixV c 403) % 40).toNat < W40.length:=by
   rw [Ar]
   have:=Int.emod_lt_of_pos (k + mixV c 403) (show (0:Int) < 40 by decide)
   have:=Int.emod_nonneg (k + mixV c 403) (show (40:Int)≠0 by decide)
   omega
  rw [List.getD_eq_getElem?_getD,List.getElem?_eq_getElem hi]
  exact T0 _ (List.getElem_mem hi)
 ·rw [if_neg h]
  have hb:(mixV c 401 % 1000).toNat + 37 * k.toNat < 2500:=by
   have:=Int.emod_lt_of_pos (mixV c 401) (show (0:Int) < 1000 by decide)
   have:=Int.emod_nonneg (mixV c 401) (show (1000:Int)≠0 by decide)
   omega
  obtain ⟨⟨_,h2⟩,h3⟩:=FM ⟨_,hb⟩
  have hd:low (97 + (mixV c 400 % 26).toNat)=true:=by
   have:=Int.emod_lt_of_pos (mixV c 400) (show (0:Int) < 26 by decide)
   have:=Int.emod_nonneg (mixV c 400) (show (26:Int)≠0 by decide)
   unfold low
   rw [decide_eq_true (by omega),decide_eq_true (by omega)];rfl
  show nm _=true
  rw [Mi]
  show nm ((97 + (mixV c 400 % 26).toNat)::(tx ((mixV c 401 % 1000).toNat + 37 * k.toNat)).cps.toList)=true
  generalize hl:(tx ((mixV c 401 % 1000).toNat + 37 * k.toNat)).cps.toList=l at h2 h3
  generalize 97 + (mixV c 400 % 26).toNat=d at hd
  show (decide ((d::l).length≤6)&&low d&&(d::l).all fun c=>low c||fig c)=true
  rw [hd,List.all_cons,hd]
  have h2':l.all (fun c=>low c||fig c)=true:=by
   rw [List.all_eq_true] at h2 ⊢
   intro x hx
   rw [h2 x hx,Bool.or_true]
  rw [h2',List.length_cons,decide_eq_true (by omega)];rfl
theorem QI (c:Int) {j k:Int} (j0:0≤j) (j1:j < 40) (k0:0≤k) (k1:k < 40) (e:nmf c j=nmf c k):j=k:=by
 unfold nmf at e
 by_cases h:mixV c 402 % 2=0
 ·rw [if_pos h,if_pos h] at e
  have hj:=Int.emod_lt_of_pos (j + mixV c 403) (show (0:Int) < 40 by decide)
  have hj':=Int.emod_nonneg (j + mixV c 403) (show (40:Int)≠0 by decide)
  have hk:=Int.emod_lt_of_pos (k + mixV c 403) (show (0:Int) < 40 by decide)
  have hk':=Int.emod_nonneg (k + mixV c 403) (show (40:Int)≠0 by decide)
  have lj:((j + mixV c 403) % 40).toNat < W40.length:=by rw [Ar];omega
  have lk:((k + mixV c 403) % 40).toNat < W40.length:=by rw [Ar];omega
  rw [List.getD_eq_getElem?_getD,List.getD_eq_getElem?_getD,List.getElem?_eq_getElem lj,List.getElem?_eq_getElem lk] at e
  have e2:W40[((j + mixV c 403) % 40).toNat]? =W40[((k + mixV c 403) % 40).toNat]? :=by rw [List.getElem?_eq_getElem lj,List.getElem?_eq_getElem lk];exact congrArg some e
  have:=(List.getElem?_inj lj T1).mp e2
  omega
 ·rw [if_neg h,if_neg h] at e
  have hm:=Int.emod_lt_of_pos (mixV c 401) (show (0:Int) < 1000 by decide)
  have hm':=Int.emod_nonneg (mixV c 401) (show (1000:Int)≠0 by decide)
  have hbj:(mixV c 401 % 1000).toNat + 37 * j.toNat < 2500:=by omega
  have hbk:(mixV c 401 % 1000).toNat + 37 * k.toNat < 2500:=by omega
  have e2:=congrArg (fun z:Str=>z.cps.toList) e
  simp only [Mi] at e2
  have e3:=List.append_cancel_left e2
  have e4:=congrArg dval e3
  rw [(FM ⟨_,hbj⟩).1.1,(FM ⟨_,hbk⟩).1.1] at e4
  have e4:(mixV c 401 % 1000).toNat + 37 * j.toNat=(mixV c 401 % 1000).toNat + 37 * k.toNat:=e4
  omega
noncomputable def xV:Sp:=fun vs H Q _=>∃ (c k:Int),vs=[.int c,.int k]∧0≤k∧k < 40∧∀ H2,Same H H2→Q (.str (nmf c k)) H2
noncomputable def Ka:Sp:=fun vs H Q _=>∃ (c:Int) (st:Int) (l:Addr) (zs:List Str) (dg:Bool),vs=[.int c,.int st,.ref l,.bl dg]∧0≤st∧st≤900∧H l=some (.lst (zs.map V.str))∧zs.length≤50∧∀ (D:Addr) (H2:Hp) (ws:List Str),H D=none→Same H H2→H2 D=some (.lst (ws.map V.str))→ws.length≤4→(∀ w∈ws,w∈zs)→Q (.ref D) H2
theorem HR (i:Int) (h0:0≤i) (h1:i < 26):atI ("abcdefghijklmnopqrstuvwxyz":Str).cps.toList i=some (97 + i.toNat):=by
 have e:("abcdefghijklmnopqrstuvwxyz":Str).cps.toList=List.range' 97 26:=by decide +kernel
 obtain ⟨j,rfl⟩:=Int.eq_ofNat_of_zero_le h0
 rw [e]
 refine bz ?_
 rw [List.getElem?_range' (by omega)]
 show some (97 + 1 * j)=some (97 + (j:Int).toNat)
 rw [Nat.one_mul,Int.toNat_natCast]
noncomputable def RwL (H:Hp) (rs:List Rw):Prop:=∀ r∈rs,H r.1=some (.tup [.str r.2.2.1,.ref r.2.1])∧H r.2.1=some (.lst (r.2.2.2.map V.str))
theorem RwL.same {H H2:Hp} {rs:List Rw} (h:RwL H rs) (s:Same H H2):RwL H2 rs:=fun r m=>⟨s.get (h r m).1,s.get (h r m).2⟩
noncomputable def nms (c:Int) (a n:Nat):List Str:=(List.range n).map fun k=>nmf c ((a + k:Nat):Int)
theorem du (c:Int) (a n:Nat):(nms c a n).length=n:=by unfold nms;rw [List.length_map,List.length_range]
theorem oh (c:Int) (a n:Nat):nms c a (n + 1)=nms c a n++[nmf c ((a + n:Nat):Int)]:=by unfold nms;rw [List.range_succ,List.map_append];rfl
theorem j9 {c:Int} {a n:Nat} {z:Str} (h:z∈nms c a n):∃ k,k < n∧z=nmf c ((a + k:Nat):Int):=by
 obtain ⟨k,hk,rfl⟩:=List.mem_map.mp h
 exact ⟨k,List.mem_range.mp hk,rfl⟩
theorem Tf {c:Int} {a n k:Nat} (h:k < n):nmf c ((a + k:Nat):Int)∈nms c a n:=List.mem_map.mpr ⟨k,List.mem_range.mpr h,rfl⟩
theorem zk (c:Int) {j k:Nat} (j1:j < 40) (k1:k < 40) (e:nmf c (j:Int)=nmf c (k:Int)):j=k:=by
 have:=QI c (by omega) (by omega) (by omega) (by omega) e
 omega
structure Mk (c:Int) (ni nt:Nat) (rows:List (Str×List Str)):Prop where
 nm:rows.map (·.1)=nms c 22 rows.length
 ws:∀ (k:Nat) r,rows[k]? =some r→r.2.length≤4∧∀ w∈r.2,w∈nms c 0 ni++nms c 6 nt++nms c 22 k
theorem Mk.nil (c:Int) (ni nt:Nat):Mk c ni nt []:=⟨rfl,fun k r h=>by simp at h⟩
theorem Mk.put {c:Int} {ni nt:Nat} {rows:List (Str×List Str)} (m:Mk c ni nt rows) {ws:List Str} (l:ws.length≤4) (h:∀ w∈ws,w∈nms c 0 ni++nms c 6 nt++nms c 22 rows.length):Mk c ni nt (rows++[(nmf c ((22 + rows.length:Nat):Int),ws)]):=by
 refine ⟨by rw [List.map_append,m.nm,List.length_append,List.length_singleton,oh];rfl,fun k r hk=>?_⟩
 by_cases hlt:k < rows.length
 ·rw [List.getElem?_append_left hlt] at hk
  exact m.ws k r hk
 ·rw [List.getElem?_append_right (by omega)] at hk
  have:k - rows.length=0:=by
   have:=(List.getElem?_eq_some_iff.mp hk).1
   rw [List.length_singleton] at this
   omega
  rw [this] at hk
  cases hk
  rw [show k=rows.length by omega]
  exact ⟨l,h⟩
noncomputable def xf (f:Str→Nat) (ws:List Str):Nat:=ws.foldl (fun a w=>a^^^f w) 0
structure Hng (N:Nt) (p:Str→Nat×Nat):Prop where
 i:∀ (k:Nat) z,N.ins[k]? =some z→p z=(0,2 ^ k)
 t:∀ (k:Nat) z y,N.sts[k]? =some (z,y)→p z=(2 ^ k,0)
 s:∀ z ws,(z,ws)∈N.sums→p z=(xf (fun w=>(p w).1) ws,xf (fun w=>(p w).2) ws)
noncomputable def hgp (N:Nt) (z:Str):Nat×Nat:=(M.pk (fun k=>fv N 0 (2 ^ k) z) 0 N.sts.length,M.pk (fun k=>fv N (2 ^ k) 0 z) 0 N.ins.length)
section
variable {N:Nt} (g:Gn N) {od:List Str} (tp:Topo N.sums od) {p:Str→Nat×Nat} (h:Hng N p)
include g tp h
end
structure Hgd (H:Hp) (d:Addr) (N:Nt) (zs:List Str) (hs:List (Str×Addr)):Prop where
 d:H d=some (.dK (hs.map fun q=>(Sum.inr q.1,V.ref q.2)))
 nm:hs.map (·.1)=zs
 ob:∀ q∈hs,H q.2=some (.tup [nat (hgp N q.1).1,nat (hgp N q.1).2])
structure Sml (m:Nat) (ps os:List (Nat×Nat)):Prop where
 m6:m≤6
 lp:ps.length≤16
 lo:os.length≤6
 bn:∀ q∈ps++os,q.1 < 2 ^ ps.length∧q.2 < 2 ^ m
section
variable {m:Nat} {ps os:List (Nat×Nat)} (b:Sml m ps os)
include b
end
section
variable {m:Nat} {ps os:List (Nat×Nat)} (b:Sml m ps os)
include b
end
theorem CF {k:Nat} (hk:k≤1000):((k:Int)).natAbs.log2 < 1920:=by
 rw [Int.natAbs_natCast]
 rcases Nat.eq_zero_or_pos k with z | z
 ·rw [z];decide
 ·exact (Nat.log2_lt (by omega)).mpr (Nat.lt_of_lt_of_le (show k < 2 ^ 14 by omega) (Nat.pow_le_pow_right (by decide) (by decide)))
end Sx
namespace M
noncomputable def stj (ps:List (Nat×Nat)):List Nat→Nat→List Nat
 | S,0=>S
 | S,j + 1=>(stj ps S j).map fun x=>tr2 ps x 0
noncomputable def sg0 (ps:List (Nat×Nat)) (m:Nat):List Nat:=(List.range m).map fun w=>tr2 ps 0 (2 ^ w)
noncomputable def rch (ps:List (Nat×Nat)) (m:Nat):Nat→List Nat
 | 0=>[]
 | T + 1=>stj ps (sg0 ps m) T++rch ps m T
noncomputable def zs (ps:List (Nat×Nat)) (x:Nat):Nat→Nat
 | 0=>x
 | n + 1=>tr2 ps (zs ps x n) 0
noncomputable def upk (w q T:Nat):List Nat:=(List.range T).map fun t=>(q>>>(t * w))&&&(2 ^ w - 1)
structure Kern (R ms:List Nat):Prop where
 inj:Inj ms
 lt:∀ m∈ms,m < 2 ^ R.length
 ev:∀ m∈ms,sm R m=0
 all:∀ z,z < 2 ^ R.length→sm R z=0→Span ms z
structure Lft (left rows:List Nat):Prop where
 nz:∀ x∈left,x≠0
 pw:left.Pairwise fun a b=>b.testBit a.log2=false
 sp:∀ x,Span left x↔Span rows x
 len:left.length=(fr rows).length
noncomputable def bm (rows:List Nat) (b:Nat):Nat:=Classical.epsilon (Bar rows b)
structure Fst (ms:List Nat) (p:Nat):Prop where
 lt:p < ms.length
 out:∀ k,k < p→¬ Span (ms.take k) (ms.getD k 0)
 in_:Span (ms.take p) (ms.getD p 0)
noncomputable def zl (ps:List (Nat×Nat)) (d n:Nat):List Nat:=(List.range (n + 1)).map (zs ps d)
noncomputable def act (ps:List (Nat×Nat)) (x Q:Nat):Nat:=if Q=0 then 0 else (if Q % 2=1 then x else 0)^^^act ps (tr2 ps x 0) (Q / 2)
termination_by Q
decreasing_by omega
structure Lst (ps:List (Nat×Nat)) (x P:Nat):Prop where
 nz:P≠0
 dv:∀ Q,act ps x Q=0↔Dv P Q
structure Rng (ps:List (Nat×Nat)) (x l n:Nat):Prop where
 pos:1≤n
 back:zs ps x (l + n)=zs ps x l
 least:∀ e,1≤e→e < n→zs ps x (l + e)≠zs ps x l
 early:1≤l→zs ps x (l - 1 + n)≠zs ps x (l - 1)
noncomputable def bl (A:List Nat) (s n:Nat):List Nat:=(List.range (n + 1)).map (bkI A s)
end M
namespace Sx
open PySem L2
structure Sgl (H:Hp) (D:Addr) (ds:List Addr) (ps os:List (Nat×Nat)) (n m:Nat):Prop where
 d:H D=some (.lst (ds.map V.ref))
 len:ds.length=m
 at':∀ (w:Nat) (d:Addr),ds[w]? =some d→H d=some (.lst ((M.wan ps os 0 (M.pulse w n)).map nat))
noncomputable def strD (z:Str):Dt:= .str z
noncomputable def rowD (r:Str×List Str):Dt:= .tup [.str r.1,.tup (r.2.map strD)]
noncomputable def stoD (r:Str×Str):Dt:= .tup [.str r.1,.str r.2]
noncomputable def netD (N:Nt):Dt:= .tup [.lst (N.ins.map strD),.lst (N.sums.map rowD),.lst (N.sts.map stoD),.lst (N.outs.map strD)]
theorem i5 {K:PySem.W.Frag} {H:Hp} {D:Addr} {zs:List Str} (e:H D=some (.lst (zs.map V.str))):Rep K H (.ref D) (.lst (zs.map strD)):= .lst (SqL.of e) (by rw [List.length_map,List.length_map]) (tU V.str strD (fun z=> .str z) zs)
theorem NH {K:PySem.W.Frag} {H:Hp} {D:Addr} {zs:List Str} (e:H D=some (.tup (zs.map V.str))):Rep K H (.ref D) (.tup (zs.map strD)):= .tup (SqT.of e) (by rw [List.length_map,List.length_map]) (tU V.str strD (fun z=> .str z) zs)
theorem OY {K:PySem.W.Frag} {H:Hp} {t:Addr} {v w:V} {d e:Dt} (h:H t=some (.tup [v,w])) (r1:Rep K H v d) (r2:Rep K H w e):Rep K H (.ref t) (.tup [d,e]):= .tup (SqT.of h) rfl fun i x y h1 h2=>by
 match i,h1,h2 with
 | 0,h1,h2=>cases h1;cases h2;exact r1
 | 1,h1,h2=>cases h1;cases h2;exact r2
 | i + 2,h1,_=>simp at h1
theorem SO {K:PySem.W.Frag} {H:Hp} {t:Addr} {v w v' w':V} {d e d' e':Dt} (h:H t=some (.tup [v,w,v',w'])) (r1:Rep K H v d) (r2:Rep K H w e) (r3:Rep K H v' d') (r4:Rep K H w' e'):Rep K H (.ref t) (.tup [d,e,d',e']):= .tup (SqT.of h) rfl fun i x y h1 h2=>by
 match i,h1,h2 with
 | 0,h1,h2=>cases h1;cases h2;exact r1
 | 1,h1,h2=>cases h1;cases h2;exact r2
 | 2,h1,h2=>cases h1;cases h2;exact r3
 | 3,h1,h2=>cases h1;cases h2;exact r4
 | i + 4,h1,_=>simp at h1
theorem NJ {K:PySem.W.Frag} {H:Hp} {D:Addr} {rs:List Rw} (e:H D=some (.lst (rs.map fun r=>V.ref r.1))) (k:RwK H rs):Rep K H (.ref D) (.lst ((rs.map (·.2.2)).map rowD)):= .lst (SqL.of e) (by rw [List.length_map,List.length_map,List.length_map]) fun i x y h1 h2=>by
 rw [List.getElem?_map] at h1
 rw [List.map_map,List.getElem?_map] at h2
 obtain ⟨r,hr,rfl⟩:=Option.map_eq_some_iff.mp h1
 rw [hr] at h2
 cases h2
 have:=k r (List.mem_of_getElem? hr)
 exact OY this.1 (.str _) (NH this.2)
theorem NI {K:PySem.W.Frag} {H:Hp} {D:Addr} {qs:List Qs} (e:H D=some (.lst (qs.map fun r=>V.ref r.1))) (k:QsK H qs):Rep K H (.ref D) (.lst ((qs.map (·.2)).map stoD)):= .lst (SqL.of e) (by rw [List.length_map,List.length_map,List.length_map]) fun i x y h1 h2=>by
 rw [List.getElem?_map] at h1
 rw [List.map_map,List.getElem?_map] at h2
 obtain ⟨r,hr,rfl⟩:=Option.map_eq_some_iff.mp h1
 rw [hr] at h2
 cases h2
 exact OY (k r (List.mem_of_getElem? hr)) (.str _) (.str _)
structure TldA (H:Hp) (t D1 D2 D3 D4:Addr) (rs:List Rw) (qs:List Qs) (N:Nt):Prop where
 t:H t=some (.tup [.ref D1,.ref D2,.ref D3,.ref D4])
 i:H D1=some (.lst (N.ins.map V.str))
 s:H D2=some (.lst (rs.map fun r=>V.ref r.1))
 sr:RwK H rs
 es:rs.map (·.2.2)=N.sums
 st:H D3=some (.lst (qs.map fun r=>V.ref r.1))
 tr:QsK H qs
 et:qs.map (·.2)=N.sts
 o:H D4=some (.lst (N.outs.map V.str))
theorem TldA.same {H H2:Hp} {t D1 D2 D3 D4:Addr} {rs:List Rw} {qs:List Qs} {N:Nt} (x:TldA H t D1 D2 D3 D4 rs qs N) (s:Same H H2):TldA H2 t D1 D2 D3 D4 rs qs N:=⟨s.get x.t,s.get x.i,s.get x.s,x.sr.same s,x.es,s.get x.st,fun q m=>s.get (x.tr q m),x.et,s.get x.o⟩
theorem TldA.rep {K:PySem.W.Frag} {H:Hp} {t D1 D2 D3 D4:Addr} {rs:List Rw} {qs:List Qs} {N:Nt} (x:TldA H t D1 D2 D3 D4 rs qs N):Rep K H (.ref t) (netD N):=by
 have r2:Rep K H (.ref D2) (.lst (N.sums.map rowD)):=by rw [← x.es];exact NJ x.s x.sr
 have r3:Rep K H (.ref D3) (.lst (N.sts.map stoD)):=by rw [← x.et];exact NI x.st x.tr
 exact SO x.t (i5 x.i) r2 r3 (i5 x.o)
theorem gn:∀ l:List Str,dN (l.map strD)=0
 | []=>rfl
 | z::l=>by rw [List.map_cons,dN,gn l];rfl
theorem Gm:∀ l:List (Str×List Str),dN (l.map rowD)≤2
 | []=>Nat.zero_le _
 | r::l=>by
   rw [List.map_cons,dN,rowD,depD,dN,dN,depD,gn]
   have:=Gm l
   simp [depD,dN];omega
theorem Gk:∀ l:List (Str×Str),dN (l.map stoD)≤1
 | []=>Nat.zero_le _
 | r::l=>by
   rw [List.map_cons,dN,stoD,depD,dN,dN]
   have:=Gk l
   simp [depD,dN];omega
theorem Rr (N:Nt):depD (netD N)≤100:=by
 unfold netD
 rw [depD,dN,dN,dN,dN,depD,depD,depD,depD,gn,gn]
 have:=Gm N.sums
 have:=Gk N.sts
 simp [dN];omega
noncomputable def No (NA:NP):Sp:=fun vs H Q _=>∃ (p:Addr) (N:Nt) (od:List Str),vs=[.ref p]∧NA H p N od∧∀ (t D1 D2 D3 D4:Addr) (H2:Hp) (rs:List Rw) (qs:List Qs),H D1=none→H D2=none→H D3=none→H D4=none→H t=none→Same H H2→TldA H2 t D1 D2 D3 D4 rs qs N→Q (.ref t) H2
noncomputable def PQ (NA:NP):Sp:=fun vs H Q _=>∃ (p:Addr) (N:Nt) (od:List Str),vs=[.ref p]∧NA H p N od∧∀ (D:Addr) (H2:Hp) (rs:List Rw),H D=none→Same H H2→H2 D=some (.lst (rs.map fun r=>V.ref r.1))→RwK H2 rs→rs.map (·.2.2)=N.sums→Q (.ref D) H2
structure Sumd (rows:List Nat) (x q:Nat):Prop where
 lt:q < 2 ^ rows.length
 sm:M.sm rows q=x
 fr:M.Frs rows q
structure Bard (rows:List Nat) (x m:Nat):Prop where
 ns:¬ M.Span rows x
 bar:∃ y,M.Span rows y∧x^^^y≠0∧UR rows (x^^^y).log2∧M.Bar rows (x^^^y).log2 m
 ev:∀ y,M.Span rows y→M.od (m&&&y)=false
 odd:M.od (m&&&x)=true
 lt:∀ W,(∀ r∈rows,r < 2 ^ W)→x < 2 ^ W→m < 2 ^ W
end Sx
namespace L2
open PySem
theorem ue {X:Cx} {K:PySem.W.Frag} (h:X.K=K):OpR X (compareOp .NotIn) (rIn K true):=by subst h;exact Bh
end L2
namespace Sx
open PySem L2
noncomputable def J (c:Nat):List (List Nat)→List Nat
 | []=>[]
 | [x]=>x
 | x::y::r=>x++c::J c (y::r)
theorem F1 {X:Cx} {K:PySem.W.Frag} (h:X.K=K):OpR X (compareOp .In) (rIn K false):=by subst h;exact KR
inductive Fm:List Str→Prop where
 | i (z:Str) (h:Nm z):Fm ["in",z]
 | o (z:Str) (h:Nm z):Fm ["out",z]
 | s (z:Str) (ws:List Str) (h:Nm z) (hw:∀ w∈ws,Nm w) (l:ws.length≤24):Fm ("sum"::z::"="::ws)
 | t (z y:Str) (h:Nm z) (hy:Nm y):Fm ["store",z,"=",y]
noncomputable def kd (k:Str) (r:List Str):Bool:=decide (r.getD 0 ""=k)
noncomputable def Kd (K:PySem.W.Frag):Sp:=fun vs H Q _=>∃ (p:Addr) (ns:List Int) (st mo:Nat),vs=[.ref p,nat st,nat mo]∧SqL K H p (ns.map V.int)∧st≤900∧mo≤12∧∀ (t i s u o:Addr) (H2:Hp) (rs:List Rw) (qs:List Qs) (N:Nt),Same H H2→H2 t=some (.tup [.ref i,.ref s,.ref u,.ref o])→Hnd H2 i s u o rs qs N→Gn N→N.ins.length≤3→N.sums.length≤mo→Q (.ref t) H2
theorem K7 {c:Int} {ni nt:Nat} {rows sums:List (Str×List Str)} {sts:List (Str×Str)} {outs:List Str} (m:Mk c ni nt rows) (h1:ni≤3) (h2:nt≤12) (h3:rows.length≤12) (hp:sums.Perm rows) (hs:sts.map (·.1)=nms c 6 nt) (h4:outs.length≤6)
  (ht:∀ q∈sts,q.2∈nms c 0 ni++nms c 6 nt++nms c 22 rows.length) (ho:∀ z∈outs,z∈nms c 0 ni++nms c 6 nt++nms c 22 rows.length):Gn ⟨nms c 0 ni,sums,sts,outs⟩:=by
 have pn:(sums.map (·.1)).Perm (nms c 22 rows.length):=by rw [← m.nm];exact hp.map _
 have inn:∀ z,z∈nms c 0 ni++nms c 6 nt++nms c 22 rows.length→z∈Nt.names ⟨nms c 0 ni,sums,sts,outs⟩:=fun z hz=>by
  unfold Nt.names
  show z∈nms c 0 ni++sums.map (·.1)++sts.map (·.1)
  rw [hs]
  rcases List.mem_append.mp hz with h | h
  ·rcases List.mem_append.mp h with h | h
   ·exact List.mem_append_left _ (List.mem_append_left _ h)
   ·exact List.mem_append_right _ h
  ·exact List.mem_append_left _ (List.mem_append_right _ (pn.mem_iff.mpr h))
 have lt3:sts.length=nt:=by have:=congrArg List.length hs;rw [List.length_map,du] at this;exact this
 have row_at:∀ r∈sums,∃ k,rows[k]? =some r:=fun r hr=>List.mem_iff_getElem?.mp (hp.mem_iff.mp hr)
 have num:∀ z∈Nt.names ⟨nms c 0 ni,sums,sts,outs⟩,∃ k:Nat,k < 40∧z=nmf c (k:Int):=fun z hz=>by
  unfold Nt.names at hz
  have hz:z∈nms c 0 ni++sums.map (·.1)++sts.map (·.1):=hz
  rw [hs] at hz
  rcases List.mem_append.mp hz with h | h
  ·rcases List.mem_append.mp h with h | h
   ·obtain ⟨k,hk,e⟩:=j9 h;exact ⟨_,by omega,e⟩
   ·obtain ⟨k,hk,e⟩:=j9 (pn.mem_iff.mp h);exact ⟨_,by omega,e⟩
  ·obtain ⟨k,hk,e⟩:=j9 h;exact ⟨_,by omega,e⟩
 have ndn:∀ (a n:Nat),a + n≤40→(nms c a n).Nodup:=fun a n h=>by
  unfold nms
  refine List.pairwise_map.mpr (List.Pairwise.imp_of_mem (fun {i j} hi hj hij=>?_) List.pairwise_lt_range)
  intro e
  have:=zk c (show a + i < 40 by have:=List.mem_range.mp hi;omega) (show a + j < 40 by have:=List.mem_range.mp hj;omega) e
  omega
 have dis:∀ {a n b k:Nat},a + n≤40→b + k≤40→a + n≤b→∀ x∈nms c a n,∀ y∈nms c b k,x≠y:=fun h1 h2 h3 x hx y hy e=>by
  obtain ⟨i,hi,rfl⟩:=j9 hx
  obtain ⟨j,hj,rfl⟩:=j9 hy
  have:=zk c (by omega) (by omega) e
  omega
 refine ⟨by show (nms c 0 ni).length≤6;rw [du];omega,by show sums.length≤40;rw [hp.length_eq];omega,by show sts.length≤16;omega,h4,fun r hr=>?_,fun z hz=>?_,?_,fun r hr z hz=>?_,fun r hr=>inn _ (ht r hr),fun z hz=>inn _ (ho z hz),?_⟩
 ·obtain ⟨k,hk⟩:=row_at r hr
  have:=(m.ws k r hk).1
  omega
 ·obtain ⟨k,hk,rfl⟩:=num z hz
  exact Ti c (by omega) (by omega)
 ·unfold Nt.names
  show (nms c 0 ni++sums.map (·.1)++sts.map (·.1)).Nodup
  rw [hs,List.nodup_append,List.nodup_append]
  refine ⟨⟨ndn _ _ (by omega),pn.nodup_iff.mpr (ndn _ _ (by omega)),fun x hx y hy=>dis (by omega) (by omega) (by omega) x hx y (pn.mem_iff.mp hy)⟩,ndn _ _ (by omega),fun x hx y hy=>?_⟩
  rcases List.mem_append.mp hx with h | h
  ·exact dis (by omega) (by omega) (by omega) x h y hy
  ·exact fun e=>dis (a:=6) (n:=nt) (b:=22) (k:=rows.length) (by omega) (by omega) (by omega) y hy x (pn.mem_iff.mp h) e.symm
 ·obtain ⟨k,hk⟩:=row_at r hr
  have hlt:=(List.getElem?_eq_some_iff.mp hk).1
  refine inn z ?_
  rcases List.mem_append.mp ((m.ws k r hk).2 z hz) with h | h
  ·exact List.mem_append_left _ h
  ·obtain ⟨j,hj,rfl⟩:=j9 h
   exact List.mem_append_right _ (Tf (by omega))
 ·refine ⟨fun z=>(nms c 22 rows.length).idxOf z,fun r hr z hz hzs=>?_⟩
  obtain ⟨k,hk⟩:=row_at r hr
  have hlt:=(List.getElem?_eq_some_iff.mp hk).1
  have er:(nms c 22 rows.length)[k]? =some r.1:=by rw [← m.nm,List.getElem?_map,hk];rfl
  have nd:=ndn 22 rows.length (by omega)
  have ik:∀ (j:Nat) y,(nms c 22 rows.length)[j]? =some y→(nms c 22 rows.length).idxOf y=j:=fun j y hj=>by
   obtain ⟨hj1,hj2⟩:=List.getElem?_eq_some_iff.mp hj
   rw [← hj2]
   exact nd.idxOf_getElem j hj1
  obtain ⟨j,hj,ej⟩:=j9 (pn.mem_iff.mp hzs)
  have hjk:j < k:=by
   rcases List.mem_append.mp ((m.ws k r hk).2 z hz) with h | h
   ·exfalso
    rcases List.mem_append.mp h with h | h
    ·exact dis (a:=0) (n:=ni) (b:=22) (k:=rows.length) (by omega) (by omega) (by omega) z h z (pn.mem_iff.mp hzs) rfl
    ·exact dis (a:=6) (n:=nt) (b:=22) (k:=rows.length) (by omega) (by omega) (by omega) z h z (pn.mem_iff.mp hzs) rfl
   ·obtain ⟨j',hj',e'⟩:=j9 h
    have:=zk c (show 22 + j < 40 by omega) (show 22 + j' < 40 by omega) (ej.symm.trans e')
    omega
  have ez:(nms c 22 rows.length)[j]? =some z:=by unfold nms;rw [List.getElem?_map,List.getElem?_range hj,ej];rfl
  show (nms c 22 rows.length).idxOf z < (nms c 22 rows.length).idxOf r.1
  rw [ik j z ez,ik k r.1 er]
  exact hjk
inductive Scl:V→String→Prop where
 | str (z:Str) (l:z.length≤1000):Scl (.str z) "str"
 | int (i:Int):Scl (.int i) "int"
 | bl (b:Bool):Scl (.bl b) "bool"
 | non:Scl .non "NoneType"
noncomputable def Tld (H H2:Hp) (dx:Addr) (v:V):Prop:=Same H H2∧H2 dx=some (.xd [("name",v)])
theorem Ui {H H2:Hp} {x C:Addr} {v:V} (f:H x=none) (e:ExcV H2 x C [("name",v)]) (hk:∀ b u,b≠x→H b=some u→H2 b=some u):∃ dx,H2 x=some (ExcF x C (some dx))∧Tld H (del H2 x) dx v:=by
 obtain ⟨o,a,b⟩:=e
 cases o with
 | none=>cases b
 | some d=>
   have b:H2 d=some (.xd [("name",v)]):=b
   have hd:d≠x:=fun z=>by rw [z,a] at b;cases b
   exact ⟨d,a,fun b' u e'=>by rw [qJ (al e' f)];exact hk _ _ (al e' f) e',by rw [qJ hd];exact b⟩
theorem Tld.pre {H H1 H2:Hp} {dx:Addr} {v:V} (s:Same H H1) (t:Tld H1 H2 dx v):Tld H H2 dx v:=⟨s.trans t.1,t.2⟩
theorem EX {H H2:Hp} {x C dx:Addr} {v:V} (f:H x=none) (t:H dx=some (.xd [("name",v)])) (u:Upd H H2 x (ExcO x (.ref C) (some dx))):ExcC H2 x C [("name",v)]:=⟨dx,u.at',u.oth _ _ (al t f) t⟩
noncomputable def TupV (K:PySem.W.Frag) (H:Hp) (y:V):Option (List V)→Prop
 | some xs=>∃ r,y= .ref r∧SqT K H r xs∧T5 K H xs
 | none=>∃ k,zB K H y k∧k≠"tuple"
noncomputable def UD (n m:Nat):Option (List V)→Bool
 | some [x,y]=>Tl x n&&Tl y m
 | _=>false
noncomputable abbrev It2:=V×Option (List V)
noncomputable def LstV (K:PySem.W.Frag) (H:Hp) (y:V):Option (List It2)→Prop
 | some zs=>∃ r,y= .ref r∧H r=some (.lst (zs.map (·.1)))∧∀ z∈zs,TupV K H z.1 z.2
 | none=>∃ k,zB K H y k∧k≠"list"
noncomputable def tabB (x:V) (on oo:Option (List It2)):Bool:=match x,on,oo with
 | .int i,some zs,some ws=>decide (0≤i)&&decide (i≤6)&&decide (zs.length≤120)&&decide (ws.length≤6)&&(zs++ws).all fun z=>UD zs.length i.toNat z.2
 | _,_,_=>false
end Sx
namespace L2
open PySem
section
variable {σ:St} {H:Hp} {Q:VK}
noncomputable def Mx (C:Addr) (sp:Sp) (W:XW) (σ:St) (Q:VK) (vs:List V) (H:Hp):Prop:=∀ x dx,H x=none→H dx=none→dx≠x→sp (.ref x::(vs++[])) (upd (upd H dx (.own x)) x (.ins C dx [])) (fun v H2=>v= .non∧Q (.ref x) H2) (W σ)
theorem Kn {C:Addr} {sp:Sp} {W:XW} {tr:TA} (h:tr σ H (Mx C sp W σ Q)):OV C sp [] W tr σ H Q:=h
theorem AW {C:Addr} {sp:Sp} {W:XW} {vs:List V} (h:∀ x dx H2,H x=none→Same H H2→H2 x=some (.ins C dx [])→sp (.ref x::vs) H2 (fun v H2=>v= .non∧Q (.ref x) H2) (W σ)):Mx C sp W σ Q vs H:=by
 intro x dx f1 f2 n
 rw [List.append_nil]
 exact h x dx _ f1 (fun b o e=>by rw [aw (al e f1),aw (al e f2)];exact e) aA
end
end L2
namespace Sx
open PySem L2
structure BadT (K:PySem.W.Frag) (H:Hp) (x y z:V):Prop where
 ex:∃ k on oo,zB K H x k∧LstV K H y on∧LstV K H z oo∧tabB x on oo=false
end Sx
namespace L2
open PySem
end L2
namespace Sx
open PySem L2
noncomputable def cps (p q k:Nat):List Nat:=if k + 1 < p then [k + 1] else M.pl 1000 q
structure ChS (H:Hp) (S:Addr) (p q:Nat) (rs:List Addr):Prop where
 at_:H S=some (.lst (rs.map V.ref))
 len:rs.length=p
 get:∀ (k:Nat) (r:Addr),rs[k]? =some r→H r=some (.lst ((cps p q k).map nat))
structure ChT (H:Hp) (D S:Addr) (ms:List Nat) (p q:Nat):Prop where
 fs:M.Fst ms p
 sd:Sumd (ms.take p) (ms.getD p 0) q
 d:H D=some (.lst ((ms.take p).map nat))
 s:∃ rs,ChS H S p q rs
structure LA (K:PySem.W.Frag) (H:Hp) (t n o rr:Addr) (m:Nat) (nx os:List Pr3) (rs:List Nat) (a b:Nat):Prop where
 tt:TabT H t n o m nx os
 sq:SqL K H rr (rs.map nat)
 lr:rs.length=20
 br:∀ r∈rs,r < 2 ^ m
 ln:nx.length≤16
 ha:a < 2 ^ nx.length
 hb:b < 2 ^ nx.length
structure ApA (H:Hp) (f:Addr) (nx os:List Pr3) (d k ans:Nat):Prop where
 f:H f=some (.tup [.str "apart",nat k,nat ans.log2])
 hk:k < nx.length
 an:ans=M.tr2 (prs os) (M.zs (prs nx) d k) 0
 ne:ans≠0
 qu:∀ j,j < k→M.tr2 (prs os) (M.zs (prs nx) d j) 0=0
structure ApL (H:Hp) (f D S:Addr) (nx os:List Pr3) (d p q:Nat):Prop where
 f:H f=some (.tup [.str "alike",.ref D,.ref S])
 ct:ChT H D S (M.zl (prs nx) d nx.length) p q
 qu:∀ j,j < p→M.tr2 (prs os) (M.zs (prs nx) d j) 0=0
structure CmA (H:Hp) (t D:Addr) (m:Nat) (nx:List Pr3) (st T q mk:Nat):Prop where
 f:H t=some (.tup [.str "come",.ref D,nat mk])
 d:H D=some (.lst ((M.upk m q T).map nat))
 hT:T≤nx.length
 no:∀ j,j < T→¬ M.Span (M.rch (prs nx) m j) st
 sd:Sumd (M.rch (prs nx) m T) st q
 br:(T=0∧mk=0)∨∃ T',T=T' + 1∧Bard (M.rch (prs nx) m T') st mk
structure CmN (H:Hp) (t D S:Addr) (m:Nat) (nx:List Pr3) (st mk p q:Nat):Prop where
 f:H t=some (.tup [.str "never",.ref D,.ref S])
 no:∀ j,j≤nx.length→¬ M.Span (M.rch (prs nx) m j) st
 bd:Bard (M.rch (prs nx) m nx.length) st mk
 ct:ChT H D S (M.bl (nA nx) mk nx.length) p q
structure LN (K:PySem.W.Frag) (H:Hp) (n:Addr) (m:Nat) (nx os:List Pr3) (st:Nat):Prop where
 sq:SqL K H n (refs nx)
 pt:Prt H nx
 g:MaG m nx os
 ln:nx.length≤16
 hs:st < 2 ^ nx.length
end Sx
namespace M
noncomputable def ow (x:Nat) (L:List Nat):Nat:=pk (fun k=>od (x&&&L.getD k 0)) 0 L.length
noncomputable def lk1 (A os:List Nat) (t:Nat):List Nat:=os.map fun s=>bkI A s t
noncomputable def lkm (A os:List Nat):Nat→List Nat
 | 0=>[]
 | T + 1=>lkm A os T++lk1 A os T
section
variable (ps os:List (Nat×Nat)) (m:Nat)
noncomputable def msk:List Nat:=lkm (ps.map (·.1)) (os.map (·.1)) ps.length
noncomputable def ldp:List Nat:=fr ((rch ps m ps.length).map (ow · (msk ps os)))
noncomputable def lst_:List Nat:=(ldp ps os m).map fun i=>(rch ps m ps.length).getD i 0
noncomputable def lkp:List Nat:=fr ((msk ps os).map (ow · (lst_ ps os m)))
noncomputable def lkL:List Nat:=(lkp ps os m).map fun i=>(msk ps os).getD i 0
noncomputable def sen:List Nat:=(lkL ps os m).map (ow · (lst_ ps os m))
end
section
variable {ps os:List (Nat×Nat)} {m:Nat}
structure Lsr (ps os:List (Nat×Nat)) (m:Nat) (nx' os':List (Nat×Nat)):Prop where
 ln:nx'.length=(lkp ps os m).length
 lo:os'.length=os.length
 n1:∀ (j:Nat) (q:Nat×Nat),nx'[j]? =some q→q.1 < 2 ^ (lkp ps os m).length∧sm (sen ps os m) q.1=ow (sm (ps.map (·.1)) ((lkL ps os m).getD j 0)) (lst_ ps os m)∧q.2=sm (ps.map (·.2)) ((lkL ps os m).getD j 0)
 o1:∀ (j:Nat) (q:Nat×Nat),os'[j]? =some q→q.1 < 2 ^ (lkp ps os m).length∧sm (sen ps os m) q.1=ow (os.getD j (0,0)).1 (lst_ ps os m)∧q.2=(os.getD j (0,0)).2
structure Fit (ps os:List (Nat×Nat)) (m:Nat):Prop where
 ln:ps.length≤120
 bn:∀ q∈ps++os,q.1 < 2 ^ ps.length
end
end M
namespace Sx
open PySem L2
structure Lrl (H:Hp) (Dr Dl:Addr) (ds es:List Addr) (m:Nat) (nx os:List Pr3):Prop where
 r:H Dr=some (.lst (ds.map V.ref))
 l:H Dl=some (.lst (es.map V.ref))
 dl:ds.length=(M.ldp (prs nx) (prs os) m).length
 el:es.length=(M.lkp (prs nx) (prs os) m).length
 da:∀ (j:Nat) (d k:Nat),ds[j]? =some d→(M.ldp (prs nx) (prs os) m)[j]? =some k→H d=some (.lst ((M.upk m (2 ^ k) nx.length).map nat))
 ea:∀ (j:Nat) (e k:Nat),es[j]? =some e→(M.lkp (prs nx) (prs os) m)[j]? =some k→H e=some (.tup [nat (k / os.length),nat (k % os.length)])
noncomputable def less (H:Hp) (R:Addr→Prop):Hp:=fun b=>@ite _ (R b) (Classical.propDecidable _) none (H b)
theorem zo {H:Hp} {R:Addr→Prop} {b:Addr} (h:R b):less H R b=none:=by unfold less;rw [if_pos h]
theorem bH {H:Hp} {R:Addr→Prop} {b:Addr} (h:¬ R b):less H R b=H b:=by unfold less;rw [if_neg h]
theorem aS {H:Hp} {R:Addr→Prop}:Same (less H R) H:=fun b o e=>by
 by_cases h:R b
 ·rw [zo h] at e;cases e
 ·rw [bH h] at e;exact e
theorem F9 {H:Hp} {R:Addr→Prop} (h:∀ b,R b→∃ xs,H b=some (.lst xs)) {b:Addr} {xs:List V} (e:H b=some (.tup xs)):less H R b=some (.tup xs):=by
 rw [bH fun z=>by obtain ⟨ys,hy⟩:=h b z;rw [hy] at e;cases e];exact e
structure Hnd2 (H:Hp) (i s t o:Addr) (rs:List Rw) (qs:List Qs) (N:Nt):Prop where
 i:H i=some (.lst (N.ins.map V.str))
 s:H s=some (.lst (rs.map fun r=>V.ref r.1))
 sr:∀ r∈rs,H r.1=some (.tup [.str r.2.2.1,.ref r.2.1])∧(H r.2.1=some (.lst (r.2.2.2.map V.str))∨H r.2.1=some (.tup (r.2.2.2.map V.str)))
 es:rs.map (·.2.2)=N.sums
 t:H t=some (.lst (qs.map fun q=>V.ref q.1))
 tr:∀ q∈qs,H q.1=some (.tup [.str q.2.1,.str q.2.2])
 et:qs.map (·.2)=N.sts
 o:H o=some (.lst (N.outs.map V.str))
inductive Thg (H:Hp):V→String→Prop where
 | sc {v:V} {k:String} (s:Scl v k):Thg H v k
 | nil {p:Addr} (e:H p=some (.lst [])):Thg H (.ref p) "list"
inductive Cpy (H H2:Hp):V→V→Prop where
 | sc {v:V} {k:String} (s:Scl v k):Cpy H H2 v v
 | nil {p p2:Addr} (e:H p=some (.lst [])) (e2:H2 p2=some (.lst [])):Cpy H H2 (.ref p) (.ref p2)
noncomputable def Uo:Sp:=fun _ _ _ _=>False
inductive Thg2 (H:Hp):V→String→Prop where
 | sc {v:V} {k:String} (s:Scl v k):Thg2 H v k
 | nil {p:Addr} (e:H p=some (.lst [])):Thg2 H (.ref p) "list"
 | one {p:Addr} {z:Str} (l:z.length≤1000) (e:H p=some (.tup [.str z])):Thg2 H (.ref p) "tuple"
inductive Cpy2 (H H2:Hp):V→V→Prop where
 | sc {v:V} {k:String} (s:Scl v k):Cpy2 H H2 v v
 | nil {p p2:Addr} (e:H p=some (.lst [])) (e2:H2 p2=some (.lst [])):Cpy2 H H2 (.ref p) (.ref p2)
 | one {p p2:Addr} {z:Str} (e:H p=some (.tup [.str z])) (e2:H2 p2=some (.tup [.str z])):Cpy2 H H2 (.ref p) (.ref p2)
noncomputable def Kg:Sp:=fun vs H Q _=>∃ (v:V) (k:String) (d:Int),vs=[v,.int d]∧Scl v k∧Q v H
noncomputable def dueD (c:Nat) (d e:Dt):Dt:=match c with
 | 0=> .lst [.str "wire",d]
 | 1=> .lst [.str "name",e]
 | 2=> .lst [.str "doubled",e]
 | 3=> .lst [.str "many"]
 | _=> .non
noncomputable def FE (sums:List (Str×List Str)):Prop:=∃ S:List Str,S≠[]∧∀ z∈S,∃ ws,(z,ws)∈sums∧∃ w∈ws,w∈S
structure kG (sums:List (Str×List Str)) (rg:List Str):Prop where
 ne:rg≠[]
 nd:rg.Nodup
 st:∀ i,i < rg.length→∃ ws,(rg.getD i "",ws)∈sums∧rg.getD ((i + 1) % rg.length) ""∈ws
theorem kG.mono {s1 s2:List (Str×List Str)} {rg:List Str} (r:kG s1 rg) (h:∀ y∈s1,y∈s2):kG s2 rg:=⟨r.ne,r.nd,fun i hi=>by obtain ⟨ws,a,b⟩:=r.st i hi;exact ⟨ws,h _ a,b⟩⟩
theorem kG.ring {sums:List (Str×List Str)} {rg:List Str} (r:kG sums rg):FE sums:=by
 refine ⟨rg,r.ne,fun z hz=>?_⟩
 obtain ⟨i,hi,e⟩:=List.mem_iff_getElem.mp hz
 obtain ⟨ws,h1,h2⟩:=r.st i hi
 rw [List.getD_eq_getElem?_getD,List.getElem?_eq_getElem hi,Option.getD_some,e] at h1
 refine ⟨ws,h1,_,h2,?_⟩
 have hl:=Nat.mod_lt (i + 1) (show 0 < rg.length by omega)
 rw [List.getD_eq_getElem?_getD,List.getElem?_eq_getElem hl]
 exact List.getElem_mem hl
theorem Dg {sums:List (Str×List Str)} {od:List Str} (t:Topo sums od):¬ FE sums:=by
 rintro ⟨S,hne,h⟩
 have key:∀ (i:Nat) (z:Str),od[i]? =some z→z∉S:=by
  intro i
  induction i using Nat.strongRecOn with
  | _ i ih=>
    intro z hz hS
    obtain ⟨ws,h1,w,h2,h3⟩:=h z hS
    obtain ⟨ws',h4,_⟩:=h w h3
    have hm:=t.need i z hz ws h1 w h2 (List.mem_map.mpr ⟨_,h4,rfl⟩)
    obtain ⟨j,hj,e⟩:=List.mem_iff_getElem.mp hm
    rw [List.length_take] at hj
    rw [List.getElem_take] at e
    exact ih j (by omega) w (by rw [List.getElem?_eq_getElem (by omega),e]) h3
 cases S with
 | nil=>exact hne rfl
 | cons z S=>
   obtain ⟨ws,h1,_⟩:=h z List.mem_cons_self
   have:z∈od:=t.perm.mem_iff.mpr (List.mem_map.mpr ⟨_,h1,rfl⟩)
   obtain ⟨i,hi,e⟩:=List.mem_iff_getElem.mp this
   exact key i z (by rw [List.getElem?_eq_getElem hi,e]) List.mem_cons_self
theorem AX {sums:List (Str×List Str)} {path:List Str} {z:Str} (nd:path.Nodup) (st:∀ i,i + 1 < path.length→∃ ws,(path.getD i "",ws)∈sums∧path.getD (i + 1) ""∈ws) {k:Nat} (hk:path[k]? =some z) (last:∃ ws,(path.getD (path.length - 1) "",ws)∈sums∧z∈ws):kG sums (path.drop k):=by
 obtain ⟨hkl,ek⟩:=List.getElem?_eq_some_iff.mp hk
 have gd:∀ i,(path.drop k).getD i ""=path.getD (k + i) "":=fun i=>by rw [List.getD_eq_getElem?_getD,List.getElem?_drop,List.getD_eq_getElem?_getD]
 refine ⟨fun e=>?_,nd.sublist (List.drop_sublist _ _),fun i hi=>?_⟩
 ·have:=congrArg List.length e
  rw [List.length_drop] at this
  simp at this
  omega
 ·rw [List.length_drop] at hi
  rw [gd,gd,List.length_drop]
  by_cases h1:i + 1 < path.length - k
  ·rw [Nat.mod_eq_of_lt h1]
   exact st (k + i) (by omega)
  ·rw [show i + 1=path.length - k by omega,Nat.mod_self,Nat.add_zero,show k + i=path.length - 1 by omega]
   obtain ⟨ws,a1,a2⟩:=last
   exact ⟨ws,a1,by rw [List.getD_eq_getElem?_getD,hk];exact a2⟩
inductive Tg (H:Hp):V→Dt→Prop where
 | str (z:Str) (l:z.length≤1000):Tg H (.str z) (.str z)
 | int (i:Int):Tg H (.int i) (.int i)
 | bl (b:Bool):Tg H (.bl b) (.bl b)
 | non:Tg H .non .non
 | nil {p:Addr} (e:H p=some (.lst [])):Tg H (.ref p) (.lst [])
 | one {p:Addr} {z:Str} (l:z.length≤1000) (e:H p=some (.lst [.str z])):Tg H (.ref p) (.lst [.str z])
theorem Tg.keep {H H2:Hp} {v:V} {d:Dt} (t:Tg H v d) (h:∀ p ys,v= .ref p→H p=some (.lst ys)→H2 p=some (.lst ys)):Tg H2 v d:=by
 cases t with
 | str z l=>exact .str z l
 | int i=>exact .int i
 | bl b=>exact .bl b
 | non=>exact .non
 | nil e=>exact .nil (h _ _ rfl e)
 | one l e=>exact .one l (h _ _ rfl e)
theorem Tg.same {H H2:Hp} {v:V} {d:Dt} (t:Tg H v d) (s:Same H H2):Tg H2 v d:=t.keep fun _ _ _ e=>s.get e
theorem Tg.kind {K:PySem.W.Frag} {H:Hp} {v:V} {d:Dt} (t:Tg H v d):∃ k,zB K H v k:=by
 cases t with
 | str z l=>exact ⟨"str",rfl⟩
 | int i=>exact ⟨"int",rfl⟩
 | bl b=>exact ⟨"bool",rfl⟩
 | non=>exact ⟨"NoneType",rfl⟩
 | nil e=>exact ⟨"list",.inl ⟨rfl,_,SqL.of e⟩⟩
 | one l e=>exact ⟨"list",.inl ⟨rfl,_,SqL.of e⟩⟩
theorem Tg.len {H:Hp} {v:V} {d:Dt} (t:Tg H v d):∀ z,v= .str z→z.length≤1000:=fun z e=>by
 subst e
 cases t with
 | str z l=>exact l
theorem Tg.rep {K:PySem.W.Frag} {H:Hp} {v:V} {d:Dt} (t:Tg H v d):Rep K H v d∧depD d≤1:=by
 cases t with
 | str z l=>exact ⟨.str z,by simp [depD]⟩
 | int i=>exact ⟨.int i,by simp [depD]⟩
 | bl b=>exact ⟨.bl b,by simp [depD]⟩
 | non=>exact ⟨.non,by simp [depD]⟩
 | nil e=>exact ⟨.lst (SqL.of e) rfl (fun i x y h=>by simp at h),by simp [depD,dN]⟩
 | one l e=>
   rename_i p z
   refine ⟨.lst (SqL.of e) rfl fun i x y h1 h2=>?_,by simp [depD,dN]⟩
   match i,h1,h2 with
   | 0,h1,h2=>cases h1;cases h2;exact .str z
   | i + 1,h1,_=>simp at h1
noncomputable def HD:Dt→Bool
 | .str z=>nm z.cps.toList
 | _=>false
theorem Tg.name {H:Hp} {v:V} {d:Dt} (t:Tg H v d):K0 v=HD d:=by cases t<;>rfl
inductive Ft where
 | many | bad (d:Dt) | dbl (d:Dt) | now (d:Dt) | ring
noncomputable def nmsF:List Dt→List Str→Option Ft
 | [],_=>none
 | .str z::ds,known=>if nm z.cps.toList=true then (if z∈known then some (.dbl (.str z)) else nmsF ds (known++[z])) else some (.bad (.str z))
 | d::_,_=>some (.bad d)
noncomputable def wrsF:List Dt→List Str→Option Ft
 | [],_=>none
 | .str z::ds,known=>if z∈known then wrsF ds known else some (.now (.str z))
 | d::_,_=>some (.now d)
theorem uH:∀ {ds:List Dt} {known:List Str},nmsF ds known=none→∃ zs:List Str,ds=zs.map Dt.str∧(∀ z∈zs,Nm z)∧zs.Nodup∧∀ z∈zs,z∉known
 | [],_,_=>⟨[],rfl,fun _ h=>absurd h (by simp),.nil,fun _ h=>absurd h (by simp)⟩
 | .str z::ds,known,h=>by
   unfold nmsF at h
   by_cases h1:nm z.cps.toList=true
   ·rw [if_pos h1] at h
    by_cases h2:z∈known
    ·rw [if_pos h2] at h;cases h
    ·rw [if_neg h2] at h
     obtain ⟨zs,rfl,a2,a3,a4⟩:=uH h
     refine ⟨z::zs,rfl,fun y hy=>(List.mem_cons.mp hy).elim (fun e=>by rw [e];exact h1) (a2 y),List.nodup_cons.mpr ⟨fun m=>a4 z m (List.mem_append_right _ List.mem_cons_self),a3⟩,fun y hy=>(List.mem_cons.mp hy).elim (fun e=>by rw [e];exact h2) fun m k=>a4 y m (List.mem_append_left _ k)⟩
   ·rw [if_neg h1] at h;cases h
 | .non::_,_,h=>by cases h
 | .bl _::_,_,h=>by cases h
 | .int _::_,_,h=>by cases h
 | .lst _::_,_,h=>by cases h
 | .tup _::_,_,h=>by cases h
theorem AB:∀ {ds:List Dt} {known:List Str},wrsF ds known=none→∃ zs:List Str,ds=zs.map Dt.str∧∀ z∈zs,z∈known
 | [],_,_=>⟨[],rfl,fun _ h=>absurd h (by simp)⟩
 | .str z::ds,known,h=>by
   unfold wrsF at h
   by_cases h2:z∈known
   ·rw [if_pos h2] at h
    obtain ⟨zs,rfl,a2⟩:=AB h
    exact ⟨z::zs,rfl,fun y hy=>(List.mem_cons.mp hy).elim (fun e=>by rw [e];exact h2) (a2 y)⟩
   ·rw [if_neg h2] at h;cases h
 | .non::_,_,h=>by cases h
 | .bl _::_,_,h=>by cases h
 | .int _::_,_,h=>by cases h
 | .lst _::_,_,h=>by cases h
 | .tup _::_,_,h=>by cases h
theorem nu (z:Str) (ds:List Dt) (known:List Str):wrsF (.str z::ds) known=if z∈known then wrsF ds known else some (.now (.str z)):=by rw [wrsF]
theorem FL:∀ {ds:List Dt} {known:List Str} {f:Ft},wrsF ds known=some f→∃ d,f= .now d
 | [],_,_,h=>by cases h
 | .str z::ds,known,f,h=>by
   unfold wrsF at h
   by_cases h2:z∈known
   ·rw [if_pos h2] at h;exact FL h
   ·rw [if_neg h2] at h;cases h;exact ⟨_,rfl⟩
 | .non::_,_,_,h=>by cases h;exact ⟨_,rfl⟩
 | .bl _::_,_,_,h=>by cases h;exact ⟨_,rfl⟩
 | .int _::_,_,_,h=>by cases h;exact ⟨_,rfl⟩
 | .lst _::_,_,_,h=>by cases h;exact ⟨_,rfl⟩
 | .tup _::_,_,_,h=>by cases h;exact ⟨_,rfl⟩
end Sx
namespace Sv
open PySem L2 Sx
structure Vt where
 ins:List Str
 sums:List (Str×List V)
 sts:List (Str×V)
 outs:List V
noncomputable def Vt.names (N:Vt):List Str:=N.ins++N.sums.map (·.1)++N.sts.map (·.1)
structure Gv (N:Vt):Prop where
 li:N.ins.length≤6
 ls:N.sums.length≤40
 lt:N.sts.length≤16
 lo:N.outs.length≤6
 lw:∀ r∈N.sums,r.2.length≤24
 nm:∀ z∈N.names,Nm z
 nd:N.names.Nodup
noncomputable abbrev Rw:=Addr×Addr×Str×List V
noncomputable abbrev Qs:=Addr×Str×V
structure Kpt (H:Hp) (i s t o:Addr) (rs:List Rw) (qs:List Qs) (N:Vt):Prop where
 i:H i=some (.tup (N.ins.map V.str))
 s:H s=some (.tup (rs.map fun r=>V.ref r.1))
 sr:∀ r∈rs,H r.1=some (.tup [.str r.2.2.1,.ref r.2.1])∧H r.2.1=some (.tup r.2.2.2)
 es:rs.map (·.2.2)=N.sums
 t:H t=some (.tup (qs.map fun q=>V.ref q.1))
 tr:∀ q∈qs,H q.1=some (.tup [.str q.2.1,q.2.2])
 et:qs.map (·.2)=N.sts
 o:H o=some (.tup N.outs)
theorem Kpt.same {H H2:Hp} {i s t o:Addr} {rs:List Rw} {qs:List Qs} {N:Vt} (x:Kpt H i s t o rs qs N) (h:Same H H2):Kpt H2 i s t o rs qs N:=⟨h.get x.i,h.get x.s,fun r m=>⟨h.get (x.sr r m).1,h.get (x.sr r m).2⟩,x.es,h.get x.t,fun q m=>h.get (x.tr q m),x.et,h.get x.o⟩
inductive Wob (H:Hp) (CI CS CT:Addr) (N:Vt) (z:Str) (w:Addr):Prop where
 | i (k:Nat) (dx:Addr) (hk:N.ins[k]? =some z) (e:H w=some (.ins CI dx [("name",.str z),("number",nat k)])):Wob H CI CS CT N z w
 | s (ws:List V) (dx tw:Addr) (hk:(z,ws)∈N.sums) (e:H w=some (.ins CS dx [("name",.str z),("wires",.ref tw)])) (et:H tw=some (.tup ws)):Wob H CI CS CT N z w
 | t (k:Nat) (y:V) (dx:Addr) (hk:N.sts[k]? =some (z,y)) (e:H w=some (.ins CT dx [("name",.str z),("wire",y),("number",nat k)])):Wob H CI CS CT N z w
theorem Wob.same {H H2:Hp} {CI CS CT:Addr} {N:Vt} {z:Str} {w:Addr} (x:Wob H CI CS CT N z w) (h:Same H H2):Wob H2 CI CS CT N z w:=by
 cases x with
 | i k dx hk e=>exact .i k dx hk (h.get e)
 | s ws dx tw hk e et=>exact .s ws dx tw hk (h.get e) (h.get et)
 | t k y dx hk e=>exact .t k y dx hk (h.get e)
theorem Wob.name {H:Hp} {CI CS CT:Addr} {N:Vt} {z:Str} {w:Addr} (x:Wob H CI CS CT N z w):∃ C dx fs,H w=some (.ins C dx (("name",.str z)::fs))∧(C=CI∨C=CS∨C=CT):=by
 cases x with
 | i k dx hk e=>exact ⟨_,_,_,e,.inl rfl⟩
 | s ws dx tw hk e et=>exact ⟨_,_,_,e,.inr (.inl rfl)⟩
 | t k y dx hk e=>exact ⟨_,_,_,e,.inr (.inr rfl)⟩
structure WiA (H:Hp) (CI CS CT d:Addr) (N:Vt) (ws:List (Str×Addr)):Prop where
 d:H d=some (.dK (ws.map fun q=>(Sum.inr q.1,V.ref q.2)))
 nm:ws.map (·.1)=N.names
 ob:∀ q∈ws,Wob H CI CS CT N q.1 q.2
theorem WiA.knw {H:Hp} {CI CS CT d:Addr} {N:Vt} {ws:List (Str×Addr)} (x:WiA H CI CS CT d N ws):Knw H d N.names:=⟨_,x.d,by rw [List.map_map,← x.nm,List.map_map];rfl⟩
noncomputable def sp_wbyname (CI CS CT:Addr):Sp:=fun vs H Q _=>∃ (i s t o:Addr) (rs:List Rw) (qs:List Qs) (N:Vt),vs=[.ref i,.ref s,.ref t]∧Kpt H i s t o rs qs N∧Gv N∧∀ (d:Addr) (H2:Hp) (ws:List (Str×Addr)),H d=none→Same H H2→WiA H2 CI CS CT d N ws→Q (.ref d) H2
theorem Wob.keep {H H2:Hp} {CI CS CT:Addr} {N:Vt} {z:Str} {w D:Addr} {xs:List V} (x:Wob H CI CS CT N z w) (hD:H D=some (.lst xs)) (h:∀ b o,b≠D→H b=some o→H2 b=some o):Wob H2 CI CS CT N z w:=by
 cases x with
 | i k dx hk e=>exact .i k dx hk (h _ _ (iQ e hD (fun z=>by cases z)) e)
 | s ws dx tw hk e et=>exact .s ws dx tw hk (h _ _ (iQ e hD (fun z=>by cases z)) e) (h _ _ (iQ et hD (fun z=>by cases z)) et)
 | t k y dx hk e=>exact .t k y dx hk (h _ _ (iQ e hD (fun z=>by cases z)) e)
structure WL (H0 H:Hp) (CI CS CT:Addr) (N:Vt) (D:Addr) (ys:List V) (zs:List Str) (ws:List (Str×Addr)):Prop where
 ey:ys=ws.map fun q=>V.ref q.2
 nm:ws.map (·.1)=zs
 ob:∀ q∈ws,Wob H CI CS CT N q.1 q.2
 same:Same H0 H
 d:H D=some (.lst ys)
theorem WL.put {H0 H H4:Hp} {CI CS CT:Addr} {N:Vt} {D:Addr} {ys:List V} {zs:List Str} {ws:List (Str×Addr)} (c:WL H0 H CI CS CT N D ys zs ws) (hD:H0 D=none) (s:Same H H4) {z:Str} {x:Addr} (wb:Wob H4 CI CS CT N z x) (lz:zs.length≤900) {zs':List Str} (ez:zs'=zs++[z]):
  H4 D=some (.lst ys)∧ys.length < sizeLine∧∃ ws,WL H0 (upd H4 D (.lst (ys++[.ref x]))) CI CS CT N D (ys++[.ref x]) zs' ws:=by
 have eD:=s.get c.d
 have k:∀ b o,b≠D→H4 b=some o→upd H4 D (.lst (ys++[.ref x])) b=some o:=fun b o n e=>by rw [aw n];exact e
 have lw:ys.length=zs.length:=by rw [c.ey,← c.nm,List.length_map,List.length_map]
 refine ⟨eD,cj (by omega),ws++[(z,x)],by rw [List.map_append,c.ey];rfl,by rw [List.map_append,c.nm,ez];rfl,fun q hq=>?_,fun b o e=>?_,aA⟩
 ·rcases List.mem_append.mp hq with h | h
  ·exact ((c.ob q h).same s).keep eD k
  ·rw [List.mem_singleton] at h;subst h;exact wb.keep eD k
 ·exact k _ _ (al e hD) (s.get (c.same.get e))
theorem WL.join {H0 H H2 H3:Hp} {CI CS CT:Addr} {N:Vt} {D D2:Addr} {ys ys2:List V} {zs zs2:List Str} {ws ws2:List (Str×Addr)} (c:WL H0 H CI CS CT N D ys zs ws) (c2:WL H H2 CI CS CT N D2 ys2 zs2 ws2) (hD:H0 D=none) (u:Upd H2 H3 D (.lst (ys++ys2))):
  WL H0 H3 CI CS CT N D (ys++ys2) (zs++zs2) (ws++ws2):=by
 have eD:=c2.same.get c.d
 refine ⟨by rw [List.map_append,c.ey,c2.ey],by rw [List.map_append,c.nm,c2.nm],fun q hq=>?_,fun b o e=>u.oth _ _ (al e hD) (c2.same.get (c.same.get e)),u.at'⟩
 rcases List.mem_append.mp hq with h | h
 ·exact ((c.ob q h).same c2.same).keep eD u.oth
 ·exact (c2.ob q h).keep eD u.oth
noncomputable def RwK (H:Hp) (rs:List Rw):Prop:=∀ r∈rs,H r.1=some (.tup [.str r.2.2.1,.ref r.2.1])∧H r.2.1=some (.tup r.2.2.2)
noncomputable def QsK (H:Hp) (qs:List Qs):Prop:=∀ q∈qs,H q.1=some (.tup [.str q.2.1,q.2.2])
theorem RwK.same {H H2:Hp} {rs:List Rw} (h:RwK H rs) (s:Same H H2):RwK H2 rs:=fun r m=>⟨s.get (h r m).1,s.get (h r m).2⟩
theorem QsK.same {H H2:Hp} {qs:List Qs} (h:QsK H qs) (s:Same H H2):QsK H2 qs:=fun q m=>s.get (h q m)
theorem Kx.rw {x:Addr} {H H2:Hp} (k:Kx x H H2) {C dx:Addr} {fs:List (Str×V)} (hx:H x=some (.ins C dx fs)) {rs:List Rw} (h:RwK H rs):RwK H2 rs:=fun r m=>⟨k.tup hx (h r m).1,k.tup hx (h r m).2⟩
theorem Kx.qs {x:Addr} {H H2:Hp} (k:Kx x H H2) {C dx:Addr} {fs:List (Str×V)} (hx:H x=some (.ins C dx fs)) {qs:List Qs} (h:QsK H qs):QsK H2 qs:=fun q m=>k.tup hx (h q m)
theorem RwK.updL {H H2:Hp} {rs:List Rw} (h:RwK H rs) {D:Addr} {xs:List V} (hD:H D=some (.lst xs)) (k:∀ b o,b≠D→H b=some o→H2 b=some o):RwK H2 rs:=fun r m=>⟨k _ _ (iQ (h r m).1 hD fun z=>by cases z) (h r m).1,k _ _ (iQ (h r m).2 hD fun z=>by cases z) (h r m).2⟩
theorem QsK.updL {H H2:Hp} {qs:List Qs} (h:QsK H qs) {D:Addr} {xs:List V} (hD:H D=some (.lst xs)) (k:∀ b o,b≠D→H b=some o→H2 b=some o):QsK H2 qs:=fun q m=>k _ _ (iQ (h q m) hD fun z=>by cases z) (h q m)
theorem Kx.kpt {x:Addr} {H H2:Hp} (k:Kx x H H2) {C dx:Addr} {fs:List (Str×V)} (hx:H x=some (.ins C dx fs)) {i s t o:Addr} {rs:List Rw} {qs:List Qs} {N:Vt} (h:Kpt H i s t o rs qs N):Kpt H2 i s t o rs qs N:=
 ⟨k.tup hx h.i,k.tup hx h.s,fun r m=>⟨k.tup hx (h.sr r m).1,k.tup hx (h.sr r m).2⟩,h.es,k.tup hx h.t,fun q m=>k.tup hx (h.tr q m),h.et,k.tup hx h.o⟩
theorem Kx.wia {x:Addr} {H H2:Hp} (k:Kx x H H2) {CI CS CT d:Addr} {N:Vt} {ws:List (Str×Addr)} (h:WiA H CI CS CT d N ws) (hd:d≠x) (hw:∀ q∈ws,q.2≠x) {C dx:Addr} {fs:List (Str×V)} (hx:H x=some (.ins C dx fs)):WiA H2 CI CS CT d N ws:=
 ⟨k _ _ hd h.d,h.nm,fun q m=>by
  cases h.ob q m with
  | i k' dx' hk e=>exact .i k' dx' hk (k _ _ (hw q m) e)
  | s ws' dx' tw hk e et=>exact .s ws' dx' tw hk (k _ _ (hw q m) e) (k.tup hx et)
  | t k' y dx' hk e=>exact .t k' y dx' hk (k _ _ (hw q m) e)⟩
end Sv
namespace Sx
open PySem L2
noncomputable abbrev RwT:=Addr×Addr×V×List V
noncomputable abbrev QsT:=Addr×V×V
structure HndT (H:Hp) (i s t o:Addr) (is:List V) (rs:List RwT) (qs:List QsT) (os:List V):Prop where
 i:H i=some (.lst is)
 s:H s=some (.lst (rs.map fun r=>V.ref r.1))
 sr:∀ r∈rs,H r.1=some (.tup [r.2.2.1,.ref r.2.1])∧(H r.2.1=some (.lst r.2.2.2)∨H r.2.1=some (.tup r.2.2.2))
 t:H t=some (.lst (qs.map fun q=>V.ref q.1))
 tr:∀ q∈qs,H q.1=some (.tup [q.2.1,q.2.2])
 o:H o=some (.lst os)
theorem HndT.same {H H2:Hp} {i s t o:Addr} {is:List V} {rs:List RwT} {qs:List QsT} {os:List V} (x:HndT H i s t o is rs qs os) (h:Same H H2):HndT H2 i s t o is rs qs os:=⟨h.get x.i,h.get x.s,fun r m=>⟨h.get (x.sr r m).1,(x.sr r m).2.imp h.get h.get⟩,h.get x.t,fun q m=>h.get (x.tr q m),h.get x.o⟩
theorem Kx.tg {x:Addr} {H H2:Hp} (k:Kx x H H2) {C dx:Addr} {fs:List (Str×V)} (hx:H x=some (.ins C dx fs)) {v:V} {d:Dt} (t:Tg H v d):Tg H2 v d:=t.keep fun _ _ _ e=>k.lst hx e
structure Nd where
 ins:List Dt
 sums:List (Dt×List Dt)
 sts:List (Dt×Dt)
 outs:List Dt
noncomputable def TgL (H:Hp) (vs:List V) (ds:List Dt):Prop:=vs.length=ds.length∧∀ (i:Nat) v d,vs[i]? =some v→ds[i]? =some d→Tg H v d
theorem TgL.imp {H H2:Hp} {vs:List V} {ds:List Dt} (t:TgL H vs ds) (h:∀ v d,v∈vs→Tg H v d→Tg H2 v d):TgL H2 vs ds:=⟨t.1,fun i v d a b=>h v d (List.mem_of_getElem? a) (t.2 i v d a b)⟩
theorem TgL.same {H H2:Hp} {vs:List V} {ds:List Dt} (t:TgL H vs ds) (s:Same H H2):TgL H2 vs ds:=t.imp fun _ _ _ x=>x.same s
theorem TgL.nil (H:Hp):TgL H [] []:=⟨rfl,fun i v d h=>by simp at h⟩
theorem TgL.app {H:Hp} {vs ws:List V} {ds es:List Dt} (a:TgL H vs ds) (b:TgL H ws es):TgL H (vs++ws) (ds++es):=by
 refine ⟨by rw [List.length_append,List.length_append,a.1,b.1],fun i v d h1 h2=>?_⟩
 by_cases hi:i < vs.length
 ·rw [List.getElem?_append_left hi] at h1
  rw [List.getElem?_append_left (by rw [← a.1];exact hi)] at h2
  exact a.2 i v d h1 h2
 ·rw [List.getElem?_append_right (by omega)] at h1
  rw [List.getElem?_append_right (by rw [← a.1];omega),← a.1] at h2
  exact b.2 _ v d h1 h2
theorem TgL.cons {H:Hp} {v:V} {d:Dt} {vs:List V} {ds:List Dt} (t:Tg H v d) (r:TgL H vs ds):TgL H (v::vs) (d::ds):=by
 refine TgL.app (vs:=[v]) (ds:=[d]) ⟨rfl,fun i x e h1 h2=>?_⟩ r
 match i,h1,h2 with
 | 0,h1,h2=>cases h1;cases h2;exact t
 | i + 1,h1,_=>simp at h1
theorem TgL.strs {H:Hp}:∀ {vs:List V} {zs:List Str},TgL H vs (zs.map Dt.str)→vs=zs.map V.str:=fun {vs zs} t=>by
 apply List.ext_getElem?
 intro i
 have hl:=t.1
 rw [List.length_map] at hl
 by_cases hi:i < vs.length
 ·have hz:i < zs.length:=by omega
  have:=t.2 i vs[i] (.str zs[i]) (List.getElem?_eq_getElem hi) (by rw [List.getElem?_map,List.getElem?_eq_getElem hz];rfl)
  rw [List.getElem?_eq_getElem hi,List.getElem?_map,List.getElem?_eq_getElem hz]
  generalize vs[i]=v at this
  cases this
  rfl
 ·rw [List.getElem?_eq_none (by omega),List.getElem?_eq_none (by rw [List.length_map];omega)]
structure DatT (H:Hp) (is:List V) (rs:List RwT) (qs:List QsT) (os:List V) (N:Nd):Prop where
 i:TgL H is N.ins
 sn:TgL H (rs.map (·.2.2.1)) (N.sums.map (·.1))
 sw:∀ (i:Nat) (r:RwT) (x:Dt×List Dt),rs[i]? =some r→N.sums[i]? =some x→TgL H r.2.2.2 x.2
 tn:TgL H (qs.map (·.2.1)) (N.sts.map (·.1))
 tw:TgL H (qs.map (·.2.2)) (N.sts.map (·.2))
 o:TgL H os N.outs
theorem DatT.imp {H H2:Hp} {is:List V} {rs:List RwT} {qs:List QsT} {os:List V} {N:Nd} (x:DatT H is rs qs os N) (h:∀ v d,Tg H v d→Tg H2 v d):DatT H2 is rs qs os N:=
 ⟨x.i.imp fun v d _=>h v d,x.sn.imp fun v d _=>h v d,fun i r y a b=>(x.sw i r y a b).imp fun v d _=>h v d,x.tn.imp fun v d _=>h v d,x.tw.imp fun v d _=>h v d,x.o.imp fun v d _=>h v d⟩
theorem DatT.same {H H2:Hp} {is:List V} {rs:List RwT} {qs:List QsT} {os:List V} {N:Nd} (x:DatT H is rs qs os N) (s:Same H H2):DatT H2 is rs qs os N:=x.imp fun _ _ t=>t.same s
noncomputable def Nd.nms (N:Nd):List Dt:=N.ins++N.sums.map (·.1)++N.sts.map (·.1)
noncomputable def Nd.wrs (N:Nd):List Dt:=N.sums.flatMap (·.2)++N.sts.map (·.2)++N.outs
noncomputable def iq (N:Nd):Bool:=decide (6 < N.ins.length)||decide (40 < N.sums.length)||decide (16 < N.sts.length)||decide (6 < N.outs.length)||N.sums.any fun r=>decide (24 < r.2.length)
noncomputable def dStr:Dt→Str
 | .str z=>z
 | _=>""
theorem kP (zs:List Str):(zs.map Dt.str).map dStr=zs:=by rw [List.map_map];exact List.map_id zs
noncomputable def Nd.rows (N:Nd):List (Str×List Str):=N.sums.map fun r=>(dStr r.1,r.2.map dStr)
noncomputable def Nd.nt (N:Nd):Nt:=⟨N.ins.map dStr,N.rows,N.sts.map fun r=>(dStr r.1,dStr r.2),N.outs.map dStr⟩
open Classical in
noncomputable def dueF (N:Nd):Option Ft:=if iq N=true then some .many else (nmsF N.nms []).or ((wrsF N.wrs (N.nms.map dStr)).or (if FE N.rows then some .ring else none))
noncomputable def FtX (CM CB CD CN CR:Addr) (rows:List (Str×List Str)) (H2:Hp):Ft→Value→Option Addr→Prop
 | .many,C,dx=>C= .ref CM∧dx=none
 | .bad d,C,dx=>C= .ref CB∧∃ a v,dx=some a∧H2 a=some (.xd [("name",v)])∧Tg H2 v d
 | .dbl d,C,dx=>C= .ref CD∧∃ a v,dx=some a∧H2 a=some (.xd [("name",v)])∧Tg H2 v d
 | .now d,C,dx=>C= .ref CN∧∃ a v,dx=some a∧H2 a=some (.xd [("name",v)])∧Tg H2 v d
 | .ring,C,dx=>C= .ref CR∧∃ a L rg,dx=some a∧H2 a=some (.xd [("ring",.ref L)])∧H2 L=some (.lst (rg.map V.str))∧kG rows rg
noncomputable def Kh:Sp:=fun vs H Q _=>∃ (v:V) (d:Dt),vs=[v,.int 12]∧Tg H v d∧∀ v2 H2,Same H H2→Tg H2 v2 d→Q v2 H2
noncomputable def kI (C:Addr):Sp:=fun vs H Q _=>∃ (p:Addr) (v:V) (d:Dt),vs=[.ref p,v]∧Tg H v d∧H p=some (ExcF p C none)∧∀ v2 H2,ExcV H2 p C [("name",v2)]→(∀ b u,b≠p→H b=some u→H2 b=some u)→Tg H2 v2 d→Q .non H2
noncomputable def TldD (H H2:Hp) (dx:Addr) (d:Dt):Prop:=∃ v2,Tld H H2 dx v2∧Tg H2 v2 d
noncomputable def G5 (CN:Addr):Sp:=fun vs H Q E=>∃ (v:V) (t:Dt) (d:Addr) (zs:List Str),vs=[v,.ref d]∧Tg H v t∧Knw H d zs∧(∀ z∈zs,Nm z)∧(∀ z∈zs,t= .str z→∀ H2,Same H H2→Q .non H2)∧((∀ z∈zs,t≠.str z)→∀ H2 dx,TldD H H2 dx t→E (.ref CN) (some dx) H2)
noncomputable def Du (CB CD:Addr):Sp:=fun vs H Q E=>∃ (l:Addr) (xs:List V) (ds:List Dt),vs=[.ref l]∧H l=some (.lst xs)∧TgL H xs ds∧xs.length≤1000∧(nmsF ds []=none→∀ H2,Same H H2→Q .non H2)∧
 (∀ d,nmsF ds []=some (.bad d)→∀ H2 dx,TldD H H2 dx d→E (.ref CB) (some dx) H2)∧(∀ d,nmsF ds []=some (.dbl d)→∀ H2 dx,TldD H H2 dx d→E (.ref CD) (some dx) H2)
noncomputable def Ds (CM:Addr):Sp:=fun vs H Q E=>∃ (i s t o:Addr) (is:List V) (rs:List RwT) (qs:List QsT) (os:List V),vs=[.ref i,.ref s,.ref t,.ref o]∧HndT H i s t o is rs qs os∧is.length≤10000∧rs.length≤10000∧
 ((decide (6 < is.length)||decide (40 < rs.length)||decide (16 < qs.length)||decide (6 < os.length)||rs.any fun r=>decide (24 < r.2.2.2.length))=false→∀ H2,Same H H2→Q .non H2)∧
 ((decide (6 < is.length)||decide (40 < rs.length)||decide (16 < qs.length)||decide (6 < os.length)||rs.any fun r=>decide (24 < r.2.2.2.length))=true→∀ H2,Same H H2→E (.ref CM) none H2)
noncomputable def Dq (CN:Addr):Sp:=fun vs H Q E=>∃ (i s t o d:Addr) (rs:List Sv.Rw) (qs:List Sv.Qs) (N:Sv.Vt) (zs:List Str) (d1:List (List Dt)) (d2 d3:List Dt),vs=[.ref s,.ref t,.ref o,.ref d]∧Sv.Kpt H i s t o rs qs N∧Knw H d zs∧(∀ z∈zs,Nm z)∧
 (∀ (i:Nat) (r:Sv.Rw) x,rs[i]? =some r→d1[i]? =some x→TgL H r.2.2.2 x)∧rs.length=d1.length∧TgL H (qs.map (·.2.2)) d2∧TgL H N.outs d3∧
 (wrsF (d1.flatten++d2++d3) zs=none→∀ H2,Same H H2→Q .non H2)∧(∀ x,wrsF (d1.flatten++d2++d3) zs=some (.now x)→∀ H2 dx,TldD H H2 dx x→E (.ref CN) (some dx) H2)
structure Ro (sums:List (Str×List Str)):Prop where
 ls:sums.length≤40
 lw:∀ r∈sums,r.2.length≤24
 nd:(sums.map (·.1)).Nodup
noncomputable def RwH (H:Hp) (rs:List Rw):Prop:=∀ r∈rs,H r.1=some (.tup [.str r.2.2.1,.ref r.2.1])∧H r.2.1=some (.tup (r.2.2.2.map V.str))
noncomputable def J8:Sp:=fun vs H Q _=>∃ (l:Addr) (rs:List Rw),vs=[.ref l]∧H l=some (.lst (rs.map fun r=>V.ref r.1))∧RwH H rs∧Ro (rs.map (·.2.2))∧rs≠[]∧(∀ r∈rs,dX (rs.map (·.2.2.1)) r.2.2.2=true)∧
 ∀ (D:Addr) (H2:Hp) (rg:List Str),H D=none→Same H H2→H2 D=some (.lst (rg.map V.str))→kG (rs.map (·.2.2)) rg→Q (.ref D) H2
noncomputable def Nl (C:Addr):Sp:=fun vs H Q _=>∃ (p l:Addr) (zs:List Str),vs=[.ref p,.ref l]∧H l=some (.lst (zs.map V.str))∧H p=some (ExcF p C none)∧∀ L H2,ExcV H2 p C [("ring",.ref L)]→(∀ b u,b≠p→H b=some u→H2 b=some u)→H2 L=some (.lst (zs.map V.str))→Q .non H2
noncomputable def AL (CR:Addr):Sp:=fun vs H Q E=>∃ (s:Addr) (rs:List Rw),vs=[.ref s]∧H s=some (.tup (rs.map fun r=>V.ref r.1))∧RwH H rs∧Ro (rs.map (·.2.2))∧
 (∀ (D:Addr) (H2:Hp) (od:List Str),H D=none→Same H H2→H2 D=some (.lst (od.map V.str))→Topo (rs.map (·.2.2)) od→Q (.ref D) H2)∧
 (∀ (H2:Hp) (dx L:Addr) (rg:List Str),Same H H2→H2 dx=some (.xd [("ring",.ref L)])→H2 L=some (.lst (rg.map V.str))→kG (rs.map (·.2.2)) rg→E (.ref CR) (some dx) H2)
noncomputable def Np (C CI CS CT CM CB CD CN CR:Addr):Sp:=fun vs H Q E=>∃ (x dx i s t o:Addr) (is:List V) (rs:List RwT) (qs:List QsT) (os:List V) (N:Nd),vs=[.ref x,.ref i,.ref s,.ref t,.ref o]∧H x=some (.ins C dx [])∧HndT H i s t o is rs qs os∧DatT H is rs qs os N∧is.length≤1000∧rs.length≤1000∧
 (dueF N=none→∀ (H2:Hp) (od:List Str),Kx x H H2→NetA H2 C CI CS CT x N.nt od→Q .non H2)∧
 (∀ f,dueF N=some f→∀ (H2:Hp) C' dx',Kx x H H2→FtX CM CB CD CN CR N.rows H2 f C' dx'→E C' dx' H2)
theorem EM (z:Str):∀ zs:List Str,inV (.str z) (zs.map V.str)=decide (z∈zs)
 | []=>rfl
 | y::zs=>by
   unfold inV
   rw [List.map_cons,List.any_cons]
   have ih:=EM z zs
   unfold inV at ih
   rw [ih]
   by_cases e:y=z
   ·subst e;simp [eqV]
   ·simp [eqV,e,Ne.symm e]
theorem Cd (zs:List Str):(zs.map V.str).all zN=true:=by rw [List.all_eq_true];intro x hx;obtain ⟨y,_,rfl⟩:=List.mem_map.mp hx;rfl
theorem NE {K:PySem.W.Frag} {H:Hp} {Q:VK} {p:Addr} {zs:List Str} {z:Str} (e:H p=some (.lst (zs.map V.str))) (h:Q (.bl (decide (z∈zs))) H):rIn K false (.str z) (.ref p) H Q:=⟨p,_,rfl,.inl (SqL.of e),rfl,Cd zs,by rw [if_neg Bool.false_ne_true,EM];exact h⟩
theorem yy {K:PySem.W.Frag} {H:Hp} {Q:VK} {p:Addr} {zs:List Str} {z:Str} (e:H p=some (.lst (zs.map V.str))) (h:Q (.bl (!decide (z∈zs))) H):rIn K true (.str z) (.ref p) H Q:=⟨p,_,rfl,.inl (SqL.of e),rfl,Cd zs,by rw [if_pos rfl,EM];exact h⟩
theorem zO {z:Str}:∀ {l:List Str},z∈l→∃ j:Nat,l[j]? =some z∧∀ i,i < j→l[i]? ≠some z
 | [],h=>absurd h (by simp)
 | y::l,h=>by
   by_cases e:y=z
   ·exact ⟨0,by rw [e];rfl,fun i hi=>absurd hi (by omega)⟩
   ·obtain ⟨j,h1,h2⟩:=zO (l:=l) ((List.mem_cons.mp h).resolve_left fun q=>e q.symm)
    refine ⟨j + 1,h1,fun i hi=>?_⟩
    match i with
    | 0=>exact fun q=>e (Option.some.inj q)
    | i + 1=>exact h2 i (by omega)
theorem R3 {rs:List Rw} {z:Str} (h:z∈rs.map (·.2.2.1)):∃ r∈rs,r.2.2.1=z∧valV (rs.map fun r=>((Sum.inr r.2.2.1:Key),V.ref r.2.1)) (Sum.inr z)=some (.ref r.2.1):=by
 induction rs with
 | nil=>simp at h
 | cons r rs ih=>
   by_cases e:r.2.2.1=z
   ·exact ⟨r,List.mem_cons_self,e,sW (congrArg Sum.inr e)⟩
   ·obtain ⟨r',h1,h2,h3⟩:=ih ((List.mem_cons.mp h).resolve_left fun q=>e q.symm)
    refine ⟨r',List.mem_cons_of_mem _ h1,h2,?_⟩
    rw [List.map_cons,← h3]
    simp [valV,List.find?_cons,e]
theorem sV {t:Dt} {zs:List Str} (h:∀ z∈zs,t≠.str z) (r:List Dt):wrsF (t::r) zs=some (.now t):=by
 cases t with
 | str z=>rw [nu,if_neg fun m=>h z m rfl]
 | non=>rfl
 | bl b=>rfl
 | int i=>rfl
 | lst l=>rfl
 | tup l=>rfl
theorem zj (z:Str) (ds:List Dt) (known:List Str):nmsF (.str z::ds) known=if nm z.cps.toList=true then (if z∈known then some (.dbl (.str z)) else nmsF ds (known++[z])) else some (.bad (.str z)):=by rw [nmsF]
theorem F3 {t:Dt} (h:HD t=false) (r:List Dt) (zs:List Str):nmsF (t::r) zs=some (.bad t):=by
 cases t with
 | str z=>rw [zj,if_neg (by rw [show nm z.cps.toList=false from h];decide)]
 | non=>rfl
 | bl b=>rfl
 | int i=>rfl
 | lst l=>rfl
 | tup l=>rfl
theorem gK {α:Type} {l:List α} {i:Nat} {x:α} (h:l[i]? =some x):l.drop i=x::l.drop (i + 1):=by
 obtain ⟨hi,e⟩:=List.getElem?_eq_some_iff.mp h
 rw [← e];exact List.drop_eq_getElem_cons hi
structure FG (sums:List (Str×List Str)) (path:List Str) (z:Str):Prop where
 nd:path.Nodup
 sub:∀ y∈path,y∈sums.map (·.1)
 hz:z∈sums.map (·.1)
 st:∀ i,i + 1 < path.length→∃ ws,(path.getD i "",ws)∈sums∧path.getD (i + 1) ""∈ws
 last:path≠[]→∃ ws,(path.getD (path.length - 1) "",ws)∈sums∧z∈ws
theorem FG.step {sums:List (Str×List Str)} {path:List Str} {z y:Str} {ws:List Str} (p:FG sums path z) (hn:z∉path) (h1:(z,ws)∈sums) (h2:y∈ws) (h3:y∈sums.map (·.1)):FG sums (path++[z]) y:=by
 refine ⟨?_,fun x hx=>?_,h3,fun i hi=>?_,fun _=>⟨ws,?_,h2⟩⟩
 ·rw [List.nodup_append]
  exact ⟨p.nd,List.nodup_cons.mpr ⟨by simp,.nil⟩,fun a ha b hb e=>hn (by rw [List.mem_singleton] at hb;rw [← hb,← e];exact ha)⟩
 ·rcases List.mem_append.mp hx with h | h
  ·exact p.sub x h
  ·rw [List.mem_singleton.mp h];exact p.hz
 ·rw [List.length_append,List.length_singleton] at hi
  have g1:(path++[z]).getD i ""=path.getD i "":=by rw [List.getD_eq_getElem?_getD,List.getElem?_append_left (by omega),List.getD_eq_getElem?_getD]
  rw [g1]
  by_cases h:i + 1 < path.length
  ·have g2:(path++[z]).getD (i + 1) ""=path.getD (i + 1) "":=by rw [List.getD_eq_getElem?_getD,List.getElem?_append_left h,List.getD_eq_getElem?_getD]
   rw [g2]
   exact p.st i h
  ·have hne:path≠[]:=fun e=>by rw [e] at hi;simp at hi
   obtain ⟨ws',a1,a2⟩:=p.last hne
   rw [show i=path.length - 1 by omega]
   refine ⟨ws',a1,?_⟩
   show (path++[z]).getD (path.length - 1 + 1) ""∈ws'
   rw [List.getD_eq_getElem?_getD,List.getElem?_append_right (by omega),show path.length - 1 + 1 - path.length=0 by omega]
   exact a2
 ·rw [List.length_append,List.length_singleton,List.getD_eq_getElem?_getD,List.getElem?_append_right (by omega),show path.length + 1 - 1 - path.length=0 by omega]
  exact h1
theorem FG.len {sums:List (Str×List Str)} {path:List Str} {z:Str} (p:FG sums path z):path.length≤sums.length:=by
 have:=List.Nodup.length_le_of_subset p.nd (fun y hy=>p.sub y hy)
 rw [List.length_map] at this;exact this
noncomputable def toR (r:Sv.Rw):RwT:=(r.1,r.2.1,.str r.2.2.1,r.2.2.2)
noncomputable def toQ (q:Sv.Qs):QsT:=(q.1,.str q.2.1,q.2.2)
theorem FV:∀ {rs:List RwT} {zs:List Str},rs.map (·.2.2.1)=zs.map V.str→∃ rv:List Sv.Rw,rs=rv.map toR∧rv.map (·.2.2.1)=zs
 | [],[],_=>⟨[],rfl,rfl⟩
 | [],_::_,h=>by cases h
 | _::_,[],h=>by cases h
 | (a,b,v,ws)::rs,z::zs,h=>by
   injection h with h1 h2
   obtain ⟨rv,e1,e2⟩:=FV h2
   have h1:v=V.str z:=h1
   subst h1
   exact ⟨(a,b,z,ws)::rv,by rw [e1];rfl,by rw [← e2];rfl⟩
theorem Bb:∀ {qs:List QsT} {zs:List Str},qs.map (·.2.1)=zs.map V.str→∃ qv:List Sv.Qs,qs=qv.map toQ∧qv.map (·.2.1)=zs
 | [],[],_=>⟨[],rfl,rfl⟩
 | [],_::_,h=>by cases h
 | _::_,[],h=>by cases h
 | (a,v,y)::qs,z::zs,h=>by
   injection h with h1 h2
   obtain ⟨qv,e1,e2⟩:=Bb h2
   have h1:v=V.str z:=h1
   subst h1
   exact ⟨(a,z,y)::qv,by rw [e1];rfl,by rw [← e2];rfl⟩
structure HndV (H:Hp) (i s t o:Addr) (is:List Str) (rv:List Sv.Rw) (qv:List Sv.Qs) (os:List V):Prop where
 i:H i=some (.lst (is.map V.str))
 s:H s=some (.lst (rv.map fun r=>V.ref r.1))
 sr:∀ r∈rv,H r.1=some (.tup [.str r.2.2.1,.ref r.2.1])∧(H r.2.1=some (.lst r.2.2.2)∨H r.2.1=some (.tup r.2.2.2))
 t:H t=some (.lst (qv.map fun q=>V.ref q.1))
 tr:∀ q∈qv,H q.1=some (.tup [.str q.2.1,q.2.2])
 o:H o=some (.lst os)
theorem HndV.of {H:Hp} {i s t o:Addr} {is:List Str} {rv:List Sv.Rw} {qv:List Sv.Qs} {os:List V} (x:HndT H i s t o (is.map V.str) (rv.map toR) (qv.map toQ) os):HndV H i s t o is rv qv os:=
 ⟨x.i,by have:=x.s;rw [List.map_map] at this;exact this,fun r m=>x.sr (toR r) (List.mem_map.mpr ⟨r,m,rfl⟩),by have:=x.t;rw [List.map_map] at this;exact this,fun q m=>x.tr (toQ q) (List.mem_map.mpr ⟨q,m,rfl⟩),x.o⟩
theorem HndV.same {H H2:Hp} {i s t o:Addr} {is:List Str} {rs:List Sv.Rw} {qs:List Sv.Qs} {os:List V} (x:HndV H i s t o is rs qs os) (h:Same H H2):HndV H2 i s t o is rs qs os:=⟨h.get x.i,h.get x.s,fun r m=>⟨h.get (x.sr r m).1,(x.sr r m).2.imp h.get h.get⟩,h.get x.t,fun q m=>h.get (x.tr q m),h.get x.o⟩
theorem Kx.hndV {x:Addr} {H H2:Hp} (k:Kx x H H2) {C dx:Addr} {fs:List (Str×V)} (hx:H x=some (.ins C dx fs)) {i s t o:Addr} {is:List Str} {rs:List Sv.Rw} {qs:List Sv.Qs} {os:List V} (h:HndV H i s t o is rs qs os):HndV H2 i s t o is rs qs os:=
 ⟨k.lst hx h.i,k.lst hx h.s,fun r m=>⟨k.tup hx (h.sr r m).1,(h.sr r m).2.imp (k.lst hx) (k.tup hx)⟩,k.lst hx h.t,fun q m=>k.tup hx (h.tr q m),k.lst hx h.o⟩
noncomputable def toV (M:Nt):Sv.Vt:=⟨M.ins,M.sums.map fun r=>(r.1,r.2.map V.str),M.sts.map fun r=>(r.1,.str r.2),M.outs.map V.str⟩
theorem gy (M:Nt):(toV M).names=M.names:=by
 unfold Sv.Vt.names Nt.names toV
 simp only [List.map_map]
 rfl
theorem lW:∀ {ds:List Dt},(∀ d∈ds,∃ z,d=Dt.str z)→ds=(ds.map dStr).map Dt.str
 | [],_=>rfl
 | d::ds,h=>by
   obtain ⟨z,e⟩:=h d List.mem_cons_self
   have:=lW (ds:=ds) fun d' m=>h d' (List.mem_cons_of_mem _ m)
   rw [List.map_cons,List.map_cons,← this,e];rfl
theorem DG:∀ {rs:List Sv.Rw} {sums:List (Str×List Str)},rs.map (·.2.2)=sums.map (fun r=>(r.1,r.2.map V.str))→∃ rs2:List Rw,rs=rs2.map (fun r=>(r.1,r.2.1,r.2.2.1,r.2.2.2.map V.str))∧rs2.map (·.2.2)=sums
 | [],[],_=>⟨[],rfl,rfl⟩
 | [],_::_,h=>by cases h
 | _::_,[],h=>by cases h
 | (a,b,p)::rs,q::zs,h=>by
   injection h with h1 h2
   obtain ⟨rv,e1,e2⟩:=DG h2
   have h1:p=(q.1,q.2.map V.str):=h1
   subst h1
   exact ⟨(a,b,q)::rv,by rw [e1];rfl,by rw [← e2];rfl⟩
theorem yJ:∀ {qs:List Sv.Qs} {sts:List (Str×Str)},qs.map (·.2)=sts.map (fun r=>(r.1,V.str r.2))→∃ qs2:List Qs,qs=qs2.map (fun r=>(r.1,r.2.1,V.str r.2.2))∧qs2.map (·.2)=sts
 | [],[],_=>⟨[],rfl,rfl⟩
 | [],_::_,h=>by cases h
 | _::_,[],h=>by cases h
 | (a,p)::rs,q::zs,h=>by
   injection h with h1 h2
   obtain ⟨rv,e1,e2⟩:=yJ h2
   have h1:p=(q.1,V.str q.2):=h1
   subst h1
   exact ⟨(a,q)::rv,by rw [e1];rfl,by rw [← e2];rfl⟩
theorem To {H:Hp} {i s t o:Addr} {rs:List Sv.Rw} {qs:List Sv.Qs} {M:Nt} (k:Sv.Kpt H i s t o rs qs (toV M)):∃ (rs2:List Rw) (qs2:List Qs),Kpt H i s t o rs2 qs2 M:=by
 obtain ⟨rs2,e1,e2⟩:=DG k.es
 obtain ⟨qs2,e3,e4⟩:=yJ k.et
 have hs:=k.s
 have ht:=k.t
 have hsr:=k.sr
 have htr:=k.tr
 rw [e1] at hs hsr
 rw [e3] at ht htr
 rw [List.map_map] at hs ht
 exact ⟨rs2,qs2,k.i,hs,fun r m=>hsr _ (List.mem_map.mpr ⟨r,m,rfl⟩),e2,ht,fun q m=>htr _ (List.mem_map.mpr ⟨q,m,rfl⟩),e4,k.o⟩
theorem RZ {H:Hp} {CI CS CT d:Addr} {M:Nt} {ws:List (Str×Addr)} (w:Sv.WiA H CI CS CT d (toV M) ws):WiA H CI CS CT d M ws:=
 ⟨w.d,by rw [w.nm,gy],fun q m=>by
  cases w.ob q m with
  | i k dx hk e=>exact .i k dx hk e
  | s vs dx tw hk e et=>
    obtain ⟨r,hr,er⟩:=List.mem_map.mp hk
    injection er with e1 e2
    rw [← e2] at et
    exact .s r.2 dx tw (by rw [← e1];exact hr) e et
  | t k y dx hk e=>
    have hk:(M.sts.map fun r=>(r.1,V.str r.2))[k]? =some (q.1,y):=hk
    rw [List.getElem?_map] at hk
    obtain ⟨r,hr,er⟩:=Option.map_eq_some_iff.mp hk
    injection er with e1 e2
    rw [← e2] at e
    exact .t k r.2 dx (by rw [hr,← e1]) e⟩
theorem JQ {sums:List (Str×List Str)} {od:List Str} (t:Topo sums od) (nd:(sums.map (·.1)).Nodup):∃ rank:Str→Nat,∀ r∈sums,∀ z∈r.2,z∈sums.map (·.1)→rank z < rank r.1:=by
 have ndo:=t.perm.nodup_iff.mpr nd
 refine ⟨fun z=>od.idxOf z,fun r hr z hz hm=>?_⟩
 have hro:r.1∈od:=t.perm.mem_iff.mpr (List.mem_map.mpr ⟨r,hr,rfl⟩)
 have hlt:=List.idxOf_lt_length_of_mem hro
 have hg:od[od.idxOf r.1]? =some r.1:=by rw [List.getElem?_eq_getElem hlt,List.getElem_idxOf]
 have:=t.need _ r.1 hg r.2 hr z hz hm
 obtain ⟨j,hj,ej⟩:=List.mem_iff_getElem.mp this
 rw [List.length_take] at hj
 rw [List.getElem_take] at ej
 have:od.idxOf z=j:=by rw [← ej];exact ndo.idxOf_getElem j (by omega)
 show od.idxOf z < od.idxOf r.1
 omega
theorem R1 {H:Hp} {is:List V} {rs:List RwT} {qs:List QsT} {os:List V} {N:Nd} (d:DatT H is rs qs os N) (hm:iq N=false) (hn:nmsF N.nms []=none):
  ∃ (zi:List Str) (rv:List Sv.Rw) (qv:List Sv.Qs),is=zi.map V.str∧rs=rv.map toR∧qs=qv.map toQ∧Sv.Gv ⟨zi,rv.map (·.2.2),qv.map (·.2),os⟩∧N.nms=(zi++rv.map (·.2.2.1)++qv.map (·.2.1)).map Dt.str:=by
 obtain ⟨zs,e,a2,a3,_⟩:=uH hn
 have mem:∀ x∈N.nms,∃ z,x=Dt.str z:=fun x hx=>by rw [e] at hx;obtain ⟨z,_,rfl⟩:=List.mem_map.mp hx;exact ⟨z,rfl⟩
 have m1:=lW (ds:=N.ins) fun x hx=>mem x (List.mem_append_left _ (List.mem_append_left _ hx))
 have m2:=lW (ds:=N.sums.map (·.1)) fun x hx=>mem x (List.mem_append_left _ (List.mem_append_right _ hx))
 have m3:=lW (ds:=N.sts.map (·.1)) fun x hx=>mem x (List.mem_append_right _ hx)
 have t1:=d.i
 have t2:=d.sn
 have t3:=d.tn
 rw [m1] at t1
 rw [m2] at t2
 rw [m3] at t3
 obtain ⟨rv,e2,e2'⟩:=FV t2.strs
 obtain ⟨qv,e3,e3'⟩:=Bb t3.strs
 have en:N.nms=(N.ins.map dStr++rv.map (·.2.2.1)++qv.map (·.2.1)).map Dt.str:=by
  rw [List.map_append,List.map_append,e2',e3',← m1,← m2,← m3];rfl
 have ez:zs=N.ins.map dStr++rv.map (·.2.2.1)++qv.map (·.2.1):=by
  have:=congrArg (List.map dStr) (e.symm.trans en)
  rw [kP,kP] at this
  exact this
 have l1:=d.sn.1
 have l3:=d.tn.1
 rw [List.length_map,List.length_map] at l1 l3
 rw [e2,List.length_map] at l1
 rw [e3,List.length_map] at l3
 unfold iq at hm
 simp only [Bool.or_eq_false_iff,decide_eq_false_iff_not] at hm
 obtain ⟨⟨⟨⟨h1,h2⟩,h3⟩,h4⟩,h5⟩:=hm
 refine ⟨N.ins.map dStr,rv,qv,t1.strs,e2,e3,⟨by rw [List.length_map];omega,by rw [List.length_map];omega,by rw [List.length_map];omega,?_,fun r hr=>?_,?_,?_⟩,en⟩
 ·have:=d.o.1
  show os.length≤6
  omega
 ·obtain ⟨r',hr',rfl⟩:=List.mem_map.mp hr
  obtain ⟨k,hk,ek⟩:=List.mem_iff_getElem.mp hr'
  have hx:N.sums[k]? =some N.sums[k]:=List.getElem?_eq_getElem (by omega)
  have hw:=(d.sw k (toR r') N.sums[k] (by rw [e2,List.getElem?_map,List.getElem?_eq_getElem hk,ek];rfl) hx).1
  have:=List.any_eq_false.mp h5 _ (List.mem_of_getElem? hx)
  simp only [decide_eq_true_eq] at this
  have hw:r'.2.2.2.length=N.sums[k].2.length:=hw
  show r'.2.2.2.length≤24
  omega
 ·intro z hz
  refine a2 z ?_
  rw [ez]
  unfold Sv.Vt.names at hz
  simp only [List.map_map] at hz
  exact hz
 ·have:=a3
  rw [ez] at this
  unfold Sv.Vt.names
  simp only [List.map_map]
  exact this
theorem OR {H:Hp} {N:Nd} {zi:List Str} {rv:List Sv.Rw} {qv:List Sv.Qs} {os:List V} {known:List Str} (en:N.nms=(zi++rv.map (·.2.2.1)++qv.map (·.2.1)).map Dt.str) (li:zi.length=N.ins.length) (lr:rv.length=N.sums.length) (lq:qv.length=N.sts.length)
  (sw:∀ (i:Nat) (r:Sv.Rw) x,rv[i]? =some r→N.sums[i]? =some x→TgL H r.2.2.2 x.2) (tw:TgL H (qv.map (·.2.2)) (N.sts.map (·.2))) (to:TgL H os N.outs) (hw:wrsF N.wrs known=none):
  (⟨zi,rv.map (·.2.2),qv.map (·.2),os⟩:Sv.Vt)=toV N.nt∧(∀ r∈N.nt.sums,∀ z∈r.2,z∈known)∧(∀ r∈N.nt.sts,r.2∈known)∧∀ z∈N.nt.outs,z∈known:=by
 obtain ⟨zs,e,hz⟩:=AB hw
 have mem:∀ x∈N.wrs,∃ z,x=Dt.str z∧z∈known:=fun x hx=>by rw [e] at hx;obtain ⟨z,m,rfl⟩:=List.mem_map.mp hx;exact ⟨z,rfl,hz z m⟩
 have w1:∀ r∈N.sums,∀ x∈r.2,∃ z,x=Dt.str z∧z∈known:=fun r hr x hx=>mem x (List.mem_append_left _ (List.mem_append_left _ (List.mem_flatMap.mpr ⟨r,hr,hx⟩)))
 have w2:∀ x∈N.sts.map (·.2),∃ z,x=Dt.str z∧z∈known:=fun x hx=>mem x (List.mem_append_left _ (List.mem_append_right _ hx))
 have w3:∀ x∈N.outs,∃ z,x=Dt.str z∧z∈known:=fun x hx=>mem x (List.mem_append_right _ hx)
 have en1:N.nms=N.ins++N.sums.map (·.1)++N.sts.map (·.1):=rfl
 rw [en1,List.map_append,List.map_append] at en
 obtain ⟨en12,en3⟩:=List.append_inj en (by simp [li,lr])
 obtain ⟨en1',en2⟩:=List.append_inj en12 (by simp [li])
 refine ⟨?_,fun r hr z hz'=>?_,fun r hr=>?_,fun z hz'=>?_⟩
 ·have f1:zi=N.ins.map dStr:=by rw [en1',kP]
  have f2:rv.map (·.2.2)=N.rows.map fun r=>(r.1,r.2.map V.str):=by
   apply List.ext_getElem?
   intro k
   by_cases hk:k < rv.length
   ·have hk2:k < N.sums.length:=by omega
    have g1:rv[k]? =some rv[k]:=List.getElem?_eq_getElem hk
    have g2:N.sums[k]? =some N.sums[k]:=List.getElem?_eq_getElem hk2
    unfold Nd.rows
    rw [List.getElem?_map,List.getElem?_map,List.getElem?_map,g1,g2]
    have t:=sw k _ _ g1 g2
    have hs:=lW (ds:=N.sums[k].2) fun x hx=>(w1 _ (List.mem_of_getElem? g2) x hx).imp fun _ h=>h.1
    rw [hs] at t
    have n1:N.sums[k].1=Dt.str rv[k].2.2.1:=by
     have:=congrArg (fun l=>l[k]?) en2
     simp only [List.getElem?_map,g1,g2,Option.map_some] at this
     exact Option.some.inj this
    have n2:=t.strs
    show some (rv[k].2.2)=some (dStr N.sums[k].1,(N.sums[k].2.map dStr).map V.str)
    rw [n1,← n2];rfl
   ·rw [List.getElem?_eq_none (by rw [List.length_map];omega),List.getElem?_eq_none (by unfold Nd.rows;rw [List.length_map,List.length_map];omega)]
  have f3:qv.map (·.2)=(N.sts.map fun r=>(dStr r.1,dStr r.2)).map fun r=>(r.1,V.str r.2):=by
   have hs:=lW (ds:=N.sts.map (·.2)) fun x hx=>(w2 x hx).imp fun _ h=>h.1
   rw [hs] at tw
   have tw:=tw.strs
   apply List.ext_getElem?
   intro k
   by_cases hk:k < qv.length
   ·have hk2:k < N.sts.length:=by omega
    have g1:qv[k]? =some qv[k]:=List.getElem?_eq_getElem hk
    have g2:N.sts[k]? =some N.sts[k]:=List.getElem?_eq_getElem hk2
    rw [List.getElem?_map,List.getElem?_map,List.getElem?_map,g1,g2]
    have n1:N.sts[k].1=Dt.str qv[k].2.1:=by
     have:=congrArg (fun l=>l[k]?) en3
     simp only [List.getElem?_map,g1,g2,Option.map_some] at this
     exact Option.some.inj this
    have n2:qv[k].2.2=V.str (dStr N.sts[k].2):=by
     have:=congrArg (fun l=>l[k]?) tw
     simp only [List.getElem?_map,g1,g2,Option.map_some] at this
     exact Option.some.inj this
    show some (qv[k].2)=some (dStr N.sts[k].1,V.str (dStr N.sts[k].2))
    rw [n1,← n2];rfl
   ·rw [List.getElem?_eq_none (by rw [List.length_map];omega),List.getElem?_eq_none (by rw [List.length_map,List.length_map];omega)]
  have f4:os=(N.outs.map dStr).map V.str:=by
   have hs:=lW (ds:=N.outs) fun x hx=>(w3 x hx).imp fun _ h=>h.1
   rw [hs] at to
   exact to.strs
  unfold toV Nd.nt
  rw [f1,f2,f3,f4]
 ·obtain ⟨r0,hr0,rfl⟩:=List.mem_map.mp (show r∈N.sums.map _ from hr)
  obtain ⟨x,hx,rfl⟩:=List.mem_map.mp hz'
  obtain ⟨z,rfl,k⟩:=w1 r0 hr0 x hx
  exact k
 ·obtain ⟨r0,hr0,rfl⟩:=List.mem_map.mp (show r∈N.sts.map _ from hr)
  obtain ⟨z,e,k⟩:=w2 r0.2 (List.mem_map.mpr ⟨r0,hr0,rfl⟩)
  show dStr r0.2∈known
  rw [e];exact k
 ·obtain ⟨x,hx,rfl⟩:=List.mem_map.mp (show z∈N.outs.map dStr from hz')
  obtain ⟨z,rfl,k⟩:=w3 x hx
  exact k
theorem CQ {α β:Type} {f:α→Bool} {g:β→Bool}:∀ {xs:List α} {ys:List β},xs.length=ys.length→(∀ (k:Nat) x y,xs[k]? =some x→ys[k]? =some y→f x=g y)→xs.any f=ys.any g
 | [],[],_,_=>rfl
 | [],_::_,h,_=>by cases h
 | _::_,[],h,_=>by cases h
 | x::xs,y::ys,h,k=>by
   rw [List.any_cons,List.any_cons,k 0 x y rfl rfl,CQ (Nat.succ.inj h) fun n a b h1 h2=>k (n + 1) a b h1 h2]
theorem zT {N:Nd} (h:iq N=true):dueF N=some .many:=by unfold dueF;rw [if_pos h]
theorem tz {N:Nd} {f:Ft} (h:iq N=false) (h2:nmsF N.nms []=some f):dueF N=some f:=by unfold dueF;rw [if_neg (by rw [h];exact Bool.false_ne_true),h2];rfl
theorem zS {N:Nd} {f:Ft} (h:iq N=false) (h2:nmsF N.nms []=none) (h3:wrsF N.wrs (N.nms.map dStr)=some f):dueF N=some f:=by unfold dueF;rw [if_neg (by rw [h];exact Bool.false_ne_true),h2,h3];rfl
theorem Gi {N:Nd} (h:iq N=false) (h2:nmsF N.nms []=none) (h3:wrsF N.wrs (N.nms.map dStr)=none) (r:FE N.rows):dueF N=some .ring:=by unfold dueF;rw [if_neg (by rw [h];exact Bool.false_ne_true),h2,h3,if_pos r];rfl
theorem Gj {N:Nd} (h:iq N=false) (h2:nmsF N.nms []=none) (h3:wrsF N.wrs (N.nms.map dStr)=none) (r:¬ FE N.rows):dueF N=none:=by unfold dueF;rw [if_neg (by rw [h];exact Bool.false_ne_true),h2,h3,if_neg r];rfl
noncomputable def OL (sums:List (Str×List Str)) (L:List Str):Prop:=∀ r∈sums,r.1∈L→∃ w∈r.2,w∈L
structure Peel (sums:List (Str×List Str)) (L:List Str):Prop where
 nd:L.Nodup
 sub:∀ z∈L,z∈sums.map (·.1)
 all:∀ S:List Str,(∀ z∈S,∃ ws,(z,ws)∈sums∧∃ w∈ws,w∈S)→∀ z∈S,z∈L
theorem Peel.start {sums:List (Str×List Str)} (nd:(sums.map (·.1)).Nodup):Peel sums (sums.map (·.1)):=⟨nd,fun _ h=>h,fun S h z hz=>by obtain ⟨ws,h1,_⟩:=h z hz;exact List.mem_map.mpr ⟨_,h1,rfl⟩⟩
theorem Qi {sums:List (Str×List Str)} (nd:(sums.map (·.1)).Nodup) {z:Str} {a b:List Str} (h1:(z,a)∈sums) (h2:(z,b)∈sums):a=b:=by
 induction sums with
 | nil=>simp at h1
 | cons r rs ih=>
   rw [List.map_cons,List.nodup_cons] at nd
   rcases List.mem_cons.mp h1 with e1 | e1<;>rcases List.mem_cons.mp h2 with e2 | e2
   ·rw [← e1] at e2;exact (Prod.mk.inj e2).2.symm
   ·exact absurd (List.mem_map.mpr ⟨_,e2,by rw [← e1]⟩) nd.1
   ·exact absurd (List.mem_map.mpr ⟨_,e1,by rw [← e2]⟩) nd.1
   ·exact ih nd.2 e1 e2
theorem Ox {L:List Str} {z:Str} {j:Nat} (hj:L[j]? =some z) (nd:L.Nodup):∀ y,y∈L.eraseIdx j↔y∈L∧y≠z:=by
 intro y
 obtain ⟨hl,e⟩:=List.getElem?_eq_some_iff.mp hj
 rw [List.mem_eraseIdx_iff_getElem]
 constructor
 ·rintro ⟨i,hi,hne,rfl⟩
  refine ⟨List.getElem_mem hi,fun e'=>hne ?_⟩
  rw [← e] at e'
  have a1:=nd.idxOf_getElem i hi
  have a2:=nd.idxOf_getElem j hl
  rw [e'] at a1
  omega
 ·rintro ⟨h1,h2⟩
  obtain ⟨i,hi,rfl⟩:=List.mem_iff_getElem.mp h1
  exact ⟨i,hi,fun e'=>h2 (by subst e';exact e),rfl⟩
theorem Peel.off {sums:List (Str×List Str)} {L:List Str} {z:Str} {ws:List Str} {j:Nat} (p:Peel sums L) (nd:(sums.map (·.1)).Nodup) (hr:(z,ws)∈sums) (hj:L[j]? =some z) (hn:∀ w∈ws,w∉L):Peel sums (L.eraseIdx j):=by
 have mem:=Ox hj p.nd
 refine ⟨p.nd.sublist (List.eraseIdx_sublist _ _),fun y hy=>p.sub y ((mem y).mp hy).1,fun S h y hy=>(mem y).mpr ⟨p.all S h y hy,fun e=>?_⟩⟩
 subst e
 obtain ⟨ws',h1,w,h2,h3⟩:=h y hy
 rw [Qi nd h1 hr] at h2
 exact hn w h2 (p.all S h w h3)
theorem Peel.ring {sums:List (Str×List Str)} {L:List Str} (p:Peel sums L) (h:OL sums L∨L=[]):L≠[]↔FE sums:=by
 constructor
 ·intro hne
  have st:=h.resolve_right hne
  refine ⟨L,hne,fun z hz=>?_⟩
  obtain ⟨r,hr,rfl⟩:=List.mem_map.mp (p.sub z hz)
  exact ⟨r.2,hr,st r hr hz⟩
 ·rintro ⟨S,hne,h⟩ e
  cases S with
  | nil=>exact hne rfl
  | cons z S=>
    have:=p.all _ h z List.mem_cons_self
    rw [e] at this
    simp at this
theorem Rf (ds:List Dt):eqD (.lst ds) (.lst [])=decide (ds=[]):=by
 cases ds with
 | nil=>rfl
 | cons w l=>rw [decide_eq_false (by simp)];rfl
theorem zU {k:Nat}:∀ {ds:List Dt},(∀ d∈ds,depD d≤k)→dN ds≤k
 | [],_=>by rw [dN];exact Nat.zero_le _
 | d::ds,h=>by
   rw [dN]
   have h1:=h d List.mem_cons_self
   have h2:=zU fun x hx=>h x (List.mem_cons_of_mem d hx)
   omega
theorem Ks {K:PySem.W.Frag} {H:Hp}:∀ {vs:List V},(∀ v∈vs,∃ d,Rep K H v d∧depD d≤9)→∃ ds:List Dt,vs.length=ds.length∧(∀ (i:Nat) v d,vs[i]? =some v→ds[i]? =some d→Rep K H v d)∧∀ d∈ds,depD d≤9
 | [],_=>⟨[],rfl,fun i v d h=>by simp at h,fun _ h=>absurd h (by simp)⟩
 | v::vs,h=>by
   obtain ⟨d,h1,h2⟩:=h v List.mem_cons_self
   obtain ⟨ds,a1,a2,a3⟩:=Ks fun x hx=>h x (List.mem_cons_of_mem v hx)
   refine ⟨d::ds,by rw [List.length_cons,List.length_cons,a1],fun i x y e1 e2=>?_,fun y hy=>?_⟩
   ·match i,e1,e2 with
    | 0,e1,e2=>cases e1;cases e2;exact h1
    | i + 1,e1,e2=>exact a2 i x y e1 e2
   ·rcases List.mem_cons.mp hy with rfl | hy
    ·exact h2
    ·exact a3 y hy
theorem fS {K:PySem.W.Frag} {H:Hp} {Q:VK} {D E:Addr} {vs:List V} {neg:Bool} (e:H D=some (.lst vs)) (h:∀ v∈vs,∃ d,Rep K H v d∧depD d≤9) (e':H E=some (.lst [])) (q:Q (.bl (if neg then !vs.isEmpty else vs.isEmpty)) H):rEqD K neg (.ref D) (.ref E) H Q:=by
 obtain ⟨ds,a1,a2,a3⟩:=Ks h
 have:=zU a3
 refine rh (.lst (SqL.of e) a1 a2) (Rep.lst (ds:=[]) (SqL.of e') rfl fun i x d h=>by simp at h) (by rw [depD];omega) ?_
 rw [Rf]
 have e2:decide (ds=[])=vs.isEmpty:=by
  cases vs<;>cases ds<;>simp at a1 ⊢
 rw [e2]
 exact q
theorem tf {K:PySem.W.Frag} {H:Hp} {t:Addr} {v w:V} (h:H t=some (.tup [v,w])) (r1:∃ d,Rep K H v d∧depD d≤8) (r2:∃ d,Rep K H w d∧depD d≤8):∃ d,Rep K H (.ref t) d∧depD d≤9:=by
 obtain ⟨d,a1,a2⟩:=r1
 obtain ⟨e,b1,b2⟩:=r2
 refine ⟨.tup [d,e],.tup (SqT.of h) rfl fun i x y e1 e2=>?_,?_⟩
 ·match i,e1,e2 with
  | 0,e1,e2=>cases e1;cases e2;exact a1
  | 1,e1,e2=>cases e1;cases e2;exact b1
  | i + 2,e1,_=>simp at e1
 ·rw [depD,dN,dN,dN];omega
theorem Kt {K:PySem.W.Frag} {H:Hp} {D:Addr} {vs:List V} {ds:List Dt} (e:H D=some (.lst vs)) (t:TgL H vs ds):∃ d,Rep K H (.ref D) d∧depD d≤8:=by
 have key:∀ d∈ds,depD d≤1:=fun d hd=>by
  obtain ⟨i,hi,rfl⟩:=List.mem_iff_getElem.mp hd
  have hv:i < vs.length:=by rw [t.1];exact hi
  exact ((t.2 i vs[i] ds[i] (List.getElem?_eq_getElem hv) (List.getElem?_eq_getElem hi)).rep (K:=K)).2
 exact ⟨.lst ds,.lst (SqL.of e) t.1 fun i x d h1 h2=>((t.2 i x d h1 h2).rep (K:=K)).1,by rw [depD];have:=zU key;omega⟩
theorem Tg.rep8 {K:PySem.W.Frag} {H:Hp} {v:V} {d:Dt} (t:Tg H v d):∃ d,Rep K H v d∧depD d≤8:=⟨d,t.rep.1,by have:=(t.rep (K:=K)).2;omega⟩
structure HndL (H:Hp) (i s t o:Addr) (is:List V) (rs:List RwT) (qs:List QsT) (os:List V):Prop where
 i:H i=some (.lst is)
 s:H s=some (.lst (rs.map fun r=>V.ref r.1))
 sr:∀ r∈rs,H r.1=some (.tup [r.2.2.1,.ref r.2.1])∧H r.2.1=some (.lst r.2.2.2)
 t:H t=some (.lst (qs.map fun q=>V.ref q.1))
 tr:∀ q∈qs,H q.1=some (.tup [q.2.1,q.2.2])
 o:H o=some (.lst os)
theorem HndL.same {H H2:Hp} {i s t o:Addr} {is:List V} {rs:List RwT} {qs:List QsT} {os:List V} (x:HndL H i s t o is rs qs os) (h:Same H H2):HndL H2 i s t o is rs qs os:=⟨h.get x.i,h.get x.s,fun r m=>⟨h.get (x.sr r m).1,h.get (x.sr r m).2⟩,h.get x.t,fun q m=>h.get (x.tr q m),h.get x.o⟩
theorem HndL.toT {H:Hp} {i s t o:Addr} {is:List V} {rs:List RwT} {qs:List QsT} {os:List V} (x:HndL H i s t o is rs qs os):HndT H i s t o is rs qs os:=⟨x.i,x.s,fun r m=>⟨(x.sr r m).1,.inl (x.sr r m).2⟩,x.t,x.tr,x.o⟩
theorem TgL.flat {H:Hp} {rs:List RwT} {xs:List (Dt×List Dt)} (hl:rs.length=xs.length) (h:∀ (i:Nat) (r:RwT) (x:Dt×List Dt),rs[i]? =some r→xs[i]? =some x→TgL H r.2.2.2 x.2):TgL H (rs.map (·.2.2.2)).flatten (xs.flatMap (·.2)):=by
 induction rs generalizing xs with
 | nil=>
   cases xs with
   | nil=>exact TgL.nil H
   | cons x xs=>cases hl
 | cons r rs ih=>
   cases xs with
   | nil=>cases hl
   | cons x xs=>
     rw [List.map_cons,List.flatten_cons,List.flatMap_cons]
     exact (h 0 r x rfl rfl).app (ih (Nat.succ.inj hl) fun i r' x' a b=>h (i + 1) r' x' a b)
theorem Oe {H:Hp} {is:List V} {rs:List RwT} {qs:List QsT} {os:List V} {N:Nd} (d:DatT H is rs qs os N):iq N=(decide (6 < is.length)||decide (40 < rs.length)||decide (16 < qs.length)||decide (6 < os.length)||rs.any fun r=>decide (24 < r.2.2.2.length)):=by
 have lI:=d.i.1
 have lrs:rs.length=N.sums.length:=by have:=d.sn.1;rw [List.length_map,List.length_map] at this;exact this
 have lqs:qs.length=N.sts.length:=by have:=d.tn.1;rw [List.length_map,List.length_map] at this;exact this
 have lO:=d.o.1
 unfold iq
 rw [lI,lrs,lqs,lO]
 congr 1
 exact (CQ lrs fun k r x h1 h2=>by rw [(d.sw k r x h1 h2).1]).symm
theorem zM:∀ {rs:List RwT},(∀ r∈rs,r.2.2.2.length≤24)→(rs.map (·.2.2.2)).flatten.length≤24 * rs.length
 | [],_=>by simp
 | r::rs,h=>by
   have h1:=h r List.mem_cons_self
   have h2:=zM fun x hx=>h x (List.mem_cons_of_mem r hx)
   rw [List.map_cons,List.flatten_cons,List.length_append,List.length_cons]
   omega
theorem FU {H:Hp} {i s t o:Addr} {is:List V} {rs:List RwT} {qs:List QsT} {os:List V} {N:Nd} (hn:HndL H i s t o is rs qs os) (d:DatT H is rs qs os N) (hm:iq N=false) (h2:nmsF N.nms []=none) (h3:wrsF N.wrs (N.nms.map dStr)=none):
  ∃ (rs2:List Rw) (qs2:List Qs),rs=rs2.map (fun r=>(r.1,r.2.1,V.str r.2.2.1,r.2.2.2.map V.str))∧qs=qs2.map (fun q=>(q.1,V.str q.2.1,V.str q.2.2))∧is=N.nt.ins.map V.str∧os=N.nt.outs.map V.str∧rs2.map (·.2.2)=N.rows∧qs2.map (·.2)=N.nt.sts∧Ro N.rows∧Sv.Gv (toV N.nt)∧(∀ r∈N.nt.sums,∀ z∈r.2,z∈N.nt.names)∧(∀ r∈N.nt.sts,r.2∈N.nt.names)∧∀ z∈N.nt.outs,z∈N.nt.names:=by
 obtain ⟨zi,rv,qv,rfl,rfl,rfl,g,en⟩:=R1 d hm h2
 have li:=d.i.1
 have lr:=d.sn.1
 have lq:=d.tn.1
 rw [List.length_map] at li
 rw [List.length_map,List.length_map,List.length_map] at lr lq
 obtain ⟨eV,kw,kt,ko⟩:=OR (H:=H) (rv:=rv) (qv:=qv) en li lr lq (fun k r x a b=>d.sw k (toR r) x (by rw [List.getElem?_map,a];rfl) b) (by have:=d.tw;rw [List.map_map] at this;exact this) d.o h3
 have ek:N.nms.map dStr=N.nt.names:=by
  rw [en,kP,← gy,← eV]
  unfold Sv.Vt.names
  simp only [List.map_map]
  rfl
 rw [ek] at kw kt ko
 have hV:=eV
 rw [eV] at g
 injection eV with v1 v2 v3 v4
 obtain ⟨rs2,e1,e2⟩:=DG v2
 obtain ⟨qs2,e3,e4⟩:=yJ v3
 have gnd:=g.nd
 rw [gy] at gnd
 unfold Nt.names at gnd
 rw [List.nodup_append] at gnd
 have gnd:=gnd.1
 rw [List.nodup_append] at gnd
 refine ⟨rs2,qs2,?_,?_,by rw [v1],v4,e2,e4,⟨?_,fun r hr=>?_,gnd.2.1⟩,g,kw,kt,ko⟩
 ·rw [e1,List.map_map];rfl
 ·rw [e3,List.map_map];rfl
 ·have:=g.ls;unfold toV at this;rw [List.length_map] at this;exact this
 ·have:=g.lw (r.1,r.2.map V.str) (List.mem_map.mpr ⟨r,hr,rfl⟩)
  rw [List.length_map] at this;exact this
noncomputable def R4 (i s t o:Addr):Addr→Prop:=fun b=>b=i∨b=s∨b=t∨b=o
theorem aD {H H2:Hp} {R:Addr→Prop} (s:Same H H2):Same (less H R) (less H2 R):=fun b o e=>by
 by_cases h:R b
 ·rw [zo h] at e;cases e
 ·rw [bH h] at e ⊢;exact s.get e
theorem b8 {H H2:Hp} {R:Addr→Prop} {x:Addr} {ob:HO} (u:Upd H H2 x ob) (hx:R x):Same (less H R) (less H2 R):=fun b o e=>by
 by_cases h:R b
 ·rw [zo h] at e;cases e
 ·rw [bH h] at e ⊢;exact u.oth _ _ (fun z=>h (z ▸ hx)) e
noncomputable def Th (B:Hp) (v:V):Prop:=∃ d,Tg B v d
theorem Th.same {B B2:Hp} {v:V} (t:Th B v) (s:Same B B2):Th B2 v:=t.imp fun _ h=>h.same s
theorem Th.s {B:Hp} {z:Str} (l:z.length≤1000):Th B (.str z):=⟨_,.str z l⟩
structure LsA (H:Hp) (i s t o:Addr) (is:List V) (rs:List RwT) (qs:List QsT) (os:List V):Prop where
 ei:H i=some (.lst is)
 es:H s=some (.lst (rs.map fun r=>V.ref r.1))
 et:H t=some (.lst (qs.map fun q=>V.ref q.1))
 eo:H o=some (.lst os)
 sr:∀ r∈rs,less H (R4 i s t o) r.1=some (.tup [r.2.2.1,.ref r.2.1])∧less H (R4 i s t o) r.2.1=some (.lst r.2.2.2)
 tr:∀ q∈qs,less H (R4 i s t o) q.1=some (.tup [q.2.1,q.2.2])
 ti:∀ v∈is,Th (less H (R4 i s t o)) v
 tn:∀ r∈rs,Th (less H (R4 i s t o)) r.2.2.1
 tw:∀ r∈rs,∀ w∈r.2.2.2,Th (less H (R4 i s t o)) w
 tm:∀ q∈qs,Th (less H (R4 i s t o)) q.2.1
 ty:∀ q∈qs,Th (less H (R4 i s t o)) q.2.2
 to:∀ v∈os,Th (less H (R4 i s t o)) v
 n1:i≠s
 n2:i≠t
 n3:i≠o
 n4:s≠t
 n5:s≠o
 n6:t≠o
theorem LsA.same {H H2:Hp} {i s t o:Addr} {is:List V} {rs:List RwT} {qs:List QsT} {os:List V} (x:LsA H i s t o is rs qs os) (h:Same H H2):LsA H2 i s t o is rs qs os:=
 have b:=aD (R:=R4 i s t o) h
 ⟨h.get x.ei,h.get x.es,h.get x.et,h.get x.eo,fun r m=>⟨b.get (x.sr r m).1,b.get (x.sr r m).2⟩,fun q m=>b.get (x.tr q m),fun v m=>(x.ti v m).same b,fun r m=>(x.tn r m).same b,fun r m w mw=>(x.tw r m w mw).same b,fun q m=>(x.tm q m).same b,fun q m=>(x.ty q m).same b,fun v m=>(x.to v m).same b,x.n1,x.n2,x.n3,x.n4,x.n5,x.n6⟩
theorem LsA.hndL {H:Hp} {i s t o:Addr} {is:List V} {rs:List RwT} {qs:List QsT} {os:List V} (x:LsA H i s t o is rs qs os):HndL H i s t o is rs qs os:=
 ⟨x.ei,x.es,fun r m=>⟨aS.get (x.sr r m).1,aS.get (x.sr r m).2⟩,x.et,fun q m=>aS.get (x.tr q m),x.eo⟩
theorem LsA.setI {H H2:Hp} {i s t o:Addr} {is is':List V} {rs:List RwT} {qs:List QsT} {os:List V} (x:LsA H i s t o is rs qs os) (u:Upd H H2 i (.lst is')) (h:∀ v∈is',Th (less H (R4 i s t o)) v):LsA H2 i s t o is' rs qs os:=
 have b:=b8 (R:=R4 i s t o) u (.inl rfl)
 ⟨u.at',u.oth _ _ (Ne.symm x.n1) x.es,u.oth _ _ (Ne.symm x.n2) x.et,u.oth _ _ (Ne.symm x.n3) x.eo,fun r m=>⟨b.get (x.sr r m).1,b.get (x.sr r m).2⟩,fun q m=>b.get (x.tr q m),fun v m=>(h v m).same b,fun r m=>(x.tn r m).same b,fun r m w mw=>(x.tw r m w mw).same b,fun q m=>(x.tm q m).same b,fun q m=>(x.ty q m).same b,fun v m=>(x.to v m).same b,x.n1,x.n2,x.n3,x.n4,x.n5,x.n6⟩
theorem LsA.setS {H H2:Hp} {i s t o:Addr} {is:List V} {rs rs':List RwT} {qs:List QsT} {os:List V} (x:LsA H i s t o is rs qs os) (u:Upd H H2 s (.lst (rs'.map fun r=>V.ref r.1)))
  (h:∀ r∈rs',r∈rs∨(less H (R4 i s t o) r.1=some (.tup [r.2.2.1,.ref r.2.1])∧less H (R4 i s t o) r.2.1=some (.lst r.2.2.2)∧Th (less H (R4 i s t o)) r.2.2.1∧∀ w∈r.2.2.2,Th (less H (R4 i s t o)) w)):LsA H2 i s t o is rs' qs os:=
 have b:=b8 (R:=R4 i s t o) u (.inr (.inl rfl))
 have h':∀ r∈rs',less H (R4 i s t o) r.1=some (.tup [r.2.2.1,.ref r.2.1])∧less H (R4 i s t o) r.2.1=some (.lst r.2.2.2)∧Th (less H (R4 i s t o)) r.2.2.1∧∀ w∈r.2.2.2,Th (less H (R4 i s t o)) w:=fun r m=>(h r m).elim (fun m'=>⟨(x.sr r m').1,(x.sr r m').2,x.tn r m',x.tw r m'⟩) id
 ⟨u.oth _ _ x.n1 x.ei,u.at',u.oth _ _ (Ne.symm x.n4) x.et,u.oth _ _ (Ne.symm x.n5) x.eo,fun r m=>⟨b.get (h' r m).1,b.get (h' r m).2.1⟩,fun q m=>b.get (x.tr q m),fun v m=>(x.ti v m).same b,fun r m=>(h' r m).2.2.1.same b,fun r m w mw=>((h' r m).2.2.2 w mw).same b,fun q m=>(x.tm q m).same b,fun q m=>(x.ty q m).same b,fun v m=>(x.to v m).same b,x.n1,x.n2,x.n3,x.n4,x.n5,x.n6⟩
theorem LsA.setT {H H2:Hp} {i s t o:Addr} {is:List V} {rs:List RwT} {qs qs':List QsT} {os:List V} (x:LsA H i s t o is rs qs os) (u:Upd H H2 t (.lst (qs'.map fun r=>V.ref r.1)))
  (h:∀ r∈qs',r∈qs∨(less H (R4 i s t o) r.1=some (.tup [r.2.1,r.2.2])∧Th (less H (R4 i s t o)) r.2.1∧Th (less H (R4 i s t o)) r.2.2)):LsA H2 i s t o is rs qs' os:=
 have b:=b8 (R:=R4 i s t o) u (.inr (.inr (.inl rfl)))
 have h':∀ r∈qs',less H (R4 i s t o) r.1=some (.tup [r.2.1,r.2.2])∧Th (less H (R4 i s t o)) r.2.1∧Th (less H (R4 i s t o)) r.2.2:=fun r m=>(h r m).elim (fun m'=>⟨x.tr r m',x.tm r m',x.ty r m'⟩) id
 ⟨u.oth _ _ x.n2 x.ei,u.oth _ _ x.n4 x.es,u.at',u.oth _ _ (Ne.symm x.n6) x.eo,fun r m=>⟨b.get (x.sr r m).1,b.get (x.sr r m).2⟩,fun q m=>b.get (h' q m).1,fun v m=>(x.ti v m).same b,fun r m=>(x.tn r m).same b,fun r m w mw=>(x.tw r m w mw).same b,fun q m=>(h' q m).2.1.same b,fun q m=>(h' q m).2.2.same b,fun v m=>(x.to v m).same b,x.n1,x.n2,x.n3,x.n4,x.n5,x.n6⟩
theorem LsA.setO {H H2:Hp} {i s t o:Addr} {is:List V} {rs:List RwT} {qs:List QsT} {os os':List V} (x:LsA H i s t o is rs qs os) (u:Upd H H2 o (.lst os')) (h:∀ v∈os',Th (less H (R4 i s t o)) v):LsA H2 i s t o is rs qs os':=
 have b:=b8 (R:=R4 i s t o) u (.inr (.inr (.inr rfl)))
 ⟨u.oth _ _ x.n3 x.ei,u.oth _ _ x.n5 x.es,u.oth _ _ x.n6 x.et,u.at',fun r m=>⟨b.get (x.sr r m).1,b.get (x.sr r m).2⟩,fun q m=>b.get (x.tr q m),fun v m=>(x.ti v m).same b,fun r m=>(x.tn r m).same b,fun r m w mw=>(x.tw r m w mw).same b,fun q m=>(x.tm q m).same b,fun q m=>(x.ty q m).same b,fun v m=>(h v m).same b,x.n1,x.n2,x.n3,x.n4,x.n5,x.n6⟩
theorem AJ {B:Hp}:∀ {vs:List V},(∀ v∈vs,Th B v)→∃ ds,TgL B vs ds
 | [],_=>⟨[],TgL.nil B⟩
 | v::vs,h=>by
   obtain ⟨d,hd⟩:=h v List.mem_cons_self
   obtain ⟨ds,hds⟩:=AJ fun x hx=>h x (List.mem_cons_of_mem v hx)
   exact ⟨d::ds,TgL.cons hd hds⟩
theorem FW {B:Hp}:∀ {rs:List RwT},(∀ r∈rs,Th B r.2.2.1)→(∀ r∈rs,∀ w∈r.2.2.2,Th B w)→∃ xs:List (Dt×List Dt),TgL B (rs.map (·.2.2.1)) (xs.map (·.1))∧∀ (i:Nat) (r:RwT) (x:Dt×List Dt),rs[i]? =some r→xs[i]? =some x→TgL B r.2.2.2 x.2
 | [],_,_=>⟨[],TgL.nil B,fun i r x h=>by simp at h⟩
 | r::rs,h1,h2=>by
   obtain ⟨d,hd⟩:=h1 r List.mem_cons_self
   obtain ⟨ds,hds⟩:=AJ (h2 r List.mem_cons_self)
   obtain ⟨xs,a1,a2⟩:=FW (rs:=rs) (fun x hx=>h1 x (List.mem_cons_of_mem r hx)) (fun x hx=>h2 x (List.mem_cons_of_mem r hx))
   refine ⟨(d,ds)::xs,TgL.cons hd a1,fun i r' x e1 e2=>?_⟩
   match i,e1,e2 with
   | 0,e1,e2=>cases e1;cases e2;exact hds
   | i + 1,e1,e2=>exact a2 i r' x e1 e2
theorem Bc {B:Hp}:∀ {qs:List QsT},(∀ q∈qs,Th B q.2.1)→(∀ q∈qs,Th B q.2.2)→∃ xs:List (Dt×Dt),TgL B (qs.map (·.2.1)) (xs.map (·.1))∧TgL B (qs.map (·.2.2)) (xs.map (·.2))
 | [],_,_=>⟨[],TgL.nil B,TgL.nil B⟩
 | r::rs,h1,h2=>by
   obtain ⟨d,hd⟩:=h1 r List.mem_cons_self
   obtain ⟨e,he⟩:=h2 r List.mem_cons_self
   obtain ⟨xs,a1,a2⟩:=Bc (qs:=rs) (fun x hx=>h1 x (List.mem_cons_of_mem r hx)) (fun x hx=>h2 x (List.mem_cons_of_mem r hx))
   exact ⟨(d,e)::xs,TgL.cons hd a1,TgL.cons he a2⟩
theorem LsA.dat {H:Hp} {i s t o:Addr} {is:List V} {rs:List RwT} {qs:List QsT} {os:List V} (x:LsA H i s t o is rs qs os):∃ N,DatT H is rs qs os N:=by
 obtain ⟨a,ha⟩:=AJ x.ti
 obtain ⟨b,hb1,hb2⟩:=FW x.tn x.tw
 obtain ⟨c,hc1,hc2⟩:=Bc x.tm x.ty
 obtain ⟨d,hd⟩:=AJ x.to
 exact ⟨⟨a,b,c,d⟩,DatT.same ⟨ha,hb1,hb2,hc1,hc2,hd⟩ aS⟩
variable {H H2:Hp} {i s t o:Addr} {is:List V} {rs:List RwT} {qs:List QsT} {os:List V}
theorem LsA.r4 (x:LsA H i s t o is rs qs os) {b:Addr} (h:R4 i s t o b):∃ xs,H b=some (.lst xs):=by
 rcases h with rfl | rfl | rfl | rfl
 ·exact ⟨_,x.ei⟩
 ·exact ⟨_,x.es⟩
 ·exact ⟨_,x.et⟩
 ·exact ⟨_,x.eo⟩
theorem LsA.fresh (x:LsA H i s t o is rs qs os) {b:Addr} (h:H b=none):¬ R4 i s t o b:=fun r=>by
 obtain ⟨xs,e⟩:=x.r4 r
 rw [h] at e
 cases e
theorem LsA.thn (x:LsA H i s t o is rs qs os) {v:V} {d:Dt} (g:Tg H2 v d) (h:∀ p,v= .ref p→H p=none):Th (less H2 (R4 i s t o)) v:=
 ⟨d,g.keep fun p ys e h2=>by rw [bH (x.fresh (h p e))];exact h2⟩
theorem Th.up {R:Addr→Prop} {v:V} (h:Th (less H R) v):Th H v:=h.same aS
theorem Th.rep8 {K:PySem.W.Frag} {v:V} (h:Th H v):∃ d,Rep K H v d∧depD d≤8:=by
 obtain ⟨d,h⟩:=h
 exact h.rep8
theorem up9 {K:PySem.W.Frag} {v:V} (h:∃ d,Rep K H v d∧depD d≤8):∃ d,Rep K H v d∧depD d≤9:=by
 obtain ⟨d,a,b⟩:=h
 exact ⟨d,a,by omega⟩
theorem LsA.repI {K:PySem.W.Frag} (x:LsA H i s t o is rs qs os):∀ v∈is,∃ d,Rep K H v d∧depD d≤9:=fun v m=>up9 (x.ti v m).up.rep8
theorem LsA.repO {K:PySem.W.Frag} (x:LsA H i s t o is rs qs os):∀ v∈os,∃ d,Rep K H v d∧depD d≤9:=fun v m=>up9 (x.to v m).up.rep8
theorem LsA.repS {K:PySem.W.Frag} (x:LsA H i s t o is rs qs os):∀ v∈rs.map (fun r=>V.ref r.1),∃ d,Rep K H v d∧depD d≤9:=fun v m=>by
 obtain ⟨r,hr,rfl⟩:=List.mem_map.mp m
 obtain ⟨ds,hd⟩:=AJ (B:=H) fun w hw=>(x.tw r hr w hw).up
 exact tf (aS.get (x.sr r hr).1) (x.tn r hr).up.rep8 (Kt (aS.get (x.sr r hr).2) hd)
theorem LsA.repT {K:PySem.W.Frag} (x:LsA H i s t o is rs qs os):∀ v∈qs.map (fun r=>V.ref r.1),∃ d,Rep K H v d∧depD d≤9:=fun v m=>by
 obtain ⟨r,hr,rfl⟩:=List.mem_map.mp m
 exact tf (aS.get (x.tr r hr)) (x.tm r hr).up.rep8 (x.ty r hr).up.rep8
theorem LsA.nms (x:LsA H i s t o is rs qs os):∀ v∈is++rs.map (·.2.2.1)++qs.map (·.2.1),Th (less H (R4 i s t o)) v:=fun v m=>by
 rcases List.mem_append.mp m with m | m
 ·rcases List.mem_append.mp m with m | m
  ·exact x.ti v m
  ·obtain ⟨r,hr,rfl⟩:=List.mem_map.mp m;exact x.tn r hr
 ·obtain ⟨r,hr,rfl⟩:=List.mem_map.mp m;exact x.tm r hr
theorem fB {α:Type} {l:List α} {j:Nat} {y r:α} (h:r∈l.set j y):r∈l∨r=y:=(List.mem_or_eq_of_mem_set h)
theorem LsA.side (x:LsA H i s t o is rs qs os) {sd:Nat} (h:sd < 3):∃ (b:Addr) (xs:List V),[V.ref i,.ref s,.ref t,.ref o][sd]? =some (.ref b)∧H b=some (.lst xs)∧(∀ (K:PySem.W.Frag),∀ v∈xs,∃ d,Rep K H v d∧depD d≤9)∧((sd=0∧b=i∧xs=is)∨(sd=1∧b=s∧xs=rs.map fun r=>V.ref r.1)∨(sd=2∧b=t∧xs=qs.map fun q=>V.ref q.1)):=by
 rcases (show sd=0∨sd=1∨sd=2 by omega) with rfl | rfl | rfl
 ·exact ⟨i,is,rfl,x.ei,fun K=>x.repI,.inl ⟨rfl,rfl,rfl⟩⟩
 ·exact ⟨s,_,rfl,x.es,fun K=>x.repS,.inr (.inl ⟨rfl,rfl,rfl⟩)⟩
 ·exact ⟨t,_,rfl,x.et,fun K=>x.repT,.inr (.inr ⟨rfl,rfl,rfl⟩)⟩
noncomputable def Cw (H1:Hp) (D:Addr) (i:Nat) (ys:List V) (H:Hp):Prop:=∃ rs:List RwT,ys=rs.map (fun r=>V.ref r.1)∧rs.length=i∧Same H1 H∧H D=some (.lst ys)∧∀ r∈rs,H1 r.1=none∧H1 r.2.1=none∧r.1≠D∧r.2.1≠D∧H r.1=some (.tup [r.2.2.1,.ref r.2.1])∧H r.2.1=some (.lst r.2.2.2)∧(∃ z:Str,r.2.2.1= .str z∧z.length≤1000)∧r.2.2.2=[]
theorem cw_zero {H1:Hp} {D:Addr} (hD:H1 D=none):Cw H1 D 0 [] (upd H1 D (.lst [])):=⟨[],rfl,rfl,bX hD,aA,fun _ h=>(by cases h)⟩
theorem cw_put {H1 H5 H6:Hp} {D l b:Addr} {n:Nat} {ys:List V} {z:Str} (hD:H1 D=none) (c:Cw H1 D n ys H) (fl:H l=none) (s5:Same H H5) (el:H5 l=some (.lst [])) (fb:H5 b=none) (s6:Same H5 H6) (eb:H6 b=some (.tup [.str z,.ref l])) (hz:z.length≤1000) (hn:n < 1000):
  H6 D=some (.lst ys)∧ys.length < sizeLine∧Cw H1 D (n + 1) (ys++[.ref b]) (upd H6 D (.lst (ys++[.ref b]))):=by
 obtain ⟨rs,rfl,lr,s,eD,h⟩:=c
 have eD6:=s6.get (s5.get eD)
 have s16:=(s.trans s5).trans s6
 have nl:l≠D:=fun e=>by rw [e,eD] at fl;cases fl
 have nb:b≠D:=fun e=>by rw [e,s5.get eD] at fb;cases fb
 refine ⟨eD6,by rw [List.length_map,sizeLine_eq];omega,rs++[(b,l,.str z,[])],by rw [List.map_append];rfl,by rw [List.length_append,lr];rfl,fun c o e=>by rw [aw (al e hD)];exact s16 c o e,aA,fun r hr=>?_⟩
 rcases List.mem_append.mp hr with hr | hr
 ·obtain ⟨a1,a2,a3,a4,a5,a6,a7,a8⟩:=h r hr
  exact ⟨a1,a2,a3,a4,by rw [aw a3];exact s6.get (s5.get a5),by rw [aw a4];exact s6.get (s5.get a6),a7,a8⟩
 ·rw [List.mem_singleton.mp hr]
  exact ⟨(s.trans s5).free fb,s.free fl,nb,nl,by rw [aw nb];exact eb,by rw [aw nl];exact s6.get el,⟨z,rfl,hz⟩,rfl⟩
theorem LsA.addS {H6 H7:Hp} {D:Addr} {n:Nat} {ys:List V} (x:LsA H i s t o is rs qs os) (c:Cw H D n ys H6) (u:Upd H6 H7 s (.lst (rs.map (fun r=>V.ref r.1)++ys))):∃ rs',LsA H7 i s t o is rs' qs os∧rs'.length=rs.length + n∧Same (less H (R4 i s t o)) (less H7 (R4 i s t o)):=by
 obtain ⟨r2,rfl,lr,s6,eD,h⟩:=c
 refine ⟨rs++r2,(x.same s6).setS (rs':=rs++r2) (by rw [List.map_append];exact u) fun r hr=>?_,by rw [List.length_append,lr],(aD s6).trans (b8 u (.inr (.inl rfl)))⟩
 rcases List.mem_append.mp hr with hr | hr
 ·exact .inl hr
 ·obtain ⟨a1,a2,a3,a4,a5,a6,⟨z,a7,a7'⟩,a8⟩:=h r hr
  refine .inr ⟨by rw [bH (x.fresh a1)];exact a5,by rw [bH (x.fresh a2)];exact a6,by rw [a7];exact Th.s a7',fun w hw=>?_⟩
  rw [a8] at hw;cases hw
noncomputable def Cq (H1:Hp) (D:Addr) (i:Nat) (ys:List V) (H:Hp):Prop:=∃ rs:List QsT,ys=rs.map (fun r=>V.ref r.1)∧rs.length=i∧Same H1 H∧H D=some (.lst ys)∧∀ r∈rs,H1 r.1=none∧r.1≠D∧H r.1=some (.tup [r.2.1,r.2.2])∧(∃ z:Str,r.2.1= .str z∧z.length≤1000)∧∃ z:Str,r.2.2= .str z∧z.length≤1000
theorem L8 {H1:Hp} {D:Addr} (hD:H1 D=none):Cq H1 D 0 [] (upd H1 D (.lst [])):=⟨[],rfl,rfl,bX hD,aA,fun _ h=>(by cases h)⟩
theorem Ph {H1 H6:Hp} {D b:Addr} {n:Nat} {ys:List V} {z y:Str} (hD:H1 D=none) (c:Cq H1 D n ys H) (fb:H b=none) (s6:Same H H6) (eb:H6 b=some (.tup [.str z,.str y])) (hz:z.length≤1000) (hy:y.length≤1000) (hn:n < 1000):
  H6 D=some (.lst ys)∧ys.length < sizeLine∧Cq H1 D (n + 1) (ys++[.ref b]) (upd H6 D (.lst (ys++[.ref b]))):=by
 obtain ⟨rs,rfl,lr,s,eD,h⟩:=c
 have eD6:=s6.get eD
 have s16:=s.trans s6
 have nb:b≠D:=fun e=>by rw [e,eD] at fb;cases fb
 refine ⟨eD6,by rw [List.length_map,sizeLine_eq];omega,rs++[(b,.str z,.str y)],by rw [List.map_append];rfl,by rw [List.length_append,lr];rfl,fun c o e=>by rw [aw (al e hD)];exact s16 c o e,aA,fun r hr=>?_⟩
 rcases List.mem_append.mp hr with hr | hr
 ·obtain ⟨a1,a3,a5,a7,a8⟩:=h r hr
  exact ⟨a1,a3,by rw [aw a3];exact s6.get a5,a7,a8⟩
 ·rw [List.mem_singleton.mp hr]
  exact ⟨s.free fb,nb,by rw [aw nb];exact eb,⟨z,rfl,hz⟩,⟨y,rfl,hy⟩⟩
theorem LsA.addT {H6 H7:Hp} {D:Addr} {n:Nat} {ys:List V} (x:LsA H i s t o is rs qs os) (c:Cq H D n ys H6) (u:Upd H6 H7 t (.lst (qs.map (fun r=>V.ref r.1)++ys))):∃ qs',LsA H7 i s t o is rs qs' os∧qs'.length=qs.length + n∧Same (less H (R4 i s t o)) (less H7 (R4 i s t o)):=by
 obtain ⟨r2,rfl,lr,s6,eD,h⟩:=c
 refine ⟨qs++r2,(x.same s6).setT (qs':=qs++r2) (by rw [List.map_append];exact u) fun r hr=>?_,by rw [List.length_append,lr],(aD s6).trans (b8 u (.inr (.inr (.inl rfl))))⟩
 rcases List.mem_append.mp hr with hr | hr
 ·exact .inl hr
 ·obtain ⟨a1,a3,a5,⟨z,a7,a7'⟩,⟨y,a8,a8'⟩⟩:=h r hr
  exact .inr ⟨by rw [bH (x.fresh a1)];exact a5,by rw [a7];exact Th.s a7',by rw [a8];exact Th.s a8'⟩
theorem LsA.oneS {H7:Hp} {b l:Addr} {z:Str} {ws:List V} {H6:Hp} (x:LsA H i s t o is rs qs os) (s6:Same H H6) (fb:H b=none) (fl:H l=none) (eb:H6 b=some (.tup [.str z,.ref l])) (el:H6 l=some (.lst ws)) (hz:z.length≤1000) (hw:∀ w∈ws,∃ y:Str,w= .str y∧y.length≤1000) (u:Upd H6 H7 s (.lst (rs.map (fun r=>V.ref r.1)++[.ref b]))):∃ rs',LsA H7 i s t o is rs' qs os∧rs'.length=rs.length + 1∧Same (less H (R4 i s t o)) (less H7 (R4 i s t o)):=by
 refine ⟨rs++[(b,l,.str z,ws)],(x.same s6).setS (rs':=rs++[(b,l,.str z,ws)]) (by rw [List.map_append];exact u) fun r hr=>?_,by rw [List.length_append];rfl,(aD s6).trans (b8 u (.inr (.inl rfl)))⟩
 rcases List.mem_append.mp hr with hr | hr
 ·exact .inl hr
 ·rw [List.mem_singleton.mp hr]
  refine .inr ⟨by rw [bH (x.fresh fb)];exact eb,by rw [bH (x.fresh fl)];exact el,Th.s hz,fun w hw'=>?_⟩
  obtain ⟨y,rfl,hy⟩:=hw w hw'
  exact Th.s hy
theorem LsA.oneT {H7:Hp} {b:Addr} {z y:Str} {H6:Hp} (x:LsA H i s t o is rs qs os) (s6:Same H H6) (fb:H b=none) (eb:H6 b=some (.tup [.str z,.str y])) (hz:z.length≤1000) (hy:y.length≤1000) (u:Upd H6 H7 t (.lst (qs.map (fun r=>V.ref r.1)++[.ref b]))):∃ qs',LsA H7 i s t o is rs qs' os∧qs'.length=qs.length + 1∧Same (less H (R4 i s t o)) (less H7 (R4 i s t o)):=by
 refine ⟨qs++[(b,.str z,.str y)],(x.same s6).setT (qs':=qs++[(b,.str z,.str y)]) (by rw [List.map_append];exact u) fun r hr=>?_,by rw [List.length_append];rfl,(aD s6).trans (b8 u (.inr (.inr (.inl rfl))))⟩
 rcases List.mem_append.mp hr with hr | hr
 ·exact .inl hr
 ·rw [List.mem_singleton.mp hr]
  exact .inr ⟨by rw [bH (x.fresh fb)];exact eb,Th.s hz,Th.s hy⟩
theorem LsA.addI {H6 H7:Hp} {ys:List V} (x:LsA H i s t o is rs qs os) (s6:Same H H6) (hy:∀ w∈ys,∃ y:Str,w= .str y∧y.length≤1000) (u:Upd H6 H7 i (.lst (is++ys))):LsA H7 i s t o (is++ys) rs qs os∧Same (less H (R4 i s t o)) (less H7 (R4 i s t o)):=by
 refine ⟨(x.same s6).setI u fun v hv=>?_,(aD s6).trans (b8 u (.inl rfl))⟩
 rcases List.mem_append.mp hv with hv | hv
 ·exact (x.same s6).ti v hv
 ·obtain ⟨y,rfl,h⟩:=hy v hv;exact Th.s h
theorem LsA.addO {H6 H7:Hp} {ys:List V} (x:LsA H i s t o is rs qs os) (s6:Same H H6) (hy:∀ w∈ys,Th (less H (R4 i s t o)) w) (u:Upd H6 H7 o (.lst (os++ys))):LsA H7 i s t o is rs qs (os++ys)∧Same (less H (R4 i s t o)) (less H7 (R4 i s t o)):=by
 refine ⟨(x.same s6).setO u fun v hv=>?_,(aD s6).trans (b8 u (.inr (.inr (.inr rfl))))⟩
 rcases List.mem_append.mp hv with hv | hv
 ·exact (x.same s6).to v hv
 ·exact (hy v hv).same (aD s6)
theorem LsA.putS {H6 H7:Hp} {b l:Addr} {v:V} {ws:List V} {j:Nat} (x:LsA H i s t o is rs qs os) (s6:Same H H6) (eb:less H6 (R4 i s t o) b=some (.tup [v,.ref l])) (el:less H6 (R4 i s t o) l=some (.lst ws)) (tv:Th (less H6 (R4 i s t o)) v) (tw:∀ w∈ws,Th (less H6 (R4 i s t o)) w) (u:Upd H6 H7 s (.lst ((rs.map fun r=>V.ref r.1).set j (.ref b)))):LsA H7 i s t o is (rs.set j (b,l,v,ws)) qs os∧Same (less H (R4 i s t o)) (less H7 (R4 i s t o)):=by
 refine ⟨(x.same s6).setS (by rw [List.map_set];exact u) fun r hr=>?_,(aD s6).trans (b8 u (.inr (.inl rfl)))⟩
 rcases fB hr with hr | rfl
 ·exact .inl hr
 ·exact .inr ⟨eb,el,tv,tw⟩
theorem LsA.putT {H6 H7:Hp} {b:Addr} {v y:V} {j:Nat} (x:LsA H i s t o is rs qs os) (s6:Same H H6) (eb:less H6 (R4 i s t o) b=some (.tup [v,y])) (tv:Th (less H6 (R4 i s t o)) v) (ty:Th (less H6 (R4 i s t o)) y) (u:Upd H6 H7 t (.lst ((qs.map fun r=>V.ref r.1).set j (.ref b)))):LsA H7 i s t o is rs (qs.set j (b,v,y)) os∧Same (less H (R4 i s t o)) (less H7 (R4 i s t o)):=by
 refine ⟨(x.same s6).setT (by rw [List.map_set];exact u) fun r hr=>?_,(aD s6).trans (b8 u (.inr (.inr (.inl rfl))))⟩
 rcases fB hr with hr | rfl
 ·exact .inl hr
 ·exact .inr ⟨eb,tv,ty⟩
theorem LsA.putI {H6 H7:Hp} {v:V} {j:Nat} (x:LsA H i s t o is rs qs os) (s6:Same H H6) (tv:Th (less H6 (R4 i s t o)) v) (u:Upd H6 H7 i (.lst (is.set j v))):LsA H7 i s t o (is.set j v) rs qs os∧Same (less H (R4 i s t o)) (less H7 (R4 i s t o)):=by
 refine ⟨(x.same s6).setI u fun r hr=>?_,(aD s6).trans (b8 u (.inl rfl))⟩
 rcases fB hr with hr | rfl
 ·exact (x.same s6).ti r hr
 ·exact tv
theorem LsA.putO {H6 H7:Hp} {v:V} {j:Nat} (x:LsA H i s t o is rs qs os) (s6:Same H H6) (tv:Th (less H6 (R4 i s t o)) v) (u:Upd H6 H7 o (.lst (os.set j v))):LsA H7 i s t o is rs qs (os.set j v)∧Same (less H (R4 i s t o)) (less H7 (R4 i s t o)):=by
 refine ⟨(x.same s6).setO u fun r hr=>?_,(aD s6).trans (b8 u (.inr (.inr (.inr rfl))))⟩
 rcases fB hr with hr | rfl
 ·exact (x.same s6).to r hr
 ·exact tv
theorem fT {α:Type} {l:List α} {j:Nat} (h:j < l.length):∃ r,l[j]? =some r∧r∈l:=⟨l[j],List.getElem?_eq_getElem h,List.getElem_mem h⟩
theorem PK {k:Nat} (h:k < 2500):(tx k).length≤4:=by
 have:=(FM ⟨k,h⟩).2
 rw [je] at this
 exact this
theorem Fo (x y:Str):(x++y).length=x.length + y.length:=by
 have h:(x++y).cps.toList=x.cps.toList++y.cps.toList:=by show (x.cps++y.cps).toList=_;simp
 rw [← je,h,List.length_append,je,je]
theorem Ov {α:Type} (n:Nat) (v:α):(List.replicate n [v]).flatten=List.replicate n v:=by
 induction n with
 | zero=>rfl
 | succ n ih=>rw [List.replicate_succ,List.flatten_cons,ih];rfl
theorem o7 {c:Str} {k:Nat} (hc:c.length=1) (hk:k≤1000):(Str.ofString (toString (k:Int))).length≤4∧(c++Str.ofString (toString (k:Int))).length≤5∧(c++Str.ofString (toString (k:Int))++c).length≤1000:=by
 have h1:(Str.ofString (toString (k:Int))).length≤4:=PK (k:=k) (by omega)
 refine ⟨h1,by rw [Fo];omega,by rw [Fo,Fo];omega⟩
theorem Bz:∀ {ds:List Dt} {known:List Str} {f:Ft},nmsF ds known=some f→f≠.ring
 | [],_,_,h=>by cases h
 | .str z::ds,known,f,h=>by
   unfold nmsF at h
   by_cases h1:nm z.cps.toList=true
   ·rw [if_pos h1] at h
    by_cases h2:z∈known
    ·rw [if_pos h2] at h;cases h;exact fun e=>by cases e
    ·rw [if_neg h2] at h;exact Bz h
   ·rw [if_neg h1] at h;cases h;exact fun e=>by cases e
 | .non::_,_,_,h=>by cases h;exact fun e=>by cases e
 | .bl _::_,_,_,h=>by cases h;exact fun e=>by cases e
 | .int _::_,_,_,h=>by cases h;exact fun e=>by cases e
 | .lst _::_,_,_,h=>by cases h;exact fun e=>by cases e
 | .tup _::_,_,_,h=>by cases h;exact fun e=>by cases e
theorem LT {N:Nd} (h:dueF N=none∨dueF N=some .ring):iq N=false∧nmsF N.nms []=none∧wrsF N.wrs (N.nms.map dStr)=none:=by
 have hm:iq N=false:=by
  cases e:iq N with
  | false=>rfl
  | true=>rw [zT e] at h;rcases h with h | h<;>cases h
 have hn:nmsF N.nms []=none:=by
  cases e:nmsF N.nms [] with
  | none=>rfl
  | some f=>
    rw [tz hm e] at h
    rcases h with h | h
    ·cases h
    ·cases h;exact absurd rfl (Bz e)
 refine ⟨hm,hn,?_⟩
 cases e:wrsF N.wrs (N.nms.map dStr) with
 | none=>rfl
 | some f=>
   rw [zS hm hn e] at h
   obtain ⟨d,rfl⟩:=FL e
   rcases h with h | h<;>cases h
noncomputable def Cz (rows:List (Str×List Str)) (H1:Hp) (D:Addr) (ys:List V) (H:Hp):Prop:=∃ rs:List RwT,ys=rs.map (fun r=>V.ref r.1)∧rs.map (·.2.2)=rows.map (fun r=>(V.str r.1,r.2.map V.str))∧Same H1 H∧H D=some (.lst ys)∧∀ r∈rs,H1 r.1=none∧H1 r.2.1=none∧r.1≠D∧r.2.1≠D∧H r.1=some (.tup [r.2.2.1,.ref r.2.1])∧H r.2.1=some (.lst r.2.2.2)
theorem Rx {H1:Hp} {D:Addr} (hD:H1 D=none):Cz [] H1 D [] (upd H1 D (.lst [])):=⟨[],rfl,rfl,bX hD,aA,fun _ h=>(by cases h)⟩
theorem TL {H H1 H5 H6:Hp} {D l b:Addr} {rows:List (Str×List Str)} {ys:List V} {z:Str} {ws:List Str} (hD:H1 D=none) (c:Cz rows H1 D ys H) (fl:H l=none) (s5:Same H H5) (el:H5 l=some (.lst (ws.map V.str))) (fb:H5 b=none) (s6:Same H5 H6) (eb:H6 b=some (.tup [.str z,.ref l])) (hn:rows.length < 1000):
  H6 D=some (.lst ys)∧ys.length < sizeLine∧Cz (rows++[(z,ws)]) H1 D (ys++[.ref b]) (upd H6 D (.lst (ys++[.ref b]))):=by
 obtain ⟨rs,rfl,lr,s,eD,h⟩:=c
 have eD6:=s6.get (s5.get eD)
 have s16:=(s.trans s5).trans s6
 have nl:l≠D:=fun e=>by rw [e,eD] at fl;cases fl
 have nb:b≠D:=fun e=>by rw [e,s5.get eD] at fb;cases fb
 have ll:rs.length=rows.length:=by have:=congrArg List.length lr;rw [List.length_map,List.length_map] at this;exact this
 refine ⟨eD6,by rw [List.length_map,sizeLine_eq];omega,rs++[(b,l,.str z,ws.map V.str)],by rw [List.map_append];rfl,by rw [List.map_append,List.map_append,lr];rfl,fun c o e=>by rw [aw (al e hD)];exact s16 c o e,aA,fun r hr=>?_⟩
 rcases List.mem_append.mp hr with hr | hr
 ·obtain ⟨a1,a2,a3,a4,a5,a6⟩:=h r hr
  exact ⟨a1,a2,a3,a4,by rw [aw a3];exact s6.get (s5.get a5),by rw [aw a4];exact s6.get (s5.get a6)⟩
 ·rw [List.mem_singleton.mp hr]
  exact ⟨(s.trans s5).free fb,s.free fl,nb,nl,by rw [aw nb];exact eb,by rw [aw nl];exact s6.get el⟩
theorem UF {z:Str} (h:Nm z):z.length≤1000:=by
 have h:nm z.cps.toList=true:=h
 rw [← je]
 cases hl:z.cps.toList with
 | nil=>exact Nat.zero_le _
 | cons c r=>
   rw [hl] at h
   unfold nm at h
   simp only [Bool.and_eq_true,decide_eq_true_eq] at h
   have:=h.1.1
   omega
theorem LsA.first {H2 H3 H4 H5 H6:Hp} {i s t o:Addr} {N:Nt} {qs:List Qs} {ys:List V} (g:Gn N) (fs:H2 s=none) (ei:H2 i=some (.lst (N.ins.map V.str))) (c:Cz N.sums H2 s ys H3) (ft:H3 t=none) (s4:Same H3 H4) (et:H4 t=some (.lst (qs.map fun q=>V.ref q.1))) (tr:∀ q∈qs,H3 q.1=some (.tup [.str q.2.1,.str q.2.2])) (eq:qs.map (·.2)=N.sts) (fo:H4 o=none) (s5:Same H4 H5) (eo:H5 o=some (.lst (N.outs.map V.str))) (s6:Same H5 H6):
  ∃ rs,LsA H6 i s t o (N.ins.map V.str) rs (qs.map fun q=>(q.1,.str q.2.1,.str q.2.2)) (N.outs.map V.str)∧rs.length=N.sums.length∧∀ r∈rs,r.2.2.2.length≤24:=by
 obtain ⟨rs,rfl,er,s3,es,h⟩:=c
 have s35:=s4.trans s5
 have s36:=s35.trans s6
 have ll:rs.length=N.sums.length:=by have:=congrArg List.length er;rw [List.length_map,List.length_map] at this;exact this
 have mr:∀ r∈rs,∃ x∈N.sums,r.2.2=(V.str x.1,x.2.map V.str):=fun r hr=>by
  have:r.2.2∈rs.map (·.2.2):=List.mem_map.mpr ⟨r,hr,rfl⟩
  rw [er] at this
  obtain ⟨x,hx,e⟩:=List.mem_map.mp this
  exact ⟨x,hx,e.symm⟩
 have nin:∀ z∈N.ins,z∈N.names:=fun z hz=>List.mem_append_left _ (List.mem_append_left _ hz)
 have nsn:∀ x∈N.sums,x.1∈N.names:=fun x hx=>List.mem_append_left _ (List.mem_append_right _ (List.mem_map.mpr ⟨x,hx,rfl⟩))
 have nst:∀ x∈N.sts,x.1∈N.names:=fun x hx=>List.mem_append_right _ (List.mem_map.mpr ⟨x,hx,rfl⟩)
 have mq:∀ q∈qs,q.2∈N.sts:=fun q hq=>by rw [← eq];exact List.mem_map.mpr ⟨q,hq,rfl⟩
 have th:∀ {B:Hp} {z:Str},z∈N.names→Th B (.str z):=fun hz=>Th.s (UF (g.nm _ hz))
 have e6i:=s36.get (s3.get ei)
 have e6s:=s36.get es
 have e6t:=s6.get (s5.get et)
 have e6o:=s6.get eo
 have R:∀ b,R4 i s t o b→∃ xs,H6 b=some (.lst xs):=fun b hb=>by
  rcases hb with rfl | rfl | rfl | rfl
  ·exact ⟨_,e6i⟩
  ·exact ⟨_,e6s⟩
  ·exact ⟨_,e6t⟩
  ·exact ⟨_,e6o⟩
 refine ⟨rs,⟨e6i,e6s,by rw [List.map_map];exact e6t,e6o,fun r hr=>?_,fun q hq=>?_,fun v hv=>?_,fun r hr=>?_,fun r hr w hw=>?_,fun q hq=>?_,fun q hq=>?_,fun v hv=>?_,?_,?_,?_,?_,?_,?_⟩,ll,fun r hr=>?_⟩
 ·obtain ⟨a1,a2,a3,a4,a5,a6⟩:=h r hr
  refine ⟨F9 R (s36.get a5),?_⟩
  rw [bH]
  ·exact s36.get a6
  ·rintro (e | e | e | e)
   ·rw [e,ei] at a2;cases a2
   ·exact a4 e
   ·rw [e,ft] at a6;cases a6
   ·have:=s4.get a6;rw [e,fo] at this;cases this
 ·obtain ⟨q',hq',rfl⟩:=List.mem_map.mp hq
  exact F9 R (s36.get (tr q' hq'))
 ·obtain ⟨z,hz,rfl⟩:=List.mem_map.mp hv;exact th (nin z hz)
 ·obtain ⟨x,hx,e⟩:=mr r hr
  rw [e];exact th (nsn x hx)
 ·obtain ⟨x,hx,e⟩:=mr r hr
  rw [e] at hw
  obtain ⟨z,hz,rfl⟩:=List.mem_map.mp hw
  exact th (g.ws x hx z hz)
 ·obtain ⟨q',hq',rfl⟩:=List.mem_map.mp hq
  exact th (nst _ (mq q' hq'))
 ·obtain ⟨q',hq',rfl⟩:=List.mem_map.mp hq
  exact th (g.ts _ (mq q' hq'))
 ·obtain ⟨z,hz,rfl⟩:=List.mem_map.mp hv;exact th (g.os z hz)
 ·exact fun e=>by rw [e,fs] at ei;cases ei
 ·exact fun e=>by have:=s3.get ei;rw [e,ft] at this;cases this
 ·exact fun e=>by have:=s4.get (s3.get ei);rw [e,fo] at this;cases this
 ·exact fun e=>by rw [e,ft] at es;cases es
 ·exact fun e=>by have:=s4.get es;rw [e,fo] at this;cases this
 ·exact fun e=>by rw [e,fo] at et;cases et
 ·obtain ⟨x,hx,e⟩:=mr r hr
  rw [e]
  show (x.2.map V.str).length≤24
  rw [List.length_map]
  exact g.lw x hx
theorem HndL.hnd {H:Hp} {i s t o:Addr} {is:List V} {rs:List RwT} {qs:List QsT} {os:List V} {N:Nd} (hn:HndL H i s t o is rs qs os) (d:DatT H is rs qs os N) (h:iq N=false∧nmsF N.nms []=none∧wrsF N.wrs (N.nms.map dStr)=none):
  ∃ (rs2:List Rw) (qs2:List Qs),Hnd H i s t o rs2 qs2 N.nt∧Ro N.rows:=by
 obtain ⟨rs2,qs2,rfl,rfl,rfl,rfl,e1,e2,ro,_⟩:=FU hn d h.1 h.2.1 h.2.2
 refine ⟨rs2,qs2,⟨hn.i,by have:=hn.s;rw [List.map_map] at this;exact this,fun r hr=>hn.sr _ (List.mem_map.mpr ⟨r,hr,rfl⟩),e1,by have:=hn.t;rw [List.map_map] at this;exact this,fun q hq=>hn.tr _ (List.mem_map.mpr ⟨q,hq,rfl⟩),e2,hn.o⟩,ro⟩
end Sx
namespace My
open PySem L2 Sx
local macro_rules | `(tactic| walk_at "o") =>`(tactic| first | exact Or.inl rfl | exact Or.inr rfl)
local macro_rules | `(tactic| walk_at "s") =>`(tactic| exact ⟨rfl,rfl,rfl,by decide +kernel,rfl,by decide +kernel,by decide +kernel⟩)
local macro_rules | `(tactic| walk_at "l2side") =>`(tactic| first | assumption | rfl | omega | decide | ((try dsimp only [CDiv,US,CPow,CMul]);first | omega | decide | (refine ⟨?_,?_⟩<;>first | omega | decide) | (refine ⟨?_,?_,?_⟩<;>first | omega | decide) | (left;refine ⟨?_,?_⟩<;>first | omega | decide) | (right;refine ⟨?_,?_⟩<;>first | omega | decide)))
local macro_rules | `(tactic| walk_at "l2len") =>`(tactic| ((with_reducible show _ + _≤sizeLine);first | assumption | (rw [sizeLine_eq];omega) | omega))
local macro_rules | `(tactic| walk_at "l2at") =>`(tactic| first | assumption | exact aA | (refine' Same.get (by assumption) ?h;(case h=>walk_at "l2at")))
local macro_rules | `(tactic| walk_at "l2hp") =>`(tactic| first | walk_at "l2at")
local macro_rules | `(tactic| walk_at "l2hp") =>`(tactic| first | (refine' Same.tup (by assumption) ?h;(case h=>walk_at "l2hp")) | (refine' Rep.same (by assumption) ?h;(case h=>walk_at "l2hp")))
local macro_rules | `(tactic| walk_at "l2hp") =>`(tactic| first | assumption | (refine' SqL.of ?h;(case h=>walk_at "l2at")) | (refine' SqT.of ?h;(case h=>walk_at "l2at")) | (refine' Same.seq (by assumption) ?h;(case h=>walk_at "l2hp")))
local macro_rules | `(tactic| walk_at "l2kind") =>`(tactic| first | assumption | exact rfl | (refine' Or.inl ⟨rfl,_,?e⟩;(case e=>walk_at "l2hp")) | (refine' Or.inr (Or.inl ⟨rfl,_,?e⟩);(case e=>walk_at "l2hp")) | (refine' Or.inr (Or.inr ⟨rfl,_,Or.inl ?e⟩);(case e=>walk_at "l2hp")))
local macro_rules | `(tactic| walk_at "l2step") =>`(tactic| first | ((with_reducible refine' s_go ?e ?_);(case e=>assumption)))
local macro_rules | `(tactic| walk_at "l2step") =>`(tactic| first | (with_reducible refine ⟨_,rfl,?_⟩) | (with_reducible refine ⟨rfl,?_⟩) | ((with_reducible refine' ⟨⟨_,?e⟩,?_⟩);(case e=>walk_at "l2hp")))
local macro_rules | `(tactic| walk_at "l2step") =>`(tactic| first | (with_reducible refine ⟨_,_,rfl,rfl,?_⟩;(with_reducible refine ⟨?l,?_⟩);(case l=>walk_at "l2len")) | (with_reducible refine ⟨_,_,rfl,rfl,?_⟩) | (with_reducible refine Or.inl ⟨_,rfl,?_⟩) | (with_reducible refine Or.inr ⟨_,rfl,?_⟩))
local macro_rules | `(tactic| walk_at "l2step") =>`(tactic| first | (with_reducible refine SK ?_) | ((with_reducible refine' i4 ?e ?_);(case e=>first | rfl | decide | assumption)) | ((with_reducible refine' gl ?e ?_);(case e=>first | rfl | decide | assumption)) | ((with_reducible refine' NF ?a ?b ?_);(case a=>omega);(case b=>omega)))
local macro_rules | `(tactic| walk_at "l2step") =>`(tactic| first | (with_reducible refine Qb ?_) | (with_reducible refine s_intB ?_) | (with_reducible refine s_inS ?_) | ((with_reducible refine' s_addS ?e ?_);(case e=>walk_at "l2side")))
local macro_rules | `(tactic| walk_at "l2step") =>`(tactic| first | (with_reducible refine SH ?_) | (with_reducible refine Uz ?_) | (with_reducible refine Up ?_) | (with_reducible refine Sj ?_))
local macro_rules | `(tactic| walk_at "l2step") =>`(tactic| first | ((with_reducible refine' Sy ?e ?_);(case e=>walk_at "l2hp")) | ((with_reducible refine' Su ?e ?_);(case e=>walk_at "l2hp")) | ((with_reducible refine' Sw ?e ?_);(case e=>walk_at "l2side")) | ((with_reducible refine' Uy ?e ?m ?_);(case e=>walk_at "l2kind");(case m=>decide)))
local macro_rules | `(tactic| walk_at "l2step") =>`(tactic| first | ((with_reducible refine' mi ?e ?a ?_);(case e=>walk_at "l2hp");(case a=>first | assumption | rfl)) | ((with_reducible refine' Ux ?e ?a ?_);(case e=>walk_at "l2hp");(case a=>first | assumption | rfl)) | ((with_reducible refine' s_ty ?e ?_);(case e=>first | exact rfl | (refine' Or.inl ⟨rfl,_,?f⟩;(case f=>walk_at "l2hp")) | (refine' Or.inr (Or.inr (Or.inl ⟨rfl,Or.inl ⟨_,?f⟩⟩));(case f=>walk_at "l2hp")))) | (with_reducible refine s_bits ?_))
local macro_rules | `(tactic| walk_at "l2step") =>`(tactic| first | ((with_reducible refine' So ?l ?_);(case l=>exact Lb (Nat.le_of_ble_eq_true rfl))) | ((with_reducible refine' Sn ?l ?_);(case l=>exact Lb (Nat.le_of_ble_eq_true rfl))) | ((with_reducible refine' Us ?e ?_);(case e=>walk_at "l2hp")) | ((with_reducible refine' s_slS ?e ?_);(case e=>walk_at "l2side")))
local macro_rules | `(tactic| walk_at "l2step") =>`(tactic| first | (with_reducible refine SD ?_) | ((with_reducible refine' SB ?e ?l ?_);(case e=>walk_at "l2hp");(case l=>rfl)) | (with_reducible refine Ur ?_) | (with_reducible refine Uw ?_))
local macro_rules | `(tactic| walk_at "l2step") =>`(tactic| first | ((with_reducible refine' Ut ?e ?_);(case e=>rfl)) | (with_reducible refine s_leS ?_) | ((with_reducible refine' P9 ?e ?_);(case e=>repeat constructor)) | (with_reducible refine Qa ?_))
local macro_rules | `(tactic| walk_at "l2step") =>`(tactic| first | (with_reducible refine Uu ?_) | ((with_reducible refine' s_rI ?e ?_);(case e=>walk_at "l2side")) | (with_reducible refine s_rU ?_) | ((with_reducible refine' Uv ?e ?_);(case e=>rfl)))
local macro_rules | `(tactic| walk_at "l2step") =>`(tactic| first | ((with_reducible refine Sk ?_);intro _ _) | (with_reducible refine Sm ?_) | ((with_reducible refine' Uq ?e ?_);(case e=>repeat constructor)) | (with_reducible refine Qg ?_))
local macro_rules | `(tactic| walk_at "l2") =>`(tactic| repeat walk_at "l2step")
local macro_rules | `(tactic| walk_at "l2step") =>`(tactic| first | ((with_reducible refine' Sh ?e ?_);(case e=>walk_at "l2hp")))
local macro_rules | `(tactic| walk_at "l2step") =>`(tactic| first | ((with_reducible refine' P7 ?e ?_);(case e=>walk_at "l2hp")) | ((with_reducible refine' P6 ?e ?_);(case e=>walk_at "l2hp")) | ((with_reducible refine' Si ?e ?_);(case e=>walk_at "l2hp")))
local macro_rules | `(tactic| walk_at "l2step") =>`(tactic| first | (with_reducible refine Sq ?_) | (with_reducible refine SE ?_) | (with_reducible refine SJ ?_) | (with_reducible refine s_iEnum ?_))
local macro_rules | `(tactic| walk_at "l2step") =>`(tactic| first | (with_reducible refine Ny ?_) | (with_reducible refine UA ?_) | (with_reducible refine Sr ?_) | (with_reducible refine NB ?_))
local macro_rules | `(tactic| walk_at "l2step") =>`(tactic| first | (with_reducible refine UB ?_) | (with_reducible refine SG ?_) | (with_reducible refine s_disp1I ?_) | ((with_reducible refine' s_listD ?e ?_);(case e=>walk_at "l2at")))
local macro_rules | `(tactic| walk_at "l2step") =>`(tactic| first | (with_reducible refine P5 ?_) | (with_reducible refine s_try0 ?_) | (with_reducible refine Qf ?_))
noncomputable def top (i:Nat):Stmt:=PySem.Challenge.pw_sumwires_k13_nets_refused.main.body.getD i (.Pass ⟨0,0,0,0⟩)
noncomputable abbrev qp:Stmt:=top 3
theorem DC:aQ ["thing","depth"] ["thing","depth"] (ae qp):=by walk_at "s"
noncomputable abbrev b0:Stmt:=eF (top 6) 0
theorem me:aQ ["self","name"] ["self","name"] (ae b0):=by walk_at "s"
noncomputable abbrev bZ:Stmt:=eF (top 7) 0
theorem md:aQ ["self","name"] ["self","name"] (ae bZ):=by walk_at "s"
noncomputable abbrev cv:Stmt:=eF (top 8) 0
theorem nE:aQ ["self","name"] ["self","name"] (ae cv):=by walk_at "s"
noncomputable abbrev cN:Stmt:=eF (top 9) 0
theorem rc:aQ ["self","ring"] ["self","ring"] (ae cN):=by walk_at "s"
noncomputable abbrev cM:Stmt:=eF (top 11) 0
theorem qZ:aQ ["self","name"] ["self","name"] (ae cM):=by walk_at "s"
noncomputable abbrev cw:Stmt:=eF (top 12) 0
theorem nF:aQ ["self","name","number"] ["self","name","number"] (ae cw):=by walk_at "s"
noncomputable abbrev bY:Stmt:=eF (top 13) 0
theorem l7:aQ ["self","name","wires"] ["self","name","wires"] (ae bY):=by walk_at "s"
noncomputable abbrev bL:Stmt:=eF (top 14) 0
theorem jP:aQ ["self","name","wire","number"] ["self","name","wire","number"] (ae bL):=by walk_at "s"
noncomputable abbrev gB:Stmt:=top 19
theorem Hb:aQ ["thing"] ["thing"] (ae gB):=by walk_at "s"
noncomputable abbrev cR:Stmt:=top 26
theorem wx:aQ ["ins","sums","stores","outs"] ["ins","sums","stores","outs"] (ae cR):=by walk_at "s"
noncomputable abbrev dC:Stmt:=top 27
theorem ib:aQ ["names","known","name"] ["names"] (ae dC):=by walk_at "s"
noncomputable abbrev ee:Stmt:=top 28
theorem yw:aQ ["wire","known"] ["wire","known"] (ae ee):=by walk_at "s"
noncomputable abbrev dB:Stmt:=top 29
theorem dQ:aQ ["sums","stores","outs","known","row","wire"] ["sums","stores","outs","known"] (ae dB):=by walk_at "s"
noncomputable abbrev bq:Stmt:=top 30
theorem jz:aQ ["ins","sums","stores","wires"] ["ins","sums","stores"] (ae bq):=by walk_at "s"
noncomputable abbrev mh:Stmt:=top 31
theorem Nx:aQ ["row","waiting"] ["row","waiting"] (ae mh):=by walk_at "s"
noncomputable abbrev dq:Stmt:=top 32
theorem eC:aQ ["rows","waiting","path","name"] ["rows"] (ae dq):=by walk_at "s"
noncomputable abbrev fR:Stmt:=top 33
theorem gv:aQ ["sums","names","left","waiting","ready"] ["sums"] (ae fR):=by walk_at "s"
noncomputable abbrev bF:Stmt:=eF (top 34) 0
theorem tQ:aQ ["self","ins","sums","stores","outs"] ["self","ins","sums","stores","outs"] (ae bF):=by walk_at "s"
noncomputable abbrev de:Stmt:=eF (top 34) 1
theorem tP:aQ ["self"] ["self"] (ae de):=by walk_at "s"
noncomputable abbrev dc:Stmt:=eF (top 34) 2
theorem tO:aQ ["self"] ["self"] (ae dc):=by walk_at "s"
noncomputable abbrev cC:Stmt:=eF (top 34) 3
theorem pd:aQ ["self"] ["self"] (ae cC):=by walk_at "s"
noncomputable abbrev cO:Stmt:=eF (top 34) 4
theorem re:aQ ["self"] ["self"] (ae cO):=by walk_at "s"
noncomputable abbrev gx:Stmt:=eF (top 34) 5
theorem DD:aQ ["self"] ["self"] (ae gx):=by walk_at "s"
noncomputable abbrev fh:Stmt:=top 36
theorem AV:aQ ["_law_script","_law_k"] ["_law_script","_law_k"] (ae fh):=by walk_at "s"
noncomputable abbrev gw:Stmt:=top 37
theorem l0:aQ ["_law_cell_here","_law_k","_law_number"] ["_law_cell_here","_law_k"] (ae gw):=by walk_at "s"
noncomputable abbrev fg:Stmt:=top 38
theorem gZ:aQ ["_law_cell_here","_law_k","_law_letters","_law_some"] ["_law_cell_here","_law_k"] (ae fg):=by walk_at "s"
noncomputable abbrev dr:Stmt:=top 39
theorem dA:aQ ["_law_cell_here","_law_start","_law_names","_law_digits","_law_left","_law_found","_law_k","_law_many_here"] ["_law_cell_here","_law_start","_law_names","_law_digits"] (ae dr):=by walk_at "s"
noncomputable abbrev dD:Stmt:=top 40
theorem bb:aQ ["_law_script","_law_start","_law_most","_law_cell_here","_law_sizes","_law_ins","_law_stores","_law_known","_law_sums","_law_k","_law_wires_here","_law_at","_law_ends","_law_name_here","_law_outs"] ["_law_script","_law_start","_law_most"] (ae dD):=by walk_at "s"
noncomputable abbrev dZ:Stmt:=top 41
theorem AT:aQ ["_law_ins","_law_sums","_law_stores","_law_outs"] ["_law_ins","_law_sums","_law_stores","_law_outs"] (ae dZ):=by walk_at "s"
noncomputable abbrev cK:Stmt:=top 42
theorem tN:aQ ["_law_thing"] ["_law_thing"] (ae cK):=by walk_at "s"
noncomputable abbrev cB:Stmt:=top 43
theorem iI:aQ ["_law_names","_law_known","_law_name_here"] ["_law_names","_law_known"] (ae cB):=by walk_at "s"
noncomputable abbrev bU:Stmt:=top 44
theorem cX:aQ ["_law_sums","_law_left","_law_k","_law_name_here","_law_wires_here"] ["_law_sums"] (ae bU):=by walk_at "s"
noncomputable abbrev c9:Stmt:=top 45
theorem ff:aQ ["_law_ins","_law_sums","_law_stores","_law_outs","_law_known","_law_due_here","_law_wires_here","_law_row","_law_wire"] ["_law_ins","_law_sums","_law_stores","_law_outs"] (ae c9):=by walk_at "s"
noncomputable abbrev bP:Stmt:=top 46
theorem gz:aQ ["_law_ring","_law_sums","_law_one","_law_other"] ["_law_ring","_law_sums"] (ae bP):=by walk_at "s"
noncomputable abbrev eh:Stmt:=top 47
theorem tM:aQ ["_law_number","_law_some"] ["_law_number"] (ae eh):=by walk_at "s"
noncomputable abbrev cQ:Stmt:=top 48
theorem bG:aQ ["_law_lists","_law_cell_here","_law_number","_law_side","_law_rows","_law_at","_law_way","_law_names","_law_fresh","_law_row","_law_wires_here"] ["_law_lists","_law_cell_here"] (ae cQ):=by walk_at "s"
noncomputable abbrev cf:Stmt:=top 49
theorem AU:aQ ["_law_lists","_law_number"] ["_law_lists","_law_number"] (ae cf):=by walk_at "s"
noncomputable abbrev c8:Stmt:=top 50
theorem bp:aQ ["_law_lists","_law_told_here","_law_ring","e"] ["_law_lists"] (ae c8):=by walk_at "s"
noncomputable abbrev DE:Stmt:=top 51
theorem jA:aQ ["_law_script","_law_cell_here","_law_ins","_law_sums","_law_stores","_law_outs","_law_lists","_law_k","_law_due_here","_law_told_here","_law_ring"] ["_law_script"] (ae DE):=by walk_at "s"
set_option genInjectivity false in
set_option genSizeOf false in
structure Ad where
 kg:Addr
 Co:FuncData
 aW:Addr
 eN:FuncData
 aV:Addr
 eM:FuncData
 a9:Addr
 fC:FuncData
 bu:Addr
 gN:FuncData
 bt:Addr
 cy:FuncData
 aU:Addr
 fD:FuncData
 aP:Addr
 eJ:FuncData
 aI:Addr
 dO:FuncData
 eI:Addr
 vA:FuncData
 cq:Addr
 jm:FuncData
 cr:Addr
 jn:FuncData
 cG:Addr
 kj:FuncData
 cn:Addr
 jl:FuncData
 bI:Addr
 gL:FuncData
 jk:Addr
 Fa:FuncData
 cF:Addr
 ki:FuncData
 eG:Addr
 vz:FuncData
 bx:Addr
 iB:FuncData
 bw:Addr
 iA:FuncData
 bv:Addr
 iz:FuncData
 a0:Addr
 ge:FuncData
 bf:Addr
 gO:FuncData
 cP:Addr
 p6:FuncData
 cW:Addr
 mY:FuncData
 dG:Addr
 p4:FuncData
 cU:Addr
 mW:FuncData
 cH:Addr
 kl:FuncData
 dF:Addr
 p3:FuncData
 cT:Addr
 mV:FuncData
 bS:Addr
 iy:FuncData
 bA:Addr
 gc:FuncData
 bJ:Addr
 gM:FuncData
 dH:Addr
 p5:FuncData
 bR:Addr
 iw:FuncData
 df:Addr
 pZ:FuncData
 cI:Addr
 km:FuncData
 cV:Addr
 mX:FuncData
 bQ:Addr
 iu:FuncData
 Cf:Addr
 Rv:FuncData
 bK:Addr
 aC:Addr
 au:Addr
 ao:Addr
 bO:Addr
 bh:Addr
 ax:Addr
 ak:Addr
 aj:Addr
 am:Addr
 aE:Addr
 jN:Tok
 tF:Tok
 ia:Tok
 o8:Tok
 lU:Tok
 iZ:Tok
 lT:Tok
 jM:Tok
 jL:Tok
open PySem.W in
structure Tx (K:Frag) (mg:Str→Option Value) (a:Ad):Prop where
 ym:Fun K "kept" "kept" qp a.kg a.Co
 BU:keepIn K (.ref a.kg)=true
 vU:bT K a.Co ["thing","depth"] []
 B3:mg "kept"=some (.ref a.kg)
 dn:Fun K "__init__" "BadName.__init__" b0 a.aW a.eN
 Gd:keepIn K (.ref a.aW)=true
 eR:bT K a.eN ["self","name"] []
 dk:Fun K "__init__" "Doubled.__init__" bZ a.aV a.eM
 Gc:keepIn K (.ref a.aV)=true
 eQ:bT K a.eM ["self","name"] []
 dI:Fun K "__init__" "NoWire.__init__" cv a.a9 a.fC
 Ii:keepIn K (.ref a.a9)=true
 fG:bT K a.fC ["self","name"] []
 eX:Fun K "__init__" "Ring.__init__" cN a.bu a.gN
 Lk:keepIn K (.ref a.bu)=true
 gU:bT K a.gN ["self","ring"] []
 eU:Fun K "__init__" "Wire.__init__" cM a.bt a.cy
 Lj:keepIn K (.ref a.bt)=true
 dy:bT K a.cy ["self","name"] []
 dJ:Fun K "__init__" "InWire.__init__" cw a.aU a.fD
 Ij:keepIn K (.ref a.aU)=true
 fH:bT K a.fD ["self","name","number"] []
 dj:Fun K "__init__" "SumWire.__init__" bY a.aP a.eJ
 Gb:keepIn K (.ref a.aP)=true
 eP:bT K a.eJ ["self","name","wires"] []
 cL:Fun K "__init__" "StoreWire.__init__" bL a.aI a.dO
 Dc:keepIn K (.ref a.aI)=true
 dP:bT K a.dO ["self","name","wire","number"] []
 o5:Fun K "is_name" "is_name" gB a.eI a.vA
 BV:keepIn K (.ref a.eI)=true
 oU:bT K a.vA ["thing"] []
 B4:mg "is_name"=some (.ref a.eI)
 gt:Fun K "check_sizes" "check_sizes" cR a.cq a.jm
 zD:keepIn K (.ref a.cq)=true
 jp:bT K a.jm ["ins","sums","stores","outs"] []
 zI:mg "check_sizes"=some (.ref a.cq)
 gu:Fun K "check_names" "check_names" dC a.cr a.jn
 zE:keepIn K (.ref a.cr)=true
 jq:bT K a.jn ["names"] []
 zJ:mg "check_names"=some (.ref a.cr)
 hX:Fun K "check_wire" "check_wire" ee a.cG a.kj
 kb:keepIn K (.ref a.cG)=true
 fV:bT K a.kj ["wire","known"] []
 kc:mg "check_wire"=some (.ref a.cG)
 gq:Fun K "check_wires" "check_wires" dB a.cn a.jl
 zC:keepIn K (.ref a.cn)=true
 jo:bT K a.jl ["sums","stores","outs","known"] []
 zH:mg "check_wires"=some (.ref a.cn)
 eS:Fun K "wires_by_name" "wires_by_name" bq a.bI a.gL
 vh:keepIn K (.ref a.bI)=true
 gS:bT K a.gL ["ins","sums","stores"] []
 vm:mg "wires_by_name"=some (.ref a.bI)
 Ax:Fun K "waits" "waits" mh a.jk a.Fa
 Lh:keepIn K (.ref a.jk)=true
 Ai:bT K a.Fa ["row","waiting"] []
 LD:mg "waits"=some (.ref a.jk)
 hU:Fun K "ring_among" "ring_among" dq a.cF a.ki
 BT:keepIn K (.ref a.cF)=true
 kC:bT K a.ki ["rows"] []
 B1:mg "ring_among"=some (.ref a.cF)
 o4:Fun K "ordered" "ordered" fR a.eG a.vz
 Li:keepIn K (.ref a.eG)=true
 vT:bT K a.vz ["sums"] []
 LE:mg "ordered"=some (.ref a.eG)
 fQ:Fun K "__init__" "Net.__init__" bF a.bx a.iB
 M3:keepIn K (.ref a.bx)=true
 fK:bT K a.iB ["self","ins","sums","stores","outs"] []
 fP:Fun K "in_names" "Net.in_names" de a.bw a.iA
 M0:keepIn K (.ref a.bw)=true
 iF:bT K a.iA ["self"] []
 fO:Fun K "sum_rows" "Net.sum_rows" dc a.bv a.iz
 MZ:keepIn K (.ref a.bv)=true
 iE:bT K a.iz ["self"] []
 dW:Fun K "store_rows" "Net.store_rows" cC a.a0 a.ge
 JE:keepIn K (.ref a.a0)=true
 gh:bT K a.ge ["self"] []
 eZ:Fun K "out_wires" "Net.out_wires" cO a.bf a.gO
 Ll:keepIn K (.ref a.bf)=true
 gW:bT K a.gO ["self"] []
 kU:Fun K "told" "Net.told" gx a.cP a.p6
 RV:keepIn K (.ref a.cP)=true
 qi:bT K a.p6 ["self"] []
 jw:Fun K "_law_cell" "_law_cell" fh a.cW a.mY
 jg:keepIn K (.ref a.cW)=true
 fF:bT K a.mY ["_law_script","_law_k"] []
 ji:mg "_law_cell"=some (.ref a.cW)
 kS:Fun K "_law_mix" "_law_mix" gw a.dG a.p4
 ca:keepIn K (.ref a.dG)=true
 bN:bT K a.p4 ["_law_cell_here","_law_k"] []
 cb:mg "_law_mix"=some (.ref a.dG)
 ju:Fun K "_law_name" "_law_name" fg a.cU a.mW
 jf:keepIn K (.ref a.cU)=true
 fE:bT K a.mW ["_law_cell_here","_law_k"] []
 jh:mg "_law_name"=some (.ref a.cU)
 hZ:Fun K "_law_wires" "_law_wires" dr a.cH a.kl
 BW:keepIn K (.ref a.cH)=true
 kD:bT K a.kl ["_law_cell_here","_law_start","_law_names","_law_digits"] []
 B5:mg "_law_wires"=some (.ref a.cH)
 kR:Fun K "_law_net" "_law_net" dD a.dF a.p3
 Ig:keepIn K (.ref a.dF)=true
 qg:bT K a.p3 ["_law_script","_law_start","_law_most"] []
 IE:mg "_law_net"=some (.ref a.dF)
 jt:Fun K "_law_told" "_law_told" dZ a.cT a.mV
 EJ:keepIn K (.ref a.cT)=true
 m8:bT K a.mV ["_law_ins","_law_sums","_law_stores","_law_outs"] []
 EQ:mg "_law_told"=some (.ref a.cT)
 fN:Fun K "_law_is_name" "_law_is_name" cK a.bS a.iy
 lN:keepIn K (.ref a.bS)=true
 fJ:bT K a.iy ["_law_thing"] []
 lP:mg "_law_is_name"=some (.ref a.bS)
 dU:Fun K "_law_names_due" "_law_names_due" cB a.bA a.gc
 sy:keepIn K (.ref a.bA)=true
 gf:bT K a.gc ["_law_names","_law_known"] []
 sA:mg "_law_names_due"=some (.ref a.bA)
 eT:Fun K "_law_has_ring" "_law_has_ring" bU a.bJ a.gM
 vi:keepIn K (.ref a.bJ)=true
 gT:bT K a.gM ["_law_sums"] []
 vn:mg "_law_has_ring"=some (.ref a.bJ)
 kT:Fun K "_law_due" "_law_due" c9 a.dH a.p5
 Ih:keepIn K (.ref a.dH)=true
 qh:bT K a.p5 ["_law_ins","_law_sums","_law_stores","_law_outs"] []
 IF:mg "_law_due"=some (.ref a.dH)
 fM:Fun K "_law_is_ring" "_law_is_ring" bP a.bR a.iw
 xr:keepIn K (.ref a.bR)=true
 iD:bT K a.iw ["_law_ring","_law_sums"] []
 xu:mg "_law_is_ring"=some (.ref a.bR)
 kQ:Fun K "_law_odd" "_law_odd" eh a.df a.pZ
 Ie:keepIn K (.ref a.df)=true
 qf:bT K a.pZ ["_law_number"] []
 ID:mg "_law_odd"=some (.ref a.df)
 h9:Fun K "_law_spoil" "_law_spoil" cQ a.cI a.km
 BX:keepIn K (.ref a.cI)=true
 kE:bT K a.km ["_law_lists","_law_cell_here"] []
 B6:mg "_law_spoil"=some (.ref a.cI)
 jv:Fun K "_law_many" "_law_many" cf a.cV a.mX
 EK:keepIn K (.ref a.cV)=true
 m9:bT K a.mX ["_law_lists","_law_number"] []
 ER:mg "_law_many"=some (.ref a.cV)
 fL:Fun K "_law_refused" "_law_refused" c8 a.bQ a.iu
 xq:keepIn K (.ref a.bQ)=true
 iC:bT K a.iu ["_law_lists"] []
 xt:mg "_law_refused"=some (.ref a.bQ)
 OQ:Fun K "law" "law" DE a.Cf a.Rv
 UW:keepIn K (.ref a.Cf)=true
 TQ:bT K a.Rv ["_law_script"] []
 UX:mg "law"=some (.ref a.Cf)
 LF:mg "Wire"=some (.ref a.bK)
 UV:Cls K a.bK
 UU:MB K a.bK
 MJ:aq K a.bK "by_name"
 RP:aq K a.bK "ins"
 F4:aq K a.bK "kept_stores"
 QO:aq K a.bK "name"
 NZ:aq K a.bK "number"
 QN:aq K a.bK "outs"
 QM:aq K a.bK "ring"
 Ju:aq K a.bK "sum_order"
 QL:aq K a.bK "sums"
 QK:aq K a.bK "wire"
 O7:aq K a.bK "wires"
 Os:mg "InWire"=some (.ref a.aC)
 Ay:Cls K a.aC
 Ua:MB K a.aC
 OO:Mk K a.aC a.aU
 JB:aq K a.aC "by_name"
 Pb:aq K a.aC "ins"
 Db:aq K a.aC "kept_stores"
 oq:aq K a.aC "name"
 uN:aq K a.aC "number"
 Oa:aq K a.aC "outs"
 N9:aq K a.aC "ring"
 F7:aq K a.aC "sum_order"
 N8:aq K a.aC "sums"
 N7:aq K a.aC "wire"
 MQ:aq K a.aC "wires"
 LG:mg "SumWire"=some (.ref a.au)
 wp:Cls K a.au
 T7:MB K a.au
 Mz:Mk K a.au a.aP
 HF:aq K a.au "by_name"
 N1:aq K a.au "ins"
 BB:aq K a.au "kept_stores"
 lJ:aq K a.au "name"
 Jv:aq K a.au "number"
 MN:aq K a.au "outs"
 MM:aq K a.au "ring"
 Es:aq K a.au "sum_order"
 ML:aq K a.au "sums"
 MK:aq K a.au "wire"
 uJ:aq K a.au "wires"
 ES:mg "StoreWire"=some (.ref a.ao)
 jy:Cls K a.ao
 RJ:MB K a.ao
 FH:Mk K a.ao a.aI
 Et:aq K a.ao "by_name"
 K1:aq K a.ao "ins"
 zm:aq K a.ao "kept_stores"
 jF:aq K a.ao "name"
 oi:aq K a.ao "number"
 Jy:aq K a.ao "outs"
 Jx:aq K a.ao "ring"
 BC:aq K a.ao "sum_order"
 Jw:aq K a.ao "sums"
 r9:aq K a.ao "wire"
 HG:aq K a.ao "wires"
 Ty:mg "Net"=some (.ref a.bO)
 gY:Cls K a.bO
 UZ:MB K a.bO
 T4:Mk K a.bO a.bx
 xg:Meth K a.bO "in_names" a.bw
 xc:Meth K a.bO "sum_rows" a.bv
 se:Meth K a.bO "store_rows" a.a0
 uO:Meth K a.bO "out_wires" a.bf
 HN:Meth K a.bO "told" a.cP
 om:aq K a.bO "by_name"
 uM:aq K a.bO "ins"
 dE:aq K a.bO "kept_stores"
 RU:aq K a.bO "name"
 Pa:aq K a.bO "number"
 pM:aq K a.bO "outs"
 RT:aq K a.bO "ring"
 uL:aq K a.bO "sum_order"
 iR:aq K a.bO "sums"
 RS:aq K a.bO "wire"
 QT:aq K a.bO "wires"
 cy:Pr K a.bK "__init__" a.bt
 jj:mg "WireError"=some (.ref a.bh)
 iY:TZ K a.bh
 iS:mg "TooMany"=some (.ref a.ax)
 eB:excIn K a.ax [.type "ValueError",.type "Exception",.type "BaseException",.type "object"] "ValueError.__new__"=true
 T6:XIsi K a.ax
 Tt:keepIn K (.ref a.ax)=true
 fi:mroIn K a.ax (.ref a.ax)=some true
 iK:mroIn K a.ax (.ref a.ak)=some false
 iJ:mroIn K a.ax (.ref a.aj)=some false
 jB:mroIn K a.ax (.ref a.am)=some false
 lu:mroIn K a.ax (.ref a.aE)=some false
 Lz:jx K a.ax
 Ca:mg "BadName"=some (.ref a.ak)
 LC:jx K a.ak
 wg:XOwn K a.ak a.bh a.aW
 MD:XIsi K a.ak
 pV:hasDictIn K a.ak=true
 fu:mroIn K a.ak (.ref a.ax)=some false
 fw:mroIn K a.ak (.ref a.ak)=some true
 iL:mroIn K a.ak (.ref a.aj)=some false
 jD:mroIn K a.ak (.ref a.am)=some false
 lB:mroIn K a.ak (.ref a.aE)=some false
 HI:aq K a.ak "by_name"
 Oc:aq K a.ak "ins"
 BE:aq K a.ak "kept_stores"
 lL:aq K a.ak "name"
 JD:aq K a.ak "number"
 MY:aq K a.ak "outs"
 MX:aq K a.ak "ring"
 Ev:aq K a.ak "sum_order"
 MW:aq K a.ak "sums"
 MV:aq K a.ak "wire"
 K4:aq K a.ak "wires"
 De:kitOne K (.ref a.ak) (.type "ValueError")=some true
 B9:mg "Doubled"=some (.ref a.aj)
 LB:jx K a.aj
 wf:XOwn K a.aj a.bh a.aV
 MC:XIsi K a.aj
 pU:hasDictIn K a.aj=true
 fj:mroIn K a.aj (.ref a.ax)=some false
 fq:mroIn K a.aj (.ref a.ak)=some false
 fk:mroIn K a.aj (.ref a.aj)=some true
 jC:mroIn K a.aj (.ref a.am)=some false
 lA:mroIn K a.aj (.ref a.aE)=some false
 HH:aq K a.aj "by_name"
 Ob:aq K a.aj "ins"
 BD:aq K a.aj "kept_stores"
 lK:aq K a.aj "name"
 JC:aq K a.aj "number"
 MU:aq K a.aj "outs"
 MT:aq K a.aj "ring"
 Eu:aq K a.aj "sum_order"
 MS:aq K a.aj "sums"
 MR:aq K a.aj "wire"
 K3:aq K a.aj "wires"
 Dd:kitOne K (.ref a.aj) (.type "ValueError")=some true
 Gf:mg "NoWire"=some (.ref a.am)
 Oo:jx K a.am
 At:XOwn K a.am a.bh a.a9
 OP:XIsi K a.am
 vk:hasDictIn K a.am=true
 fW:mroIn K a.am (.ref a.ax)=some false
 fY:mroIn K a.am (.ref a.ak)=some false
 fX:mroIn K a.am (.ref a.aj)=some false
 gD:mroIn K a.am (.ref a.am)=some true
 nJ:mroIn K a.am (.ref a.aE)=some false
 JA:aq K a.am "by_name"
 O9:aq K a.am "ins"
 Da:aq K a.am "kept_stores"
 oj:aq K a.am "name"
 K2:aq K a.am "number"
 N6:aq K a.am "outs"
 N5:aq K a.am "ring"
 F6:aq K a.am "sum_order"
 N4:aq K a.am "sums"
 N3:aq K a.am "wire"
 MP:aq K a.am "wires"
 EN:kitOne K (.ref a.am) (.type "ValueError")=some true
 Pd:mg "Ring"=some (.ref a.aE)
 Tw:jx K a.aE
 Mt:XOwn K a.aE a.bh a.bu
 T8:XIsi K a.aE
 EO:hasDictIn K a.aE=true
 ie:mroIn K a.aE (.ref a.ax)=some false
 ii:mroIn K a.aE (.ref a.ak)=some false
 ig:mroIn K a.aE (.ref a.aj)=some false
 i6:mroIn K a.aE (.ref a.am)=some false
 ml:mroIn K a.aE (.ref a.aE)=some true
 MO:aq K a.aE "by_name"
 RQ:aq K a.aE "ins"
 F5:aq K a.aE "kept_stores"
 QS:aq K a.aE "name"
 N2:aq K a.aE "number"
 QR:aq K a.aE "outs"
 uK:aq K a.aE "ring"
 Jz:aq K a.aE "sum_order"
 QQ:aq K a.aE "sums"
 QP:aq K a.aE "wire"
 O8:aq K a.aE "wires"
 Ix:kitOne K (.ref a.aE) (.type "ValueError")=some true
 ke:mg "KEPT_DEPTH"=some (.int 12 a.jN)
 LH:mg "LETTERS"=some (.str "abcdefghijklmnopqrstuvwxyz" a.tF)
 xv:mg "LONGEST_NAME"=some (.int 6 a.ia)
 IG:mg "MOST_INS"=some (.int 6 a.o8)
 EU:mg "MOST_OUTS"=some (.int 6 a.lU)
 zK:mg "MOST_STORES"=some (.int 16 a.iZ)
 ET:mg "MOST_SUMS"=some (.int 40 a.lT)
 B8:mg "MOST_WIRES"=some (.int 24 a.jM)
 B7:mg "NAME_SIGNS"=some (.str "abcdefghijklmnopqrstuvwxyz0123456789" a.jL)
 UJ:mg "all"=none
 Tk:mg "any"=none
 BA:mg "dict"=none
 mO:mg "enumerate"=none
 cE:mg "isinstance"=none
 di:mg "len"=none
 eu:mg "list"=none
 UI:mg "max"=none
 d9:mg "range"=none
 HE:mg "reversed"=none
 UH:mg "set"=none
 uI:mg "str"=none
 ip:mg "tuple"=none
 UG:mg "zip"=none
section
variable {P:Program} {w:World} {K:PySem.W.Frag} {mg:Str→Option Value} {base:Heap} {a:Ad}
theorem qI (T:Tx K mg a):FnOk P w K mg base CX0 1 a.cW a.mY ["_law_script","_law_k"] (FS K):=by
 refine T.jw.ok AV (fun vs H Q E h=>?_) (fun cdv A outer s H vs Q E hr h=>?_)
 ·obtain ⟨a,ns,k,rfl,_⟩:=h;rfl
 ·obtain ⟨p,ns,k,rfl,hS,h0,q⟩:=h
  refine ⟨_,((af (ci (az QC (pv 1) (ay (aG (K:=K) rfl) (by rfl) T.di PySem.boot_len (aa (pv 0) ad)) (aR _)) (ai (bi (aH (ar (K:=K) rfl) (pv 0) (pv 1) (fun _ _=>rfl)))) aK)
   (ai (bi (aB c6 (aB uf ah (pv 1)) ah))))),aT (σ':=[some _,some _]) rfl ?_⟩
  walk_at "l2"
  rw [List.length_map]
  unfold cell at q
  refine ite2 (fun hc=>?_) (fun hc=>?_)
  ·have hc:=of_decide_eq_true hc
   have ha:atI (ns.map V.int) k=some (.int (ns.getD k.toNat 0)):=by
    obtain ⟨j,rfl⟩:=Int.eq_ofNat_of_zero_le h0
    have hj:j < ns.length:=by omega
    exact bz (by rw [List.getElem?_map,List.getElem?_eq_getElem hj,List.getD_eq_getElem?_getD,Int.toNat_natCast,List.getElem?_eq_getElem hj];rfl)
   rw [if_pos hc] at q
   walk_at "l2"
   exact q
  ·have hc:¬ k < ns.length:=fun z=>hc (decide_eq_true z)
   rw [if_neg hc] at q
   walk_at "l2"
   exact q
theorem Gw {H:Hp} {Q:VK} {E:XK} {c k:Int} (h0:0≤k) (h1:k < 100000) (q:Q (.int (mixV c k)) H):J9 [.int c,.int k] H Q E:=⟨c,k,rfl,h0,h1,q⟩
local macro_rules | `(tactic| walk_at "l2step") =>`(tactic| first | ((with_reducible refine' Gw ?a ?b ?_);(case a=>walk_at "l2side");(case b=>walk_at "l2side")) | ((with_reducible refine' Ah ?e ?a ?_);(case e=>walk_at "l2hp");(case a=>walk_at "l2side")))
theorem jc (T:Tx K mg a):FnOk P w K mg base CX0 1 a.dG a.p4 ["_law_cell_here","_law_k"] J9:=by
 refine T.kS.ok l0 (fun vs H Q E h=>?_) (fun cdv A outer s H vs Q E hr h=>?_)
 ·obtain ⟨c,k,rfl,_⟩:=h;rfl
 ·obtain ⟨c,k,rfl,h0,h1,q⟩:=h
  refine ⟨_,((af (aX (i:=2) l0.nd rfl (by walk_at "o") (aB ck (aB c6 (aB c6 (aB uf (aB ck (pv 0) ah) ah) (aB uf ah (pv 1))) ah) ah))
   (af (aX (i:=2) l0.nd rfl (by walk_at "o") (aB ck (aB uf (pv 2) (pv 2)) ah))
   (ai (bi (aB ck (aB uf (pv 2) (aB c6 (aB c6 (pv 2) (aB uf ah (pv 1))) ah)) ah)))))),aT (σ':=[some _,some _,none]) rfl ?_⟩
  walk_at "l2"
  exact q
theorem Bj (T:Tx K mg a):FnOk P w K mg base CX0 2 a.cU a.mW ["_law_cell_here","_law_k"] xV:=by
 have bC:=@jc P w K mg base a T
 refine T.ju.ok gZ (fun vs H Q E h=>?_) (fun cdv A outer s H vs Q E hr h=>?_)
 ·obtain ⟨c,k,rfl,_⟩:=h;rfl
 ·obtain ⟨c,k,rfl,h0,h1,q⟩:=h
  have hk:decide (k < 40)=true:=decide_eq_true h1
  refine ⟨_,((af (aX (i:=2) gZ.nd rfl (by walk_at "o") aM)
   (af (aX (i:=3) gZ.nd rfl (by walk_at "o") aM)
   (af (aX (i:=3) gZ.nd rfl (by walk_at "o") (aB bo (pv 3) aM))
   (af (ci (PW.pt (lC (az QC (pv 1) ah (aR _)) (i7 (az io (aB ck (aL bC (hr.mono (by decide)) (by rfl) T.cb T.ca T.bN .nil bD (aa (pv 0) (aa ah ad))) ah) ah (aR _))))) (ai (bi (aH (ar (K:=K) rfl) (cZ (K:=K) rfl PySem.F.plainAttrs_str PySem.F.slot_str_split PySem.F.type_str_split Od (pv 3) (aa aM ad)) (aB ck (aB c6 (pv 1) (aL bC (hr.mono (by decide)) (by rfl) T.cb T.ca T.bN .nil bD (aa (pv 0) (aa ah ad)))) ah) (fun _ _=>rfl)))) aK)
   (ai (bi (aB bo (aH Lr (pv 2) (aB ck (aL bC (hr.mono (by decide)) (by rfl) T.cb T.ca T.bN .nil bD (aa (pv 0) (aa ah ad))) ah) (fun _ _=>rfl)) (aF cJ (by rfl) T.uI PyProof.Rows.boot_str (aa (aB c6 (aB ck (aL bC (hr.mono (by decide)) (by rfl) T.cb T.ca T.bN .nil bD (aa (pv 0) (aa ah ad))) ah) (aB uf ah (pv 1))) ad)))))))))),aT (σ':=[some _,some _,none,none]) rfl ?_⟩
  walk_at "l2"
  refine ⟨by decide +kernel,?_⟩
  walk_at "l2"
  generalize hw:((_:Str)++_)=words
  have hw:words=JN:=hw.symm
  by_cases h2:mixV c 402 % 2=0
  ·refine i4 (decide_eq_true (by rw [h2])) ?_
   walk_at "l2"
   refine P4 (by decide +kernel) (by rw [hw];decide +kernel) fun D H2 f2 s2 e2=>?_
   have hm:=Int.emod_lt_of_pos (k + mixV c 403) (show (0:Int) < 40 by decide)
   have hm':=Int.emod_nonneg (k + mixV c 403) (show (40:Int)≠0 by decide)
   rw [hw] at e2
   have hat:atI (W40.map V.str) ((k + mixV c 403) % 40)=some (.str (nmf c k)):=by
    obtain ⟨j,hj⟩:=Int.eq_ofNat_of_zero_le hm'
    have lj:j < W40.length:=by rw [Ar];omega
    unfold nmf
    rw [if_pos h2,hj]
    refine bz ?_
    rw [List.getElem?_map,List.getD_eq_getElem?_getD,Int.toNat_natCast,List.getElem?_eq_getElem lj];rfl
   have e2:H2 D=some (.lst (W40.map V.str)):=e2
   walk_at "l2"
   exact q H2 s2
  ·refine gl (decide_eq_false fun z=>h2 (V.int.inj z)) ?_
   have hm:=Int.emod_lt_of_pos (mixV c 400) (show (0:Int) < 26 by decide)
   have hm':=Int.emod_nonneg (mixV c 400) (show (26:Int)≠0 by decide)
   have hr1:=Int.emod_lt_of_pos (mixV c 401) (show (0:Int) < 1000 by decide)
   have hr0:=Int.emod_nonneg (mixV c 401) (show (1000:Int)≠0 by decide)
   walk_at "l2"
   refine P8 (by decide +kernel) (HR _ hm' hm) ?_
   walk_at "l2"
   have hn:(mixV c 401 % 1000 + 37 * k).natAbs < 10 ^ 4:=by omega
   have hlog:(mixV c 401 % 1000 + 37 * k).natAbs.log2 < 1920:=by
    rcases Nat.eq_zero_or_pos (mixV c 401 % 1000 + 37 * k).natAbs with z | z
    ·rw [z];decide
    ·exact (Nat.log2_lt (by omega)).mpr (Nat.lt_of_lt_of_le hn (Nat.le_trans (by decide:10 ^ 4≤2 ^ 14) (Nat.pow_le_pow_right (by decide) (by decide))))
   have hlen:=PyProof.Rows.int_text_len_1921 hlog
   refine ⟨hlog,?_⟩
   walk_at "l2"
   refine ⟨by rw [sizeLine_eq];have:(⟨#[97 + (mixV c 400 % 26).toNat]⟩:Str).length=1:=rfl;omega,?_⟩
   have e:(mixV c 401 % 1000 + 37 * k)=(((mixV c 401 % 1000).toNat + 37 * k.toNat:Nat):Int):=by omega
   have q':=q H (Same.refl _)
   unfold nmf at q'
   rw [if_neg h2] at q'
   rw [e]
   exact q'
end
section
variable {P:Program} {w:World} {K:PySem.W.Frag} {mg:Str→Option Value} {base:Heap} {a:Ad}
local macro_rules | `(tactic| walk_at "l2step") =>`(tactic| first | ((with_reducible refine' c_whole ?e ?_);(case e=>walk_at "l2kind")) | ((with_reducible refine' c_mask ?e ?_);(case e=>walk_at "l2kind")) | (with_reducible refine cz ?_) | (with_reducible refine s_methX ?_))
noncomputable def Kc:Sp:=fun vs H Q _=>∃ n:Int,vs=[.int n]∧∀ (v:V) (d:Dt) (H2:Hp),Same H H2→Tg H2 v d→(∀ p,v= .ref p→H p=none)→Q v H2
theorem stC {c j pos} {es:List Expr} {env:Env}:starEach (.Constant c j pos::es) env=(false,eval (.Constant c j pos) env)::starEach es env:=rfl
theorem stL {l pos} {es:List Expr} {env:Env}:starEach (.List l pos::es) env=(false,eval (.List l pos) env)::starEach es env:=rfl
noncomputable def LL:List Expr:=(.Constant (.str "zz9zz") 0 ⟨297,83,297,90⟩)::[]
noncomputable def FO:TA:=lV (tC (.str "zz9zz")) tNil
theorem NS {X:Cx}:PA X LL FO:=@aa X (.Constant (.str "zz9zz") 0 ⟨297,83,297,90⟩) [] (tC (.str "zz9zz")) tNil aM ad stC
noncomputable def LM:List Expr:=(.List [.Constant (.str "a") 0 ⟨297,77,297,80⟩] ⟨297,76,297,81⟩)::LL
noncomputable def FP:TA:=lV (tLst (lV (tC (.str "a")) tNil)) FO
theorem NT {X:Cx}:PA X LM FP:=@aa X (.List [.Constant (.str "a") 0 ⟨297,77,297,80⟩] ⟨297,76,297,81⟩) LL (tLst (lV (tC (.str "a")) tNil)) FO (bW (aa aM ad stC)) (@NS X) stL
noncomputable def Rg:List Expr:=(.List [] ⟨297,72,297,74⟩)::LM
noncomputable def M7:TA:=lV (tLst tNil) FP
theorem Qr {X:Cx}:PA X Rg M7:=@aa X (.List [] ⟨297,72,297,74⟩) LM (tLst tNil) FP (bW ad) (@NT X) stL
noncomputable def Rh:List Expr:=(.Constant (.bool true) 0 ⟨297,66,297,70⟩)::Rg
noncomputable def M8:TA:=lV (tC (.bl true)) M7
theorem Qt {X:Cx}:PA X Rh M8:=@aa X (.Constant (.bool true) 0 ⟨297,66,297,70⟩) Rg (tC (.bl true)) M7 Ba (@Qr X) stC
noncomputable def Ri:List Expr:=(.Constant (.int 7) 0 ⟨297,63,297,64⟩)::Rh
noncomputable def M9:TA:=lV (tC (.int 7)) M8
theorem Qu {X:Cx}:PA X Ri M9:=@aa X (.Constant (.int 7) 0 ⟨297,63,297,64⟩) Rh (tC (.int 7)) M8 ah (@Qt X) stC
noncomputable def Rj:List Expr:=(.Constant .none 0 ⟨297,57,297,61⟩)::Ri
noncomputable def Na:TA:=lV (tC .non) M9
theorem Qv {X:Cx}:PA X Rj Na:=@aa X (.Constant .none 0 ⟨297,57,297,61⟩) Ri (tC .non) M9 iM (@Qu X) stC
noncomputable def Rk:List Expr:=(.Constant (.str "a b") 0 ⟨297,50,297,55⟩)::Rj
noncomputable def Nb:TA:=lV (tC (.str "a b")) Na
theorem Qw {X:Cx}:PA X Rk Nb:=@aa X (.Constant (.str "a b") 0 ⟨297,50,297,55⟩) Rj (tC (.str "a b")) Na aM (@Qv X) stC
noncomputable def Rl:List Expr:=(.Constant (.str "a_b") 0 ⟨297,43,297,48⟩)::Rk
noncomputable def Nc:TA:=lV (tC (.str "a_b")) Nb
theorem Qx {X:Cx}:PA X Rl Nc:=@aa X (.Constant (.str "a_b") 0 ⟨297,43,297,48⟩) Rk (tC (.str "a_b")) Nb aM (@Qw X) stC
noncomputable def Rn:List Expr:=(.Constant (.str "abcdefg") 0 ⟨297,32,297,41⟩)::Rl
noncomputable def Nf:TA:=lV (tC (.str "abcdefg")) Nc
theorem Qy {X:Cx}:PA X Rn Nf:=@aa X (.Constant (.str "abcdefg") 0 ⟨297,32,297,41⟩) Rl (tC (.str "abcdefg")) Nc aM (@Qx X) stC
noncomputable def Rp:List Expr:=(.Constant (.str "1a") 0 ⟨297,26,297,30⟩)::Rn
noncomputable def Ng:TA:=lV (tC (.str "1a")) Nf
theorem Qz {X:Cx}:PA X Rp Ng:=@aa X (.Constant (.str "1a") 0 ⟨297,26,297,30⟩) Rn (tC (.str "1a")) Nf aM (@Qy X) stC
noncomputable def Rq:List Expr:=(.Constant (.str "A") 0 ⟨297,21,297,24⟩)::Rp
noncomputable def Nh:TA:=lV (tC (.str "A")) Ng
theorem QA {X:Cx}:PA X Rq Nh:=@aa X (.Constant (.str "A") 0 ⟨297,21,297,24⟩) Rp (tC (.str "A")) Ng aM (@Qz X) stC
noncomputable def LO:List Expr:=(.Constant (.str "") 0 ⟨297,17,297,19⟩)::Rq
noncomputable def JU:TA:=lV (tC (.str "")) Nh
theorem QB {X:Cx}:PA X LO JU:=@aa X (.Constant (.str "") 0 ⟨297,17,297,19⟩) Rq (tC (.str "")) Nh aM (@QA X) stC
theorem OH:aJ eh=[.Assign [.Name "_law_some" ⟨297,4,297,13⟩] (.List LO ⟨297,16,297,91⟩) ⟨297,4,297,91⟩,.Return (some (.Subscript (.Name "_law_some" ⟨298,11,298,20⟩) (.BinOp (.Name "_law_number" ⟨298,21,298,32⟩) .Mod (.Constant (.int 12) 0 ⟨298,35,298,37⟩) ⟨298,21,298,37⟩) ⟨298,11,298,38⟩)) ⟨298,4,298,38⟩]:=rfl
theorem S4 {X:Cx}:PE X (.List LO ⟨297,16,297,91⟩) (tLst JU):=@bW X LO JU ⟨297,16,297,91⟩ (@QB X)
theorem DQ (T:Tx K mg a):FnOk P w K mg base CX0 1 a.df a.pZ ["_law_number"] Kc:=by
 refine T.kQ.ok tM (fun vs H Q E h=>?_) (fun cdv A outer s H vs Q E hr h=>?_)
 ·obtain ⟨n,rfl,_⟩:=h;rfl
 ·obtain ⟨n,rfl,q⟩:=h
  rw [OH]
  have hp:=@S4 (cxOf CX0 P w K mg base ["_law_number","_law_some"] "_law_odd" (ae eh) a.df cdv A outer s H E).nox
  generalize htl:tLst JU=tl at hp
  generalize LO=es at hp ⊢
  refine ⟨_,((af (aX (i:=1) tM.nd rfl (by walk_at "o") hp)
   (ai (bi (aH (ar (K:=K) rfl) (pv 1) (aB ck (pv 0) ah) (fun _ _=>rfl)))))),aT (σ':=[some _,none]) rfl ?_⟩
  subst htl
  unfold JU Nh Ng Nf Nc Nb Na M9 M8 M7 FP FO
  walk_at "l2"
  intro L1 H1 f1 s1 e1
  walk_at "l2"
  intro L2 H2 f2 s2 e2
  walk_at "l2"
  intro L3 H3 f3 s3 e3
  walk_at "l2"
  obtain ⟨m,hm,lm⟩:=cA (c:=n) (m:=12) (by decide)
  rw [hm]
  have s13:=s2.trans s3
  have s03:=s1.trans s13
  have nr:∀ (v:V),(∀ p,v≠.ref p)→∀ p,v= .ref p→H p=none:=fun v h p e=>absurd e (h p)
  rcases (show m=0∨m=1∨m=2∨m=3∨m=4∨m=5∨m=6∨m=7∨m=8∨m=9∨m=10∨m=11 by omega) with rfl | rfl | rfl | rfl | rfl | rfl | rfl | rfl | rfl | rfl | rfl | rfl
  ·exact mi (SqL.of e3) (bz rfl) (q _ _ _ s03 (.str _ (by decide +kernel)) (nr _ fun p e=>by cases e))
  ·exact mi (SqL.of e3) (bz rfl) (q _ _ _ s03 (.str _ (by decide +kernel)) (nr _ fun p e=>by cases e))
  ·exact mi (SqL.of e3) (bz rfl) (q _ _ _ s03 (.str _ (by decide +kernel)) (nr _ fun p e=>by cases e))
  ·exact mi (SqL.of e3) (bz rfl) (q _ _ _ s03 (.str _ (by decide +kernel)) (nr _ fun p e=>by cases e))
  ·exact mi (SqL.of e3) (bz rfl) (q _ _ _ s03 (.str _ (by decide +kernel)) (nr _ fun p e=>by cases e))
  ·exact mi (SqL.of e3) (bz rfl) (q _ _ _ s03 (.str _ (by decide +kernel)) (nr _ fun p e=>by cases e))
  ·exact mi (SqL.of e3) (bz rfl) (q _ _ _ s03 .non (nr _ fun p e=>by cases e))
  ·exact mi (SqL.of e3) (bz rfl) (q _ _ _ s03 (.int 7) (nr _ fun p e=>by cases e))
  ·exact mi (SqL.of e3) (bz rfl) (q _ _ _ s03 (.bl true) (nr _ fun p e=>by cases e))
  ·exact mi (SqL.of e3) (bz rfl) (q _ _ _ s03 (.nil (s13.get e1)) (fun p e=>by cases e;exact f1))
  ·exact mi (SqL.of e3) (bz rfl) (q _ _ _ s03 (.one (by decide +kernel) (s3.get e2)) (fun p e=>by cases e;exact s1.free f2))
  ·exact mi (SqL.of e3) (bz rfl) (q _ _ _ s03 (.str _ (by decide +kernel)) (nr _ fun p e=>by cases e))
end
section
variable {P:Program} {w:World} {K:PySem.W.Frag} {mg:Str→Option Value} {base:Heap} {a:Ad}
local macro_rules | `(tactic| walk_at "l2step") =>`(tactic| first | ((with_reducible refine' c_whole ?e ?_);(case e=>walk_at "l2kind")) | ((with_reducible refine' c_mask ?e ?_);(case e=>walk_at "l2kind")) | (with_reducible refine cz ?_) | (with_reducible refine s_methX ?_))
local macro_rules | `(tactic| walk_at "l2step") =>`(tactic| first | (with_reducible refine SC ?_) | ((with_reducible refine' Gw ?a ?b ?_);(case a=>omega);(case b=>omega)))
noncomputable def Kb (K:PySem.W.Frag):Sp:=fun vs H Q _=>∃ (L i s t o:Addr) (c:Int) (is:List V) (rs:List RwT) (qs:List QsT) (os:List V) (k:Nat),vs=[.ref L,.int c]∧less H (R4 i s t o) L=some (.lst [.ref i,.ref s,.ref t,.ref o])∧LsA H i s t o is rs qs os∧is.length≤3∧rs.length≤6∧qs.length≤16∧os.length≤6∧k≤100∧(∀ r∈rs,r.2.2.2.length≤k)∧
 ∀ (H2:Hp) (is':List V) (rs':List RwT) (qs':List QsT) (os':List V),Same (less H (R4 i s t o)) (less H2 (R4 i s t o))→LsA H2 i s t o is' rs' qs' os'→is'.length=is.length→rs'.length=rs.length→qs'.length=qs.length→os'.length=os.length→(∀ r∈rs',r.2.2.2.length≤k + 1)→Q .non H2
theorem yN (T:Tx K mg a):FnOk P w K mg base CX0 2 a.cI a.km ["_law_lists","_law_cell_here"] (Kb K):=by
 have bC:=@jc P w K mg base a T
 have Jn:=@DQ P w K mg base a T
 refine T.h9.ok bG (fun vs H Q E h=>?_) (fun cdv A outer s H vs Q E hr h=>?_)
 ·obtain ⟨L,i,s,t,o,c,is,rs,qs,os,k,rfl,_⟩:=h;rfl
 ·obtain ⟨L,i,s,t,o,c,is,rs,qs,os,k,rfl,eL,la,li,ls,lt,lo,lk,lw,q⟩:=h
  have hu1:=jQ hr
  have eL':=aS.get eL
  have ei:=la.ei
  have es:=la.es
  have et:=la.et
  have eo:=la.eo
  refine ⟨_,((af (aX (i:=2) bG.nd rfl (by walk_at "o") (aL bC (hr.mono (by decide)) (by rfl) T.cb T.ca T.bN .nil bD (aa (pv 1) (aa ah ad))))
   (af (aX (i:=3) bG.nd rfl (by walk_at "o") (aB ck (pv 2) ah))
   (af (aX (i:=4) bG.nd rfl (by walk_at "o") (aH (ar (K:=K) rfl) (pv 0) (pv 3) (fun _ _=>rfl)))
   (af (aX (i:=5) bG.nd rfl (by walk_at "o") (aB ck (aB gI (pv 2) ah) (ay (Ma rfl) (by rfl) T.UI PyProof.Rows.boot_max (aa ah (aa (ay (aG (K:=K) rfl) (by rfl) T.di PySem.boot_len (aa (pv 4) ad)) ad)))))
   (af (aX (i:=6) bG.nd rfl (by walk_at "o") (aB ck (aB gI (pv 2) ah) ah))
   (af (aX (i:=7) bG.nd rfl (by walk_at "o") (aB iP (aB iP (aH (ar (K:=K) rfl) (pv 0) ah (fun _ _=>rfl)) (bj (osc:=ae cQ) (ON:=["_law_lists","_law_cell_here","_law_number","_law_side","_law_rows","_law_at","_law_way","_law_names","_law_fresh","_law_row","_law_wires_here"]) (N:=["_law_row"]) (n:=1) (fx:=[]) rfl rfl rfl (by decide +kernel) (ba (K:=K) rfl (aH (ar (K:=K) rfl) (pv 0) ah (fun _ _=>rfl))) (aO (by decide)) (fun _ _ _ _ _=>⟨(av (i:=0) (show List.Nodup (["_law_row"]:List Str) from by decide +kernel) rfl (by walk_at "o")),bB,(aH (bc (K:=K) rfl) (pv 0) ah (fun _ _=>rfl))⟩))) (bj (osc:=ae cQ) (ON:=["_law_lists","_law_cell_here","_law_number","_law_side","_law_rows","_law_at","_law_way","_law_names","_law_fresh","_law_row","_law_wires_here"]) (N:=["_law_row"]) (n:=1) (fx:=[]) rfl rfl rfl (by decide +kernel) (ba (K:=K) rfl (aH (ar (K:=K) rfl) (pv 0) ah (fun _ _=>rfl))) (aO (by decide)) (fun _ _ _ _ _=>⟨(av (i:=0) (show List.Nodup (["_law_row"]:List Str) from by decide +kernel) rfl (by walk_at "o")),bB,(aH (bc (K:=K) rfl) (pv 0) ah (fun _ _=>rfl))⟩))))
   (af (aX (i:=8) bG.nd rfl (by walk_at "o") (aL Jn (hr.mono (by decide)) (by rfl) T.ID T.Ie T.qf .nil bD (aa (aB gI (pv 2) ah) ad)))
   (DI (ci (PW.pt (lC (az io (pv 6) ah (aR _)) (i7 (az (im (K:=K) rfl hu1) (pv 7) (bW ad) (aR _))))) (ai (aX (i:=8) bG.nd rfl (by walk_at "o") (aH (ar (K:=K) rfl) (pv 7) (aB ck (aB gI (pv 2) ah) (ay (aG (K:=K) rfl) (by rfl) T.di PySem.boot_len (aa (pv 7) ad))) (fun _ _=>rfl)))) aK)
   (ai (ci (PW.pt (lC (az QC (pv 6) ah (aR _)) (i7 (az (im (K:=K) rfl hu1) (pv 4) (bW ad) (aR _))))) (ai (ci (az io (pv 3) ah (aR _)) (ai (qz (pv 8) (x8 (pv 4) (pv 5) kK))) (ai (qz (bV (aa (pv 8) (aa (aH (bc (K:=K) rfl) (aH (ar (K:=K) rfl) (pv 4) (pv 5) (fun _ _=>rfl)) ah (fun _ _=>rfl)) ad))) (x8 (pv 4) (pv 5) kK))))) (ai (ci (PW.pt (lC (az io (pv 6) ah (aR _)) (i7 (az (im (K:=K) rfl hu1) (aH (ar (K:=K) rfl) (pv 0) ah (fun _ _=>rfl)) (bW ad) (aR _))))) (af (aX (i:=9) bG.nd rfl (by walk_at "o") (aH (ar (K:=K) rfl) (aH (ar (K:=K) rfl) (pv 0) ah (fun _ _=>rfl)) (aB ck (aB gI (pv 2) ah) (ay (aG (K:=K) rfl) (by rfl) T.di PySem.boot_len (aa (aH (ar (K:=K) rfl) (pv 0) ah (fun _ _=>rfl)) ad))) (fun _ _=>rfl)))
   (af (aX (i:=10) bG.nd rfl (by walk_at "o") (aF (bM (K:=K) rfl) (by rfl) T.eu PyProof.Rows.boot_list (aa (aH (bc (K:=K) rfl) (pv 9) ah (fun _ _=>rfl)) ad)))
   (af (aZ (cZ (K:=K) rfl PySem.F.plainAttrs_list PySem.F.slot_list_insert PySem.F.type_list_insert K5 (pv 10) (aa (aB ck (aB gI (pv 2) ah) (aB c6 (ay (aG (K:=K) rfl) (by rfl) T.di PySem.boot_len (aa (pv 10) ad)) ah)) (aa (aH (bc (K:=K) rfl) (aH (ar (K:=K) rfl) (aH (ar (K:=K) rfl) (pv 0) ah (fun _ _=>rfl)) (aB ck (aB gI (pv 2) ah) (ay (aG (K:=K) rfl) (by rfl) T.di PySem.boot_len (aa (aH (ar (K:=K) rfl) (pv 0) ah (fun _ _=>rfl)) ad))) (fun _ _=>rfl)) ah (fun _ _=>rfl)) ad))))
   (ai (qz (bV (aa (aH (bc (K:=K) rfl) (pv 9) ah (fun _ _=>rfl)) (aa (pv 10) ad))) (x8 (aH (ar (K:=K) rfl) (pv 0) ah (fun _ _=>rfl)) (aB ck (aB gI (pv 2) ah) (ay (aG (K:=K) rfl) (by rfl) T.di PySem.boot_len (aa (aH (ar (K:=K) rfl) (pv 0) ah (fun _ _=>rfl)) ad))) kK)))))) (ai (ci (PW.pt (lC (az io (pv 6) ah (aR _)) (i7 (az (im (K:=K) rfl hu1) (aH (ar (K:=K) rfl) (pv 0) ah (fun _ _=>rfl)) (bW ad) (aR _))))) (ai (qz (pv 8) (x8 (aH (ar (K:=K) rfl) (pv 0) ah (fun _ _=>rfl)) (aB ck (aB gI (pv 2) ah) (ay (aG (K:=K) rfl) (by rfl) T.di PySem.boot_len (aa (aH (ar (K:=K) rfl) (pv 0) ah (fun _ _=>rfl)) ad))) kK))) (ai (ci (PW.pt (lC (az io (pv 6) ah (aR _)) (lC (az nS (pv 3) ah (aR _)) (i7 (az (im (K:=K) rfl hu1) (pv 4) (bW ad) (aR _)))))) (ai (ci (az io (pv 3) ah (aR _)) (ai (qz (bV (aa (aH (bc (K:=K) rfl) (aH (ar (K:=K) rfl) (pv 4) (pv 5) (fun _ _=>rfl)) ah (fun _ _=>rfl)) (aa (aB iP (kM (kJ (K:=K) rfl) (aF (bM (K:=K) rfl) (by rfl) T.eu PyProof.Rows.boot_list (aa (aH (bc (K:=K) rfl) (aH (ar (K:=K) rfl) (pv 4) (pv 5) (fun _ _=>rfl)) ah (fun _ _=>rfl)) ad)) (pi ah) pj) (bW (aa (pv 8) ad))) ad))) (x8 (pv 4) (pv 5) kK))) (ai (qz (bV (aa (aH (bc (K:=K) rfl) (aH (ar (K:=K) rfl) (pv 4) (pv 5) (fun _ _=>rfl)) ah (fun _ _=>rfl)) (aa (pv 8) ad))) (x8 (pv 4) (pv 5) kK))))) aK))))))))))))))))),aT (σ':=[some _,some _,none,none,none,none,none,none,none,none,none]) rfl ?_⟩
  have n0:=QU c 600
  have n1:=QV c 600
  walk_at "l2"
  generalize mixV c 600=n at n0 n1 ⊢
  obtain ⟨sd,hsd,lsd⟩:=cA (c:=n) (m:=3) (by decide)
  rw [hsd]
  obtain ⟨b,xs,hb,eb,rx,hx⟩:=la.side (sd:=sd) (by omega)
  have hb:=bz hb
  walk_at "l2"
  refine ⟨1,(xs.length:Int),rfl,?_⟩
  have hmx:0 < (if (xs.length:Int) > 1 then (xs.length:Int) else 1):=by split<;>omega
  obtain ⟨at',hat,lat⟩:=cA (c:=n / 3) hmx
  refine s_rI hmx ?_
  dsimp only
  rw [hat]
  have lat:xs≠[]→at' < xs.length:=fun h=>by
   have:=List.length_pos_iff.mpr h
   split at lat<;>omega
  clear hat
  obtain ⟨wy,hwy,lwy⟩:=cA (c:=n / 100) (m:=5) (by decide)
  walk_at "l2"
  rw [hwy]
  walk_at "l2"
  intro D1 hD1
  refine bg (xs:=rs.map fun r=>V.ref r.1) (fun i ys H'=>Cs (fun i ys=>ys=(rs.take i).map (·.2.2.1)) H D1 i ys H') (Cs.zero hD1 rfl) (fun i ys H' _ c=>SqL.of (c.same.get es)) (fun i x ys H' hx c=>?_) (fun ys H1 c=>?_)
  ·obtain ⟨r,hr',rfl⟩:=be hx
   have hlt:=(List.getElem?_eq_some_iff.mp hr').1
   have er:=c.same.get (aS.get (la.sr r (List.mem_of_getElem? hr')).1)
   walk_at "l2"
   refine Cs.put hD1 c.same c.at' c.len (by omega) ?_
   rw [c.pv,take_succ hr',List.map_append];rfl
  have e1:=c.at'
  rw [c.pv,List.length_map,List.take_length] at e1
  have s1:=c.same
  clear c
  refine pe (s1.get ei) e1 (by rw [List.length_map,sizeLine_eq];omega) fun D2 H2 f2 s2 e2=>?_
  have s02:=s1.trans s2
  have et2:=s02.get et
  walk_at "l2"
  intro D3 hD3
  refine bg (xs:=qs.map fun r=>V.ref r.1) (fun i ys H'=>Cs (fun i ys=>ys=(qs.take i).map (·.2.1)) H2 D3 i ys H') (Cs.zero hD3 rfl) (fun i ys H' _ c=>SqL.of (c.same.get et2)) (fun i x ys H' hx c=>?_) (fun ys H3 c=>?_)
  ·obtain ⟨r,hr',rfl⟩:=be hx
   have hlt:=(List.getElem?_eq_some_iff.mp hr').1
   have er:=(s02.trans c.same).get (aS.get (la.tr r (List.mem_of_getElem? hr')))
   walk_at "l2"
   refine Cs.put hD3 c.same c.at' c.len (by omega) ?_
   rw [c.pv,take_succ hr',List.map_append];rfl
  have e3:=c.at'
  rw [c.pv,List.length_map,List.take_length] at e3
  have s3:=c.same
  clear c
  refine pe (s3.get e2) e3 (by rw [List.length_append,List.length_map,List.length_map,sizeLine_eq];omega) fun D4 H4 f4 s4 e4=>?_
  have s04:=s02.trans (s3.trans s4)
  walk_at "l2"
  refine ⟨n / 500,rfl,fun v d H5 s5 tg fr=>?_⟩
  have s05:=s04.trans s5
  have la5:=la.same s05
  have ei5:=s05.get ei
  have es5:=s05.get es
  have et5:=s05.get et
  have eo5:=s05.get eo
  have eL5:=s05.get eL'
  have eb5:=s05.get eb
  have eN5:=s5.get e4
  have th5:Th (less H5 (R4 i s t o)) v:=la.thn tg fun p e=>s04.free (fr p e)
  clear eL' ei es et eo e4 e3 e2 e1 et2 f2 f4 eb
  walk_at "l2"
  obtain ⟨nm,eN5,tN5⟩:∃ nm,H5 D4=some (.lst nm)∧∀ v∈nm,Th (less H5 (R4 i s t o)) v:=⟨_,eN5,la5.nms⟩
  refine s_cut (fun σ' H'=>∃ v',Th (less H' (R4 i s t o)) v'∧Same H5 H'∧σ'=[some (.ref L),some (.int c),some (.int n),some (.int sd),some (.ref b),some (.int at'),some (.int wy),some (.ref D4),some v',none,none]) ?_ ?_
  ·walk_at "l2"
   by_cases h0:wy=0
   rotate_left
   ·dsimp only
    refine gl (decide_eq_false fun z=>h0 (by have:=V.int.inj z;omega)) ?_
    walk_at "l2"
    exact ⟨v,th5,Same.refl _,rfl⟩
   ·dsimp only
    refine i4 (decide_eq_true (by rw [h0];rfl)) ?_
    walk_at "l2"
    intro D6 H6 f6 s6 e6
    have eN6:=s6.get eN5
    refine fS (neg:=true) eN6 (fun v hv=>up9 (((tN5 v hv).up.same s6).rep8)) e6 ?_
    cases nm with
    | nil=>
      walk_at "l2"
      exact ⟨v,th5.same (aD s6),s6,rfl⟩
    | cons y ys=>
      walk_at "l2"
      obtain ⟨j,hj,lj⟩:=cA (c:=n / 500) (m:=((y::ys).length:Int)) (by rw [List.length_cons];omega)
      refine s_rI (by rw [List.length_cons];omega) ?_
      dsimp only
      rw [hj]
      obtain ⟨r,hr1,hr2⟩:=fT (l:=y::ys) (j:=j) (by omega)
      have hr1:=bz hr1
      walk_at "l2"
      exact ⟨r,(tN5 r hr2).same (aD s6),s6,rfl⟩
  ·rintro σ' H6 ⟨v',th6,s56,rfl⟩
   have s06:=s05.trans s56
   have la6:=la.same s06
   have fin:∀ H',Same H H'→Q .non H':=fun H' s=>q H' is rs qs os (aD s) (la.same s) rfl rfl rfl rfl fun r hr=>Nat.le_succ_of_le (lw r hr)
   have eb6:=s56.get eb5
   have es6:=s56.get es5
   have eo6:=s56.get eo5
   have eL6:=s56.get eL5
   clear eb5 es5 ei5 et5 eo5 eL5 eN5 tN5
   walk_at "l2"
   by_cases h0:wy < 2
   ·dsimp only
    refine i4 (decide_eq_true (by omega)) ?_
    walk_at "l2"
    intro D7 H7 f7 s7 e7
    have s07:=s06.trans s7
    have la7:=la.same s07
    refine fS (neg:=true) (s7.get eb6) (fun v hv=>by obtain ⟨d,r1,r2⟩:=rx K v hv;exact ⟨d,r1.same s07,r2⟩) e7 ?_
    by_cases hxs:xs=[]
    ·rw [hxs]
     walk_at "l2"
     dsimp only
     refine gl (decide_eq_false fun z=>by have:=V.int.inj z;omega) ?_
     walk_at "l2"
     dsimp only
     refine gl (decide_eq_false fun z=>by have:=V.int.inj z;omega) ?_
     walk_at "l2"
     dsimp only
     refine gl (decide_eq_false fun z=>by have:=V.int.inj z;omega) ?_
     walk_at "l2"
     exact fin H7 s07
    ·have hE:xs.isEmpty=false:=by cases xs with
      | nil=>exact absurd rfl hxs
      | cons=>rfl
     rw [hE]
     have hj:=lat hxs
     have eb7:=s7.get eb6
     have th7:=th6.same (aD s7)
     walk_at "l2"
     rcases hx with ⟨rfl,rfl,rfl⟩ | ⟨rfl,rfl,rfl⟩ | ⟨rfl,rfl,rfl⟩
     ·walk_at "l2"
      refine tR (j:=at') eb7 hj fun H8 u8=>?_
      obtain ⟨l8,s8⟩:=la.putI s07 th7 u8
      exact q H8 _ rs qs os s8 l8 List.length_set rfl rfl rfl fun r hr=>Nat.le_succ_of_le (lw r hr)
     ·obtain ⟨r,hr1,hr2⟩:=fT (l:=rs) (j:=at') (by rw [List.length_map] at hj;exact hj)
      have hr3:atI (rs.map fun r=>V.ref r.1) (at':Int)=some (.ref r.1):=bz (by rw [List.getElem?_map,hr1];rfl)
      have er:=aS.get (la7.sr r hr2).1
      walk_at "l2"
      intro D8 H8 f8 s8 e8
      walk_at "l2"
      refine tR (j:=at') (s8.get eb7) hj fun H9 u9=>?_
      obtain ⟨l9,s9⟩:=la.putS (s07.trans s8) (l:=r.2.1) (ws:=r.2.2.2) (by rw [bH (la7.fresh f8)];exact e8) ((aD s8).get (la7.sr r hr2).2) (th7.same (aD s8)) (fun w hw=>(la7.tw r hr2 w hw).same (aD s8)) u9
      exact q H9 is _ qs os s9 l9 rfl List.length_set rfl rfl fun r' hr'=>by
       rcases fB hr' with h | rfl
       ·exact Nat.le_succ_of_le (lw r' h)
       ·exact Nat.le_succ_of_le (lw r hr2)
     ·obtain ⟨r,hr1,hr2⟩:=fT (l:=qs) (j:=at') (by rw [List.length_map] at hj;exact hj)
      have hr3:atI (qs.map fun r=>V.ref r.1) (at':Int)=some (.ref r.1):=bz (by rw [List.getElem?_map,hr1];rfl)
      have er:=aS.get (la7.tr r hr2)
      walk_at "l2"
      intro D8 H8 f8 s8 e8
      walk_at "l2"
      refine tR (j:=at') (s8.get eb7) hj fun H9 u9=>?_
      obtain ⟨l9,s9⟩:=la.putT (s07.trans s8) (by rw [bH (la7.fresh f8)];exact e8) (th7.same (aD s8)) ((la7.ty r hr2).same (aD s8)) u9
      exact q H9 is rs _ os s9 l9 rfl rfl List.length_set rfl fun r hr=>Nat.le_succ_of_le (lw r hr)
   ·dsimp only
    refine gl (decide_eq_false (by omega)) ?_
    walk_at "l2"
    by_cases h2:wy=2
    ·dsimp only
     refine i4 (decide_eq_true (by rw [h2];rfl)) ?_
     walk_at "l2"
     intro D7 H7 f7 s7 e7
     have s07:=s06.trans s7
     have la7:=la.same s07
     refine fS (neg:=true) la7.es la7.repS e7 ?_
     by_cases hxs:rs=[]
     ·have hE:(rs.map fun r=>V.ref r.1).isEmpty=true:=by rw [hxs];rfl
      rw [hE]
      walk_at "l2"
      dsimp only
      refine gl (decide_eq_false fun z=>by have:=V.int.inj z;omega) ?_
      walk_at "l2"
      dsimp only
      refine gl (decide_eq_false fun z=>by have:=V.int.inj z;omega) ?_
      walk_at "l2"
      exact fin H7 s07
     ·have hE:(rs.map fun r=>V.ref r.1).isEmpty=false:=by cases rs with
       | nil=>exact absurd rfl hxs
       | cons=>rfl
      rw [hE]
      have lp:=List.length_pos_iff.mpr hxs
      have es7:=la7.es
      have eL7:=s7.get eL6
      walk_at "l2"
      obtain ⟨j,hj,lj⟩:=cA (c:=n / 3) (m:=(rs.length:Int)) (by omega)
      obtain ⟨r,hr1,hr2⟩:=fT (l:=rs) (j:=j) (by omega)
      have hr3:atI (rs.map fun r=>V.ref r.1) (j:Int)=some (.ref r.1):=bz (by rw [List.getElem?_map,hr1];rfl)
      have er:=aS.get (la7.sr r hr2).1
      have ew:=aS.get (la7.sr r hr2).2
      rw [List.length_map]
      refine s_rI (by omega) ?_
      dsimp only
      rw [hj]
      walk_at "l2"
      intro D8 H8 f8 s8 e8
      have lwr:=lw r hr2
      walk_at "l2"
      obtain ⟨j2,hj2,lj2⟩:=cA (c:=n / 7000) (m:=(rs.length:Int)) (by omega)
      obtain ⟨r2,hr21,hr22⟩:=fT (l:=rs) (j:=j2) (by omega)
      have hr23:atI (rs.map fun r=>V.ref r.1) (j2:Int)=some (.ref r2.1):=bz (by rw [List.getElem?_map,hr21];rfl)
      have er2:=s8.get (aS.get (la7.sr r2 hr22).1)
      have es8:=s8.get es7
      rw [List.length_map]
      refine s_rI (by omega) ?_
      dsimp only
      rw [hj2]
      walk_at "l2"
      obtain ⟨j3,hj3,lj3⟩:=cA (c:=n / 500) (m:=(r.2.2.2.length:Int) + 1) (by omega)
      rw [hj3]
      refine NC (k:=j3) e8 (by omega) (by omega) (by rw [sizeLine_eq];omega) fun H9 u9=>?_
      have s79:Same H7 H9:=fun b ob e=>u9.oth _ _ (al e f8) (s8.get e)
      have er9:=s79.get er
      have es9:=s79.get es7
      have eL9:=s79.get eL7
      have s09:=s07.trans s79
      have la9:=la.same s09
      clear es8 er2 eL7 es7 hr23 er e7 eL6 es6 eo6 eb6
      walk_at "l2"
      intro D10 H10 f10 s10 e10
      have es10:=s10.get es9
      walk_at "l2"
      rw [List.length_map]
      try refine s_rI (by omega) ?_
      try dsimp only
      rw [hj]
      refine tR (j:=j) es10 (by rw [List.length_map];omega) fun H11 u11=>?_
      obtain ⟨l9,s9⟩:=la.putS (s09.trans s10) (b:=D10) (l:=D8) (v:=r.2.2.1) (by rw [bH (la9.fresh f10)];exact e10) (by rw [bH (la7.fresh f8)];exact s10.get u9.at') ((la9.tn r hr2).same (aD s10)) (fun w hw=>by
       have la10:=la9.same s10
       rcases List.mem_append.mp hw with h | h
       ·exact la10.tw r hr2 w (List.mem_of_mem_take h)
       ·rcases List.mem_cons.mp h with rfl | h
        ·exact la10.tn r2 hr22
        ·exact la10.tw r hr2 w (List.mem_of_mem_drop h)) u11
      exact q H11 is _ qs os s9 l9 rfl List.length_set rfl rfl fun r' hr'=>by
       rcases fB hr' with h | rfl
       ·exact Nat.le_succ_of_le (lw r' h)
       ·show (r.2.2.2.take j3++_::r.2.2.2.drop j3).length≤_
        rw [List.length_append,List.length_cons,List.length_take,List.length_drop];omega
    ·dsimp only
     refine gl (decide_eq_false fun z=>h2 (by have:=V.int.inj z;omega)) ?_
     walk_at "l2"
     by_cases h3:wy=3
     ·dsimp only
      refine i4 (decide_eq_true (by rw [h3];rfl)) ?_
      walk_at "l2"
      intro D7 H7 f7 s7 e7
      have s07:=s06.trans s7
      have la7:=la.same s07
      refine fS (neg:=true) la7.eo la7.repO e7 ?_
      by_cases hxs:os=[]
      ·have hE:os.isEmpty=true:=by rw [hxs];rfl
       rw [hE]
       walk_at "l2"
       dsimp only
       refine gl (decide_eq_false fun z=>by have:=V.int.inj z;omega) ?_
       walk_at "l2"
       exact fin H7 s07
      ·have hE:os.isEmpty=false:=by cases os with
        | nil=>exact absurd rfl hxs
        | cons=>rfl
       rw [hE]
       have lp:=List.length_pos_iff.mpr hxs
       have eo7:=la7.eo
       have eL7:=s7.get eL6
       walk_at "l2"
       obtain ⟨j,hj,lj⟩:=cA (c:=n / 3) (m:=(os.length:Int)) (by omega)
       rw [hj]
       refine tR (j:=j) eo7 (by omega) fun H8 u8=>?_
       obtain ⟨l8,s8⟩:=la.putO s07 (th6.same (aD s7)) u8
       exact q H8 is rs qs _ s8 l8 rfl rfl rfl List.length_set fun r hr=>Nat.le_succ_of_le (lw r hr)
     ·dsimp only
      refine gl (decide_eq_false fun z=>h3 (by have:=V.int.inj z;omega)) ?_
      walk_at "l2"
      have h4:wy=4:=by omega
      dsimp only
      refine i4 (decide_eq_true (by rw [h4];rfl)) ?_
      walk_at "l2"
      by_cases h5:sd=0
      ·dsimp only
       refine gl (decide_eq_false (by omega)) ?_
       walk_at "l2"
       exact fin H6 s06
      ·dsimp only
       refine i4 (decide_eq_true (by omega)) ?_
       walk_at "l2"
       intro D7 H7 f7 s7 e7
       have s07:=s06.trans s7
       have la7:=la.same s07
       refine fS (neg:=true) (s7.get eb6) (fun v hv=>by obtain ⟨d,r1,r2⟩:=rx K v hv;exact ⟨d,r1.same s07,r2⟩) e7 ?_
       by_cases hxs:xs=[]
       ·rw [hxs]
        walk_at "l2"
        exact fin H7 s07
       ·have hE:xs.isEmpty=false:=by cases xs with
         | nil=>exact absurd rfl hxs
         | cons=>rfl
        rw [hE]
        have hj:=lat hxs
        have eb7:=s7.get eb6
        have th7:=th6.same (aD s7)
        rcases hx with ⟨h0,_⟩ | ⟨rfl,rfl,rfl⟩ | ⟨rfl,rfl,rfl⟩
        ·exact absurd h0 h5
        ·obtain ⟨r,hr1,hr2⟩:=fT (l:=rs) (j:=at') (by rw [List.length_map] at hj;exact hj)
         have hr3:atI (rs.map fun r=>V.ref r.1) (at':Int)=some (.ref r.1):=bz (by rw [List.getElem?_map,hr1];rfl)
         have er:=aS.get (la7.sr r hr2).1
         have ew:=aS.get (la7.sr r hr2).2
         walk_at "l2"
         intro D8 H8 f8 s8 e8
         walk_at "l2"
         intro D9 H9 f9 s9 e9
         walk_at "l2"
         intro D10 H10 f10 s10 e10
         have lwr:=lw r hr2
         have lcut:=vB r.2.2.2 (some 1) none
         refine pe (s10.get e9) e10 (by rw [List.length_singleton,sizeLine_eq];omega) fun D11 H11 f11 s11 e11=>?_
         have s711:=((s8.trans s9).trans s10).trans s11
         have s710:=(s8.trans s9).trans s10
         have la11:=la7.same s711
         have eb11:=s711.get eb7
         walk_at "l2"
         intro D12 H12 f12 s12 e12
         walk_at "l2"
         refine tR (j:=at') (s12.get eb11) hj fun H13 u13=>?_
         have s712:=s711.trans s12
         obtain ⟨l9,s9⟩:=la.putS (s07.trans s712) (b:=D12) (l:=D11) (v:=r.2.2.1) (by rw [bH (la11.fresh f12)];exact e12) (by rw [bH (la7.fresh (s710.free f11))];exact s12.get e11) ((la11.tn r hr2).same (aD s12)) (fun w hw=>by
          rcases List.mem_append.mp hw with h | h
          ·exact (la11.same s12).tw r hr2 w (List.mem_of_mem_drop (List.mem_of_mem_take h))
          ·rw [List.mem_singleton.mp h];exact th7.same (aD s712)) u13
         exact q H13 is _ qs os s9 l9 rfl List.length_set rfl rfl fun r' hr'=>by
          rcases fB hr' with h | rfl
          ·exact Nat.le_succ_of_le (lw r' h)
          ·show (cutV r.2.2.2 (some 1) none++[v']).length≤_
           rw [List.length_append,List.length_singleton];omega
        ·obtain ⟨r,hr1,hr2⟩:=fT (l:=qs) (j:=at') (by rw [List.length_map] at hj;exact hj)
         have hr3:atI (qs.map fun r=>V.ref r.1) (at':Int)=some (.ref r.1):=bz (by rw [List.getElem?_map,hr1];rfl)
         have er:=aS.get (la7.tr r hr2)
         walk_at "l2"
         intro D8 H8 f8 s8 e8
         walk_at "l2"
         refine tR (j:=at') (s8.get eb7) hj fun H9 u9=>?_
         obtain ⟨l9,s9⟩:=la.putT (s07.trans s8) (by rw [bH (la7.fresh f8)];exact e8) ((la7.tm r hr2).same (aD s8)) (th7.same (aD s8)) u9
         exact q H9 is rs _ os s9 l9 rfl rfl List.length_set rfl fun r hr=>Nat.le_succ_of_le (lw r hr)
end
section
variable {P:Program} {w:World} {K:PySem.W.Frag} {mg:Str→Option Value} {base:Heap} {a:Ad}
local macro_rules | `(tactic| walk_at "l2step") =>`(tactic| first | ((with_reducible refine' c_whole ?e ?_);(case e=>walk_at "l2kind")) | ((with_reducible refine' c_mask ?e ?_);(case e=>walk_at "l2kind")) | (with_reducible refine cz ?_) | (with_reducible refine s_methX ?_))
noncomputable def G2:Sp:=fun vs H Q _=>∃ (L i s t o:Addr) (n:Nat) (is:List V) (rs:List RwT) (qs:List QsT) (os:List V),vs=[.ref L,.int n]∧less H (R4 i s t o) L=some (.lst [.ref i,.ref s,.ref t,.ref o])∧LsA H i s t o is rs qs os∧is.length≤3∧rs.length≤6∧qs.length≤16∧os.length≤6∧
 ∀ (H2:Hp) (is':List V) (rs':List RwT) (qs':List QsT) (os':List V),Same (less H (R4 i s t o)) (less H2 (R4 i s t o))→LsA H2 i s t o is' rs' qs' os'→is'.length≤100→rs'.length≤100→qs'.length≤100→os'.length≤100→Q .non H2
theorem Bk (T:Tx K mg a):FnOk P w K mg base CX0 1 a.cV a.mX ["_law_lists","_law_number"] G2:=by
 refine T.jv.ok AU (fun vs H Q E h=>?_) (fun cdv A outer s H vs Q E hr h=>?_)
 ·obtain ⟨L,i,s,t,o,n,is,rs,qs,os,rfl,_⟩:=h;rfl
 ·obtain ⟨L,i,s,t,o,n,is,rs,qs,os,rfl,eL,la,li,ls,lt,lo,q⟩:=h
  have eL':=aS.get eL
  have ei:=la.ei
  have es:=la.es
  have et:=la.et
  have eo:=la.eo
  refine ⟨_,((af (ci (az io (pv 1) ah (aR _)) (ai (aZ (cZ (K:=K) rfl PySem.F.plainAttrs_list PySem.F.slot_list_extend PySem.F.type_list_extend c7 (aH (ar (K:=K) rfl) (pv 0) ah (fun _ _=>rfl)) (aa (bj (osc:=ae cf) (ON:=["_law_lists","_law_number"]) (N:=["_law_k"]) (n:=1) (fx:=[]) rfl rfl rfl (by decide +kernel) (cx (by rfl) T.d9 (aa ah ad)) (aO (by decide)) (fun _ _ _ _ _=>⟨(av (i:=0) (show List.Nodup (["_law_k"]:List Str) from by decide +kernel) rfl (by walk_at "o")),bB,(aB bo (aB bo aM (aF cJ (by rfl) T.uI PyProof.Rows.boot_str (aa (pv 0) ad))) aM)⟩)) ad)))) aK)
   (af (ci (az io (pv 1) ah (aR _)) (ai (aZ (cZ (K:=K) rfl PySem.F.plainAttrs_list PySem.F.slot_list_extend PySem.F.type_list_extend c7 (aH (ar (K:=K) rfl) (pv 0) ah (fun _ _=>rfl)) (aa (bj (osc:=ae cf) (ON:=["_law_lists","_law_number"]) (N:=["_law_k"]) (n:=1) (fx:=[]) rfl rfl rfl (by decide +kernel) (cx (by rfl) T.d9 (aa ah ad)) (aO (by decide)) (fun _ _ _ _ _=>⟨(av (i:=0) (show List.Nodup (["_law_k"]:List Str) from by decide +kernel) rfl (by walk_at "o")),bB,(bV (aa (aB bo (aB bo aM (aF cJ (by rfl) T.uI PyProof.Rows.boot_str (aa (pv 0) ad))) aM) (aa (bW ad) ad)))⟩)) ad)))) aK)
   (af (ci (az io (pv 1) ah (aR _)) (ai (aZ (cZ (K:=K) rfl PySem.F.plainAttrs_list PySem.F.slot_list_extend PySem.F.type_list_extend c7 (aH (ar (K:=K) rfl) (pv 0) ah (fun _ _=>rfl)) (aa (bj (osc:=ae cf) (ON:=["_law_lists","_law_number"]) (N:=["_law_k"]) (n:=1) (fx:=[]) rfl rfl rfl (by decide +kernel) (cx (by rfl) T.d9 (aa ah ad)) (aO (by decide)) (fun _ _ _ _ _=>⟨(av (i:=0) (show List.Nodup (["_law_k"]:List Str) from by decide +kernel) rfl (by walk_at "o")),bB,(bV (aa (aB bo (aB bo aM (aF cJ (by rfl) T.uI PyProof.Rows.boot_str (aa (pv 0) ad))) aM) (aa (aB bo (aB bo aM (aF cJ (by rfl) T.uI PyProof.Rows.boot_str (aa (pv 0) ad))) aM) ad)))⟩)) ad)))) aK)
   (af (ci (az io (pv 1) ah (aR _)) (af (aZ (cZ (K:=K) rfl PySem.F.plainAttrs_list PySem.F.slot_list_append PySem.F.type_list_append dR (aH (ar (K:=K) rfl) (pv 0) ah (fun _ _=>rfl)) (aa (bV (aa aM (aa aM ad))) ad)))
   (ai (aZ (cZ (K:=K) rfl PySem.F.plainAttrs_list PySem.F.slot_list_extend PySem.F.type_list_extend c7 (aH (ar (K:=K) rfl) (pv 0) ah (fun _ _=>rfl)) (aa (aB F0 (bW (aa aM ad)) ah) ad))))) aK)
   (af (ci (az io (pv 1) ah (aR _)) (ai (aZ (cZ (K:=K) rfl PySem.F.plainAttrs_list PySem.F.slot_list_append PySem.F.type_list_append dR (aH (ar (K:=K) rfl) (pv 0) ah (fun _ _=>rfl)) (aa (bV (aa aM (aa (aB F0 (bW (aa aM ad)) ah) ad))) ad)))) aK)
   (af (ci (az io (pv 1) ah (aR _)) (af (aZ (cZ (K:=K) rfl PySem.F.plainAttrs_list PySem.F.slot_list_append PySem.F.type_list_append dR (aH (ar (K:=K) rfl) (pv 0) ah (fun _ _=>rfl)) (aa (bV (aa aM (aa aM ad))) ad)))
   (ai (aZ (cZ (K:=K) rfl PySem.F.plainAttrs_list PySem.F.slot_list_append PySem.F.type_list_append dR (aH (ar (K:=K) rfl) (pv 0) ah (fun _ _=>rfl)) (aa (bV (aa aM (aa (aB F0 (bW (aa aM ad)) ah) ad))) ad))))) aK)
   (af (ci (az io (pv 1) ah (aR _)) (af (aZ (cZ (K:=K) rfl PySem.F.plainAttrs_list PySem.F.slot_list_extend PySem.F.type_list_extend c7 (aH (ar (K:=K) rfl) (pv 0) ah (fun _ _=>rfl)) (aa (bj (osc:=ae cf) (ON:=["_law_lists","_law_number"]) (N:=["_law_k"]) (n:=1) (fx:=[]) rfl rfl rfl (by decide +kernel) (cx (by rfl) T.d9 (aa (aB ud ah (ay (aG (K:=K) rfl) (by rfl) T.di PySem.boot_len (aa (aH (ar (K:=K) rfl) (pv 0) ah (fun _ _=>rfl)) ad))) ad)) (aO (by decide)) (fun _ _ _ _ _=>⟨(av (i:=0) (show List.Nodup (["_law_k"]:List Str) from by decide +kernel) rfl (by walk_at "o")),bB,(aB bo (aB bo aM (aF cJ (by rfl) T.uI PyProof.Rows.boot_str (aa (pv 0) ad))) aM)⟩)) ad)))
   (ai (aZ (cZ (K:=K) rfl PySem.F.plainAttrs_list PySem.F.slot_list_extend PySem.F.type_list_extend c7 (aH (ar (K:=K) rfl) (pv 0) ah (fun _ _=>rfl)) (aa (bj (osc:=ae cf) (ON:=["_law_lists","_law_number"]) (N:=["_law_k"]) (n:=1) (fx:=[]) rfl rfl rfl (by decide +kernel) (cx (by rfl) T.d9 (aa (aB ud ah (ay (aG (K:=K) rfl) (by rfl) T.di PySem.boot_len (aa (aH (ar (K:=K) rfl) (pv 0) ah (fun _ _=>rfl)) ad))) ad)) (aO (by decide)) (fun _ _ _ _ _=>⟨(av (i:=0) (show List.Nodup (["_law_k"]:List Str) from by decide +kernel) rfl (by walk_at "o")),bB,(bV (aa (aB bo (aB bo aM (aF cJ (by rfl) T.uI PyProof.Rows.boot_str (aa (pv 0) ad))) aM) (aa (bW ad) ad)))⟩)) ad))))) aK)
   (ai (ci (az io (pv 1) ah (aR _)) (af (aZ (cZ (K:=K) rfl PySem.F.plainAttrs_list PySem.F.slot_list_extend PySem.F.type_list_extend c7 (aH (ar (K:=K) rfl) (pv 0) ah (fun _ _=>rfl)) (aa (bj (osc:=ae cf) (ON:=["_law_lists","_law_number"]) (N:=["_law_k"]) (n:=1) (fx:=[]) rfl rfl rfl (by decide +kernel) (cx (by rfl) T.d9 (aa (aB ud ah (ay (aG (K:=K) rfl) (by rfl) T.di PySem.boot_len (aa (aH (ar (K:=K) rfl) (pv 0) ah (fun _ _=>rfl)) ad))) ad)) (aO (by decide)) (fun _ _ _ _ _=>⟨(av (i:=0) (show List.Nodup (["_law_k"]:List Str) from by decide +kernel) rfl (by walk_at "o")),bB,(bV (aa (aB bo (aB bo aM (aF cJ (by rfl) T.uI PyProof.Rows.boot_str (aa (pv 0) ad))) aM) (aa (aB bo (aB bo aM (aF cJ (by rfl) T.uI PyProof.Rows.boot_str (aa (pv 0) ad))) aM) ad)))⟩)) ad)))
   (ai (aZ (cZ (K:=K) rfl PySem.F.plainAttrs_list PySem.F.slot_list_extend PySem.F.type_list_extend c7 (aH (ar (K:=K) rfl) (pv 0) ah (fun _ _=>rfl)) (aa (aB F0 (bW (aa (aH (bc (K:=K) rfl) (aH (ar (K:=K) rfl) (aH (ar (K:=K) rfl) (pv 0) ah (fun _ _=>rfl)) ah (fun _ _=>rfl)) ah (fun _ _=>rfl)) ad)) (aB ud ah (ay (aG (K:=K) rfl) (by rfl) T.di PySem.boot_len (aa (aH (ar (K:=K) rfl) (pv 0) ah (fun _ _=>rfl)) ad)))) ad))))) aK)))))))))),aT (σ':=[some _,some _]) rfl ?_⟩
  by_cases h1:n=1
  ·subst h1
   walk_at "l2"
   intro D hD
   refine dh (fun i ys H'=>Cs (fun i ys=>∀ w∈ys,∃ y:Str,w= .str y∧y.length≤1000) H D i ys H') (Cs.zero hD (fun _ h=>by cases h)) (fun k ys H' hk cs=>?_) (fun ys H1 cs=>?_)
   ·walk_at "l2"
    rw [Int.zero_add]
    have lc:(Str.ofString "v").length=1:=by decide +kernel
    obtain ⟨x1,x2,x3⟩:=o7 (k:=k) lc (by omega)
    refine ⟨CF (by omega),?_⟩
    walk_at "l2"
    refine Cs.put hD cs.same cs.at' cs.len (by omega) fun w hw=>?_
    rcases List.mem_append.mp hw with h | h
    ·exact cs.pv w h
    ·exact ⟨_,List.mem_singleton.mp h,x3⟩
   ·have e1:=cs.at'
    have l1:=cs.len
    walk_at "l2"
    refine dS (cs.same.get ei) e1 (by rw [sizeLine_eq];omega) fun H2 u2=>?_
    obtain ⟨l2,s2⟩:=la.addI cs.same cs.pv u2
    walk_at "l2"
    exact q H2 _ rs qs os s2 l2 (by rw [List.length_append];omega) (by omega) (by omega) (by omega)
  by_cases h2:n=2
  ·subst h2
   walk_at "l2"
   intro D hD
   refine dh (fun i ys H'=>Cw H D i ys H') (cw_zero hD) (fun k ys H' hk cs=>?_) (fun ys H1 cs=>?_)
   ·walk_at "l2"
    rw [Int.zero_add]
    have lc:(Str.ofString "w").length=1:=by decide +kernel
    obtain ⟨x1,x2,x3⟩:=o7 (k:=k) lc (by omega)
    refine ⟨CF (by omega),?_⟩
    walk_at "l2"
    intro l5 H5 f5 s5 e5
    walk_at "l2"
    intro b6 H6 f6 s6 e6
    exact cw_put hD cs f5 s5 e5 f6 s6 e6 x3 (by omega)
   ·obtain ⟨r2,ey,ly,s1,e1,_⟩:=id cs
    have l1:ys.length=41:=by rw [ey,List.length_map];exact ly
    walk_at "l2"
    refine dS (s1.get es) e1 (by rw [List.length_map,sizeLine_eq];omega) fun H2 u2=>?_
    obtain ⟨rs',l2,lr',s2⟩:=la.addS cs u2
    walk_at "l2"
    exact q H2 is rs' qs os s2 l2 (by omega) (by rw [lr'];exact Nat.le_trans (Nat.add_le_add_right ls _) (by decide)) (by omega) (by omega)
  by_cases h3:n=3
  ·subst h3
   walk_at "l2"
   intro D hD
   refine dh (fun i ys H'=>Cq H D i ys H') (L8 hD) (fun k ys H' hk cs=>?_) (fun ys H1 cs=>?_)
   ·walk_at "l2"
    rw [Int.zero_add]
    have lc:(Str.ofString "x").length=1:=by decide +kernel
    obtain ⟨x1,x2,x3⟩:=o7 (k:=k) lc (by omega)
    refine ⟨CF (by omega),?_⟩
    walk_at "l2"
    refine ⟨CF (by omega),?_⟩
    walk_at "l2"
    intro b6 H6 f6 s6 e6
    exact Ph hD cs f6 s6 e6 x3 x3 (by omega)
   ·obtain ⟨r2,ey,ly,s1,e1,_⟩:=id cs
    have l1:ys.length=17:=by rw [ey,List.length_map];exact ly
    walk_at "l2"
    refine dS (s1.get et) e1 (by rw [List.length_map,sizeLine_eq];omega) fun H2 u2=>?_
    obtain ⟨qs',l2,lr',s2⟩:=la.addT cs u2
    walk_at "l2"
    exact q H2 is rs qs' os s2 l2 (by omega) (by omega) (by rw [lr'];exact Nat.le_trans (Nat.add_le_add_right lt _) (by decide)) (by omega)
  by_cases h4:n=4
  ·subst h4
   walk_at "l2"
   intro b H1 f1 s1 e1
   have et1:=s1.get et
   walk_at "l2"
   refine gm et1 (by rw [List.length_map,sizeLine_eq];omega) fun H2 u2=>?_
   obtain ⟨qs',l2,lr',s2⟩:=la.oneT s1 f1 e1 (by decide +kernel) (by decide +kernel) u2
   have eL2:=aS.get (s2.get eL)
   have eo2:=l2.eo
   clear eL' ei es et eo et1
   walk_at "l2"
   intro b3 H3 f3 s3 e3
   walk_at "l2"
   refine Nz e3 (by decide) (by decide) (by decide +kernel) fun b4 H4 f4 s4 e4=>?_
   walk_at "l2"
   refine dS ((s3.trans s4).get eo2) e4 (by show os.length + 7≤_;rw [sizeLine_eq];omega) fun H5 u5=>?_
   obtain ⟨l5,s5⟩:=l2.addO (s3.trans s4) (fun w hw=>by
    obtain ⟨l,hl,hw⟩:=List.mem_flatten.mp hw
    rw [List.eq_of_mem_replicate hl,List.mem_singleton] at hw
    rw [hw];exact Th.s (by decide +kernel)) u5
   walk_at "l2"
   exact q H5 is rs qs' _ (s2.trans s5) l5 (by omega) (by omega) (by omega) (by rw [List.length_append];show os.length + 7≤_;omega)
  by_cases h5:n=5
  ·subst h5
   walk_at "l2"
   intro b3 H3 f3 s3 e3
   walk_at "l2"
   refine Nz e3 (by decide) (by decide) (by decide +kernel) fun b4 H4 f4 s4 e4=>?_
   walk_at "l2"
   intro b5 H5 f5 s5 e5
   have s05:=(s3.trans s4).trans s5
   walk_at "l2"
   refine gm (s05.get es) (by rw [List.length_map,sizeLine_eq];omega) fun H6 u6=>?_
   obtain ⟨rs',l2,lr',s2⟩:=la.oneS s05 ((s3.trans s4).free f5) (s3.free f4) e5 (s5.get e4) (by decide +kernel) (fun w hw=>by
    obtain ⟨l,hl,hw⟩:=List.mem_flatten.mp hw
    rw [List.eq_of_mem_replicate hl,List.mem_singleton] at hw
    exact ⟨_,hw,by decide +kernel⟩) u6
   walk_at "l2"
   exact q H6 is rs' qs os s2 l2 (by omega) (by omega) (by omega) (by omega)
  by_cases h6:n=6
  ·subst h6
   walk_at "l2"
   intro b H1 f1 s1 e1
   have et1:=s1.get et
   walk_at "l2"
   refine gm et1 (by rw [List.length_map,sizeLine_eq];omega) fun H2 u2=>?_
   obtain ⟨qs',l2,lr',s2⟩:=la.oneT s1 f1 e1 (by decide +kernel) (by decide +kernel) u2
   have eL2:=aS.get (s2.get eL)
   have es2:=l2.es
   clear eL' ei es et eo et1
   walk_at "l2"
   intro b3 H3 f3 s3 e3
   walk_at "l2"
   refine Nz e3 (by decide) (by decide) (by decide +kernel) fun b4 H4 f4 s4 e4=>?_
   walk_at "l2"
   intro b5 H5 f5 s5 e5
   have s05:=(s3.trans s4).trans s5
   walk_at "l2"
   refine gm (s05.get es2) (by rw [List.length_map,sizeLine_eq];omega) fun H6 u6=>?_
   obtain ⟨rs',l6,lr6,s6⟩:=l2.oneS s05 ((s3.trans s4).free f5) (s3.free f4) e5 (s5.get e4) (by decide +kernel) (fun w hw=>by
    obtain ⟨l,hl,hw⟩:=List.mem_flatten.mp hw
    rw [List.eq_of_mem_replicate hl,List.mem_singleton] at hw
    exact ⟨_,hw,by decide +kernel⟩) u6
   walk_at "l2"
   exact q H6 is rs' qs' os (s2.trans s6) l6 (by omega) (by omega) (by omega) (by omega)
  by_cases h7:n=7
  ·subst h7
   walk_at "l2"
   intro D hD
   refine dh (fun i ys H'=>Cs (fun i ys=>∀ w∈ys,∃ y:Str,w= .str y∧y.length≤1000) H D i ys H') (Cs.zero hD (fun _ h=>by cases h)) (fun k ys H' hk cs=>?_) (fun ys H1 cs=>?_)
   ·walk_at "l2"
    rw [Int.zero_add]
    have lc:(Str.ofString "v").length=1:=by decide +kernel
    obtain ⟨x1,x2,x3⟩:=o7 (k:=k) lc (by omega)
    refine ⟨CF (by omega),?_⟩
    walk_at "l2"
    refine Cs.put hD cs.same cs.at' cs.len (by omega) fun w hw=>?_
    rcases List.mem_append.mp hw with h | h
    ·exact cs.pv w h
    ·exact ⟨_,List.mem_singleton.mp h,x3⟩
   ·have e1:=cs.at'
    have l1:=cs.len
    walk_at "l2"
    refine dS (cs.same.get ei) e1 (by rw [sizeLine_eq];omega) fun H2 u2=>?_
    obtain ⟨l2,s2⟩:=la.addI cs.same cs.pv u2
    have eL2:=aS.get (s2.get eL)
    have es2:=l2.es
    clear eL' ei es et eo
    walk_at "l2"
    rw [List.length_map]
    refine ⟨by omega,by omega,?_⟩
    intro D3 hD3
    refine dh (fun i ys H'=>Cw H2 D3 i ys H') (cw_zero hD3) (fun k ys H' hk cs=>?_) (fun ys H4 cs=>?_)
    ·walk_at "l2"
     rw [Int.zero_add]
     have lc:(Str.ofString "w").length=1:=by decide +kernel
     obtain ⟨x1,x2,x3⟩:=o7 (k:=k) lc (by omega)
     refine ⟨CF (by omega),?_⟩
     walk_at "l2"
     intro l5 H5 f5 s5 e5
     walk_at "l2"
     intro b6 H6 f6 s6 e6
     exact cw_put hD3 cs f5 s5 e5 f6 s6 e6 x3 (by omega)
    ·obtain ⟨r2,ey,ly,s4,e4,_⟩:=id cs
     have l4:ys.length=(40 - (rs.length:Int)).toNat:=by rw [ey,List.length_map];exact ly
     walk_at "l2"
     refine dS (s4.get es2) e4 (by rw [List.length_map,sizeLine_eq];omega) fun H5 u5=>?_
     obtain ⟨rs',l5,lr',s5⟩:=l2.addS cs u5
     walk_at "l2"
     exact q H5 _ rs' qs os (s2.trans s5) l5 (by rw [List.length_append];omega) (by omega) (by omega) (by omega)
  by_cases h8:n=8
  ·subst h8
   walk_at "l2"
   rw [List.length_map]
   refine ⟨by omega,by omega,?_⟩
   intro D hD
   refine dh (fun i ys H'=>Cq H D i ys H') (L8 hD) (fun k ys H' hk cs=>?_) (fun ys H1 cs=>?_)
   ·walk_at "l2"
    rw [Int.zero_add]
    have lc:(Str.ofString "x").length=1:=by decide +kernel
    obtain ⟨x1,x2,x3⟩:=o7 (k:=k) lc (by omega)
    refine ⟨CF (by omega),?_⟩
    walk_at "l2"
    refine ⟨CF (by omega),?_⟩
    walk_at "l2"
    intro b6 H6 f6 s6 e6
    exact Ph hD cs f6 s6 e6 x3 x3 (by omega)
   ·obtain ⟨r2,ey,ly,s1,e1,_⟩:=id cs
    have l1:ys.length=(16 - (qs.length:Int)).toNat:=by rw [ey,List.length_map];exact ly
    walk_at "l2"
    refine dS (s1.get et) e1 (by rw [List.length_map,sizeLine_eq];omega) fun H2 u2=>?_
    obtain ⟨qs',l2,lr',s2⟩:=la.addT cs u2
    have eL2:=aS.get (s2.get eL)
    have et2:=l2.et
    have eo2:=l2.eo
    clear eL' ei es et eo
    have lq:0 < qs'.length:=by omega
    obtain ⟨r,hr1,hr2⟩:=fT (l:=qs') (j:=0) lq
    have hr3:atI (qs'.map fun r=>V.ref r.1) 0=some (.ref r.1):=bz (j:=0) (by rw [List.getElem?_map,hr1];rfl)
    have er:=aS.get (l2.tr r hr2)
    walk_at "l2"
    intro b3 H3 f3 s3 e3
    have eL3:=s3.get eL2
    have eo3:=s3.get eo2
    walk_at "l2"
    refine Nz e3 (by omega) (by omega) (by rw [List.length_singleton,sizeLine_eq];omega) fun b4 H4 f4 s4 e4=>?_
    rw [Ov] at e4
    walk_at "l2"
    refine dS (s4.get eo3) e4 (by rw [List.length_replicate,sizeLine_eq];omega) fun H5 u5=>?_
    obtain ⟨l5,s5⟩:=l2.addO (s3.trans s4) (fun w hw=>by rw [List.eq_of_mem_replicate hw];exact l2.tm r hr2) u5
    walk_at "l2"
    exact q H5 is rs qs' _ (s2.trans s5) l5 (by omega) (by omega) (by omega) (by rw [List.length_append,List.length_replicate];omega)
  have nz:∀ m:Int,(n:Int)≠m→decide (V.int (n:Int)=V.int m)=false:=fun m h=>decide_eq_false fun z=>h (V.int.inj z)
  have d1:=nz 1 (by omega)
  have d2:=nz 2 (by omega)
  have d3:=nz 3 (by omega)
  have d4:=nz 4 (by omega)
  have d5:=nz 5 (by omega)
  have d6:=nz 6 (by omega)
  have d7:=nz 7 (by omega)
  have d8:=nz 8 (by omega)
  walk_at "l2"
  exact q H is rs qs os (Same.refl _) la (by omega) (by omega) (by omega) (by omega)
end
section
variable {P:Program} {w:World} {K:PySem.W.Frag} {mg:Str→Option Value} {base:Heap} {a:Ad}
theorem yd (T:Tx K mg a):FnOk P w K mg base CX0 1 a.eI a.vA ["thing"] (PU K):=by
 refine T.o5.ok Hb (fun vs H Q E h=>?_) (fun cdv A outer s H vs Q E hr h=>?_)
 ·obtain ⟨x,k,rfl,_⟩:=h;rfl
 ·obtain ⟨x,k,rfl,hk,hz,q⟩:=h
  have q0:=q H (Same.refl H)
  refine ⟨_,((af (ci (PW.pt (rj (lD (eE (ay (eO (K:=K) rfl) (by rfl) T.cE PyProof.Rows.boot_isinstance (aa (pv 0) (aa (jb (v:= .ty "str") (by rfl) T.uI PyProof.Rows.boot_str rfl) ad))))) (rj (az io (pv 0) aM (aR _)) (tV (az nS (ay (aG (K:=K) rfl) (by rfl) T.di PySem.boot_len (aa (pv 0) ad)) (gF (v:= .int 6) (by rfl) T.xv ⟨_,rfl⟩) (aR _)))))) (ai (bi Ba)) aK)
   (ai (bi (S7 (jS ug (aH Lr (pv 0) ah (fun _ _=>rfl)) (gF (v:= .str "abcdefghijklmnopqrstuvwxyz") (by rfl) T.LH ⟨_,rfl⟩) (by rfl)) (S3 (ay (Mc (K:=K) rfl rfl) (by rfl) T.UJ PyProof.Rows.boot_all (aa (bj (osc:=ae gB) (ON:=["thing"]) (N:=["sign"]) (n:=1) (fx:=[]) rfl rfl rfl (by decide +kernel) (O5 (pv 0)) (aO (by decide)) (fun _ _ _ _ _=>⟨(av (i:=0) (show List.Nodup (["sign"]:List Str) from by decide +kernel) rfl (by walk_at "o")),bB,(jS ug (pv 0) (gF (v:= .str "abcdefghijklmnopqrstuvwxyz0123456789") (by rfl) T.B7 ⟨_,rfl⟩) (by rfl))⟩)) ad)))))))),aT (σ':=[some _]) rfl ?_⟩
  walk_at "l2"
  cases x with
  | int i=>have hk:k="int":=hk;subst hk;walk_at "l2";exact q0
  | bl b=>have hk:k="bool":=hk;subst hk;walk_at "l2";exact q0
  | non=>have hk:k="NoneType":=hk;subst hk;walk_at "l2";exact q0
  | ref p=>rcases hk with ⟨rfl,_⟩ | ⟨rfl,_⟩ | ⟨rfl,_⟩<;>walk_at "l2"<;>exact q0
  | str z=>
    have hk:k="str":=hk
    subst hk
    have hz:=hz z rfl
    have hs:z.length≤sizeLine:=Nat.le_of_lt (cj hz)
    have q:∀ H',Same H H'→Q (.bl (nm z.cps.toList)) H':=q
    have q0:=q H (Same.refl H)
    walk_at "l2"
    by_cases h1:z=""
    ·rw [J0.mp h1] at q0
     refine i4 (by rw [decide_eq_true];rw [h1]) ?_
     walk_at "l2"
     exact q0
    ·refine gl (by rw [decide_eq_false];exact fun z=>h1 (V.str.inj z)) ?_
     walk_at "l2"
     obtain ⟨c,r,hcr⟩:∃ c r,z.cps.toList=c::r:=by
      cases hl:z.cps.toList with
      | nil=>exact absurd (J0.mpr hl) h1
      | cons c r=>exact ⟨c,r,rfl⟩
     have hlen:=je z
     rw [hcr] at q0 hlen
     have q:∀ H',Same H H'→Q (.bl (decide ((c::r).length≤6)&&low c&&(c::r).all fun c=>low c||fig c)) H':=fun H' s=>by have:=q H' s;rw [hcr] at this;exact this
     by_cases h2:(6:Int) < z.length
     ·refine i4 (decide_eq_true h2) ?_
      walk_at "l2"
      have:=q H (Same.refl H)
      rw [decide_eq_false (show ¬ (c::r).length≤6 by omega)] at this
      exact this
     ·refine gl (decide_eq_false h2) ?_
      rw [decide_eq_true (show (c::r).length≤6 by omega)] at q
      walk_at "l2"
      refine P8 hs (c:=c) (by rw [hcr];exact bz (j:=0) rfl) ?_
      walk_at "l2"
      rw [StrLaws.found_one,memL]
      cases hlo:low c
      ·rw [hlo] at q
       walk_at "l2"
       exact q H (Same.refl H)
      ·rw [hlo] at q
       walk_at "l2"
       intro D f
       refine Gq (Cs (fun i ys=>ys=(((c::r).take i).map fun c=>low c||fig c).map V.bl) H D) (Cs.zero f rfl) (fun i d ys H' hd ⟨e,s,at',len⟩=>?_) (fun ys H' ⟨e,s,at',len⟩=>?_)
       ·have hi:i < z.cps.size:=(Array.getElem?_eq_some_iff.mp hd).1
        have hd':(c::r)[i]? =some d:=by rw [← hcr];simpa using hd
        walk_at "l2"
        rw [StrLaws.found_one,memN]
        refine Cs.put f s at' len (by have:z.cps.size=z.length:=rfl;omega) ?_
        rw [e,List.take_succ,hd',List.map_append,List.map_append];rfl
       ·have hsz:z.cps.size=(c::r).length:=hlen.symm
        rw [hsz,List.take_length] at e
        refine SL (SqL.of (by rw [at',e])) ?_
        have:=q H' s
        rw [List.all_map]
        exact this
  | _=>exact False.elim hk
theorem gb (T:Tx K mg a):FnOk P w K mg base CX0 1 a.bt a.cy ["self","name"] (Nv K):=by
 refine T.eU.ok qZ (fun vs H Q E h=>?_) (fun cdv A outer s H vs Q E hr h=>?_)
 ·obtain ⟨x,C,dx,nm,rfl,_⟩:=h;rfl
 ·obtain ⟨x,C,dx,nm,rfl,hc,hn,hx,q⟩:=h
  refine ⟨_,((ai (gE (K:=K) rfl (pv 0) (pv 1) rfl))),aT (σ':=[some _,some _]) rfl ?_⟩
  walk_at "l2"
  exact gA hx hc hn (by decide) rfl q
theorem nU (T:Tx K mg a):FnOk P w K mg base CX0 2 a.aU a.fD ["self","name","number"] (Nu a.aC):=by
 have dz:=@gb P w K mg base a T
 refine T.dJ.ok nF (fun vs H Q E h=>?_) (fun cdv A outer s H vs Q E hr h=>?_)
 ·obtain ⟨x,dx,nm,k,rfl,_⟩:=h;rfl
 ·obtain ⟨x,dx,nm,k,rfl,hx,q⟩:=h
  refine ⟨_,((af (aZ (t8 (by rfl) T.LF T.cy dz (hr.mono (by decide)) T.dy .nil bD (aa (pv 0) (aa (pv 1) ad))))
   (ai (gE (K:=K) rfl (pv 0) (pv 2) rfl)))),aT (σ':=[some _,some _,some _]) rfl ?_⟩
  walk_at "l2"
  refine ⟨x,_,dx,nm,rfl,T.Ay,T.oq,hx,fun H2 u=>?_⟩
  walk_at "l2"
  exact gA u.at' T.Ay T.uN (by show 1 < 1000;decide) rfl fun H3 u3=>q H3 (u.trans u3)
theorem jX (T:Tx K mg a):FnOk P w K mg base CX0 2 a.aI a.dO ["self","name","wire","number"] (Nr a.ao):=by
 have dz:=@gb P w K mg base a T
 refine T.cL.ok jP (fun vs H Q E h=>?_) (fun cdv A outer s H vs Q E hr h=>?_)
 ·obtain ⟨x,dx,nm,w,k,rfl,_⟩:=h;rfl
 ·obtain ⟨x,dx,nm,wr,k,rfl,hx,q⟩:=h
  refine ⟨_,((af (aZ (t8 (by rfl) T.LF T.cy dz (hr.mono (by decide)) T.dy .nil bD (aa (pv 0) (aa (pv 1) ad))))
   (af (gE (K:=K) rfl (pv 0) (pv 2) rfl)
   (ai (gE (K:=K) rfl (pv 0) (pv 3) rfl))))),aT (σ':=[some _,some _,some _,some _]) rfl ?_⟩
  walk_at "l2"
  refine ⟨x,_,dx,nm,rfl,T.jy,T.jF,hx,fun H2 u=>?_⟩
  walk_at "l2"
  refine gA u.at' T.jy T.r9 (by show 1 < 1000;decide) rfl fun H3 u3=>?_
  walk_at "l2"
  exact gA u3.at' T.jy T.oi (by show 2 < 1000;decide) rfl fun H4 u4=>q H4 ((u.trans u3).trans u4)
theorem mz (T:Tx K mg a):FnOk P w K mg base CX0 2 a.aP a.eJ ["self","name","wires"] (Ki K a.au):=by
 have dz:=@gb P w K mg base a T
 refine T.dj.ok l7 (fun vs H Q E h=>?_) (fun cdv A outer s H vs Q E hr h=>?_)
 ·obtain ⟨x,dx,nm,tw,ws,rfl,_⟩:=h;rfl
 ·obtain ⟨x,dx,nm,tw,ws,rfl,hw,hx,q⟩:=h
  have hne:tw≠x:=iQ hw hx fun z=>by cases z
  refine ⟨_,((af (aZ (t8 (by rfl) T.LF T.cy dz (hr.mono (by decide)) T.dy .nil bD (aa (pv 0) (aa (pv 1) ad))))
   (ai (gE (K:=K) rfl (pv 0) (aF (dw (K:=K) rfl) (by rfl) T.ip PyProof.Rows.boot_tuple (aa (pv 2) ad)) rfl)))),aT (σ':=[some _,some _,some _]) rfl ?_⟩
  walk_at "l2"
  refine ⟨x,_,dx,nm,rfl,T.wp,T.lJ,hx,fun H2 u=>?_⟩
  have hw2:=u.oth _ _ hne hw
  walk_at "l2"
  exact gA u.at' T.wp T.uJ (by show 1 < 1000;decide) rfl fun H4 u4=>q H4 (u.trans u4)
end
section
variable {P:Program} {w:World} {K:PySem.W.Frag} {mg:Str→Option Value} {base:Heap} {a:Ad}
local macro_rules | `(tactic| walk_at "l2step") =>`(tactic| first | ((with_reducible refine' c_whole ?e ?_);(case e=>walk_at "l2kind")) | ((with_reducible refine' c_mask ?e ?_);(case e=>walk_at "l2kind")) | (with_reducible refine cz ?_) | (with_reducible refine s_methX ?_))
local macro_rules | `(tactic| walk_at "l2step") =>`(tactic| first | (with_reducible refine s_try ?_))
local macro_rules | `(tactic| walk_at "l2step") =>`(tactic| first | (with_reducible refine mf ?_))
local macro_rules | `(tactic| walk_at "l2step") =>`(tactic| first | (with_reducible refine i3 ?_) | (with_reducible refine s_tryH ?_) | (with_reducible refine tT ?_) | (with_reducible refine tS ?_))
theorem NW (T:Tx K mg a):FnOk P w K mg base CX0 1 a.kg a.Co ["thing","depth"] Uo:=by
 refine T.ym.ok DC (fun vs H Q E h=>?_) (fun cdv A outer s H vs Q E hr h=>?_)
 ·exact False.elim h
 ·exact False.elim h
theorem NV (T:Tx K mg a):FnOk P w K mg base CX0 2 a.kg a.Co ["thing","depth"] Kg:=by
 have oX:=@NW P w K mg base a T
 refine T.ym.ok DC (fun vs H Q E h=>?_) (fun cdv A outer s H vs Q E hr h=>?_)
 ·obtain ⟨v,k,d,rfl,_⟩:=h;rfl
 ·obtain ⟨v,k,d,rfl,sv,q⟩:=h
  refine ⟨_,((af (ci (az io (pv 1) ah (aR _)) (ai (bi (pv 0))) aK)
   (af (ci (eE (ay (eO (K:=K) rfl) (by rfl) T.cE PyProof.Rows.boot_isinstance (aa (pv 0) (aa (jb (v:= .ty "list") (by rfl) T.eu PyProof.Rows.boot_list rfl) ad)))) (ai (bi (bj (osc:=ae qp) (ON:=["thing","depth"]) (N:=["part","depth"]) (n:=1) (fx:=[1]) rfl rfl rfl (by decide +kernel) (ba (K:=K) rfl (pv 0)) (aO (by decide)) (fun _ _ _ _ _=>⟨(av (i:=0) (show List.Nodup (["part","depth"]:List Str) from by decide +kernel) rfl (by walk_at "o")),bB,(aL oX (hr.mono (by decide)) (by rfl) T.B3 T.BU T.vU .nil bD (aa (pv 0) (aa (aB ud (pv 1) ah) ad)))⟩)))) aK)
   (af (ci (eE (ay (eO (K:=K) rfl) (by rfl) T.cE PyProof.Rows.boot_isinstance (aa (pv 0) (aa (jb (v:= .ty "tuple") (by rfl) T.ip PyProof.Rows.boot_tuple rfl) ad)))) (ai yB) aK)
   (af (ci (eE (ay (eO (K:=K) rfl) (by rfl) T.cE PyProof.Rows.boot_isinstance (aa (pv 0) (aa (jb (v:= .ty "dict") (by rfl) T.BA PyProof.Rows.boot_dict rfl) ad)))) (ai yB) aK)
   (ai (bi (pv 0)))))))),aT (σ':=[some _,some _]) rfl ?_⟩
  walk_at "l2"
  by_cases hd:d=0
  ·refine i4 (decide_eq_true (by rw [hd])) ?_
   walk_at "l2"
   exact q
  ·refine gl (decide_eq_false fun z=>hd (V.int.inj z)) ?_
   cases sv<;>(walk_at "l2";exact q)
theorem DP (T:Tx K mg a):FnOk P w K mg base CX0 3 a.kg a.Co ["thing","depth"] Kh:=by
 have oX:=@NV P w K mg base a T
 refine T.ym.ok DC (fun vs H Q E h=>?_) (fun cdv A outer s H vs Q E hr h=>?_)
 ·obtain ⟨v,k,rfl,_⟩:=h;rfl
 ·obtain ⟨v,k,rfl,th,q⟩:=h
  refine ⟨_,((af (ci (az io (pv 1) ah (aR _)) (ai (bi (pv 0))) aK)
   (af (ci (eE (ay (eO (K:=K) rfl) (by rfl) T.cE PyProof.Rows.boot_isinstance (aa (pv 0) (aa (jb (v:= .ty "list") (by rfl) T.eu PyProof.Rows.boot_list rfl) ad)))) (ai (bi (bj (osc:=ae qp) (ON:=["thing","depth"]) (N:=["part","depth"]) (n:=1) (fx:=[1]) rfl rfl rfl (by decide +kernel) (ba (K:=K) rfl (pv 0)) (aO (by decide)) (fun _ _ _ _ _=>⟨(av (i:=0) (show List.Nodup (["part","depth"]:List Str) from by decide +kernel) rfl (by walk_at "o")),bB,(aL oX (hr.mono (by decide)) (by rfl) T.B3 T.BU T.vU .nil bD (aa (pv 0) (aa (aB ud (pv 1) ah) ad)))⟩)))) aK)
   (af (ci (eE (ay (eO (K:=K) rfl) (by rfl) T.cE PyProof.Rows.boot_isinstance (aa (pv 0) (aa (jb (v:= .ty "tuple") (by rfl) T.ip PyProof.Rows.boot_tuple rfl) ad)))) (ai yB) aK)
   (af (ci (eE (ay (eO (K:=K) rfl) (by rfl) T.cE PyProof.Rows.boot_isinstance (aa (pv 0) (aa (jb (v:= .ty "dict") (by rfl) T.BA PyProof.Rows.boot_dict rfl) ad)))) (ai yB) aK)
   (ai (bi (pv 0)))))))),aT (σ':=[some _,some _]) rfl ?_⟩
  cases th with
  | str z l=>walk_at "l2";exact q _ H (Same.refl _) (.str z l)
  | int i=>walk_at "l2";exact q _ H (Same.refl _) (.int i)
  | bl b=>walk_at "l2";exact q _ H (Same.refl _) (.bl b)
  | non=>walk_at "l2";exact q _ H (Same.refl _) .non
  | nil e=>
    walk_at "l2"
    intro D hD
    refine bg (xs:=[]) (fun i ys H'=>Cs (fun i ys=>ys=[]) H D i ys H') (Cs.zero hD rfl) (fun i ys H' _ c=>SqL.of (c.same.get e)) (fun i v ys H' hv c=>by simp at hv) (fun ys H' c=>?_)
    have e2:=c.at'
    rw [c.pv] at e2
    walk_at "l2"
    exact q _ H' c.same (.nil e2)
  | one l e=>
    rename_i p z
    walk_at "l2"
    intro D hD
    refine bg (xs:=[.str z]) (fun i ys H'=>Cs (fun i ys=>ys=([V.str z]).take i) H D i ys H') (Cs.zero hD rfl) (fun i ys H' _ c=>SqL.of (c.same.get e)) (fun i v ys H' hv c=>?_) (fun ys H' c=>?_)
    ·have hi:i=0:=by
      have:=(List.getElem?_eq_some_iff.mp hv).1
      simp only [List.length_cons,List.length_nil] at this;omega
     subst hi
     cases hv
     walk_at "l2"
     refine ⟨.str z,"str",_,rfl,.str z l,?_⟩
     refine Cs.put hD c.same c.at' c.len (by omega) ?_
     rw [c.pv];rfl
    ·have e2:=c.at'
     rw [c.pv] at e2
     have e2:H' D=some (.lst [.str z]):=e2
     walk_at "l2"
     exact q _ H' c.same (.one l e2)
theorem nT (T:Tx K mg a):FnOk P w K mg base CX0 4 a.a9 a.fC ["self","name"] (kI a.am):=by
 have oX:=@DP P w K mg base a T
 refine T.dI.ok nE (fun vs H Q E h=>?_) (fun cdv A outer s H vs Q E hr h=>?_)
 ·obtain ⟨p,v,k,rfl,_⟩:=h;rfl
 ·obtain ⟨p,v,k,rfl,sv,e,q⟩:=h
  refine ⟨_,((af (aZ (tj (K:=K) rfl (by rfl) T.jj T.iY (aa (pv 0) (aa aM ad))))
   (ai (yA (K:=K) rfl (pv 0) (aL oX (hr.mono (by decide)) (by rfl) T.B3 T.BU T.vU .nil bD (aa (pv 1) (aa (gF (v:= .int 12) (by rfl) T.ke ⟨_,rfl⟩) ad))) rfl)))),aT (σ':=[some _,some _]) rfl ?_⟩
  walk_at "l2"
  refine nG e T.At ?_
  walk_at "l2"
  refine ⟨v,k,rfl,sv,fun v2 H1 s1 cp=>?_⟩
  have e1:=s1.get e
  walk_at "l2"
  refine sX e1 T.At T.oj fun H2 e2 s2=>?_
  walk_at "l2"
  refine q v2 H2 e2 (fun b u hb hu=>s2 _ _ hb (s1.get hu)) (cp.keep fun p' ys _ a2=>s2 _ _ (fun z=>by rw [z,e1] at a2;cases a2) a2)
theorem mC (T:Tx K mg a):FnOk P w K mg base CX0 4 a.aW a.eN ["self","name"] (kI a.ak):=by
 have oX:=@DP P w K mg base a T
 refine T.dn.ok me (fun vs H Q E h=>?_) (fun cdv A outer s H vs Q E hr h=>?_)
 ·obtain ⟨p,v,k,rfl,_⟩:=h;rfl
 ·obtain ⟨p,v,k,rfl,sv,e,q⟩:=h
  refine ⟨_,((af (aZ (tj (K:=K) rfl (by rfl) T.jj T.iY (aa (pv 0) (aa aM ad))))
   (ai (yA (K:=K) rfl (pv 0) (aL oX (hr.mono (by decide)) (by rfl) T.B3 T.BU T.vU .nil bD (aa (pv 1) (aa (gF (v:= .int 12) (by rfl) T.ke ⟨_,rfl⟩) ad))) rfl)))),aT (σ':=[some _,some _]) rfl ?_⟩
  walk_at "l2"
  refine nG e T.wg ?_
  walk_at "l2"
  refine ⟨v,k,rfl,sv,fun v2 H1 s1 cp=>?_⟩
  have e1:=s1.get e
  walk_at "l2"
  refine sX e1 T.wg T.lL fun H2 e2 s2=>?_
  walk_at "l2"
  refine q v2 H2 e2 (fun b u hb hu=>s2 _ _ hb (s1.get hu)) (cp.keep fun p' ys _ a2=>s2 _ _ (fun z=>by rw [z,e1] at a2;cases a2) a2)
theorem mB (T:Tx K mg a):FnOk P w K mg base CX0 4 a.aV a.eM ["self","name"] (kI a.aj):=by
 have oX:=@DP P w K mg base a T
 refine T.dk.ok md (fun vs H Q E h=>?_) (fun cdv A outer s H vs Q E hr h=>?_)
 ·obtain ⟨p,v,k,rfl,_⟩:=h;rfl
 ·obtain ⟨p,v,k,rfl,sv,e,q⟩:=h
  refine ⟨_,((af (aZ (tj (K:=K) rfl (by rfl) T.jj T.iY (aa (pv 0) (aa aM ad))))
   (ai (yA (K:=K) rfl (pv 0) (aL oX (hr.mono (by decide)) (by rfl) T.B3 T.BU T.vU .nil bD (aa (pv 1) (aa (gF (v:= .int 12) (by rfl) T.ke ⟨_,rfl⟩) ad))) rfl)))),aT (σ':=[some _,some _]) rfl ?_⟩
  walk_at "l2"
  refine nG e T.wf ?_
  walk_at "l2"
  refine ⟨v,k,rfl,sv,fun v2 H1 s1 cp=>?_⟩
  have e1:=s1.get e
  walk_at "l2"
  refine sX e1 T.wf T.lK fun H2 e2 s2=>?_
  walk_at "l2"
  refine q v2 H2 e2 (fun b u hb hu=>s2 _ _ hb (s1.get hu)) (cp.keep fun p' ys _ a2=>s2 _ _ (fun z=>by rw [z,e1] at a2;cases a2) a2)
theorem rC (T:Tx K mg a):FnOk P w K mg base CX0 4 a.bu a.gN ["self","ring"] (Nl a.aE):=by
 refine T.eX.ok rc (fun vs H Q E h=>?_) (fun cdv A outer s H vs Q E hr h=>?_)
 ·obtain ⟨p,l,zs,rfl,_⟩:=h;rfl
 ·obtain ⟨p,l,zs,rfl,el,e,q⟩:=h
  refine ⟨_,((af (aZ (tj (K:=K) rfl (by rfl) T.jj T.iY (aa (pv 0) (aa aM ad))))
   (ai (yA (K:=K) rfl (pv 0) (aF (bM (K:=K) rfl) (by rfl) T.eu PyProof.Rows.boot_list (aa (pv 1) ad)) rfl)))),aT (σ':=[some _,some _]) rfl ?_⟩
  walk_at "l2"
  refine nG e T.Mt ?_
  walk_at "l2"
  intro D H1 f1 s1 e1
  have ep:=s1.get e
  walk_at "l2"
  refine sX ep T.Mt T.uK fun H2 e2 s2=>?_
  walk_at "l2"
  exact q D H2 e2 (fun b u hb hu=>s2 _ _ hb (s1.get hu)) (s2 _ _ (fun z=>by rw [z,ep] at e1;cases e1) e1)
theorem JR {H H2 H3 H4:Hp} {C x:Addr} {v2:V} {d:Dt} (s2:Same H H2) (f3:H2 x=none) (s3:Same H2 H3) (e4:ExcV H4 x C [("name",v2)]) (k4:∀ b u,b≠x→H3 b=some u→H4 b=some u) (cp:Tg H4 v2 d):∃ dx,H4 x=some (ExcF x C (some dx))∧TldD H (del H4 x) dx d:=by
 obtain ⟨dx,a1,a2⟩:=Ui (H:=H2) f3 e4 fun b u hb' e'=>k4 _ _ hb' (s3.get e')
 exact ⟨dx,a1,v2,a2.pre s2,cp.keep fun p' ys _ c2=>by rw [qJ (fun z=>by rw [z,a1] at c2;cases c2)];exact c2⟩
theorem yL (T:Tx K mg a):FnOk P w K mg base (CX1 P w) 6 a.cG a.kj ["wire","known"] (G5 a.am):=by
 have wk:=@yd P w K mg base a T
 have qm:=@nT P w K mg base a T
 refine T.hX.okX yw (fun vs H Q E h=>?_) (fun cdv A outer s H vs Q E hr h=>?_)
 ·obtain ⟨v,k,d,zs,rfl,_⟩:=h;rfl
 ·obtain ⟨v,k,d,zs,rfl,sv,⟨kvs,ed,ek⟩,nms,qQ,qE⟩:=h
  have hu:=Oj hr
  have fin:∀ {H2:Hp} (σ:St),Same H H2→(∀ z∈zs,k≠.str z)→As a.am (kI a.am) E0 (fun _=>E) σ [v] H2:=fun {H2} σ s2 hb=>kL fun x H3 f3 s3 e3=>⟨x,v,k,rfl,(sv.same s2).same s3,e3,fun v2 H4 e4 k4 cp=>by
   obtain ⟨dx,a1,a2⟩:=JR s2 f3 s3 e4 k4 cp
   exact ⟨rfl,some dx,a1,qE hb _ dx a2⟩⟩
  obtain ⟨kd,hkd⟩:=sv.kind (K:=K)
  refine ⟨_,((ai (ci (PW.pt (rj (lD (eE (aL wk (hr.mono (by decide)) (by rfl) T.B4 T.BV T.oU .nil bD (aa (pv 0) ad)))) (tV (KJ (KM hu (pv 0) (pv 1)))))) (ai (nK T.At qm (hr.mono (by decide)) (by rfl) T.Gf T.fG bD cD rfl (aa (pv 0) ad))) aK))),aT (σ':=[some _,some _]) rfl ?_⟩
  walk_at "l2"
  refine ⟨v,kd,rfl,hkd,sv.len,fun H2 s2=>?_⟩
  by_cases hn:K0 v=true
  ·rw [hn]
   cases sv with
   | nil=>cases hn
   | one=>cases hn
   | int=>cases hn
   | bl=>cases hn
   | non=>cases hn
   | str z l=>
     have ed2:=s2.get ed
     walk_at "l2"
     refine Qd ed2 ?_
     rw [nv ek z]
     by_cases hz:z∈zs
     ·rw [decide_eq_true hz]
      walk_at "l2"
      exact qQ z hz rfl H2 s2
     ·rw [decide_eq_false hz]
      walk_at "l2"
      exact fin _ s2 fun y hy e=>hz (by cases e;exact hy)
  ·rw [show K0 v=false by simpa using hn]
   walk_at "l2"
   exact fin _ s2 fun y hy e=>hn (by rw [sv.name,e];exact nms y hy)
end
section
variable {P:Program} {w:World} {K:PySem.W.Frag} {mg:Str→Option Value} {base:Heap} {a:Ad}
local macro_rules | `(tactic| walk_at "l2step") =>`(tactic| first | ((with_reducible refine' c_whole ?e ?_);(case e=>walk_at "l2kind")) | ((with_reducible refine' c_mask ?e ?_);(case e=>walk_at "l2kind")) | (with_reducible refine cz ?_) | (with_reducible refine s_methX ?_))
local macro_rules | `(tactic| walk_at "l2step") =>`(tactic| first | (with_reducible refine s_try ?_))
local macro_rules | `(tactic| walk_at "l2step") =>`(tactic| first | (with_reducible refine mf ?_))
local macro_rules | `(tactic| walk_at "l2step") =>`(tactic| first | (with_reducible refine i3 ?_) | (with_reducible refine s_tryH ?_) | (with_reducible refine tT ?_) | (with_reducible refine tS ?_))
theorem wD (T:Tx K mg a):FnOk P w K mg base (CX1 P w) 1 a.cq a.jm ["ins","sums","stores","outs"] (Ds a.ax):=by
 refine T.gt.okX wx (fun vs H Q E h=>?_) (fun cdv A outer s H vs Q E hr h=>?_)
 ·obtain ⟨i,s,t,o,is,rs,qs,os,rfl,_⟩:=h;rfl
 ·obtain ⟨i,s,t,o,is,rs,qs,os,rfl,hn,l1,l2,qQ,qE⟩:=h
  have hi:=hn.i
  have hs:=hn.s
  have ht:=hn.t
  have ho:=hn.o
  have line:∀ {X:Prop},X→([V.str "a"].length≤sizeLine∧X):=fun h=>⟨by rw [sizeLine_eq];decide,h⟩
  refine ⟨_,((af (ci (az nS (ay (aG (K:=K) rfl) (by rfl) T.di PySem.boot_len (aa (pv 0) ad)) (gF (v:= .int 6) (by rfl) T.IG ⟨_,rfl⟩) (aR _)) (ai (nL PySem.F.excBase_ValueError T.eB cD rfl (by rfl) T.iS (aa aM ad))) aK)
   (af (ci (az nS (ay (aG (K:=K) rfl) (by rfl) T.di PySem.boot_len (aa (pv 1) ad)) (gF (v:= .int 40) (by rfl) T.ET ⟨_,rfl⟩) (aR _)) (ai (nL PySem.F.excBase_ValueError T.eB cD rfl (by rfl) T.iS (aa aM ad))) aK)
   (af (ci (az nS (ay (aG (K:=K) rfl) (by rfl) T.di PySem.boot_len (aa (pv 2) ad)) (gF (v:= .int 16) (by rfl) T.zK ⟨_,rfl⟩) (aR _)) (ai (nL PySem.F.excBase_ValueError T.eB cD rfl (by rfl) T.iS (aa aM ad))) aK)
   (af (ci (az nS (ay (aG (K:=K) rfl) (by rfl) T.di PySem.boot_len (aa (pv 3) ad)) (gF (v:= .int 6) (by rfl) T.EU ⟨_,rfl⟩) (aR _)) (ai (nL PySem.F.excBase_ValueError T.eB cD rfl (by rfl) T.iS (aa aM ad))) aK)
   (ai (ci (eE (ay (CA (K:=K) rfl rfl) (by rfl) T.Tk PyProof.Rows.boot_any (aa (bj (osc:=ae cR) (ON:=["ins","sums","stores","outs"]) (N:=["row"]) (n:=1) (fx:=[]) rfl rfl rfl (by decide +kernel) (ba (K:=K) rfl (pv 1)) (aO (by decide)) (fun _ _ _ _ _=>⟨(av (i:=0) (show List.Nodup (["row"]:List Str) from by decide +kernel) rfl (by walk_at "o")),bB,(jS nS (ay (aG (K:=K) rfl) (by rfl) T.di PySem.boot_len (aa (aH (bc (K:=K) rfl) (pv 0) ah (fun _ _=>rfl)) ad)) (gF (v:= .int 24) (by rfl) T.B8 ⟨_,rfl⟩) (aR _))⟩)) ad))) (ai (nL PySem.F.excBase_ValueError T.eB cD rfl (by rfl) T.iS (aa aM ad))) aK))))))),aT (σ':=[some _,some _,some _,some _]) rfl ?_⟩
  walk_at "l2"
  by_cases c1:6 < is.length
  ·refine i4 (decide_eq_true (by omega)) ?_
   walk_at "l2"
   exact ⟨by rw [sizeLine_eq];decide,qE (by rw [decide_eq_true c1];rfl) H (Same.refl _)⟩
  refine gl (decide_eq_false (by omega)) ?_
  walk_at "l2"
  rw [List.length_map]
  by_cases c2:40 < rs.length
  ·refine i4 (decide_eq_true (by omega)) ?_
   walk_at "l2"
   exact ⟨by rw [sizeLine_eq];decide,qE (by rw [decide_eq_true c2,Bool.or_true];rfl) H (Same.refl _)⟩
  refine gl (decide_eq_false (by omega)) ?_
  walk_at "l2"
  rw [List.length_map]
  by_cases c3:16 < qs.length
  ·refine i4 (decide_eq_true (by omega)) ?_
   walk_at "l2"
   exact ⟨by rw [sizeLine_eq];decide,qE (by rw [decide_eq_true c3,Bool.or_true];rfl) H (Same.refl _)⟩
  refine gl (decide_eq_false (by omega)) ?_
  walk_at "l2"
  by_cases c4:6 < os.length
  ·refine i4 (decide_eq_true (by omega)) ?_
   walk_at "l2"
   exact ⟨by rw [sizeLine_eq];decide,qE (by rw [decide_eq_true c4,Bool.or_true];rfl) H (Same.refl _)⟩
  refine gl (decide_eq_false (by omega)) ?_
  walk_at "l2"
  intro D hD
  refine bg (xs:=rs.map fun r=>V.ref r.1) (fun i ys H'=>Cs (fun i ys=>ys=((rs.take i).map fun r=>decide (24 < r.2.2.2.length)).map V.bl) H D i ys H') (Cs.zero hD rfl) (fun i ys H' _ c=>SqL.of (c.same.get hs)) (fun i x ys H' hx c=>?_) (fun ys H' c=>?_)
  ·obtain ⟨r,hr',rfl⟩:=be hx
   have hi:=(List.getElem?_eq_some_iff.mp hr').1
   have hm:=List.mem_of_getElem? hr'
   have er:=c.same.get (hn.sr r hm).1
   have eD:decide ((24:Int) < (r.2.2.2.length:Int))=decide (24 < r.2.2.2.length):=by rw [Bool.eq_iff_iff,decide_eq_true_eq,decide_eq_true_eq];omega
   rcases (hn.sr r hm).2 with ew | ew
   ·have ew:=c.same.get ew
    walk_at "l2"
    rw [eD]
    refine Cs.put hD c.same c.at' c.len (by omega) ?_
    rw [c.pv,take_succ hr',List.map_append,List.map_append];rfl
   ·have ew:=c.same.get ew
    walk_at "l2"
    rw [eD]
    refine Cs.put hD c.same c.at' c.len (by omega) ?_
    rw [c.pv,take_succ hr',List.map_append,List.map_append];rfl
  ·have ec:=c.at'
   rw [c.pv,List.length_map,List.take_length] at ec
   have ean:((rs.map fun r=>decide (24 < r.2.2.2.length)).any id)=rs.any fun r=>decide (24 < r.2.2.2.length):=by rw [List.any_map];rfl
   walk_at "l2"
   refine OX (SqL.of ec) ?_
   rw [ean]
   cases hw:rs.any fun r=>decide (24 < r.2.2.2.length) with
   | true=>
     walk_at "l2"
     exact ⟨by rw [sizeLine_eq];decide,qE (by rw [hw,Bool.or_true]) H' c.same⟩
   | false=>
     walk_at "l2"
     exact qQ (by rw [hw,decide_eq_false c1,decide_eq_false c2,decide_eq_false c3,decide_eq_false c4];rfl) H' c.same
end
section
variable {P:Program} {w:World} {K:PySem.W.Frag} {mg:Str→Option Value} {base:Heap} {a:Ad}
local macro_rules | `(tactic| walk_at "l2step") =>`(tactic| first | ((with_reducible refine' c_whole ?e ?_);(case e=>walk_at "l2kind")) | ((with_reducible refine' c_mask ?e ?_);(case e=>walk_at "l2kind")) | (with_reducible refine cz ?_) | (with_reducible refine s_methX ?_))
local macro_rules | `(tactic| walk_at "l2step") =>`(tactic| first | (with_reducible refine s_try ?_))
local macro_rules | `(tactic| walk_at "l2step") =>`(tactic| first | (with_reducible refine mf ?_))
local macro_rules | `(tactic| walk_at "l2step") =>`(tactic| first | (with_reducible refine i3 ?_) | (with_reducible refine s_tryH ?_) | (with_reducible refine tT ?_) | (with_reducible refine tS ?_))
theorem wE (T:Tx K mg a):FnOk P w K mg base (CX1 P w) 6 a.cr a.jn ["names"] (Du a.ak a.aj):=by
 have wk:=@yd P w K mg base a T
 have o3:=@mC P w K mg base a T
 have oZ:=@mB P w K mg base a T
 refine T.gu.okX ib (fun vs H Q E h=>?_) (fun cdv A outer s H vs Q E hr h=>?_)
 ·obtain ⟨l,xs,ds,rfl,_⟩:=h;rfl
 ·obtain ⟨l,xs,ds,rfl,hl,tg,ln,qQ,qB,qD⟩:=h
  have hu:=Oj hr
  refine ⟨_,((af (aX (i:=1) ib.nd rfl (by walk_at "o") NR)
   (ai (gi (fA ⟨rfl,rfl⟩) rfl (ba (K:=K) rfl (pv 0)) (av (i:=2) ib.nd rfl (by walk_at "o")) (af (ci (lD (eE (aL wk (hr.mono (by decide)) (by rfl) T.B4 T.BV T.oU .nil bD (aa (pv 2) ad)))) (ai (nK T.wg o3 (hr.mono (by decide)) (by rfl) T.Ca T.eR bD cD rfl (aa (pv 2) ad))) aK)
   (af (ci (KJ (KN hu (pv 2) (pv 1))) (ai (nK T.wf oZ (hr.mono (by decide)) (by rfl) T.B9 T.eQ bD cD rfl (aa (pv 2) ad))) aK)
   (ai (Qn hu (pv 1) (pv 2) Ba rfl)))))))),aT (σ':=[some _,none,none]) rfl ?_⟩
  walk_at "l2"
  intro D H1 f1 s1 e1
  have hl1:=s1.get hl
  walk_at "l2"
  refine oE (xs:=xs) (fun i σ H'=>∃ v zs,σ=[some (.ref l),some (.ref D),v]∧Same H H'∧zs.length=i∧(∀ z∈zs,Nm z)∧nmsF ds []=nmsF (ds.drop i) zs∧∃ kvs:List (Key×V),H' D=some (.dK kvs)∧kvs.map (·.1)=zs.map Sum.inr) ⟨none,[],rfl,s1,rfl,fun _ h=>absurd h (by simp),rfl,[],e1,rfl⟩ (fun i σ H' _ ⟨_,_,_,s',_⟩=>SqL.of (s'.get hl)) ?_ ?_
  ·rintro i y σ H' hy ⟨v,zs,rfl,s',lz,nmz,eds,kvs,eD,ek⟩
   have hi:=(List.getElem?_eq_some_iff.mp hy).1
   obtain ⟨d,hd⟩:∃ d,ds[i]? =some d:=⟨_,List.getElem?_eq_getElem (by rw [← tg.1];exact hi)⟩
   have sv:=(tg.2 i y d hy hd).same s'
   rw [gK hd] at eds
   obtain ⟨kd,hkd⟩:=sv.kind (K:=K)
   have lk:kvs.length≤1000:=by have:=congrArg List.length ek;rw [List.length_map,List.length_map] at this;omega
   walk_at "l2"
   refine ⟨y,kd,rfl,hkd,sv.len,fun H2 s2=>?_⟩
   have eD2:=s2.get eD
   cases hn:K0 y with
   | false=>
     walk_at "l2"
     refine kL fun x H3 f3 s3 e3=>⟨x,y,d,rfl,(sv.same s2).same s3,e3,fun v2 H4 e4 k4 cp=>?_⟩
     obtain ⟨dx,a1,a2⟩:=JR (s'.trans s2) f3 s3 e4 k4 cp
     exact ⟨rfl,some dx,a1,qB d (by rw [eds];exact F3 (by rw [← sv.name];exact hn) _ _) _ dx a2⟩
   | true=>
     obtain ⟨z,rfl,rfl,lz2⟩:∃ z,y= .str z∧d= .str z∧z.length≤1000:=by
      cases sv with
      | str z l=>exact ⟨z,rfl,rfl,l⟩
      | nil=>cases hn
      | one=>cases hn
      | int=>cases hn
      | bl=>cases hn
      | non=>cases hn
     have hnz:nm z.cps.toList=true:=hn
     rw [zj,if_pos hnz] at eds
     walk_at "l2"
     refine Ko eD2 ?_
     rw [nv ek z]
     by_cases hz:z∈zs
     ·rw [if_pos hz] at eds
      rw [decide_eq_true hz]
      walk_at "l2"
      refine kL fun x H3 f3 s3 e3=>⟨x,.str z,.str z,rfl,.str z lz2,e3,fun v2 H4 e4 k4 cp=>?_⟩
      obtain ⟨dx,a1,a2⟩:=JR (s'.trans s2) f3 s3 e4 k4 cp
      exact ⟨rfl,some dx,a1,qD _ eds _ dx a2⟩
     ·rw [if_neg hz] at eds
      rw [decide_eq_false hz]
      walk_at "l2"
      refine Qc eD2 (cj lk) fun H3 u3=>?_
      rw [Qm ek hz] at u3
      walk_at "l2"
      refine ⟨_,zs++[z],rfl,fun b o e=>u3.oth _ _ (al e f1) (s2.get (s'.get e)),by rw [List.length_append,lz];rfl,fun y hy=>?_,eds,_,u3.at',?_⟩
      ·rcases List.mem_append.mp hy with h | h
       ·exact nmz y h
       ·rw [List.mem_singleton.mp h];exact hnz
      ·rw [List.map_append,ek,List.map_append];rfl
  ·rintro σ H' ⟨v,zs,rfl,s',lz,nmz,eds,_⟩
   rw [tg.1,List.drop_length] at eds
   walk_at "l2"
   exact qQ eds H' s'
theorem wC (T:Tx K mg a):FnOk P w K mg base (CX1 P w) 7 a.cn a.jl ["sums","stores","outs","known"] (Dq a.am):=by
 have kH:=@yL P w K mg base a T
 refine T.gq.okX dQ (fun vs H Q E h=>?_) (fun cdv A outer s H vs Q E hr h=>?_)
 ·obtain ⟨i,s,t,o,d,rs,qs,N,zs,d1,d2,d3,rfl,_⟩:=h;rfl
 ·obtain ⟨i,s,t,o,d,rs,qs,N,zs,d1,d2,d3,rfl,kp,kn,nmz,t1,l1,t2,t3,qQ,qE⟩:=h
  have hs:=kp.s
  have ht:=kp.t
  have ho:=kp.o
  have pre:∀ {H' H2:Hp} {dx:Addr} {x:Dt},Same H H'→TldD H' H2 dx x→TldD H H2 dx x:=fun {H' H2 dx x} s ⟨v2,⟨a,b⟩,c⟩=>⟨v2,⟨s.trans a,b⟩,c⟩
  refine ⟨_,((af (gi (fA ⟨rfl,rfl⟩) rfl (mx (K:=K) rfl (pv 0)) (av (i:=4) dQ.nd rfl (by walk_at "o")) (ai (gi (fA ⟨rfl,rfl⟩) rfl (mx (K:=K) rfl (aH (bc (K:=K) rfl) (pv 4) ah (fun _ _=>rfl))) (av (i:=5) dQ.nd rfl (by walk_at "o")) (ai (aZ (ja kH (hr.mono (by decide)) (by rfl) T.kc T.kb T.fV .nil cD (aa (pv 5) (aa (pv 3) ad))))))))
   (af (gi (fA ⟨rfl,rfl⟩) rfl (mx (K:=K) rfl (pv 1)) (av (i:=4) dQ.nd rfl (by walk_at "o")) (ai (aZ (ja kH (hr.mono (by decide)) (by rfl) T.kc T.kb T.fV .nil cD (aa (aH (bc (K:=K) rfl) (pv 4) ah (fun _ _=>rfl)) (aa (pv 3) ad))))))
   (ai (gi (fA ⟨rfl,rfl⟩) rfl (mx (K:=K) rfl (pv 2)) (av (i:=5) dQ.nd rfl (by walk_at "o")) (ai (aZ (ja kH (hr.mono (by decide)) (by rfl) T.kc T.kb T.fV .nil cD (aa (pv 5) (aa (pv 3) ad)))))))))),aT (σ':=[some _,some _,some _,some _,none,none]) rfl ?_⟩
  walk_at "l2"
  refine zL (xs:=rs.map fun r=>V.ref r.1) (fun i σ H'=>∃ v1 v2,σ=[some (.ref s),some (.ref t),some (.ref o),some (.ref d),v1,v2]∧Same H H'∧wrsF (d1.flatten++d2++d3) zs=wrsF ((d1.drop i).flatten++d2++d3) zs) ⟨none,none,rfl,Same.refl _,rfl⟩ (fun i σ H' _ ⟨_,_,_,s',_⟩=>SqT.of (s'.get hs)) ?_ ?_
  ·rintro i y σ H' hy ⟨v1,v2,rfl,s',ew0⟩
   obtain ⟨r,hr',rfl⟩:=be hy
   have hi:=(List.getElem?_eq_some_iff.mp hr').1
   have hm:=List.mem_of_getElem? hr'
   have er:=s'.get (kp.sr r hm).1
   have ew:=s'.get (kp.sr r hm).2
   obtain ⟨x,hx⟩:∃ x,d1[i]? =some x:=⟨_,List.getElem?_eq_getElem (by rw [← l1];exact hi)⟩
   have tx:=t1 i r x hr' hx
   rw [gK hx,List.flatten_cons] at ew0
   walk_at "l2"
   refine zL (xs:=r.2.2.2) (fun j σ H2=>∃ v,σ=[some (.ref s),some (.ref t),some (.ref o),some (.ref d),some (.ref r.1),v]∧Same H' H2∧wrsF (d1.flatten++d2++d3) zs=wrsF (x.drop j++(d1.drop (i + 1)).flatten++d2++d3) zs) ⟨_,rfl,Same.refl _,ew0⟩ (fun j σ H2 _ ⟨_,_,s2,_⟩=>SqT.of (s2.get ew)) ?_ ?_
   ·rintro j y σ H2 hy ⟨v,rfl,s2,ew1⟩
    have hj:=(List.getElem?_eq_some_iff.mp hy).1
    obtain ⟨td,htd⟩:∃ td,x[j]? =some td:=⟨_,List.getElem?_eq_getElem (by rw [← tx.1];exact hj)⟩
    have s02:=s'.trans s2
    have tv:=(tx.2 j y td hy htd).same s02
    rw [gK htd,List.cons_append,List.cons_append,List.cons_append] at ew1
    walk_at "l2"
    refine ⟨y,td,d,zs,rfl,tv,kn.same s02,nmz,fun z hz e H3 s3=>?_,fun bad H3 dx tl=>qE td (by rw [ew1];exact sV bad _) H3 dx (pre s02 tl)⟩
    rw [e,nu,if_pos hz] at ew1
    walk_at "l2"
    exact ⟨s2.trans s3,ew1⟩
   ·rintro σ H2 ⟨v,rfl,s2,ew1⟩
    rw [tx.1,List.drop_length,List.nil_append] at ew1
    walk_at "l2"
    exact ⟨_,_,rfl,s'.trans s2,ew1⟩
  ·rintro σ H' ⟨v1,v2,rfl,s',ew0⟩
   rw [List.length_map,l1,List.drop_length,List.flatten_nil,List.nil_append] at ew0
   have ht':=s'.get ht
   walk_at "l2"
   refine zL (xs:=qs.map fun r=>V.ref r.1) (fun i σ H2=>∃ v1,σ=[some (.ref s),some (.ref t),some (.ref o),some (.ref d),v1,v2]∧Same H' H2∧wrsF (d1.flatten++d2++d3) zs=wrsF (d2.drop i++d3) zs) ⟨_,rfl,Same.refl _,ew0⟩ (fun i σ H2 _ ⟨_,_,s2,_⟩=>SqT.of (s2.get ht')) ?_ ?_
   ·rintro i y σ H2 hy ⟨v1,rfl,s2,ew1⟩
    obtain ⟨r,hr',rfl⟩:=be hy
    have hi:=(List.getElem?_eq_some_iff.mp hr').1
    have hm:=List.mem_of_getElem? hr'
    have s02:=s'.trans s2
    have er:=s02.get (kp.tr r hm)
    have l2:=t2.1
    rw [List.length_map] at l2
    obtain ⟨td,htd⟩:∃ td,d2[i]? =some td:=⟨_,List.getElem?_eq_getElem (by omega)⟩
    have tv:=(t2.2 i r.2.2 td (by rw [List.getElem?_map,hr'];rfl) htd).same s02
    rw [gK htd,List.cons_append] at ew1
    walk_at "l2"
    refine ⟨r.2.2,td,d,zs,rfl,tv,kn.same s02,nmz,fun z hz e H3 s3=>?_,fun bad H3 dx tl=>qE td (by rw [ew1];exact sV bad _) H3 dx (pre s02 tl)⟩
    rw [e,nu,if_pos hz] at ew1
    walk_at "l2"
    exact ⟨s2.trans s3,ew1⟩
   ·rintro σ H2 ⟨v1,rfl,s2,ew1⟩
    have l2:=t2.1
    rw [List.length_map] at l2
    rw [List.length_map,l2,List.drop_length,List.nil_append] at ew1
    have s02:=s'.trans s2
    have ho':=s02.get ho
    walk_at "l2"
    refine zL (xs:=N.outs) (fun i σ H3=>∃ v2,σ=[some (.ref s),some (.ref t),some (.ref o),some (.ref d),v1,v2]∧Same H2 H3∧wrsF (d1.flatten++d2++d3) zs=wrsF (d3.drop i) zs) ⟨_,rfl,Same.refl _,ew1⟩ (fun i σ H3 _ ⟨_,_,s3,_⟩=>SqT.of (s3.get ho')) ?_ ?_
    ·rintro i y σ H3 hy ⟨v2,rfl,s3,ew2⟩
     have hi:=(List.getElem?_eq_some_iff.mp hy).1
     have s03:=s02.trans s3
     obtain ⟨td,htd⟩:∃ td,d3[i]? =some td:=⟨_,List.getElem?_eq_getElem (by rw [← t3.1];exact hi)⟩
     have tv:=(t3.2 i y td hy htd).same s03
     rw [gK htd] at ew2
     walk_at "l2"
     refine ⟨y,td,d,zs,rfl,tv,kn.same s03,nmz,fun z hz e H4 s4=>?_,fun bad H4 dx tl=>qE td (by rw [ew2];exact sV bad _) H4 dx (pre s03 tl)⟩
     rw [e,nu,if_pos hz] at ew2
     walk_at "l2"
     exact ⟨s3.trans s4,ew2⟩
    ·rintro σ H3 ⟨v2,rfl,s3,ew2⟩
     rw [t3.1,List.drop_length] at ew2
     walk_at "l2"
     exact qQ ew2 _ (s02.trans s3)
end
section
variable {P:Program} {w:World} {K:PySem.W.Frag} {mg:Str→Option Value} {base:Heap} {a:Ad}
local macro_rules | `(tactic| walk_at "l2step") =>`(tactic| first | ((with_reducible refine' c_whole ?e ?_);(case e=>walk_at "l2kind")) | ((with_reducible refine' c_mask ?e ?_);(case e=>walk_at "l2kind")) | (with_reducible refine cz ?_) | (with_reducible refine s_methX ?_))
theorem NU (T:Tx K mg a):FnOk P w K mg base CX0 1 a.jk a.Fa ["row","waiting"] Nn:=by
 refine T.Ax.ok Nx (fun vs H Q E h=>?_) (fun cdv A outer s H vs Q E hr h=>?_)
 ·obtain ⟨r,d,zs,rfl,_⟩:=h;rfl
 ·obtain ⟨r,d,zs,rfl,er,ew,lw,⟨kvs,ed,ek⟩,q⟩:=h
  have hu:=Oj hr
  refine ⟨_,((ai (bi (ay (CA (K:=K) rfl rfl) (by rfl) T.Tk PyProof.Rows.boot_any (aa (bj (osc:=ae mh) (ON:=["row","waiting"]) (N:=["wire","waiting"]) (n:=1) (fx:=[1]) rfl rfl rfl (by decide +kernel) (mx (K:=K) rfl (aH (bc (K:=K) rfl) (pv 0) ah (fun _ _=>rfl))) (aO (by decide)) (fun _ _ _ _ _=>⟨(av (i:=0) (show List.Nodup (["wire","waiting"]:List Str) from by decide +kernel) rfl (by walk_at "o")),bB,(S6 (KN hu (pv 0) (pv 1)))⟩)) ad))))),aT (σ':=[some _,some _]) rfl ?_⟩
  walk_at "l2"
  intro D hD
  refine z9 (xs:=r.2.2.2.map V.str) (fun i ys H'=>Cs (fun i ys=>ys=((r.2.2.2.take i).map fun w=>decide (w∈zs)).map V.bl) H D i ys H') (Cs.zero hD rfl) (fun i ys H' _ c=>SqT.of (c.same.get ew)) (fun i x ys H' hx c=>?_) (fun ys H' c=>?_)
  ·obtain ⟨z,hz,rfl⟩:=be hx
   have hi:=(List.getElem?_eq_some_iff.mp hz).1
   walk_at "l2"
   refine Ko (c.same.get ed) ?_
   rw [nv ek z]
   refine Cs.put hD c.same c.at' c.len (by omega) ?_
   rw [c.pv,take_succ hz,List.map_append,List.map_append];rfl
  ·have ec:=c.at'
   rw [c.pv,List.length_map,List.take_length] at ec
   walk_at "l2"
   refine OX (SqL.of ec) ?_
   have eany:(r.2.2.2.map fun w=>decide (w∈zs)).any id=dX zs r.2.2.2:=by rw [List.any_map];rfl
   walk_at "l2"
   rw [eany]
   exact q H' c.same
theorem rA (T:Tx K mg a):FnOk P w K mg base CX0 4 a.bI a.gL ["ins","sums","stores"] (Sv.sp_wbyname a.aC a.au a.ao):=by
 have qo:=@nU P w K mg base a T
 have oY:=@mz P w K mg base a T
 have lh:=@jX P w K mg base a T
 refine T.eS.ok jz (fun vs H Q E h=>?_) (fun cdv A outer s H vs Q E hr h=>?_)
 ·obtain ⟨i,s,t,o,rs,qs,N,rfl,_⟩:=h;rfl
 ·obtain ⟨i,s,t,o,rs,qs,N,rfl,kp,g,q⟩:=h
  have hi:=kp.i
  have hs:=kp.s
  have ht:=kp.t
  have li:=g.li
  have ls:=g.ls
  have lt:=g.lt
  have lrs:rs.length=N.sums.length:=by rw [← kp.es,List.length_map]
  have lqs:qs.length=N.sts.length:=by rw [← kp.et,List.length_map]
  refine ⟨_,((af (pf (osc:=ae bq) (ON:=["ins","sums","stores","wires"]) (N:=["number","name"]) (n:=2) (fx:=[]) (i:=3) jz.nd rfl rfl rfl rfl rfl rfl (by decide +kernel) (yG (K:=K) rfl (by rfl) T.mO (pv 0)) (Ge (g8 (aO (by decide)) (g8 (aO (by decide)) zG))) (fun _ _ _ _ _=>⟨(yH (K:=K) (n:=2) rfl rfl (b7 (av (i:=0) (show List.Nodup (["number","name"]:List Str) from by decide +kernel) rfl (by walk_at "o")) (b7 (av (i:=1) (show List.Nodup (["number","name"]:List Str) from by decide +kernel) rfl (by walk_at "o")) i9))),bB,(DO T.OO qo (hr.mono (by decide)) (by rfl) T.Os T.fH .nil bD (aa (pv 1) (aa (pv 0) ad)))⟩))
   (af (aZ (cZ (K:=K) rfl PySem.F.plainAttrs_list PySem.F.slot_list_extend PySem.F.type_list_extend c7 (pv 3) (aa (bj (osc:=ae bq) (ON:=["ins","sums","stores","wires"]) (N:=["row"]) (n:=1) (fx:=[]) rfl rfl rfl (by decide +kernel) (mx (K:=K) rfl (pv 1)) (aO (by decide)) (fun _ _ _ _ _=>⟨(av (i:=0) (show List.Nodup (["row"]:List Str) from by decide +kernel) rfl (by walk_at "o")),bB,(DO T.Mz oY (hr.mono (by decide)) (by rfl) T.LG T.eP .nil bD (aa (aH (bc (K:=K) rfl) (pv 0) ah (fun _ _=>rfl)) (aa (aH (bc (K:=K) rfl) (pv 0) ah (fun _ _=>rfl)) ad)))⟩)) ad)))
   (af (aZ (cZ (K:=K) rfl PySem.F.plainAttrs_list PySem.F.slot_list_extend PySem.F.type_list_extend c7 (pv 3) (aa (bj (osc:=ae bq) (ON:=["ins","sums","stores","wires"]) (N:=["number","row"]) (n:=2) (fx:=[]) rfl rfl rfl (by decide +kernel) (yG (K:=K) rfl (by rfl) T.mO (pv 2)) (Ge (g8 (aO (by decide)) (g8 (aO (by decide)) zG))) (fun _ _ _ _ _=>⟨(yH (K:=K) (n:=2) rfl rfl (b7 (av (i:=0) (show List.Nodup (["number","row"]:List Str) from by decide +kernel) rfl (by walk_at "o")) (b7 (av (i:=1) (show List.Nodup (["number","row"]:List Str) from by decide +kernel) rfl (by walk_at "o")) i9))),bB,(DO T.FH lh (hr.mono (by decide)) (by rfl) T.ES T.dP .nil bD (aa (aH (bc (K:=K) rfl) (pv 1) ah (fun _ _=>rfl)) (aa (aH (bc (K:=K) rfl) (pv 1) ah (fun _ _=>rfl)) (aa (pv 0) ad))))⟩)) ad)))
   (ai (bi (aF (qc rfl) (by rfl) T.BA PyProof.Rows.boot_dict (aa (bj (osc:=ae bq) (ON:=["ins","sums","stores","wires"]) (N:=["wire"]) (n:=1) (fx:=[]) rfl rfl rfl (by decide +kernel) (ba (K:=K) rfl (pv 3)) (aO (by decide)) (fun _ _ _ _ _=>⟨(av (i:=0) (show List.Nodup (["wire"]:List Str) from by decide +kernel) rfl (by walk_at "o")),bB,(bV (aa (fz (K:=K) rfl (pv 0) rfl) (aa (pv 0) ad)))⟩)) ad)))))))),aT (σ':=[some _,some _,some _,none]) rfl ?_⟩
  walk_at "l2"
  refine .inr ⟨⟨_,SqT.of hi⟩,?_⟩
  intro D hD
  refine yh (xs:=N.ins.map V.str) (fun i ys H'=>∃ ws,Sv.WL H H' a.aC a.au a.ao N D ys (N.ins.take i) ws) ⟨[],rfl,rfl,fun _ h=>absurd h (by simp),bX hD,aA⟩ (fun i ys H' _ ⟨ws,c⟩=>SqT.of (c.same.get hi)) (fun i x ys H' pz H2 hx ⟨ws,c⟩ fp s2 e2=>?_) (fun ys H' ⟨ws,c⟩=>?_)
  ·obtain ⟨z,hz,rfl⟩:=be hx
   have hlt:=(List.getElem?_eq_some_iff.mp hz).1
   have lw:ws.length=i:=by have:=congrArg List.length c.nm;rw [List.length_map,List.length_take] at this;omega
   walk_at "l2"
   intro x dx H3 f3 s3 e3
   refine ⟨x,dx,.str z,nat i,rfl,e3,fun H4 u4=>⟨rfl,?_⟩⟩
   have s24:Same H2 H4:=fun b o e=>u4.oth _ _ (al e f3) (s3.get e)
   exact c.put hD (s2.trans s24) (.i i dx hz u4.at') (by rw [List.length_take];omega) (take_succ hz)
  ·rw [List.length_map,List.take_length] at c
   have hs1:=c.same.get hs
   have ht1:=c.same.get ht
   have hD1:=c.d
   walk_at "l2"
   intro D2 hD2
   refine z9 (xs:=rs.map fun r=>V.ref r.1) (fun i ys H2=>∃ ws,Sv.WL H' H2 a.aC a.au a.ao N D2 ys ((rs.take i).map (·.2.2.1)) ws) ⟨[],rfl,rfl,fun _ h=>absurd h (by simp),bX hD2,aA⟩ (fun i ys H2 _ ⟨ws,c2⟩=>SqT.of (c2.same.get hs1)) (fun i x ys2 H2 hx ⟨ws2,c2⟩=>?_) (fun ys2 H2 ⟨ws2,c2⟩=>?_)
   ·obtain ⟨r,hr',rfl⟩:=be hx
    have hlt:=(List.getElem?_eq_some_iff.mp hr').1
    have hm:=List.mem_of_getElem? hr'
    have s02:=c.same.trans c2.same
    have er:=s02.get (kp.sr r hm).1
    have ew:=s02.get (kp.sr r hm).2
    walk_at "l2"
    intro x dx H3 f3 s3 e3
    refine ⟨x,dx,.str r.2.2.1,r.2.1,_,rfl,s3.get ew,e3,fun H4 u4=>⟨rfl,?_⟩⟩
    have s24:Same H2 H4:=fun b o e=>u4.oth _ _ (al e f3) (s3.get e)
    exact c2.put hD2 s24 (.s r.2.2.2 dx r.2.1 (by rw [← kp.es];exact List.mem_map.mpr ⟨r,hm,rfl⟩) u4.at' (s24.get ew)) (by rw [List.length_map,List.length_take];omega) (by rw [take_succ hr',List.map_append];rfl)
   ·rw [List.length_map,List.take_length] at c2
    have hD12:=c2.same.get hD1
    have eD2:=c2.d
    have lys:ys.length=N.ins.length:=by rw [c.ey,← c.nm,List.length_map,List.length_map]
    have lys2:ys2.length=rs.length:=by rw [c2.ey,List.length_map,← List.length_map (f:=(·.1)),c2.nm,List.length_map]
    walk_at "l2"
    refine dS hD12 eD2 (by rw [sizeLine_eq];omega) fun H3 u3=>?_
    have c3:=c.join c2 hD u3
    have hD3:=c3.d
    have ht3:=c3.same.get ht
    have lys3:(ys++ys2).length=N.ins.length + rs.length:=by rw [List.length_append,lys,lys2]
    clear c c2 hD12 eD2 hs1 ht1 hD1 lys lys2 hD2
    generalize ys++ys2=ys3 at *
    walk_at "l2"
    refine .inr ⟨⟨_,SqT.of ht3⟩,?_⟩
    intro D4 hD4
    refine yh (xs:=qs.map fun q=>V.ref q.1) (fun i ys H'=>∃ ws,Sv.WL H3 H' a.aC a.au a.ao N D4 ys ((qs.take i).map (·.2.1)) ws) ⟨[],rfl,rfl,fun _ h=>absurd h (by simp),bX hD4,aA⟩ (fun i ys H' _ ⟨ws,c⟩=>SqT.of (c.same.get ht3)) (fun i x ys H4 pz H5 hx ⟨ws,c⟩ fp s5 e5=>?_) (fun ys4 H4 ⟨ws4,c4⟩=>?_)
    ·obtain ⟨r,hr',rfl⟩:=be hx
     have hlt:=(List.getElem?_eq_some_iff.mp hr').1
     have hm:=List.mem_of_getElem? hr'
     have er:=s5.get (c.same.get (c3.same.get (kp.tr r hm)))
     walk_at "l2"
     intro x dx H6 f6 s6 e6
     refine ⟨x,dx,.str r.2.1,r.2.2,nat i,rfl,e6,fun H7 u7=>⟨rfl,?_⟩⟩
     have s57:Same H5 H7:=fun b o e=>u7.oth _ _ (al e f6) (s6.get e)
     exact c.put hD4 (s5.trans s57) (.t i r.2.2 dx (by rw [← kp.et,List.getElem?_map,hr'];rfl) u7.at') (by rw [List.length_map,List.length_take];omega) (by rw [take_succ hr',List.map_append];rfl)
    ·rw [List.length_map,List.take_length] at c4
     have hD34:=c4.same.get hD3
     have eD4:=c4.d
     have lys4:ys4.length=qs.length:=by rw [c4.ey,List.length_map,← List.length_map (f:=(·.1)),c4.nm,List.length_map]
     walk_at "l2"
     refine dS hD34 eD4 (by rw [sizeLine_eq];omega) fun H5 u5=>?_
     have c5:=c3.join c4 hD u5
     have hD5:=c5.d
     have ey5:=c5.ey
     have enm:N.ins++rs.map (·.2.2.1)++qs.map (·.2.1)=N.names:=by
      unfold Sv.Vt.names
      rw [← kp.es,← kp.et,List.map_map,List.map_map];rfl
     rw [enm] at c5
     clear c3 c4 hD34 eD4 hD3 ht3 hD4
     rw [ey5] at hD5
     generalize ws++ws2++ws4=wl at *
     have lwl:wl.length≤100:=by rw [← List.length_map (f:=(·.1)),c5.nm,← enm,List.length_append,List.length_append,List.length_map,List.length_map];omega
     walk_at "l2"
     intro D6 hD6
     refine bg (xs:=wl.map fun q=>V.ref q.2) (fun i ys H'=>∃ ps:List (Addr×Key×V),ys=ps.map (fun q=>V.ref q.1)∧ps.map (·.2)=(wl.take i).map (fun q=>((Sum.inr q.1:Key),V.ref q.2))∧(∀ q∈ps,H' q.1=some (.tup [kV q.2.1,q.2.2]))∧Same H5 H'∧H' D6=some (.lst ys)) ⟨[],rfl,rfl,fun _ h=>absurd h (by simp),bX hD6,aA⟩ (fun i ys H' _ ⟨_,_,_,_,s',_⟩=>SqL.of (s'.get hD5)) ?_ ?_
     ·rintro i y ys H' hy ⟨ps,rfl,hps,hq,s',eD⟩
      obtain ⟨q0,hq0,rfl⟩:=be hy
      have hlt:=(List.getElem?_eq_some_iff.mp hq0).1
      have hlen:ps.length=i:=by have:=congrArg List.length hps;rw [List.length_map,List.length_map,List.length_take] at this;omega
      have wb:=(c5.ob q0 (List.mem_of_getElem? hq0)).same s'
      have fld:∀ {Q:VK},Q (.str q0.1) H'→RK K (Str.ofString "name") Q (V.ref q0.2) H':=fun h=>by
       cases wb with
       | i k dx hk e=>exact dY e T.Ay T.oq rfl h
       | s ws dx tw hk e et=>exact dY e T.wp T.lJ rfl h
       | t k y dx hk e=>exact dY e T.jy T.jF rfl h
      walk_at "l2"
      refine fld ?_
      walk_at "l2"
      intro tt H6 f6 s6 e6
      have ntt:tt≠D6:=fun z=>by rw [z,eD] at f6;cases f6
      refine ⟨s6.get eD,by rw [List.length_map];exact cj (by omega),ps++[(tt,Sum.inr q0.1,.ref q0.2)],by rw [List.map_append];rfl,by rw [List.map_append,hps,take_succ hq0,List.map_append];rfl,fun q' hq'=>?_,fun b o e=>?_,aA⟩
      ·rcases List.mem_append.mp hq' with h | h
       ·have e:=hq q' h
        rw [aw (iQ e eD fun z=>by cases z)]
        exact s6.get e
       ·rw [List.mem_singleton] at h;subst h
        rw [aw ntt];exact e6
      ·rw [aw (al e hD6)]
       exact s6.get (s'.get e)
     ·rintro ys H6 ⟨ps,rfl,hps,hq,s',eD⟩
      rw [List.length_map,List.take_length] at hps
      have ek:ps.map (fun q=>q.2.1)=N.names.map Sum.inr:=by
       have:=congrArg (List.map (·.1)) hps
       rw [List.map_map,List.map_map] at this
       rw [← c5.nm,List.map_map]
       exact this
      walk_at "l2"
      refine DF eD hq (by rw [ek];exact List.Pairwise.map _ (fun x y h z=>h (Sum.inr.inj z)) g.nd) fun d H7 f7 s7 e7=>?_
      have s57:=s'.trans s7
      rw [hps] at e7
      exact q d H7 wl ((c5.same.trans s').free f7) (c5.same.trans s57) ⟨e7,c5.nm,fun q' hq'=>(c5.ob q' hq').same s57⟩
end
section
variable {P:Program} {w:World} {K:PySem.W.Frag} {mg:Str→Option Value} {base:Heap} {a:Ad}
local macro_rules | `(tactic| walk_at "l2step") =>`(tactic| first | ((with_reducible refine' c_whole ?e ?_);(case e=>walk_at "l2kind")) | ((with_reducible refine' c_mask ?e ?_);(case e=>walk_at "l2kind")) | (with_reducible refine cz ?_) | (with_reducible refine s_methX ?_))
local macro_rules | `(tactic| walk_at "l2step") =>`(tactic| first | (with_reducible refine s_try ?_))
local macro_rules | `(tactic| walk_at "l2step") =>`(tactic| first | (with_reducible refine mf ?_))
local macro_rules | `(tactic| walk_at "l2step") =>`(tactic| first | (with_reducible refine i3 ?_) | (with_reducible refine s_tryH ?_) | (with_reducible refine tT ?_) | (with_reducible refine tS ?_))
theorem PB {H H2:Hp} {x C:Addr} {v:V} (f:H x=none) (e:ExcV H2 x C [("ring",v)]) (hk:∀ b u,b≠x→H b=some u→H2 b=some u):∃ dx,H2 x=some (ExcF x C (some dx))∧Same H (del H2 x)∧(del H2 x) dx=some (.xd [("ring",v)]):=by
 obtain ⟨o,a,b⟩:=e
 cases o with
 | none=>cases b
 | some d=>
   have b:H2 d=some (.xd [("ring",v)]):=b
   have hd:d≠x:=fun z=>by rw [z,a] at b;cases b
   refine ⟨d,a,fun b' o e'=>?_,by rw [qJ hd];exact b⟩
   have hb:b'≠x:=al e' f
   rw [qJ hb];exact hk _ _ hb e'
theorem yK (T:Tx K mg a):FnOk P w K mg base CX0 2 a.cF a.ki ["rows"] J8:=by
 refine T.hU.ok eC (fun vs H Q E h=>?_) (fun cdv A outer s H vs Q E hr h=>?_)
 ·obtain ⟨l,rs,rfl,_⟩:=h;rfl
 ·obtain ⟨l,rs,rfl,hl,hr',ro,hne,hw,q⟩:=h
  have ls:=ro.ls
  rw [List.length_map] at ls
  have ndl:(rs.map (·.2.2.1)).Nodup:=by have:=ro.nd;rw [List.map_map] at this;exact this
  have hu:=Oj hr
  refine ⟨_,((af (aX (i:=1) eC.nd rfl (by walk_at "o") (aF (qc rfl) (by rfl) T.BA PyProof.Rows.boot_dict (aa (pv 0) ad)))
   (af (aX (i:=2) eC.nd rfl (by walk_at "o") (bW ad))
   (af (aX (i:=3) eC.nd rfl (by walk_at "o") (aH (bc (K:=K) rfl) (aH (ar (K:=K) rfl) (pv 0) ah (fun _ _=>rfl)) ah (fun _ _=>rfl)))
   (af (FY PassesOwn.never (az (ue (K:=K) rfl) (pv 3) (pv 2) (by rfl)) (af (aZ (cZ (K:=K) rfl PySem.F.plainAttrs_list PySem.F.slot_list_append PySem.F.type_list_append dR (pv 2) (aa (pv 3) ad)))
   (ai (aX (i:=3) eC.nd rfl (by walk_at "o") (aH (ar (K:=K) rfl) (bj (osc:=ae dq) (ON:=["rows","waiting","path","name"]) (N:=["wire","waiting"]) (n:=1) (fx:=[1]) rfl rfl rfl (by decide +kernel) (mx (K:=K) rfl (Qq hu (pv 1) (pv 3) (fun _ _=>rfl))) (aO (by decide)) (fun _ _ _ _ _=>⟨(av (i:=0) (show List.Nodup (["wire","waiting"]:List Str) from by decide +kernel) rfl (by walk_at "o")),(i8 (KJ (KN hu (pv 0) (pv 1)))),(pv 0)⟩)) ah (fun _ _=>rfl))))))
   (ai (bi (kM (kJ (K:=K) rfl) (pv 2) (pi (cZ (K:=K) rfl PySem.F.plainAttrs_list PySem.F.slot_list_index PySem.F.type_list_index K6 (pv 2) (aa (pv 3) ad))) pj)))))))),aT (σ':=[some _,none,none,none]) rfl ?_⟩
  walk_at "l2"
  refine DF (ps:=rs.map fun r=>(r.1,Sum.inr r.2.2.1,V.ref r.2.1)) (by rw [List.map_map];exact hl) (fun q' hq'=>?_) ?_ fun d H1 f1 s1 e1=>?_
  ·obtain ⟨r,hr2,rfl⟩:=List.mem_map.mp hq'
   exact (hr' r hr2).1
  ·rw [List.map_map]
   have:=List.Pairwise.map (Sum.inr:Str→Key) (S:=fun a b=>a≠b) (fun x y h z=>h (Sum.inr.inj z)) ndl
   rw [List.map_map] at this
   exact this
  walk_at "l2"
  intro Dp H2 f2 s2 e2
  obtain ⟨r0,h0⟩:∃ r0,rs[0]? =some r0:=⟨_,List.getElem?_eq_getElem (List.length_pos_iff.mpr hne)⟩
  have hl2:=s2.get (s1.get hl)
  have h0m:=List.mem_of_getElem? h0
  have er0:=s2.get (s1.get (hr' r0 h0m).1)
  walk_at "l2"
  refine mi (SqL.of hl2) (bz (j:=0) (by rw [List.getElem?_map,h0];rfl)) ?_
  walk_at "l2"
  rw [List.map_map] at e1
  have e1:H1 d=some (.dK (rs.map fun r=>((Sum.inr r.2.2.1:Key),V.ref r.2.1))):=e1
  have nmE:(rs.map (·.2.2)).map (·.1)=rs.map (·.2.2.1):=by rw [List.map_map];rfl
  refine ⟨fun μ σ' H'=>∃ (path:List Str) (z:Str),σ'=[some (.ref l),some (.ref d),some (.ref Dp),some (.str z)]∧Same H1 H'∧H' Dp=some (.lst (path.map V.str))∧FG (rs.map (·.2.2)) path z∧μ=rs.length + 1 - path.length,⟨_,[],r0.2.2.1,rfl,s2,e2,⟨.nil,fun _ h=>absurd h (by simp),by rw [nmE];exact List.mem_map.mpr ⟨r0,h0m,rfl⟩,fun i hi=>by simp at hi,fun h=>absurd rfl h⟩,rfl⟩,?_⟩
  rintro μ σ' H3 ⟨path,z,rfl,s3,e3,pw,rfl⟩
  have lp:=pw.len
  rw [List.length_map] at lp
  walk_at "l2"
  refine yy e3 ?_
  by_cases hz:z∈path
  ·rw [decide_eq_true hz]
   obtain ⟨j,hj,hf⟩:=zO hz
   have hjl:=(List.getElem?_eq_some_iff.mp hj).1
   walk_at "l2"
   refine ND e3 hj hf ?_
   walk_at "l2"
   intro D H4 f4 s4 e4
   rw [zZ _ _ (by rw [List.length_map];omega),← List.map_drop] at e4
   have hne2:path≠[]:=fun e=>by rw [e] at hz;simp at hz
   exact q D H4 (path.drop j) ((s1.trans s3).free f4) ((s1.trans s3).trans s4) e4 (AX pw.nd pw.st hj (pw.last hne2))
  ·rw [decide_eq_false hz]
   walk_at "l2"
   have hz2:=pw.hz
   rw [nmE] at hz2
   obtain ⟨r,hrm,erz,hv⟩:=R3 hz2
   have hrz:(z,r.2.2.2)∈rs.map (·.2.2):=by rw [← erz];exact List.mem_map.mpr ⟨r,hrm,rfl⟩
   refine ⟨fun σ' H'=>∃ (path':List Str) (z:Str),σ'=[some (.ref l),some (.ref d),some (.ref Dp),some (.str z)]∧Same H1 H'∧H' Dp=some (.lst (path'.map V.str))∧FG (rs.map (·.2.2)) path' z∧path'.length=path.length + 1,fun σ' H' ⟨path',z',a1,a2,a3,a4,a5⟩=>⟨_,by omega,path',z',a1,a2,a3,a4,rfl⟩,?_⟩
   walk_at "l2"
   refine gm e3 (by rw [List.length_map];exact cj (by omega)) fun H4 u4=>?_
   have s4:Same H1 H4:=fun b o e=>u4.oth _ _ (al e f2) (s3.get e)
   have e4:H4 Dp=some (.lst ((path++[z]).map V.str)):=by rw [u4.at',List.map_append];rfl
   clear u4
   have ed4:=s4.get e1
   have ew4:=s4.get (s1.get (hr' r hrm).2)
   walk_at "l2"
   refine Qe ed4 hv ?_
   walk_at "l2"
   intro D hD
   refine z9 (xs:=r.2.2.2.map V.str) (fun i ys H'=>Cs (fun i ys=>ys=((r.2.2.2.take i).filter fun w=>decide (w∈rs.map (·.2.2.1))).map V.str) H4 D i ys H') (Cs.zero hD rfl) (fun i ys H' _ c=>SqT.of (c.same.get ew4)) (fun i x ys H' hx c=>?_) (fun ys H' c=>?_)
   ·obtain ⟨y,hy,rfl⟩:=be hx
    have hi:=(List.getElem?_eq_some_iff.mp hy).1
    have h24:=ro.lw r.2.2 (List.mem_map.mpr ⟨r,hrm,rfl⟩)
    have ed':=c.same.get ed4
    walk_at "l2"
    refine Ko ed' ?_
    rw [nv (zs:=rs.map (·.2.2.1)) (by rw [List.map_map,List.map_map];rfl) y]
    by_cases hm:y∈rs.map (·.2.2.1)
    ·rw [decide_eq_true hm]
     walk_at "l2"
     refine Cs.put hD c.same c.at' c.len (by omega) ?_
     rw [c.pv,take_succ hy,List.filter_append,List.map_append,List.filter_cons,if_pos (decide_eq_true hm)];rfl
    ·rw [decide_eq_false hm]
     walk_at "l2"
     refine Cs.skip c.same c.at' c.len ?_
     rw [c.pv,take_succ hy,List.filter_append,List.map_append,List.filter_cons,if_neg (by simpa using hm)];simp
   ·have ec:=c.at'
    rw [c.pv,List.length_map,List.take_length] at ec
    have hwr:=hw r hrm
    unfold dX at hwr
    obtain ⟨y,hy1,hy2⟩:=List.any_eq_true.mp hwr
    have hmem:y∈r.2.2.2.filter fun w=>decide (w∈rs.map (·.2.2.1)):=List.mem_filter.mpr ⟨hy1,hy2⟩
    obtain ⟨y0,h0'⟩:∃ y0,(r.2.2.2.filter fun w=>decide (w∈rs.map (·.2.2.1)))[0]? =some y0:=⟨_,List.getElem?_eq_getElem (List.length_pos_of_mem hmem)⟩
    have hy0:=List.mem_filter.mp (List.mem_of_getElem? h0')
    walk_at "l2"
    refine mi (SqL.of ec) (bz (j:=0) (by rw [List.getElem?_map,h0'];rfl)) ?_
    walk_at "l2"
    exact ⟨path++[z],y0,rfl,s4.trans c.same,c.same.get e4,pw.step hz hrz hy0.1 (by rw [nmE];exact of_decide_eq_true hy0.2),by rw [List.length_append];rfl⟩
theorem Hm (T:Tx K mg a):FnOk P w K mg base (CX1 P w) 6 a.eG a.vz ["sums"] (AL a.aE):=by
 have C6:=@yK P w K mg base a T
 have wn:=@rC P w K mg base a T
 have ME:=@NU P w K mg base a T
 refine T.o4.okX gv (fun vs H Q E h=>?_) (fun cdv A outer s H vs Q E hr h=>?_)
 ·obtain ⟨s,rs,rfl,_⟩:=h;rfl
 ·obtain ⟨s,rs,rfl,hs,hsr,ro,q,qE⟩:=h
  have ls:=ro.ls
  rw [List.length_map] at ls
  refine ⟨_,((af (aX (i:=1) gv.nd rfl (by walk_at "o") (bW ad))
   (af (aX (i:=2) gv.nd rfl (by walk_at "o") (aF (bM (K:=K) rfl) (by rfl) T.eu PyProof.Rows.boot_list (aa (pv 0) ad)))
   (af (FY (fA ⟨rfl,rfl⟩) (az nS (ay (aG (K:=K) rfl) (by rfl) T.di PySem.boot_len (aa (pv 2) ad)) ah (aR _)) (af (aX (i:=3) gv.nd rfl (by walk_at "o") (aF (qc rfl) (by rfl) T.BA PyProof.Rows.boot_dict (aa (pv 2) ad)))
   (af (pf (osc:=ae fR) (ON:=["sums","names","left","waiting","ready"]) (N:=["row","waiting"]) (n:=1) (fx:=[3]) (i:=4) gv.nd rfl rfl rfl rfl rfl rfl (by decide +kernel) (ba (K:=K) rfl (pv 2)) (aO (by decide)) (fun _ _ _ _ _=>⟨(av (i:=0) (show List.Nodup (["row","waiting"]:List Str) from by decide +kernel) rfl (by walk_at "o")),(i8 (lD (eE (aL ME (hr.mono (by decide)) (by rfl) T.LD T.Lh T.Ai .nil bD (aa (pv 0) (aa (pv 1) ad)))))),(aH (bc (K:=K) rfl) (pv 0) ah (fun _ _=>rfl))⟩))
   (af (ci (az io (ay (aG (K:=K) rfl) (by rfl) T.di PySem.boot_len (aa (pv 4) ad)) ah (aR _)) (ai (nK T.Mt wn (hr.mono (by decide)) (by rfl) T.Pd T.gU bD cD rfl (aa (aL C6 (hr.mono (by decide)) (by rfl) T.B1 T.BT T.kC .nil bD (aa (pv 2) ad)) ad))) aK)
   (af (aZ (cZ (K:=K) rfl PySem.F.plainAttrs_list PySem.F.slot_list_extend PySem.F.type_list_extend c7 (pv 1) (aa (pv 4) ad)))
   (ai (pf (osc:=ae fR) (ON:=["sums","names","left","waiting","ready"]) (N:=["row","waiting"]) (n:=1) (fx:=[3]) (i:=2) gv.nd rfl rfl rfl rfl rfl rfl (by decide +kernel) (ba (K:=K) rfl (pv 2)) (aO (by decide)) (fun _ _ _ _ _=>⟨(av (i:=0) (show List.Nodup (["row","waiting"]:List Str) from by decide +kernel) rfl (by walk_at "o")),(i8 (eE (aL ME (hr.mono (by decide)) (by rfl) T.LD T.Lh T.Ai .nil bD (aa (pv 0) (aa (pv 1) ad))))),(pv 0)⟩))))))))
   (ai (bi (pv 1))))))),aT (σ':=[some _,none,none,none,none]) rfl ?_⟩
  walk_at "l2"
  intro Dn H1 f1 s1 e1
  have hs1:=s1.get hs
  walk_at "l2"
  intro Dl H2 f2 s2 e2
  walk_at "l2"
  have nd:=ro.nd
  refine ⟨fun μ σ' H'=>∃ (od:List Str) (lf:List Rw) (Dl:Addr) (v3 v4:Option V),σ'=[some (.ref s),some (.ref Dn),some (.ref Dl),v3,v4]∧Same H H'∧H' Dn=some (.lst (od.map V.str))∧H' Dl=some (.lst (lf.map fun r=>V.ref r.1))∧Dl≠Dn∧(∀ r∈lf,r∈rs)∧Otp (rs.map (·.2.2)) od (lf.map (·.2.2))∧μ=lf.length,⟨rs.length,[],rs,Dl,none,none,rfl,s1.trans s2,s2.get e1,e2,fun z=>(by rw [z,e1] at f2;cases f2),fun _ h=>h,Otp.start _,rfl⟩,?_⟩
  rintro μ σ' H3 ⟨od,lf,Dl,v3,v4,rfl,s3,en,el,nln,sub,ot,rfl⟩
  walk_at "l2"
  rw [List.length_map]
  by_cases h0:lf=[]
  ·subst h0
   refine gl (decide_eq_false (by simp)) ?_
   walk_at "l2"
   exact q Dn H3 od f1 s3 en ot.done
  ·have hpos:0 < lf.length:=List.length_pos_iff.mpr h0
   refine i4 (decide_eq_true (by omega)) ?_
   have hperm:=ot.perm.nodup_iff.mpr nd
   rw [List.nodup_append] at hperm
   have ndl:(lf.map (·.2.2.1)).Nodup:=by have:=hperm.2.1;rw [List.map_map] at this;exact this
   have lod:od.length + lf.length=rs.length:=by have:=ot.perm.length_eq;rw [List.length_append,List.length_map,List.length_map,List.length_map,List.length_map] at this;exact this
   have zsE:(lf.map (·.2.2)).map (·.1)=lf.map (·.2.2.1):=by rw [List.map_map];rfl
   have lfr:∀ r∈lf,∀ {H'},Same H H'→H' r.1=some (.tup [.str r.2.2.1,.ref r.2.1])∧H' r.2.1=some (.tup (r.2.2.2.map V.str)):=fun r hr H' s'=>⟨s'.get (hsr r (sub r hr)).1,s'.get (hsr r (sub r hr)).2⟩
   have lwr:∀ r∈lf,r.2.2.2.length≤24:=fun r hr=>ro.lw r.2.2 (List.mem_map.mpr ⟨r,sub r hr,rfl⟩)
   refine ⟨fun σ' H'=>∃ (od:List Str) (lf':List Rw) (Dl:Addr) (v3 v4:Option V),σ'=[some (.ref s),some (.ref Dn),some (.ref Dl),v3,v4]∧Same H H'∧H' Dn=some (.lst (od.map V.str))∧H' Dl=some (.lst (lf'.map fun r=>V.ref r.1))∧Dl≠Dn∧(∀ r∈lf',r∈rs)∧Otp (rs.map (·.2.2)) od (lf'.map (·.2.2))∧lf'.length < lf.length,fun σ' H' ⟨od,lf',Dl,v3,v4,a1,a2,a3,a4,a5,a6,a7,a8⟩=>⟨lf'.length,a8,od,lf',Dl,v3,v4,a1,a2,a3,a4,a5,a6,a7,rfl⟩,?_⟩
   walk_at "l2"
   refine DF (ps:=lf.map fun r=>(r.1,Sum.inr r.2.2.1,V.ref r.2.1)) (by rw [List.map_map];exact el) (fun q' hq'=>?_) ?_ fun d H4 f4 s4 e4=>?_
   ·obtain ⟨r,hr',rfl⟩:=List.mem_map.mp hq'
    exact (lfr r hr' s3).1
   ·rw [List.map_map]
    have:=List.Pairwise.map (Sum.inr:Str→Key) (S:=fun a b=>a≠b) (fun x y h z=>h (Sum.inr.inj z)) ndl
    rw [List.map_map] at this
    exact this
   have kn:Knw H4 d (lf.map (·.2.2.1)):=⟨_,e4,by rw [List.map_map,List.map_map,List.map_map];rfl⟩
   have el4:=s4.get el
   have en4:=s4.get en
   have s04:=s3.trans s4
   walk_at "l2"
   intro D5 hD5
   refine bg (xs:=lf.map fun r=>V.ref r.1) (fun i ys H'=>ys=(((lf.take i).filter fun r=> !dX (lf.map (·.2.2.1)) r.2.2.2).map (·.2.2.1)).map V.str∧Same H4 H'∧H' D5=some (.lst ys)) ⟨rfl,bX hD5,aA⟩ (fun i ys H' _ ⟨_,s',_⟩=>SqL.of (s'.get el4)) (fun i x ys H' hx ⟨ey,s',e'⟩=>?_) (fun ys H5 ⟨ey,s5,e5⟩=>?_)
   ·obtain ⟨r,hr',rfl⟩:=be hx
    have hm:=List.mem_of_getElem? hr'
    have hlt:=(List.getElem?_eq_some_iff.mp hr').1
    have rr:=lfr r hm (s04.trans s')
    have r1:=rr.1
    have fs:(lf.take (i + 1)).filter (fun r=> !dX (lf.map (·.2.2.1)) r.2.2.2)=(lf.take i).filter (fun r=> !dX (lf.map (·.2.2.1)) r.2.2.2)++(if (!dX (lf.map (·.2.2.1)) r.2.2.2)=true then [r] else []):=by rw [take_succ hr',List.filter_append,List.filter_cons];rfl
    walk_at "l2"
    refine ⟨r,d,lf.map (·.2.2.1),rfl,rr.1,rr.2,lwr r hm,kn.same s',fun H6 s6=>?_⟩
    have r16:=s6.get r1
    cases hw:dX (lf.map (·.2.2.1)) r.2.2.2 with
    | true=>
      walk_at "l2"
      refine ⟨?_,s'.trans s6,s6.get e'⟩
      rw [fs,hw,ey];simp
    | false=>
      walk_at "l2"
      refine ⟨s6.get e',?_,?_,fun b o e=>?_,aA⟩
      ·rw [ey,List.length_map,List.length_map]
       have:=List.length_filter_le (fun r:Rw=> !dX (lf.map (·.2.2.1)) r.2.2.2) (lf.take i)
       rw [List.length_take] at this
       exact cj (by omega)
      ·rw [fs,hw,ey];simp
      ·rw [aw (al e hD5)]
       exact s6.get (s'.get e)
   ·rw [List.length_map,List.take_length] at ey
    have fm:((lf.map (·.2.2)).filter fun r=> !dX (lf.map (·.2.2.1)) r.2)=(lf.filter fun r=> !dX (lf.map (·.2.2.1)) r.2.2.2).map (·.2.2):=by rw [List.filter_map];rfl
    have fm2:((lf.map (·.2.2)).filter fun r=>dX (lf.map (·.2.2.1)) r.2)=(lf.filter fun r=>dX (lf.map (·.2.2.1)) r.2.2.2).map (·.2.2):=by rw [List.filter_map];rfl
    have lys:ys.length=(lf.filter fun r=> !dX (lf.map (·.2.2.1)) r.2.2.2).length:=by rw [ey,List.length_map,List.length_map]
    have lle:=List.length_filter_le (fun r:Rw=> !dX (lf.map (·.2.2.1)) r.2.2.2) lf
    have ot':=ot.step nd
    rw [zsE,fm,fm2,List.map_map] at ot'
    have el5:=s5.get el4
    have en5:=s5.get en4
    walk_at "l2"
    by_cases hrd:(lf.filter fun r=> !dX (lf.map (·.2.2.1)) r.2.2.2).length=0
    ·refine i4 (decide_eq_true (by rw [lys,hrd];rfl)) ?_
     have allw:∀ r∈lf,dX (lf.map (·.2.2.1)) r.2.2.2=true:=fun r hr=>by
      cases hb:dX (lf.map (·.2.2.1)) r.2.2.2 with
      | true=>rfl
      | false=>
        have:r∈lf.filter fun r=> !dX (lf.map (·.2.2.1)) r.2.2.2:=List.mem_filter.mpr ⟨hr,by rw [hb];rfl⟩
        have:=List.length_pos_of_mem this
        omega
     have s05:=s04.trans s5
     have roL:Ro (lf.map (·.2.2)):=⟨by rw [List.length_map];omega,fun x hx=>by
      obtain ⟨r,hr',rfl⟩:=List.mem_map.mp hx
      exact lwr r hr',by rw [List.map_map];exact ndl⟩
     walk_at "l2"
     refine ⟨Dl,lf,rfl,el5,fun r hr=>lfr r hr s05,roL,h0,allw,fun D H6 rg f6 s6 e6 ir=>?_⟩
     walk_at "l2"
     refine kL fun x H7 f7 s7 e7=>⟨x,D,rg,rfl,s7.get e6,e7,fun L H8 e8 k8 el8=>?_⟩
     obtain ⟨dx,a1,a2,a3⟩:=PB (H:=H6) f7 e8 fun b u hb' e'=>k8 _ _ hb' (s7.get e')
     refine ⟨rfl,some dx,a1,qE _ dx L rg ((s05.trans s6).trans a2) a3 ?_ (ir.mono fun y hy=>?_)⟩
     ·rw [qJ (fun z=>by rw [z,a1] at el8;cases el8)];exact el8
     ·obtain ⟨r,hr',rfl⟩:=List.mem_map.mp hy
      exact List.mem_map.mpr ⟨r,sub r hr',rfl⟩
    have hless:=EV (fun r:Rw=>dX (lf.map (·.2.2.1)) r.2.2.2) lf (by omega)
    refine gl (decide_eq_false fun z=>by have:=V.int.inj z;omega) ?_
    walk_at "l2"
    refine dS en5 e5 (by rw [List.length_map,lys,sizeLine_eq];omega) fun H6 u6=>?_
    have s46:∀ b o,b≠Dn→H4 b=some o→H6 b=some o:=fun b o n e=>u6.oth _ _ n (s5.get e)
    have s06:Same H H6:=fun b o e=>s46 b o (al e f1) (s04.get e)
    have el6:=u6.oth _ _ nln el5
    have en6:=u6.at'
    rw [ey,← List.map_append] at en6
    have kn6:Knw H6 d (lf.map (·.2.2.1)):=by
     obtain ⟨kvs,ed,ek⟩:=kn
     exact ⟨kvs,s46 _ _ (iQ ed en4 fun z=>by cases z) ed,ek⟩
    walk_at "l2"
    intro D7 hD7
    refine bg (xs:=lf.map fun r=>V.ref r.1) (fun i ys H'=>ys=((lf.take i).filter fun r=>dX (lf.map (·.2.2.1)) r.2.2.2).map (fun r=>V.ref r.1)∧Same H6 H'∧H' D7=some (.lst ys)) ⟨rfl,bX hD7,aA⟩ (fun i ys H' _ ⟨_,s',_⟩=>SqL.of (s'.get el6)) (fun i x ys H' hx ⟨ey,s',e'⟩=>?_) (fun ys H7 ⟨ey7,s7,e7⟩=>?_)
    ·obtain ⟨r,hr',rfl⟩:=be hx
     have hm:=List.mem_of_getElem? hr'
     have hlt:=(List.getElem?_eq_some_iff.mp hr').1
     have rr:=lfr r hm (s06.trans s')
     have fs:(lf.take (i + 1)).filter (fun r=>dX (lf.map (·.2.2.1)) r.2.2.2)=(lf.take i).filter (fun r=>dX (lf.map (·.2.2.1)) r.2.2.2)++(if dX (lf.map (·.2.2.1)) r.2.2.2=true then [r] else []):=by rw [take_succ hr',List.filter_append,List.filter_cons];rfl
     walk_at "l2"
     refine ⟨r,d,lf.map (·.2.2.1),rfl,rr.1,rr.2,lwr r hm,kn6.same s',fun H8 s8=>?_⟩
     cases hw:dX (lf.map (·.2.2.1)) r.2.2.2 with
     | false=>
       walk_at "l2"
       refine ⟨?_,s'.trans s8,s8.get e'⟩
       rw [fs,hw,ey];simp
     | true=>
       walk_at "l2"
       refine ⟨s8.get e',?_,?_,fun b o e=>?_,aA⟩
       ·rw [ey,List.length_map]
        have:=List.length_filter_le (fun r:Rw=>dX (lf.map (·.2.2.1)) r.2.2.2) (lf.take i)
        rw [List.length_take] at this
        exact cj (by omega)
       ·rw [fs,hw,ey];simp
       ·rw [aw (al e hD7)]
        exact s8.get (s'.get e)
    ·rw [List.length_map,List.take_length] at ey7
     rw [ey7] at e7
     walk_at "l2"
     have hsub:∀ r∈lf.filter (fun r=>dX (lf.map (·.2.2.1)) r.2.2.2),r∈rs:=fun r hr=>sub r (List.mem_filter.mp hr).1
     have nd7:D7≠Dn:=fun z=>(by rw [z,en6] at hD7;cases hD7)
     exact ⟨_,_,D7,_,_,rfl,s06.trans s7,s7.get en6,e7,nd7,hsub,ot',hless⟩
end
section
variable {P:Program} {w:World} {K:PySem.W.Frag} {mg:Str→Option Value} {base:Heap} {a:Ad}
local macro_rules | `(tactic| walk_at "l2step") =>`(tactic| first | ((with_reducible refine' c_whole ?e ?_);(case e=>walk_at "l2kind")) | ((with_reducible refine' c_mask ?e ?_);(case e=>walk_at "l2kind")) | (with_reducible refine cz ?_) | (with_reducible refine s_methX ?_))
local macro_rules | `(tactic| walk_at "l2step") =>`(tactic| first | (with_reducible refine s_try ?_))
local macro_rules | `(tactic| walk_at "l2step") =>`(tactic| first | (with_reducible refine mf ?_))
local macro_rules | `(tactic| walk_at "l2step") =>`(tactic| first | (with_reducible refine i3 ?_) | (with_reducible refine s_tryH ?_) | (with_reducible refine tT ?_) | (with_reducible refine tS ?_))
theorem jY (T:Tx K mg a):FnOk P w K mg base (CX1 P w) 9 a.bx a.iB ["self","ins","sums","stores","outs"] (Np a.bO a.aC a.au a.ao a.ax a.ak a.aj a.am a.aE):=by
 have Av:=@wD P w K mg base a T
 have Aw:=@wE P w K mg base a T
 have Au:=@wC P w K mg base a T
 have wj:=@rA P w K mg base a T
 have MF:=@Hm P w K mg base a T
 refine T.fQ.okX tQ (fun vs H Q E h=>?_) (fun cdv A outer s H vs Q E hr h=>?_)
 ·obtain ⟨x,dx,i,s,t,o,is,rs,qs,os,N,rfl,_⟩:=h;rfl
 ·obtain ⟨x,dx,i,s,t,o,is,rs,qs,os,N,rfl,hx,hn,da,lis,lrs0,q,qE⟩:=h
  have lI:=da.i.1
  have lrs:rs.length=N.sums.length:=by have:=da.sn.1;rw [List.length_map,List.length_map] at this;exact this
  have lqs:qs.length=N.sts.length:=by have:=da.tn.1;rw [List.length_map,List.length_map] at this;exact this
  have lO:=da.o.1
  have emany:(decide (6 < is.length)||decide (40 < rs.length)||decide (16 < qs.length)||decide (6 < os.length)||rs.any fun r=>decide (24 < r.2.2.2.length))=iq N:=by
   unfold iq
   rw [lI,lrs,lqs,lO]
   congr 1
   exact CQ lrs fun k r x h1 h2=>by rw [(da.sw k r x h1 h2).1]
  refine ⟨_,((af (aZ (ja Av (hr.mono (by decide)) (by rfl) T.zI T.zD T.jp .nil cD (aa (pv 1) (aa (pv 2) (aa (pv 3) (aa (pv 4) ad))))))
   (af (aZ (ja Aw (hr.mono (by decide)) (by rfl) T.zJ T.zE T.jq .nil cD (aa (aB iP (aB iP (aF (bM (K:=K) rfl) (by rfl) T.eu PyProof.Rows.boot_list (aa (pv 1) ad)) (bj (osc:=ae bF) (ON:=["self","ins","sums","stores","outs"]) (N:=["row"]) (n:=1) (fx:=[]) rfl rfl rfl (by decide +kernel) (ba (K:=K) rfl (pv 2)) (aO (by decide)) (fun _ _ _ _ _=>⟨(av (i:=0) (show List.Nodup (["row"]:List Str) from by decide +kernel) rfl (by walk_at "o")),bB,(aH (bc (K:=K) rfl) (pv 0) ah (fun _ _=>rfl))⟩))) (bj (osc:=ae bF) (ON:=["self","ins","sums","stores","outs"]) (N:=["row"]) (n:=1) (fx:=[]) rfl rfl rfl (by decide +kernel) (ba (K:=K) rfl (pv 3)) (aO (by decide)) (fun _ _ _ _ _=>⟨(av (i:=0) (show List.Nodup (["row"]:List Str) from by decide +kernel) rfl (by walk_at "o")),bB,(aH (bc (K:=K) rfl) (pv 0) ah (fun _ _=>rfl))⟩))) ad)))
   (af (gE (K:=K) rfl (pv 0) (aF (dw (K:=K) rfl) (by rfl) T.ip PyProof.Rows.boot_tuple (aa (pv 1) ad)) rfl)
   (af (gE (K:=K) rfl (pv 0) (aF (dw (K:=K) rfl) (by rfl) T.ip PyProof.Rows.boot_tuple (aa (bj (osc:=ae bF) (ON:=["self","ins","sums","stores","outs"]) (N:=["row"]) (n:=1) (fx:=[]) rfl rfl rfl (by decide +kernel) (ba (K:=K) rfl (pv 2)) (aO (by decide)) (fun _ _ _ _ _=>⟨(av (i:=0) (show List.Nodup (["row"]:List Str) from by decide +kernel) rfl (by walk_at "o")),bB,(bV (aa (aH (bc (K:=K) rfl) (pv 0) ah (fun _ _=>rfl)) (aa (aF (dw (K:=K) rfl) (by rfl) T.ip PyProof.Rows.boot_tuple (aa (aH (bc (K:=K) rfl) (pv 0) ah (fun _ _=>rfl)) ad)) ad)))⟩)) ad)) rfl)
   (af (gE (K:=K) rfl (pv 0) (aF (dw (K:=K) rfl) (by rfl) T.ip PyProof.Rows.boot_tuple (aa (bj (osc:=ae bF) (ON:=["self","ins","sums","stores","outs"]) (N:=["row"]) (n:=1) (fx:=[]) rfl rfl rfl (by decide +kernel) (ba (K:=K) rfl (pv 3)) (aO (by decide)) (fun _ _ _ _ _=>⟨(av (i:=0) (show List.Nodup (["row"]:List Str) from by decide +kernel) rfl (by walk_at "o")),bB,(bV (aa (aH (bc (K:=K) rfl) (pv 0) ah (fun _ _=>rfl)) (aa (aH (bc (K:=K) rfl) (pv 0) ah (fun _ _=>rfl)) ad)))⟩)) ad)) rfl)
   (af (gE (K:=K) rfl (pv 0) (aF (dw (K:=K) rfl) (by rfl) T.ip PyProof.Rows.boot_tuple (aa (pv 4) ad)) rfl)
   (af (gE (K:=K) rfl (pv 0) (aL wj (hr.mono (by decide)) (by rfl) T.vm T.vh T.gS .nil bD (aa (fz (K:=K) rfl (pv 0) rfl) (aa (fz (K:=K) rfl (pv 0) rfl) (aa (fz (K:=K) rfl (pv 0) rfl) ad)))) rfl)
   (af (aZ (ja Au (hr.mono (by decide)) (by rfl) T.zH T.zC T.jo .nil cD (aa (fz (K:=K) rfl (pv 0) rfl) (aa (fz (K:=K) rfl (pv 0) rfl) (aa (fz (K:=K) rfl (pv 0) rfl) (aa (fz (K:=K) rfl (pv 0) rfl) ad))))))
   (ai (gE (K:=K) rfl (pv 0) (aF (dw (K:=K) rfl) (by rfl) T.ip PyProof.Rows.boot_tuple (aa (ja MF (hr.mono (by decide)) (by rfl) T.LE T.Li T.vT .nil cD (aa (fz (K:=K) rfl (pv 0) rfl) ad)) ad)) rfl))))))))))),aT (σ':=[some _,some _,some _,some _,some _]) rfl ?_⟩
  walk_at "l2"
  refine ⟨i,s,t,o,is,rs,qs,os,rfl,hn,by omega,by omega,fun hm H1 s1=>?_,fun hm H1 s1=>qE .many (zT (emany ▸ hm)) H1 _ _ (Kx.same s1) ⟨rfl,rfl⟩⟩
  rw [emany] at hm
  have hl:rs.length≤40∧qs.length≤16∧is.length≤6:=by
   have hm':=hm
   rw [← emany] at hm'
   simp only [Bool.or_eq_false_iff,decide_eq_false_iff_not] at hm'
   omega
  obtain ⟨ls,lt,li⟩:=hl
  have hn1:=hn.same s1
  have hi1:=hn1.i
  have hs1:=hn1.s
  have ht1:=hn1.t
  walk_at "l2"
  intro D2 H2 f2 s2 e2
  have hs2:=s2.get hs1
  walk_at "l2"
  intro D3 hD3
  refine bg (xs:=rs.map fun r=>V.ref r.1) (fun i ys H'=>Cs (fun i ys=>ys=(rs.take i).map (·.2.2.1)) H2 D3 i ys H') (Cs.zero hD3 rfl) (fun i ys H' _ c=>SqL.of (c.same.get hs2)) (fun i x ys H' hx c=>?_) (fun ys H3 c=>?_)
  ·obtain ⟨r,hr',rfl⟩:=be hx
   have hlt:=(List.getElem?_eq_some_iff.mp hr').1
   have er:=c.same.get (s2.get (hn1.sr r (List.mem_of_getElem? hr')).1)
   walk_at "l2"
   refine Cs.put hD3 c.same c.at' c.len (by omega) ?_
   rw [c.pv,take_succ hr',List.map_append];rfl
  ·have e3:=c.at'
   rw [c.pv,List.length_map,List.take_length] at e3
   have s23:=c.same
   clear c
   refine pe (s23.get e2) e3 (by rw [List.length_map,sizeLine_eq];omega) fun D4 H4 f4 s4 e4=>?_
   have s14:=s2.trans (s23.trans s4)
   have ht4:=s14.get ht1
   walk_at "l2"
   intro D5 hD5
   refine bg (xs:=qs.map fun r=>V.ref r.1) (fun i ys H'=>Cs (fun i ys=>ys=(qs.take i).map (·.2.1)) H4 D5 i ys H') (Cs.zero hD5 rfl) (fun i ys H' _ c=>SqL.of (c.same.get ht4)) (fun i x ys H' hx c=>?_) (fun ys H5 c=>?_)
   ·obtain ⟨r,hr',rfl⟩:=be hx
    have hlt:=(List.getElem?_eq_some_iff.mp hr').1
    have er:=c.same.get (s14.get (hn1.tr r (List.mem_of_getElem? hr')))
    walk_at "l2"
    refine Cs.put hD5 c.same c.at' c.len (by omega) ?_
    rw [c.pv,take_succ hr',List.map_append];rfl
   ·have e5:=c.at'
    rw [c.pv,List.length_map,List.take_length] at e5
    have s45:=c.same
    clear c
    refine pe (s45.get e4) e5 (by rw [List.length_append,List.length_map,List.length_map,sizeLine_eq];omega) fun D6 H6 f6 s6 e6=>?_
    have s16:=s14.trans (s45.trans s6)
    have s06:=s1.trans s16
    have da6:=da.same s06
    walk_at "l2"
    refine ⟨D6,_,N.nms,rfl,e6,(da6.i.app da6.sn).app da6.tn,by rw [List.length_append,List.length_append,List.length_map,List.length_map];omega,fun hnm H7 s7=>?_,fun d hd H7 dx' tl=>?_,fun d hd H7 dx' tl=>?_⟩
    rotate_left
    ·obtain ⟨v2,⟨a1,a2⟩,a3⟩:=tl
     exact qE _ (tz hm hd) H7 _ _ (Kx.same (s06.trans a1)) ⟨rfl,dx',v2,rfl,a2,a3⟩
    ·obtain ⟨v2,⟨a1,a2⟩,a3⟩:=tl
     exact qE _ (tz hm hd) H7 _ _ (Kx.same (s06.trans a1)) ⟨rfl,dx',v2,rfl,a2,a3⟩
    obtain ⟨zi,rv,qv,rfl,rfl,rfl,g,enm⟩:=R1 da hm hnm
    have s07:=s06.trans s7
    have hn7:=(HndV.of hn).same s07
    have hx7:=s07.get hx
    rw [List.length_map] at lI lrs lqs lrs0 ls lt li lis
    clear da6 s06 e6 e5 e4 e3 e2 s16 s14 hs2 ht4 hi1 hs1 ht1 hn1 hD3 hD5 f2 f4 f6 s1 s2 s23 s4 s45 s6 s7
    have hi7:=hn7.i
    walk_at "l2"
    intro ti H8 f8 s8 e8
    walk_at "l2"
    refine gA (s8.get hx7) T.gY T.uM (by show 0 < 1000;decide) rfl fun H9 u9=>?_
    have hx8:=s8.get hx7
    have hn9:=(Kx.upd u9).hndV hx8 (hn7.same s8)
    have e9:=(Kx.upd u9).tup hx8 e8
    have hx9:=u9.at'
    have k9:Kx x H H9:=(Kx.same (s07.trans s8)).trans (Kx.upd u9)
    have hs9:=hn9.s
    clear u9 hx8 s8 e8 f8 hi7 hx7 hn7 s07
    walk_at "l2"
    intro D10 hD10
    refine bg (xs:=rv.map fun r=>V.ref r.1) (fun i ys H'=>∃ rs':List Sv.Rw,ys=rs'.map (fun r=>V.ref r.1)∧rs'.map (·.2.2)=(rv.take i).map (·.2.2)∧Sv.RwK H' rs'∧Same H9 H'∧H' D10=some (.lst ys)) ⟨[],rfl,rfl,fun _ h=>absurd h (by simp),bX hD10,aA⟩ (fun i ys H' _ ⟨_,_,_,_,s',_⟩=>SqL.of (s'.get hs9)) ?_ ?_
    ·rintro i y ys H' hy ⟨rs',rfl,hrs,hk,s',eD⟩
     obtain ⟨r,hr',rfl⟩:=be hy
     have hlt:=(List.getElem?_eq_some_iff.mp hr').1
     have hm:=List.mem_of_getElem? hr'
     have er:=s'.get (hn9.sr r hm).1
     have hlen:rs'.length=i:=by have:=congrArg List.length hrs;rw [List.length_map,List.length_map,List.length_take] at this;omega
     rcases (hn9.sr r hm).2 with ew | ew
     ·have ew:=s'.get ew
      walk_at "l2"
      intro tw H11 f11 s11 e11
      walk_at "l2"
      intro tr H12 f12 s12 e12
      have ntr:tr≠D10:=fun z=>(by rw [z,s11.get eD] at f12;cases f12)
      have ntw:tw≠D10:=fun z=>(by rw [z,eD] at f11;cases f11)
      have eD12:=s12.get (s11.get eD)
      refine ⟨eD12,by rw [List.length_map];exact cj (by omega),rs'++[(tr,tw,r.2.2)],by rw [List.map_append];rfl,by rw [List.map_append,hrs,take_succ hr',List.map_append];rfl,fun r2 h2=>?_,fun b ob e=>?_,aA⟩
      ·rcases List.mem_append.mp h2 with h2 | h2
       ·exact ((hk.same s11).same s12).updL eD12 (fun b ob n e=>by rw [aw n];exact e) r2 h2
       ·rw [List.mem_singleton] at h2;subst h2
        exact ⟨by rw [aw ntr];exact e12,by rw [aw ntw];exact s12.get e11⟩
      ·rw [aw (al e hD10)]
       exact s12.get (s11.get (s'.get e))
     ·have ew:=s'.get ew
      walk_at "l2"
      intro tr H12 f12 s12 e12
      have s11:Same H' H':=Same.refl _
      have ntr:tr≠D10:=fun z=>(by rw [z,s11.get eD] at f12;cases f12)
      have ntw:r.2.1≠D10:=fun z=>(by rw [z,eD] at ew;cases ew)
      have eD12:=s12.get (s11.get eD)
      refine ⟨eD12,by rw [List.length_map];exact cj (by omega),rs'++[(tr,r.2.1,r.2.2)],by rw [List.map_append];rfl,by rw [List.map_append,hrs,take_succ hr',List.map_append];rfl,fun r2 h2=>?_,fun b ob e=>?_,aA⟩
      ·rcases List.mem_append.mp h2 with h2 | h2
       ·exact ((hk.same s11).same s12).updL eD12 (fun b ob n e=>by rw [aw n];exact e) r2 h2
       ·rw [List.mem_singleton] at h2;subst h2
        exact ⟨by rw [aw ntr];exact e12,by rw [aw ntw];exact s12.get ew⟩
      ·rw [aw (al e hD10)]
       exact s12.get (s11.get (s'.get e))
    ·rintro ys H10 ⟨rs',rfl,hrs,hk,s10,eD10⟩
     rw [List.length_map,List.take_length] at hrs
     walk_at "l2"
     intro ts H11 f11 s11 e11
     have s911:=s10.trans s11
     have hx11:=s911.get hx9
     walk_at "l2"
     refine gA hx11 T.gY T.iR (by show 1 < 1000;decide) rfl fun H12 u12=>?_
     have hn12:=(Kx.upd u12).hndV hx11 (hn9.same s911)
     have e912:=(Kx.upd u12).tup hx11 (s911.get e9)
     have e12:=(Kx.upd u12).tup hx11 e11
     have rk12:=Sv.Kx.rw (Kx.upd u12) hx11 (hk.same s11)
     have hx12:=u12.at'
     have k12:Kx x H H12:=k9.trans ((Kx.same s911).trans (Kx.upd u12))
     have ht12:=hn12.t
     clear u12 hx11 s911 s10 s11 e11 f11 hk eD10 hD10 hn9 hs9 hx9 e9 k9
     walk_at "l2"
     intro D13 hD13
     refine bg (xs:=qv.map fun r=>V.ref r.1) (fun i ys H'=>∃ qs':List Sv.Qs,ys=qs'.map (fun r=>V.ref r.1)∧qs'.map (·.2)=(qv.take i).map (·.2)∧Sv.QsK H' qs'∧Same H12 H'∧H' D13=some (.lst ys)) ⟨[],rfl,rfl,fun _ h=>absurd h (by simp),bX hD13,aA⟩ (fun i ys H' _ ⟨_,_,_,_,s',_⟩=>SqL.of (s'.get ht12)) ?_ ?_
     ·rintro i y ys H' hy ⟨qs',rfl,hqs,hk,s',eD⟩
      obtain ⟨r,hr',rfl⟩:=be hy
      have hlt:=(List.getElem?_eq_some_iff.mp hr').1
      have er:=s'.get (hn12.tr r (List.mem_of_getElem? hr'))
      have hlen:qs'.length=i:=by have:=congrArg List.length hqs;rw [List.length_map,List.length_map,List.length_take] at this;omega
      walk_at "l2"
      intro tr H14 f14 s14 e14
      have ntr:tr≠D13:=fun z=>(by rw [z,eD] at f14;cases f14)
      have eD14:=s14.get eD
      refine ⟨eD14,by rw [List.length_map];exact cj (by omega),qs'++[(tr,r.2)],by rw [List.map_append];rfl,by rw [List.map_append,hqs,take_succ hr',List.map_append];rfl,fun r2 h2=>?_,fun b ob e=>?_,aA⟩
      ·rcases List.mem_append.mp h2 with h2 | h2
       ·exact (hk.same s14).updL eD14 (fun b ob n e=>by rw [aw n];exact e) r2 h2
       ·rw [List.mem_singleton] at h2;subst h2
        rw [aw ntr];exact e14
      ·rw [aw (al e hD13)]
       exact s14.get (s'.get e)
     ·rintro ys H13 ⟨qs',rfl,hqs,hqk,s13,eD13⟩
      rw [List.length_map,List.take_length] at hqs
      walk_at "l2"
      intro tk H14 f14 s14 e14
      have s1214:=s13.trans s14
      have hx14:=s1214.get hx12
      walk_at "l2"
      refine gA hx14 T.gY T.dE (by show 2 < 1000;decide) rfl fun H15 u15=>?_
      have hn15:=(Kx.upd u15).hndV hx14 (hn12.same s1214)
      have ei15:=(Kx.upd u15).tup hx14 (s1214.get e912)
      have es15:=(Kx.upd u15).tup hx14 (s1214.get e12)
      have rk15:=Sv.Kx.rw (Kx.upd u15) hx14 (rk12.same s1214)
      have et15:=(Kx.upd u15).tup hx14 e14
      have qk15:=Sv.Kx.qs (Kx.upd u15) hx14 (hqk.same s14)
      have hx15:=u15.at'
      have k15:Kx x H H15:=k12.trans ((Kx.same s1214).trans (Kx.upd u15))
      have ho15:=hn15.o
      clear u15 hx14 s1214 s13 s14 e14 f14 hqk eD13 hD13 hn12 ht12 hx12 e12 e912 k12 rk12
      walk_at "l2"
      intro to H16 f16 s16 e16
      have hx16:=s16.get hx15
      walk_at "l2"
      refine gA hx16 T.gY T.pM (by show 3 < 1000;decide) rfl fun H17 u17=>?_
      have kp17:Sv.Kpt H17 ti ts tk to rs' qs' ⟨zi,rv.map (·.2.2),qv.map (·.2),os⟩:=Sv.Kx.kpt (Kx.upd u17) hx16 ⟨s16.get ei15,s16.get es15,rk15.same s16,hrs,s16.get et15,qk15.same s16,hqs,e16⟩
      have hx17:=u17.at'
      have k17:Kx x H H17:=k15.trans ((Kx.same s16).trans (Kx.upd u17))
      clear u17 hx16 s16 e16 f16 hx15 k15 ei15 es15 rk15 et15 qk15 ho15 hn15
      walk_at "l2"
      refine dY hx17 T.gY T.uM rfl ?_
      walk_at "l2"
      refine dY hx17 T.gY T.iR rfl ?_
      walk_at "l2"
      refine dY hx17 T.gY T.dE rfl ?_
      walk_at "l2"
      refine ⟨ti,ts,tk,to,rs',qs',_,rfl,kp17,g,fun db H18 ws f18 s18 wi=>?_⟩
      have hx18:=s18.get hx17
      walk_at "l2"
      refine gA hx18 T.gY T.om (by show 4 < 1000;decide) rfl fun H19 u19=>?_
      have hdb:db≠x:=iQ wi.d hx18 fun z=>by cases z
      have hws:∀ q∈ws,q.2≠x:=fun q hq z=>by
       obtain ⟨C,dx',fs,e,_⟩:=(wi.ob q hq).name
       rw [z,hx18] at e
       injection e with e
       injection e with _ _ e
       injection e with e _
       injection e with e _
       exact absurd e (by decide)
      have wi19:=Sv.Kx.wia (Kx.upd u19) wi hdb hws hx18
      have kp19:=Sv.Kx.kpt (Kx.upd u19) hx18 (kp17.same s18)
      have hx19:=u19.at'
      have k19:Kx x H H19:=k17.trans ((Kx.same s18).trans (Kx.upd u19))
      clear u19 wi kp17 hx17 hx18 s18 k17 f18
      walk_at "l2"
      refine dY hx19 T.gY T.iR rfl ?_
      walk_at "l2"
      refine dY hx19 T.gY T.dE rfl ?_
      walk_at "l2"
      refine dY hx19 T.gY T.pM rfl ?_
      walk_at "l2"
      refine dY hx19 T.gY T.om rfl ?_
      walk_at "l2"
      have da19:DatT H19 (zi.map V.str) (rv.map toR) (qv.map toQ) os N:=da.imp fun v d t=>Kx.tg k19 hx t
      have ek:N.nms.map dStr=(⟨zi,rv.map (·.2.2),qv.map (·.2),os⟩:Sv.Vt).names:=by
       rw [enm,kP]
       unfold Sv.Vt.names
       simp only [List.map_map]
       rfl
      have sw19:∀ (k:Nat) (r:Sv.Rw) x,rs'[k]? =some r→(N.sums.map (·.2))[k]? =some x→TgL H19 r.2.2.2 x:=fun k r x h1 h2=>by
       rw [List.getElem?_map] at h2
       obtain ⟨y,hy,rfl⟩:=Option.map_eq_some_iff.mp h2
       have:=congrArg (fun l=>l[k]?) hrs
       simp only [List.getElem?_map,h1,Option.map_some] at this
       obtain ⟨r',hr',er⟩:=Option.map_eq_some_iff.mp this.symm
       rw [← er]
       exact da19.sw k (toR r') y (by rw [List.getElem?_map,hr'];rfl) hy
      have lrs':rs'.length=N.sums.length:=by have:=congrArg List.length hrs;rw [List.length_map,List.length_map] at this;omega
      have lqs':qs'.length=N.sts.length:=by have:=congrArg List.length hqs;rw [List.length_map,List.length_map] at this;omega
      have tw19:TgL H19 (qs'.map (·.2.2)) (N.sts.map (·.2)):=by
       have e1:qs'.map (·.2.2)=(qv.map toQ).map (·.2.2):=by
        have:=congrArg (List.map (·.2)) hqs
        rw [List.map_map,List.map_map] at this
        rw [List.map_map];exact this
       rw [e1];exact da19.tw
      have ewr:(N.sums.map (·.2)).flatten++N.sts.map (·.2)++N.outs=N.wrs:=by unfold Nd.wrs;rw [List.flatMap_def]
      refine ⟨ti,ts,tk,to,db,rs',qs',_,_,N.sums.map (·.2),N.sts.map (·.2),N.outs,rfl,kp19,wi19.knw,g.nm,sw19,by rw [List.length_map];exact lrs',tw19,da19.o,fun hwn H20 s20=>?_,fun d hd H20 dx' tl=>?_⟩
      rotate_left
      ·obtain ⟨v2,⟨a1,a2⟩,a3⟩:=tl
       rw [ewr,← ek] at hd
       exact qE _ (zS hm hnm hd) H20 _ _ (k19.trans (Kx.same a1)) ⟨rfl,dx',v2,rfl,a2,a3⟩
      rw [ewr,← ek] at hwn
      have enm':N.nms=(zi++rs'.map (·.2.2.1)++qs'.map (·.2.1)).map Dt.str:=by
       have e1:rs'.map (·.2.2.1)=rv.map (·.2.2.1):=by have:=congrArg (List.map (·.1)) hrs;rw [List.map_map,List.map_map] at this;exact this
       have e2:qs'.map (·.2.1)=qv.map (·.2.1):=by have:=congrArg (List.map (·.1)) hqs;rw [List.map_map,List.map_map] at this;exact this
       rw [e1,e2];exact enm
      obtain ⟨eV,kw,kt,ko⟩:=OR enm' (by omega) lrs' lqs' (fun k r x h1 h2=>sw19 k r x.2 h1 (by rw [List.getElem?_map,h2];rfl)) tw19 da19.o hwn
      rw [hrs,hqs] at eV
      rw [eV] at kp19 wi19 g ek
      rw [gy] at ek
      rw [ek] at kw kt ko
      obtain ⟨rs2,qs2,kp19⟩:=To kp19
      have wi19:=RZ wi19
      clear sw19 tw19 enm' da19
      have nds:(N.rows.map (·.1)).Nodup:=by
       have:=g.nd
       rw [gy] at this
       unfold Nt.names at this
       rw [List.nodup_append] at this
       have:=this.1
       rw [List.nodup_append] at this
       exact this.2.1
      have glw:∀ r∈N.nt.sums,r.2.length≤24:=fun r hr=>by
       have:=g.lw (r.1,r.2.map V.str) (List.mem_map.mpr ⟨r,hr,rfl⟩)
       rw [List.length_map] at this;exact this
      have gls:N.nt.sums.length≤40:=by have:=g.ls;unfold toV at this;rw [List.length_map] at this;exact this
      have glt:N.nt.sts.length≤16:=by have:=g.lt;unfold toV at this;rw [List.length_map] at this;exact this
      have glo:N.nt.outs.length≤6:=by have:=g.lo;unfold toV at this;rw [List.length_map] at this;exact this
      have gnm:∀ z∈N.nt.names,Nm z:=by have:=g.nm;rw [gy] at this;exact this
      have gnd:N.nt.names.Nodup:=by have:=g.nd;rw [gy] at this;exact this
      have hx20:=s20.get hx19
      have kp20:=kp19.same s20
      walk_at "l2"
      refine dY hx20 T.gY T.iR rfl ?_
      walk_at "l2"
      refine ⟨ts,rs2,rfl,kp20.s,kp20.sr,⟨by rw [kp20.es];exact gls,by rw [kp20.es];exact glw,by rw [kp20.es];exact nds⟩,fun Do H21 od f21 s21 e21 tp=>?_,fun H21 dx' L rg s21 e1 e2 ir=>?_⟩
      rotate_left
      ·rw [kp20.es] at ir
       exact qE .ring (Gi hm hnm hwn ir.ring) H21 _ _ (k19.trans (Kx.same (s20.trans s21))) ⟨rfl,dx',L,rg,rfl,e1,e2,ir⟩
      rw [kp20.es] at tp
      have tp:Topo N.rows od:=tp
      walk_at "l2"
      intro tq H22 f22 s22 e22
      have s1922:=s20.trans (s21.trans s22)
      have hx22:=s1922.get hx19
      walk_at "l2"
      refine gA hx22 T.gY T.uL (by show 5 < 1000;decide) rfl fun H23 u23=>?_
      walk_at "l2"
      exact q (Gj hm hnm hwn (Dg tp)) H23 od (k19.trans ((Kx.same s1922).trans (Kx.upd u23))) ⟨⟨dx,ti,ts,tk,to,db,tq,rs2,qs2,ws,u23.at',(Kx.upd u23).kpt hx22 (kp19.same s1922),(Kx.upd u23).wia (wi19.same s1922) hdb hws hx22,(Kx.upd u23).tup hx22 e22⟩,⟨g.li,gls,glt,glo,glw,gnm,gnd,kw,kt,ko,JQ tp nds⟩,tp⟩
end
section
variable {P:Program} {w:World} {K:PySem.W.Frag} {mg:Str→Option Value} {base:Heap} {a:Ad}
local macro_rules | `(tactic| walk_at "l2step") =>`(tactic| first | ((with_reducible refine' c_whole ?e ?_);(case e=>walk_at "l2kind")) | ((with_reducible refine' c_mask ?e ?_);(case e=>walk_at "l2kind")) | (with_reducible refine cz ?_) | (with_reducible refine s_methX ?_))
noncomputable abbrev NAof (a:Ad):NP:=fun H p N od=>NetA H a.bO a.aC a.au a.ao p N od
theorem uk (T:Tx K mg a):FnOk P w K mg base CX0 1 a.bw a.iA ["self"] (G4 (NAof a)):=by
 refine T.fP.ok tP (fun vs H Q E h=>?_) (fun cdv A outer s H vs Q E hr h=>?_)
 ·obtain ⟨p,N,od,rfl,_⟩:=h;rfl
 ·obtain ⟨p,N,od,rfl,na,q⟩:=h
  obtain ⟨dx,i,s,t,o,d,tq,rs,qs,ws,hp,kp,wi,eq⟩:=na.ho
  have hi:=kp.i
  refine ⟨_,((ai (bi (aF (bM (K:=K) rfl) (by rfl) T.eu PyProof.Rows.boot_list (aa (fz (K:=K) rfl (pv 0) rfl) ad))))),aT (σ':=[some _]) rfl ?_⟩
  walk_at "l2"
  refine dY hp T.gY T.uM rfl ?_
  walk_at "l2"
  exact q
theorem rD (T:Tx K mg a):FnOk P w K mg base CX0 1 a.bf a.gO ["self"] (PR (NAof a)):=by
 refine T.eZ.ok re (fun vs H Q E h=>?_) (fun cdv A outer s H vs Q E hr h=>?_)
 ·obtain ⟨p,N,od,rfl,_⟩:=h;rfl
 ·obtain ⟨p,N,od,rfl,na,q⟩:=h
  obtain ⟨dx,i,s,t,o,d,tq,rs,qs,ws,hp,kp,wi,eq⟩:=na.ho
  have ho:=kp.o
  refine ⟨_,((ai (bi (aF (bM (K:=K) rfl) (by rfl) T.eu PyProof.Rows.boot_list (aa (fz (K:=K) rfl (pv 0) rfl) ad))))),aT (σ':=[some _]) rfl ?_⟩
  walk_at "l2"
  refine dY hp T.gY T.pM rfl ?_
  walk_at "l2"
  exact q
theorem pB (T:Tx K mg a):FnOk P w K mg base CX0 1 a.a0 a.ge ["self"] (J7 (NAof a)):=by
 refine T.dW.ok pd (fun vs H Q E h=>?_) (fun cdv A outer s H vs Q E hr h=>?_)
 ·obtain ⟨p,N,od,rfl,_⟩:=h;rfl
 ·obtain ⟨p,N,od,rfl,na,q⟩:=h
  obtain ⟨dx,i,s,t,o,d,tq,rs,qs,ws,hp,kp,wi,eq⟩:=na.ho
  have ht:=kp.t
  refine ⟨_,((ai (bi (aF (bM (K:=K) rfl) (by rfl) T.eu PyProof.Rows.boot_list (aa (fz (K:=K) rfl (pv 0) rfl) ad))))),aT (σ':=[some _]) rfl ?_⟩
  walk_at "l2"
  refine dY hp T.gY T.dE rfl ?_
  walk_at "l2"
  intro D H2 f2 s2 e2
  exact q D H2 qs f2 s2 e2 (fun q' m=>s2.get (kp.tr q' m)) kp.et
theorem uj (T:Tx K mg a):FnOk P w K mg base CX0 1 a.bv a.iz ["self"] (PQ (NAof a)):=by
 refine T.fO.ok tO (fun vs H Q E h=>?_) (fun cdv A outer s H vs Q E hr h=>?_)
 ·obtain ⟨p,N,od,rfl,_⟩:=h;rfl
 ·obtain ⟨p,N,od,rfl,na,q⟩:=h
  obtain ⟨dx,i,s,t,o,d,tq,rs,qs,ws,hp,kp,wi,eq⟩:=na.ho
  have hs:=kp.s
  refine ⟨_,((ai (bi (aF (bM (K:=K) rfl) (by rfl) T.eu PyProof.Rows.boot_list (aa (fz (K:=K) rfl (pv 0) rfl) ad))))),aT (σ':=[some _]) rfl ?_⟩
  walk_at "l2"
  refine dY hp T.gY T.iR rfl ?_
  walk_at "l2"
  intro D H2 f2 s2 e2
  exact q D H2 rs f2 s2 e2 (RwK.same kp.sr s2) kp.es
theorem DT (T:Tx K mg a):FnOk P w K mg base CX0 2 a.cP a.p6 ["self"] (No (NAof a)):=by
 have xS:=@uk P w K mg base a T
 have xR:=@uj P w K mg base a T
 have sU:=@pB P w K mg base a T
 have wo:=@rD P w K mg base a T
 refine T.kU.ok DD (fun vs H Q E h=>?_) (fun cdv A outer s H vs Q E hr h=>?_)
 ·obtain ⟨p,N,od,rfl,_⟩:=h;rfl
 ·obtain ⟨p,N,od,rfl,na,q⟩:=h
  obtain ⟨dx,i,s,t,o,d,tq,rs,qs,ws,hp,kp,wi,eq⟩:=na.ho
  refine ⟨_,((ai (bi (bV (aa (nO (pv 0) T.gY T.xg xS (hr.mono (by decide)) T.iF .nil bD) (aa (nO (pv 0) T.gY T.xc xR (hr.mono (by decide)) T.iE .nil bD) (aa (nO (pv 0) T.gY T.se sU (hr.mono (by decide)) T.gh .nil bD) (aa (nO (pv 0) T.gY T.uO wo (hr.mono (by decide)) T.gW .nil bD) ad)))))))),aT (σ':=[some _]) rfl ?_⟩
  walk_at "l2"
  refine nH hp rfl ?_
  walk_at "l2"
  refine ⟨p,N,od,rfl,na,fun D1 H1 f1 s1 e1=>?_⟩
  walk_at "l2"
  refine nH (s1.get hp) rfl ?_
  walk_at "l2"
  refine ⟨p,N,od,rfl,na.same s1,fun D2 H2 rs2 f2 s2 e2 rk es=>?_⟩
  have s02:=s1.trans s2
  walk_at "l2"
  refine nH (s02.get hp) rfl ?_
  walk_at "l2"
  refine ⟨p,N,od,rfl,na.same s02,fun D3 H3 qs3 f3 s3 e3 qk et=>?_⟩
  have s03:=s02.trans s3
  walk_at "l2"
  refine nH (s03.get hp) rfl ?_
  walk_at "l2"
  refine ⟨p,N,od,rfl,na.same s03,fun D4 H4 f4 s4 e4=>?_⟩
  walk_at "l2"
  intro t5 H5 f5 s5 e5
  have s45:=s4.trans s5
  have s35:=s3.trans s45
  exact q t5 D1 D2 D3 D4 H5 rs2 qs3 f1 (s1.free f2) (s02.free f3) (s03.free f4) (s03.free (s4.free f5)) (s03.trans s45) ⟨e5,s35.get (s2.get e1),s35.get e2,rk.same s35,es,s45.get e3,fun q' m=>s45.get (qk q' m),et,s5.get e4⟩
end
section
variable {P:Program} {w:World} {K:PySem.W.Frag} {mg:Str→Option Value} {base:Heap} {a:Ad}
local macro_rules | `(tactic| walk_at "l2step") =>`(tactic| first | ((with_reducible refine' c_whole ?e ?_);(case e=>walk_at "l2kind")) | ((with_reducible refine' c_mask ?e ?_);(case e=>walk_at "l2kind")) | (with_reducible refine cz ?_) | (with_reducible refine s_methX ?_))
noncomputable def Ke:Sp:=fun vs H Q _=>∃ (v:V) (d:Dt),vs=[v]∧Tg H v d∧∀ H2,Same H H2→Q (.bl (HD d)) H2
theorem memD (c:Nat):decide (c∈("0123456789":Str).cps.toList)=fig c:=by
 have e:("0123456789":Str).cps.toList=List.range' 48 10:=by decide +kernel
 rw [e]
 unfold fig
 rw [Bool.eq_iff_iff,Bool.and_eq_true,decide_eq_true_eq,decide_eq_true_eq,decide_eq_true_eq,List.mem_range']
 constructor
 ·rintro ⟨i,h,rfl⟩;omega
 ·rintro ⟨h1,h2⟩;exact ⟨c - 48,by omega,by omega⟩
theorem QW {c:Nat} (h:fig c=true):low c=false:=by
 unfold fig at h
 unfold low
 simp at h
 simp
 omega
theorem Tj {c:Nat} {r:List Nat} (h:(c::r).length≤6) (hf:fig c=false):nm (c::r)=(c::r).all fun c=>low c||fig c:=by
 show (decide ((c::r).length≤6)&&low c&&(c::r).all fun c=>low c||fig c)=_
 rw [decide_eq_true h,Bool.true_and,List.all_cons,hf,Bool.or_false]
 cases low c<;>rfl
theorem tu (ws:List Str):eqD (.lst (ws.map strD)) (.lst [])=decide (ws=[]):=by
 cases ws with
 | nil=>rfl
 | cons w l=>rw [decide_eq_false (by simp)];rfl
theorem jW (T:Tx K mg a):FnOk P w K mg base CX0 1 a.bS a.iy ["_law_thing"] Ke:=by
 refine T.fN.ok tN (fun vs H Q E h=>?_) (fun cdv A outer s H vs Q E hr h=>?_)
 ·obtain ⟨v,d,rfl,_⟩:=h;rfl
 ·obtain ⟨v,d,rfl,tv,q⟩:=h
  have hu1:=jQ hr
  refine ⟨_,((af (ci (PW.pt (rj (lD (eE (ay (eO (K:=K) rfl) (by rfl) T.cE PyProof.Rows.boot_isinstance (aa (pv 0) (aa (jb (v:= .ty "str") (by rfl) T.uI PyProof.Rows.boot_str rfl) ad))))) (rj (lD (NN Ta Ta ah (ay (aG (K:=K) rfl) (by rfl) T.di PySem.boot_len (aa (pv 0) ad)) ah)) (tV (az ug (aH Lr (pv 0) ah (fun _ _=>rfl)) aM (by rfl)))))) (ai (bi Ba)) aK)
   (ai (bi (jS (my (K:=K) rfl hu1) (bj (osc:=ae cK) (ON:=["_law_thing"]) (N:=["_law_sign"]) (n:=1) (fx:=[]) rfl rfl rfl (by decide +kernel) (O5 (pv 0)) (aO (by decide)) (fun _ _ _ _ _=>⟨(av (i:=0) (show List.Nodup (["_law_sign"]:List Str) from by decide +kernel) rfl (by walk_at "o")),(i8 (az Bg (pv 0) aM (by rfl))),(pv 0)⟩)) (bW ad) (aR _)))))),aT (σ':=[some _]) rfl ?_⟩
  cases tv with
  | int i=>walk_at "l2";exact q H (Same.refl _)
  | bl b=>walk_at "l2";exact q H (Same.refl _)
  | non=>walk_at "l2";exact q H (Same.refl _)
  | nil e=>walk_at "l2";exact q H (Same.refl _)
  | one l e=>walk_at "l2";exact q H (Same.refl _)
  | str z hz=>
    have q:∀ H',Same H H'→Q (.bl (nm z.cps.toList)) H':=q
    have hs:z.length≤sizeLine:=Nat.le_of_lt (cj hz)
    have hlen:=je z
    walk_at "l2"
    by_cases h1:(1:Int)≤z.length
    rotate_left
    ·refine gl (decide_eq_false h1) ?_
     walk_at "l2"
     have e:z.cps.toList=[]:=List.length_eq_zero_iff.mp (by omega)
     have q0:=q H (Same.refl _)
     rw [e] at q0
     exact q0
    ·refine i4 (decide_eq_true h1) ?_
     walk_at "l2"
     obtain ⟨c,r,hcr⟩:∃ c r,z.cps.toList=c::r:=by
      cases hl:z.cps.toList with
      | nil=>rw [hl] at hlen;exact absurd hlen.symm (by simp;omega)
      | cons c r=>exact ⟨c,r,rfl⟩
     rw [hcr] at hlen
     have q:∀ H',Same H H'→Q (.bl (nm (c::r))) H':=fun H' s=>by have:=q H' s;rw [hcr] at this;exact this
     by_cases h2:(z.length:Int)≤6
     rotate_left
     ·rw [decide_eq_false h2]
      walk_at "l2"
      have:=q H (Same.refl H)
      unfold nm at this
      simp only [] at this
      rw [decide_eq_false (show ¬ (c::r).length≤6 by omega)] at this
      exact this
     ·rw [decide_eq_true h2]
      walk_at "l2"
      refine P8 hs (c:=c) (by rw [hcr];exact bz (j:=0) rfl) ?_
      walk_at "l2"
      rw [StrLaws.found_one,memD]
      cases hf:fig c
      rotate_left
      ·walk_at "l2"
       have:=q H (Same.refl H)
       unfold nm at this
       simp only [] at this
       rw [QW hf] at this
       simpa using this
      ·rw [Tj (show (c::r).length≤6 by omega) hf] at q
       walk_at "l2"
       intro D f
       refine Gq (Cs (fun i ys=>ys=(((c::r).take i).filter fun c=> !(low c||fig c)).map fun c=>V.str ⟨#[c]⟩) H D) (Cs.zero f rfl) (fun i d ys H' hd cc=>?_) (fun ys H' cc=>?_)
       ·have hi:i < z.cps.size:=(Array.getElem?_eq_some_iff.mp hd).1
        have hd':(c::r)[i]? =some d:=by rw [← hcr];simpa using hd
        walk_at "l2"
        rw [StrLaws.found_one,memN]
        cases hb:(low d||fig d)
        ·walk_at "l2"
         refine Cs.put f cc.same cc.at' cc.len (by have:z.cps.size=z.length:=rfl;omega) ?_
         have e:[d].filter (fun c=> !(low c||fig c))=[d]:=by rw [List.filter_cons,hb];rfl
         rw [cc.pv,List.take_succ,hd',List.filter_append,List.map_append]
         show _=_++List.map _ ([d].filter _)
         rw [e];rfl
        ·walk_at "l2"
         refine Cs.skip cc.same cc.at' cc.len ?_
         have e:[d].filter (fun c=> !(low c||fig c))=[]:=by rw [List.filter_cons,hb];rfl
         rw [cc.pv,List.take_succ,hd',List.filter_append]
         show _=List.map _ (_++[d].filter _)
         rw [e,List.append_nil]
       ·have hsz:z.cps.size=(c::r).length:=hlen.symm
        have ec:=cc.at'
        rw [cc.pv,hsz,List.take_length] at ec
        have ec:H' D=some (.lst ((((c::r).filter fun c=> !(low c||fig c)).map fun c=>(⟨#[c]⟩:Str)).map V.str)):=by rw [ec,List.map_map];rfl
        have s1:=cc.same
        clear cc
        walk_at "l2"
        intro D2 H2 f2 s2 e2
        refine rh (i5 (s2.get ec)) (Rep.lst (ds:=[]) (SqL.of e2) rfl fun i x d h=>by simp at h) (by unfold depD;rw [gn];decide) ?_
        rw [tu]
        have q0:=q H2 (s1.trans s2)
        have e:((c::r).all fun c=>low c||fig c)=decide (((c::r).filter fun c=> !(low c||fig c)).map (fun c=>(⟨#[c]⟩:Str))=[]):=by
         rw [Bool.eq_iff_iff,decide_eq_true_eq,List.map_eq_nil_iff,List.filter_eq_nil_iff,List.all_eq_true]
         constructor
         ·intro h x hx;rw [h x hx];decide
         ·intro h x hx;have:=h x hx;cases hb:(low x||fig x);· rw [hb] at this;exact absurd rfl this
          ·rfl
        rw [e] at q0
        exact q0
noncomputable def ftS:Ft→Str
 | .many=>"TooMany"
 | .bad _=>"BadName"
 | .dbl _=>"Doubled"
 | .now _=>"NoWire"
 | .ring=>"Ring"
noncomputable def ftD:Ft→Dt
 | .many=> .non
 | .bad d=>d
 | .dbl d=>d
 | .now d=>d
 | .ring=> .non
noncomputable def DueT (H:Hp) (t:Addr) (f:Ft):Prop:=∃ v,H t=some (.tup [.str (ftS f),v])∧Tg H v (ftD f)
noncomputable def AM:Sp:=fun vs H Q _=>∃ (l D:Addr) (H0:Hp) (xs:List V) (ds:List Dt),vs=[.ref l,.ref D]∧Same H0 H∧H0 D=none∧H D=some (.lst [])∧H0 l=some (.lst xs)∧TgL H0 xs ds∧xs.length≤1000∧
 (nmsF ds []=none→∀ H2,Same H0 H2→H2 D=some (.lst ((ds.map dStr).map V.str))→Q .non H2)∧(∀ f,nmsF ds []=some f→∀ t H2,Same H0 H2→DueT H2 t f→Q (.ref t) H2)
theorem pA (T:Tx K mg a):FnOk P w K mg base CX0 2 a.bA a.gc ["_law_names","_law_known"] AM:=by
 have iG:=@jW P w K mg base a T
 refine T.dU.ok iI (fun vs H Q E h=>?_) (fun cdv A outer s H vs Q E hr h=>?_)
 ·obtain ⟨l,D,H0,xs,ds,rfl,_⟩:=h;rfl
 ·obtain ⟨l,D,H0,xs,ds,rfl,s0,f0,eD0,hl,tg,lx,qN,qF⟩:=h
  refine ⟨_,((af (gi PassesOwn.never rfl (ba (K:=K) rfl (pv 0)) (av (i:=2) iI.nd rfl (by walk_at "o")) (af (ci (lD (eE (aL iG (hr.mono (by decide)) (by rfl) T.lP T.lN T.fJ .nil bD (aa (pv 2) ad)))) (ai (bi (bV (aa aM (aa (pv 2) ad))))) aK)
   (af (ci (az (F1 (K:=K) rfl) (pv 2) (pv 1) (by rfl)) (ai (bi (bV (aa aM (aa (pv 2) ad))))) aK)
   (ai (aZ (cZ (K:=K) rfl PySem.F.plainAttrs_list PySem.F.slot_list_append PySem.F.type_list_append dR (pv 1) (aa (pv 2) ad)))))))
   (ai (bi iM)))),aT (σ':=[some _,some _,none]) rfl ?_⟩
  walk_at "l2"
  refine oE (xs:=xs) (fun i σ H'=>∃ v,σ=[some (.ref l),some (.ref D),v]∧Same H0 H'∧H' D=some (.lst (((ds.take i).map dStr).map V.str))∧nmsF ds []=nmsF (ds.drop i) ((ds.take i).map dStr)) ⟨none,rfl,s0,eD0,rfl⟩ (fun i σ H' _ ⟨_,_,s',_⟩=>SqL.of (s'.get hl)) ?_ ?_
  ·rintro i y σ H' hy ⟨v,rfl,s',eD,eds⟩
   have hi:=(List.getElem?_eq_some_iff.mp hy).1
   obtain ⟨d,hd⟩:∃ d,ds[i]? =some d:=⟨_,List.getElem?_eq_getElem (by rw [← tg.1];exact hi)⟩
   have t0:=tg.2 i y d hy hd
   rw [gK hd] at eds
   walk_at "l2"
   refine ⟨y,d,rfl,t0.same s',fun H2 s2=>?_⟩
   have s02:=s'.trans s2
   have eD2:=s2.get eD
   cases hn:HD d with
   | false=>
     walk_at "l2"
     intro t H3 f3 s3 e3
     exact qF _ (eds.trans (F3 hn _ _)) t H3 (s02.trans s3) ⟨y,e3,t0.same (s02.trans s3)⟩
   | true=>
     obtain ⟨z,rfl,rfl,lz2⟩:∃ z,y= .str z∧d= .str z∧z.length≤1000:=by
      cases t0 with
      | str z l=>exact ⟨z,rfl,rfl,l⟩
      | nil=>cases hn
      | one=>cases hn
      | int=>cases hn
      | bl=>cases hn
      | non=>cases hn
     have hnz:nm z.cps.toList=true:=hn
     rw [zj,if_pos hnz] at eds
     walk_at "l2"
     refine NE eD2 ?_
     by_cases hz:z∈(ds.take i).map dStr
     ·rw [if_pos hz] at eds
      rw [decide_eq_true hz]
      walk_at "l2"
      intro t H3 f3 s3 e3
      exact qF _ eds t H3 (s02.trans s3) ⟨.str z,e3,.str z lz2⟩
     ·rw [if_neg hz] at eds
      rw [decide_eq_false hz]
      walk_at "l2"
      refine gm eD2 (by rw [List.length_map,List.length_map,List.length_take];exact cj (by omega)) fun H3 u3=>?_
      walk_at "l2"
      have e3:=u3.at'
      refine ⟨fun b o e=>u3.oth _ _ (al e f0) (s02.get e),?_,?_⟩
      ·rw [e3,take_succ hd,List.map_append,List.map_append];rfl
      ·rw [eds,take_succ hd,List.map_append];rfl
  ·rintro σ H' ⟨v,rfl,s',eD,eds⟩
   rw [tg.1,List.drop_length] at eds
   rw [tg.1,List.take_length] at eD
   walk_at "l2"
   exact qN eds H' s' eD
end
section
variable {P:Program} {w:World} {K:PySem.W.Frag} {mg:Str→Option Value} {base:Heap} {a:Ad}
local macro_rules | `(tactic| walk_at "l2step") =>`(tactic| first | ((with_reducible refine' c_whole ?e ?_);(case e=>walk_at "l2kind")) | ((with_reducible refine' c_mask ?e ?_);(case e=>walk_at "l2kind")) | (with_reducible refine cz ?_) | (with_reducible refine s_methX ?_))
local macro_rules | `(tactic| walk_at "l2step") =>`(tactic| first | (with_reducible refine s_try ?_))
local macro_rules | `(tactic| walk_at "l2step") =>`(tactic| first | (with_reducible refine mf ?_))
local macro_rules | `(tactic| walk_at "l2step") =>`(tactic| first | (with_reducible refine i3 ?_) | (with_reducible refine s_tryH ?_) | (with_reducible refine tT ?_) | (with_reducible refine tS ?_))
local macro_rules | `(tactic| walk_at "l2step") =>`(tactic| first | (with_reducible refine Kn ?_) | (with_reducible refine P3 ?_))
theorem yx {K:PySem.W.Frag} {G c:Addr} {Wo:XW} {ts:TS} {D:Ends} {σ:L2.St} {H:Hp} {dx:Option Addr} (m:PySem.W.mroIn K c (.ref G)=some false) (h:Wo σ (.ref c) dx H):RH K G Wo ts D σ (.ref c) dx H:=⟨c,rfl,.inr ⟨m,h⟩⟩
noncomputable def RfT (N:Nd) (H:Hp) (p:Addr) (f:Ft):Prop:=∃ (t:Addr) (v:V),H p=some (.tup [.ref t,v])∧DueT H t f∧(f= .ring→∃ g rg,v= .ref g∧H g=some (.lst (rg.map V.str))∧kG N.rows rg)
noncomputable def Dj:Sp:=fun vs H Q _=>∃ (L i s t o:Addr) (is:List V) (rs:List RwT) (qs:List QsT) (os:List V) (N:Nd),vs=[.ref L]∧H L=some (.lst [.ref i,.ref s,.ref t,.ref o])∧HndL H i s t o is rs qs os∧DatT H is rs qs os N∧is.length≤1000∧rs.length≤1000∧
 (dueF N=none→∀ p H2,Same H H2→H2 p=some (.tup [.non,.non])→Q (.ref p) H2)∧(∀ f,dueF N=some f→∀ p H2,Same H H2→RfT N H2 p f→Q (.ref p) H2)
theorem uh (T:Tx K mg a):FnOk P w K mg base CX0 11 a.bQ a.iu ["_law_lists"] Dj:=by
 have iH:=@jY P w K mg base a T
 refine T.fL.ok bp (fun vs H Q E h=>?_) (fun cdv A outer s H vs Q E hr h=>?_)
 ·obtain ⟨L,i,s,t,o,is,rs,qs,os,N,rfl,_⟩:=h;rfl
 ·obtain ⟨L,i,s,t,o,is,rs,qs,os,N,rfl,eL,hn,da,li,ls,qN,qF⟩:=h
  refine ⟨_,((af (aX (i:=1) bp.nd rfl (by walk_at "o") iM)
   (af (aX (i:=2) bp.nd rfl (by walk_at "o") iM)
   (af (NO ⟨rfl,rfl⟩ thr0 bp.nd (PH2.cons0 T.Lz (by rfl) T.iS (fun _ _=>(ai (aX (i:=1) bp.nd rfl (by walk_at "o") (bV (aa aM (aa iM ad)))))) (by decide) (PH2.cons (i:=3) T.LC (by rfl) T.Ca rfl rfl (fun _ _=>(ai (aX (i:=1) bp.nd rfl (by walk_at "o") (bV (aa aM (aa (yI (K:=K) rfl (pv 3) rfl) ad)))))) (by decide) (PH2.cons (i:=3) T.LB (by rfl) T.B9 rfl rfl (fun _ _=>(ai (aX (i:=1) bp.nd rfl (by walk_at "o") (bV (aa aM (aa (yI (K:=K) rfl (pv 3) rfl) ad)))))) (by decide) (PH2.cons (i:=3) T.Oo (by rfl) T.Gf rfl rfl (fun _ _=>(ai (aX (i:=1) bp.nd rfl (by walk_at "o") (bV (aa aM (aa (yI (K:=K) rfl (pv 3) rfl) ad)))))) (by decide) (PH2.cons (i:=3) T.Tw (by rfl) T.Pd rfl rfl (fun _ _=>(af (aX (i:=1) bp.nd rfl (by walk_at "o") (bV (aa aM (aa iM ad))))
   (ai (aX (i:=2) bp.nd rfl (by walk_at "o") (yI (K:=K) rfl (pv 3) rfl))))) (by decide) PH2.nil))))) (fun _ _ _ _ _ h=>let ⟨c,e,_⟩:=h;⟨c,e⟩) (fun _ _=>(ai (aZ (FZ T.T4 iH (hr.mono (by decide)) (by rfl) T.Ty T.fK .nil cD (aa (aH (ar (K:=K) rfl) (pv 0) ah (fun _ _=>rfl)) (aa (aH (ar (K:=K) rfl) (pv 0) ah (fun _ _=>rfl)) (aa (aH (ar (K:=K) rfl) (pv 0) ah (fun _ _=>rfl)) (aa (aH (ar (K:=K) rfl) (pv 0) ah (fun _ _=>rfl)) ad)))))))))
   (ai (bi (bV (aa (pv 1) (aa (pv 2) ad))))))))),aT (σ':=[some _,none,none,none]) rfl ?_⟩
  walk_at "l2"
  refine AW fun x dx H1 f1 s1 e1=>?_
  refine ⟨x,dx,i,s,t,o,is,rs,qs,os,N,rfl,e1,(hn.same s1).toT,da.same s1,li,ls,fun h0 H2 od k na=>?_,fun f hf H2 C' dx' k ft=>?_⟩
  ·have s2:Same H H2:=fun b ob e=>k b ob (al e f1) (s1.get e)
   walk_at "l2"
   intro p H3 f3 s3 e3
   exact qN h0 p H3 (s2.trans s3) e3
  have s2:Same H H2:=fun b ob e=>k b ob (al e f1) (s1.get e)
  cases f with
  | many=>
    obtain ⟨rfl,rfl⟩:=ft
    refine Kp T.fi ?_
    walk_at "l2"
    intro t3 H3 f3 s3 e3
    walk_at "l2"
    intro p H4 f4 s4 e4
    exact qF .many hf p H4 ((s2.trans s3).trans s4) ⟨t3,.non,e4,⟨.non,s4.get e3,.non⟩,fun z=>by cases z⟩
  | bad d=>
    obtain ⟨rfl,da',v,rfl,e2,tg⟩:=ft
    refine yx T.fu ?_
    refine sZ T.fw fun x' H3 f3 u3=>?_
    have ec:=EX f3 e2 u3
    have s23:=nB f3 u3
    walk_at "l2"
    refine sY ec T.MD T.pV T.lL rfl ?_
    walk_at "l2"
    intro t4 H4 f4 s4 e4
    walk_at "l2"
    refine FT ?_
    walk_at "l2"
    intro p H5 f5 s5 e5
    exact qF (.bad d) hf p H5 (((s2.trans s23).trans s4).trans s5) ⟨t4,.non,e5,⟨v,s5.get e4,tg.same ((s23.trans s4).trans s5)⟩,fun z=>by cases z⟩
  | dbl d=>
    obtain ⟨rfl,da',v,rfl,e2,tg⟩:=ft
    refine yx T.fj ?_
    refine xW T.fq ?_
    refine sZ T.fk fun x' H3 f3 u3=>?_
    have ec:=EX f3 e2 u3
    have s23:=nB f3 u3
    walk_at "l2"
    refine sY ec T.MC T.pU T.lK rfl ?_
    walk_at "l2"
    intro t4 H4 f4 s4 e4
    walk_at "l2"
    refine FT ?_
    walk_at "l2"
    intro p H5 f5 s5 e5
    exact qF (.dbl d) hf p H5 (((s2.trans s23).trans s4).trans s5) ⟨t4,.non,e5,⟨v,s5.get e4,tg.same ((s23.trans s4).trans s5)⟩,fun z=>by cases z⟩
  | now d=>
    obtain ⟨rfl,da',v,rfl,e2,tg⟩:=ft
    refine yx T.fW ?_
    refine xW T.fY ?_
    refine xW T.fX ?_
    refine sZ T.gD fun x' H3 f3 u3=>?_
    have ec:=EX f3 e2 u3
    have s23:=nB f3 u3
    walk_at "l2"
    refine sY ec T.OP T.vk T.oj rfl ?_
    walk_at "l2"
    intro t4 H4 f4 s4 e4
    walk_at "l2"
    refine FT ?_
    walk_at "l2"
    intro p H5 f5 s5 e5
    exact qF (.now d) hf p H5 (((s2.trans s23).trans s4).trans s5) ⟨t4,.non,e5,⟨v,s5.get e4,tg.same ((s23.trans s4).trans s5)⟩,fun z=>by cases z⟩
  | ring=>
    obtain ⟨rfl,da',L',rg,rfl,e2,e3,ir⟩:=ft
    refine yx T.ie ?_
    refine xW T.ii ?_
    refine xW T.ig ?_
    refine xW T.i6 ?_
    refine sZ T.ml fun x' H3 f3 u3=>?_
    have s23:=nB f3 u3
    have ec:ExcC H3 x' a.aE [("ring",.ref L')]:=⟨da',u3.at',s23.get e2⟩
    walk_at "l2"
    intro t4 H4 f4 s4 e4
    have ec4:ExcC H4 x' a.aE [("ring",.ref L')]:=⟨da',s4.get u3.at',s4.get (s23.get e2)⟩
    walk_at "l2"
    refine sY ec4 T.T8 T.EO T.uK rfl ?_
    walk_at "l2"
    refine FT ?_
    walk_at "l2"
    intro p H5 f5 s5 e5
    exact qF .ring hf p H5 (((s2.trans s23).trans s4).trans s5) ⟨t4,.ref L',e5,⟨.non,s5.get e4,.non⟩,fun _=>⟨L',rg,rfl,((s23.trans s4).trans s5).get e3,ir⟩⟩
end
section
variable {P:Program} {w:World} {K:PySem.W.Frag} {mg:Str→Option Value} {base:Heap} {a:Ad}
local macro_rules | `(tactic| walk_at "l2step") =>`(tactic| first | ((with_reducible refine' c_whole ?e ?_);(case e=>walk_at "l2kind")) | ((with_reducible refine' c_mask ?e ?_);(case e=>walk_at "l2kind")) | (with_reducible refine cz ?_) | (with_reducible refine s_methX ?_))
local macro_rules | `(tactic| walk_at "l2step") =>`(tactic| (with_reducible refine SA ?_))
noncomputable def G3:Sp:=fun vs H Q _=>∃ (g l:Addr) (rg:List Str) (rs:List Rw),vs=[.ref g,.ref l]∧H g=some (.lst (rg.map V.str))∧H l=some (.lst (rs.map fun r=>V.ref r.1))∧(∀ r∈rs,H r.1=some (.tup [.str r.2.2.1,.ref r.2.1])∧H r.2.1=some (.lst (r.2.2.2.map V.str)))∧Ro (rs.map (·.2.2))∧kG (rs.map (·.2.2)) rg∧∀ H2,Same H H2→Q (.bl true) H2
theorem ui (T:Tx K mg a):FnOk P w K mg base CX0 1 a.bR a.iw ["_law_ring","_law_sums"] G3:=by
 refine T.fM.ok gz (fun vs H Q E h=>?_) (fun cdv A outer s H vs Q E hr h=>?_)
 ·obtain ⟨g,l,rg,rs,rfl,_⟩:=h;rfl
 ·obtain ⟨g,l,rg,rs,rfl,hg,hl,hrw,ro,ir,q⟩:=h
  have hu1:=jQ hr
  refine ⟨_,((af (ci (PW.pt (rj (lD (eE (ay (eO (K:=K) rfl) (by rfl) T.cE PyProof.Rows.boot_isinstance (aa (pv 0) (aa (jb (v:= .ty "list") (by rfl) T.eu PyProof.Rows.boot_list rfl) ad))))) (rj (az (my (K:=K) rfl hu1) (pv 0) (bW ad) (aR _)) (tV (az UE (KL rfl (by rfl) (by rfl) T.di T.UH (pv 0)) (ay (aG (K:=K) rfl) (by rfl) T.di PySem.boot_len (aa (pv 0) ad)) (aR _)))))) (ai (bi Ba)) aK)
   (af (gi PassesOwn.never rfl (S0 (K:=K) rfl (by rfl) T.UG (pv 0) (aB iP (kM (kJ (K:=K) rfl) (pv 0) (pi ah) pj) (kM (kJ (K:=K) rfl) (pv 0) pj (pi ah)))) (x6 rfl (b7 (av (i:=2) gz.nd rfl (by walk_at "o")) (b7 (av (i:=3) gz.nd rfl (by walk_at "o")) i9))) (ai (ci (az (my (K:=K) rfl hu1) (bj (osc:=ae bP) (ON:=["_law_ring","_law_sums","_law_one","_law_other"]) (N:=["_law_row","_law_one","_law_other"]) (n:=1) (fx:=[2,3]) rfl rfl rfl (by decide +kernel) (ba (K:=K) rfl (pv 1)) (aO (by decide)) (fun _ _ _ _ _=>⟨(av (i:=0) (show List.Nodup (["_law_row","_law_one","_law_other"]:List Str) from by decide +kernel) rfl (by walk_at "o")),(i8 (PW.pt (lC (az io (aH (bc (K:=K) rfl) (pv 0) ah (fun _ _=>rfl)) (pv 1) (aR _)) (i7 (az (F1 (K:=K) rfl) (pv 2) (aH (bc (K:=K) rfl) (pv 0) ah (fun _ _=>rfl)) (by rfl)))))),(pv 0)⟩)) (bW ad) (aR _)) (ai (bi Ba)) aK)))
   (ai (bi (jS (my (K:=K) rfl hu1) (bj (osc:=ae bP) (ON:=["_law_ring","_law_sums","_law_one","_law_other"]) (N:=["_law_name_here","_law_sums"]) (n:=1) (fx:=[1]) rfl rfl rfl (by decide +kernel) (ba (K:=K) rfl (pv 0)) (aO (by decide)) (fun _ _ _ _ _=>⟨(av (i:=0) (show List.Nodup (["_law_name_here","_law_sums"]:List Str) from by decide +kernel) rfl (by walk_at "o")),(i8 (az (ue (K:=K) rfl) (pv 0) (bj (osc:=_) (ON:=["_law_name_here","_law_sums"]) (N:=["_law_row"]) (n:=1) (fx:=[]) rfl (Rz (osc:=ae bP) rfl) rfl (by decide +kernel) (ba (K:=K) rfl (pv 1)) (aO (by decide)) (fun _ _ _ _ _=>⟨(av (i:=0) (show List.Nodup (["_law_row"]:List Str) from by decide +kernel) rfl (by walk_at "o")),bB,(aH (bc (K:=K) rfl) (pv 0) ah (fun _ _=>rfl))⟩)) (by rfl))),(pv 0)⟩)) (bW ad) (aR _))))))),aT (σ':=[some _,some _,none,none]) rfl ?_⟩
  have lrg:rg.length≤40:=by
   have h1:=List.Nodup.length_le_of_subset ir.nd (l₂:=(rs.map (·.2.2)).map (·.1)) fun z hz=>by
    obtain ⟨i,hi,e⟩:=List.mem_iff_getElem.mp hz
    obtain ⟨ws,h1,_⟩:=ir.st i hi
    rw [List.getD_eq_getElem?_getD,List.getElem?_eq_getElem hi,Option.getD_some,e] at h1
    exact List.mem_map.mpr ⟨_,h1,rfl⟩
   have:=ro.ls
   rw [List.length_map] at h1
   omega
  walk_at "l2"
  intro D1 H1 f1 s1 e1
  refine rh (i5 (s1.get hg)) (Rep.lst (ds:=[]) (SqL.of e1) rfl fun i x d h=>by simp at h) (by unfold depD;rw [gn];decide) ?_
  rw [tu,decide_eq_false ir.ne]
  walk_at "l2"
  refine Ss ?_
  walk_at "l2"
  refine ⟨g,rg,rfl,s1.get hg,ir.nd,by omega,?_⟩
  have hg1:=s1.get hg
  walk_at "l2"
  rw [List.length_map,decide_eq_true rfl]
  walk_at "l2"
  intro D2 H2 f2 s2 e2
  rw [show cutV (rg.map V.str) (some 1) none=(rg.map V.str).drop 1 from zZ _ 1 (by rw [List.length_map];exact List.length_pos_iff.mpr ir.ne),← List.map_drop] at e2
  have hg2:=s2.get hg1
  walk_at "l2"
  intro D3 H3 f3 s3 e3
  rw [show cutV (rg.map V.str) none (some 1)=(rg.map V.str).take 1 from Gp _ 1 (by rw [List.length_map];exact List.length_pos_iff.mpr ir.ne),← List.map_take] at e3
  refine pe (s3.get e2) e3 (by rw [List.length_map,List.length_map,List.length_drop,List.length_take,sizeLine_eq];omega) fun D4 H4 f4 s4 e4=>?_
  rw [← List.map_append] at e4
  have lrot:(rg.drop 1++rg.take 1).length=rg.length:=by rw [List.length_append,List.length_drop,List.length_take];have:=List.length_pos_iff.mpr ir.ne;omega
  have s04:=s1.trans (s2.trans (s3.trans s4))
  refine ⟨g,D4,_,_,rfl,rfl,SqL.of (s04.get hg),SqL.of e4,by rw [List.length_map,List.length_map,lrot],?_⟩
  refine Rc (xs:=rg.map V.str) (ys:=(rg.drop 1++rg.take 1).map V.str) (by rw [List.length_map,List.length_map,lrot]) (fun j σ H'=>∃ (v2 v3:Option V),σ=[some (.ref g),some (.ref l),v2,v3]∧Same H4 H') ⟨none,none,rfl,Same.refl _⟩ (fun i σ H' _ ⟨_,_,_,s'⟩=>⟨SqL.of (s'.get (s04.get hg)),SqL.of (s'.get e4)⟩) ?_ ?_
  ·rintro j v1 v2 σ H5 p1 H6 h1 h2 ⟨v5,v6,rfl,s5⟩ fp sp ep
   obtain ⟨one,ho,rfl⟩:=be h1
   obtain ⟨oth,ht,rfl⟩:=be h2
   have hj:=(List.getElem?_eq_some_iff.mp ho).1
   have s06:=s04.trans (s5.trans sp)
   have hl6:=s06.get hl
   obtain ⟨ws,hw1,hw2⟩:=ir.st j hj
   have g1:rg.getD j ""=one:=by rw [List.getD_eq_getElem?_getD,ho];rfl
   have g2:rg.getD ((j + 1) % rg.length) ""=oth:=by
    rw [List.getD_eq_getElem?_getD]
    by_cases hl:j + 1 < rg.length
    ·rw [Nat.mod_eq_of_lt hl]
     rw [List.getElem?_append_left (by rw [List.length_drop];omega),List.getElem?_drop,Nat.add_comm] at ht
     rw [ht];rfl
    ·have hj1:j + 1=rg.length:=by omega
     rw [hj1,Nat.mod_self]
     rw [List.getElem?_append_right (by rw [List.length_drop];omega),List.length_drop,show j - (rg.length - 1)=0 by omega,List.getElem?_take,if_pos (by decide)] at ht
     rw [ht];rfl
   rw [g1] at hw1
   rw [g2] at hw2
   obtain ⟨r0,hr0,er0⟩:=List.mem_map.mp hw1
   walk_at "l2"
   intro D7 hD7
   refine bg (xs:=rs.map fun r=>V.ref r.1) (fun i ys H'=>Cs (fun i ys=>ys=((rs.take i).filter fun r=>decide (r.2.2.1=one)&&decide (oth∈r.2.2.2)).map fun r=>V.ref r.1) H6 D7 i ys H') (Cs.zero hD7 rfl) (fun i ys H' _ c=>SqL.of (c.same.get hl6)) (fun i x ys H' hx c=>?_) (fun ys H7 c=>?_)
   ·obtain ⟨r,hr',rfl⟩:=be hx
    have hi:=(List.getElem?_eq_some_iff.mp hr').1
    have hm:=List.mem_of_getElem? hr'
    have ls:=ro.ls
    rw [List.length_map] at ls
    have er:=(s06.trans c.same).get (hrw r hm).1
    have ew:=(s06.trans c.same).get (hrw r hm).2
    have skip:(decide (r.2.2.1=one)&&decide (oth∈r.2.2.2))=false→Cs (fun i ys=>ys=((rs.take i).filter fun r=>decide (r.2.2.1=one)&&decide (oth∈r.2.2.2)).map fun r=>V.ref r.1) H6 D7 (i + 1) ys H':=fun hb=>Cs.skip c.same c.at' c.len (by
     rw [c.pv,take_succ hr',List.filter_append,List.map_append,List.filter_cons,if_neg (by rw [hb];exact Bool.false_ne_true)];simp)
    walk_at "l2"
    by_cases h1:r.2.2.1=one
    ·rw [decide_eq_true (congrArg V.str h1)]
     walk_at "l2"
     refine NE ew ?_
     by_cases h2:oth∈r.2.2.2
     ·rw [decide_eq_true h2]
      walk_at "l2"
      refine Cs.put hD7 c.same c.at' c.len (by omega) ?_
      rw [c.pv,take_succ hr',List.filter_append,List.map_append,List.filter_cons,if_pos (by rw [decide_eq_true h1,decide_eq_true h2];rfl)];rfl
     ·rw [decide_eq_false h2]
      walk_at "l2"
      exact skip (by rw [decide_eq_false h2,Bool.and_false])
    ·rw [decide_eq_false fun z=>h1 (V.str.inj z)]
     walk_at "l2"
     exact skip (by rw [decide_eq_false h1,Bool.false_and])
   ·have ec:=c.at'
    rw [c.pv,List.length_map,List.take_length] at ec
    have s67:=c.same
    clear c
    walk_at "l2"
    intro D8 H8 f8 s8 e8
    have s68:=s67.trans s8
    have s08:=s06.trans s68
    refine fS (s8.get ec) (fun v hv=>?_) e8 ?_
    ·obtain ⟨r,hr,rfl⟩:=List.mem_map.mp hv
     have hm:=(List.mem_filter.mp hr).1
     refine tf (s08.get (hrw r hm).1) ⟨_,.str _,by simp [depD]⟩ ⟨_,i5 (s08.get (hrw r hm).2),by rw [depD,gn];decide⟩
    ·have hne:((rs.filter fun r=>decide (r.2.2.1=one)&&decide (oth∈r.2.2.2)).map fun r=>V.ref r.1).isEmpty=false:=by
      rw [List.isEmpty_eq_false_iff]
      intro e
      rw [List.map_eq_nil_iff] at e
      have:r0∈rs.filter fun r=>decide (r.2.2.1=one)&&decide (oth∈r.2.2.2):=List.mem_filter.mpr ⟨hr0,by rw [er0,decide_eq_true rfl,decide_eq_true hw2];rfl⟩
      rw [e] at this
      simp at this
     rw [hne]
     walk_at "l2"
     exact ⟨_,_,rfl,(s5.trans sp).trans s68⟩
  ·rintro σ H5 ⟨v2,v3,rfl,s5⟩
   have s05:=s04.trans s5
   have hg5:=s05.get hg
   have hl5:=s05.get hl
   have ls:=ro.ls
   rw [List.length_map] at ls
   walk_at "l2"
   intro D6 hD6
   refine bg (xs:=rg.map V.str) (fun i ys H'=>Cs (fun i ys=>ys=[]) H5 D6 i ys H') (Cs.zero hD6 rfl) (fun i ys H' _ c=>SqL.of (c.same.get hg5)) (fun i x ys H6 hx c=>?_) (fun ys H6 c=>?_)
   ·obtain ⟨z,hz,rfl⟩:=be hx
    have hi:=(List.getElem?_eq_some_iff.mp hz).1
    have hl6:=c.same.get hl5
    walk_at "l2"
    intro D7 hD7
    refine bg (xs:=rs.map fun r=>V.ref r.1) (fun i ys H'=>Cs (fun i ys=>ys=((rs.take i).map (·.2.2.1)).map V.str) H6 D7 i ys H') (Cs.zero hD7 rfl) (fun i ys H' _ c=>SqL.of (c.same.get hl6)) (fun i x ys H' hx c'=>?_) (fun ys7 H7 c'=>?_)
    ·obtain ⟨r,hr',rfl⟩:=be hx
     have hlt:=(List.getElem?_eq_some_iff.mp hr').1
     have er:=((s05.trans c.same).trans c'.same).get (hrw r (List.mem_of_getElem? hr')).1
     walk_at "l2"
     refine Cs.put hD7 c'.same c'.at' c'.len (by omega) ?_
     rw [c'.pv,take_succ hr',List.map_append,List.map_append];rfl
    ·have e7:=c'.at'
     rw [c'.pv,List.length_map,List.take_length] at e7
     have hzm:z∈rs.map (·.2.2.1):=by
      obtain ⟨ws,h1,_⟩:=ir.st i hi
      rw [List.getD_eq_getElem?_getD,hz,Option.getD_some] at h1
      obtain ⟨r0,hr0,er0⟩:=List.mem_map.mp h1
      exact List.mem_map.mpr ⟨r0,hr0,by rw [er0]⟩
     walk_at "l2"
     refine yy e7 ?_
     rw [decide_eq_true hzm]
     walk_at "l2"
     exact Cs.skip (c.same.trans c'.same) (c'.same.get c.at') c.len c.pv
   ·have e6:=c.at'
    rw [c.pv] at e6
    have s56:=c.same
    clear c
    walk_at "l2"
    intro D7 H7 f7 s7 e7
    refine fS (s7.get e6) (fun v hv=>absurd hv (by simp)) e7 ?_
    exact q H7 ((s05.trans s56).trans s7)
end
section
variable {P:Program} {w:World} {K:PySem.W.Frag} {mg:Str→Option Value} {base:Heap} {a:Ad}
local macro_rules | `(tactic| walk_at "l2step") =>`(tactic| first | ((with_reducible refine' c_whole ?e ?_);(case e=>walk_at "l2kind")) | ((with_reducible refine' c_mask ?e ?_);(case e=>walk_at "l2kind")) | (with_reducible refine cz ?_) | (with_reducible refine s_methX ?_))
noncomputable def Dm:Sp:=fun vs H Q _=>∃ (l:Addr) (rs:List Rw),vs=[.ref l]∧H l=some (.lst (rs.map fun r=>V.ref r.1))∧RwL H rs∧Ro (rs.map (·.2.2))∧∀ (b:Bool) H2,Same H H2→(b=true↔FE (rs.map (·.2.2)))→Q (.bl b) H2
theorem rB (T:Tx K mg a):FnOk P w K mg base CX0 1 a.bJ a.gM ["_law_sums"] Dm:=by
 refine T.eT.ok cX (fun vs H Q E h=>?_) (fun cdv A outer s H vs Q E hr h=>?_)
 ·obtain ⟨l,rs,rfl,_⟩:=h;rfl
 ·obtain ⟨l,rs,rfl,hl,hrw,ro,q⟩:=h
  have hu1:=jQ hr
  have ls:=ro.ls
  rw [List.length_map] at ls
  have nmE:(rs.map (·.2.2)).map (·.1)=rs.map (·.2.2.1):=by rw [List.map_map];rfl
  refine ⟨_,((af (aX (i:=1) cX.nd rfl (by walk_at "o") (bj (osc:=ae bU) (ON:=["_law_sums","_law_left","_law_k","_law_name_here","_law_wires_here"]) (N:=["_law_row"]) (n:=1) (fx:=[]) rfl rfl rfl (by decide +kernel) (ba (K:=K) rfl (pv 0)) (aO (by decide)) (fun _ _ _ _ _=>⟨(av (i:=0) (show List.Nodup (["_law_row"]:List Str) from by decide +kernel) rfl (by walk_at "o")),bB,(aH (bc (K:=K) rfl) (pv 0) ah (fun _ _=>rfl))⟩)))
   (af (gi PassesOwn.never rfl (cx (by rfl) T.d9 (aa (ay (aG (K:=K) rfl) (by rfl) T.di PySem.boot_len (aa (pv 0) ad)) ad)) (av (i:=2) cX.nd rfl (by walk_at "o")) (ai (gi PassesOwn.never rfl (ba (K:=K) rfl (pv 0)) (x6 rfl (b7 (av (i:=3) cX.nd rfl (by walk_at "o")) (b7 (av (i:=4) cX.nd rfl (by walk_at "o")) i9))) (ai (ci (PW.pt (lC (az (F1 (K:=K) rfl) (pv 3) (pv 1) (by rfl)) (i7 (az (my (K:=K) rfl hu1) (bj (osc:=ae bU) (ON:=["_law_sums","_law_left","_law_k","_law_name_here","_law_wires_here"]) (N:=["_law_wire","_law_left"]) (n:=1) (fx:=[1]) rfl rfl rfl (by decide +kernel) (ba (K:=K) rfl (pv 4)) (aO (by decide)) (fun _ _ _ _ _=>⟨(av (i:=0) (show List.Nodup (["_law_wire","_law_left"]:List Str) from by decide +kernel) rfl (by walk_at "o")),(i8 (az (F1 (K:=K) rfl) (pv 0) (pv 1) (by rfl))),(pv 0)⟩)) (bW ad) (aR _))))) (ai (aZ (cZ (K:=K) rfl PySem.F.plainAttrs_list PySem.F.slot_list_remove PySem.F.type_list_remove HJ (pv 1) (aa (pv 3) ad)))) aK)))))
   (ai (bi (jS (im (K:=K) rfl hu1) (pv 1) (bW ad) (aR _))))))),aT (σ':=[some _,none,none,none,none]) rfl ?_⟩
  walk_at "l2"
  intro D hD
  refine bg (xs:=rs.map fun r=>V.ref r.1) (fun i ys H'=>Cs (fun i ys=>ys=((rs.take i).map (·.2.2.1)).map V.str) H D i ys H') (Cs.zero hD rfl) (fun i ys H' _ c=>SqL.of (c.same.get hl)) (fun i x ys H' hx c=>?_) (fun ys H1 c=>?_)
  ·obtain ⟨r,hr',rfl⟩:=be hx
   have hlt:=(List.getElem?_eq_some_iff.mp hr').1
   have er:=c.same.get (hrw r (List.mem_of_getElem? hr')).1
   walk_at "l2"
   refine Cs.put hD c.same c.at' c.len (by omega) ?_
   rw [c.pv,take_succ hr',List.map_append,List.map_append];rfl
  ·have e1:=c.at'
   rw [c.pv,List.length_map,List.take_length] at e1
   have s1:=c.same
   clear c
   have hl1:=s1.get hl
   walk_at "l2"
   rw [List.length_map,show ((rs.length:Nat):Int)=((rs.length:Nat):Int) from rfl]
   refine ⟨by omega,by omega,?_⟩
   refine iT (n:=rs.length) (fun k σ H'=>∃ (v2 v3 v4:Option V) (L:List Str),σ=[some (.ref l),some (.ref D),v2,v3,v4]∧Same H H'∧H' D=some (.lst (L.map V.str))∧Peel (rs.map (·.2.2)) L∧(OL (rs.map (·.2.2)) L∨L.length + k≤rs.length)) ⟨none,none,none,rs.map (·.2.2.1),rfl,s1,e1,by rw [← nmE];exact Peel.start ro.nd,.inr (by rw [List.length_map];omega)⟩ ?_ ?_
   ·rintro k σ H2 hk ⟨v2,v3,v4,L0,rfl,s2,e2,p0,pr⟩
    have hl2:=s2.get hl
    walk_at "l2"
    refine oE (xs:=rs.map fun r=>V.ref r.1) (fun i σ H'=>∃ (v3 v4:Option V) (L:List Str),σ=[some (.ref l),some (.ref D),some (.int (0 + ↑k)),v3,v4]∧Same H H'∧H' D=some (.lst (L.map V.str))∧Peel (rs.map (·.2.2)) L∧((L=L0∧∀ r∈(rs.take i).map (·.2.2),r.1∈L0→∃ w∈r.2,w∈L0)∨(L.length < L0.length∧¬ OL (rs.map (·.2.2)) L0))) ⟨v3,v4,L0,rfl,s2,e2,p0,.inl ⟨rfl,fun _ h=>absurd h (by simp)⟩⟩ (fun i σ H' _ ⟨_,_,_,_,s',_⟩=>SqL.of (s'.get hl)) ?_ ?_
    ·rintro i y σ H3 hy ⟨v3,v4,L,rfl,s3,e3,pl,st⟩
     obtain ⟨r,hr',rfl⟩:=be hy
     have hm:=List.mem_of_getElem? hr'
     have er:=s3.get (hrw r hm).1
     have ew:=s3.get (hrw r hm).2
     have hrs:(r.2.2.1,r.2.2.2)∈rs.map (·.2.2):=List.mem_map.mpr ⟨r,hm,rfl⟩
     have l24:r.2.2.2.length≤24:=ro.lw _ hrs
     have keep:(r.2.2.1∈L→∃ w∈r.2.2.2,w∈L)→((L=L0∧∀ r∈(rs.take (i + 1)).map (·.2.2),r.1∈L0→∃ w∈r.2,w∈L0)∨(L.length < L0.length∧¬ OL (rs.map (·.2.2)) L0)):=fun h=>by
      rcases st with ⟨e,h2⟩ | h2
      ·refine .inl ⟨e,fun x hx hxL=>?_⟩
       rw [take_succ hr',List.map_append] at hx
       rcases List.mem_append.mp hx with h3 | h3
       ·exact h2 x h3 hxL
       ·rw [List.map_singleton,List.mem_singleton] at h3
        subst h3
        rw [← e];rw [← e] at hxL
        exact h hxL
      ·exact .inr h2
     walk_at "l2"
     refine NE e3 ?_
     by_cases hin:r.2.2.1∈L
     rotate_left
     ·rw [decide_eq_false hin]
      walk_at "l2"
      exact ⟨_,_,L,rfl,s3,e3,pl,keep fun h=>absurd h hin⟩
     ·rw [decide_eq_true hin]
      walk_at "l2"
      intro D5 hD5
      refine bg (xs:=r.2.2.2.map V.str) (fun i ys H'=>Cs (fun i ys=>ys=((r.2.2.2.take i).filter fun w=>decide (w∈L)).map V.str) H3 D5 i ys H') (Cs.zero hD5 rfl) (fun i ys H' _ c=>SqL.of (c.same.get ew)) (fun i x ys H' hx c=>?_) (fun ys H4 c=>?_)
      ·obtain ⟨y,hy,rfl⟩:=be hx
       have hi:=(List.getElem?_eq_some_iff.mp hy).1
       have e3':=c.same.get e3
       walk_at "l2"
       refine NE e3' ?_
       by_cases hm:y∈L
       ·rw [decide_eq_true hm]
        walk_at "l2"
        refine Cs.put hD5 c.same c.at' c.len (by omega) ?_
        rw [c.pv,take_succ hy,List.filter_append,List.map_append,List.filter_cons,if_pos (decide_eq_true hm)];rfl
       ·rw [decide_eq_false hm]
        walk_at "l2"
        refine Cs.skip c.same c.at' c.len ?_
        rw [c.pv,take_succ hy,List.filter_append,List.map_append,List.filter_cons,if_neg (by simpa using hm)];simp
      ·have ec:=c.at'
       rw [c.pv,List.length_map,List.take_length] at ec
       have s34:=c.same
       clear c
       walk_at "l2"
       intro D6 H5 f5 s5 e5
       refine rh (i5 (s5.get ec)) (Rep.lst (ds:=[]) (SqL.of e5) rfl fun i x d h=>by simp at h) (by unfold depD;rw [gn];decide) ?_
       rw [tu]
       have s35:=s34.trans s5
       have e35:=s35.get e3
       by_cases hf:(r.2.2.2.filter fun w=>decide (w∈L))=[]
       ·rw [decide_eq_true hf]
        have hno:∀ w∈r.2.2.2,w∉L:=fun w hw=>by
         have:=List.filter_eq_nil_iff.mp hf w hw
         simpa using this
        obtain ⟨j,hj,hfi⟩:=zO hin
        have hjl:=(List.getElem?_eq_some_iff.mp hj).1
        walk_at "l2"
        refine Km e35 hj hfi fun H6 u6=>?_
        walk_at "l2"
        refine ⟨_,_,L.eraseIdx j,rfl,fun b o e=>u6.oth _ _ (al e hD) ((s3.trans s35).get e),u6.at',pl.off ro.nd hrs hj hno,.inr ?_⟩
        have hlen:(L.eraseIdx j).length=L.length - 1:=List.length_eraseIdx_of_lt hjl
        rcases st with ⟨e,_⟩ | ⟨h1,h2⟩
        ·subst e
         refine ⟨by omega,fun hs=>?_⟩
         obtain ⟨w,hw,hwL⟩:=hs _ hrs hin
         exact hno w hw hwL
        ·exact ⟨by omega,h2⟩
       ·rw [decide_eq_false hf]
        walk_at "l2"
        refine ⟨_,_,L,rfl,s3.trans s35,e35,pl,keep fun _=>?_⟩
        obtain ⟨w,hw⟩:=List.exists_mem_of_ne_nil _ hf
        have:=List.mem_filter.mp hw
        exact ⟨w,this.1,of_decide_eq_true this.2⟩
    ·rintro σ H3 ⟨v3,v4,L,rfl,s3,e3,pl,st⟩
     rw [List.length_map,List.take_length] at st
     refine ⟨_,v3,v4,L,rfl,s3,e3,pl,?_⟩
     rcases st with ⟨e,h2⟩ | ⟨h1,h2⟩
     ·left;rw [e];exact h2
     ·have:=pr.resolve_left h2
      right;omega
   ·rintro σ H2 ⟨v2,v3,v4,L,rfl,s2,e2,pl,st⟩
    walk_at "l2"
    intro D6 H5 f5 s5 e5
    refine rh (neg:=true) (i5 (s5.get e2)) (Rep.lst (ds:=[]) (SqL.of e5) rfl fun i x d h=>by simp at h) (by unfold depD;rw [gn];decide) ?_
    rw [tu,if_pos rfl]
    refine q _ H5 (s2.trans s5) ?_
    rw [← pl.ring (st.imp id fun h=>List.length_eq_zero_iff.mp (by omega))]
    simp
end
section
variable {P:Program} {w:World} {K:PySem.W.Frag} {mg:Str→Option Value} {base:Heap} {a:Ad}
local macro_rules | `(tactic| walk_at "l2step") =>`(tactic| first | ((with_reducible refine' c_whole ?e ?_);(case e=>walk_at "l2kind")) | ((with_reducible refine' c_mask ?e ?_);(case e=>walk_at "l2kind")) | (with_reducible refine cz ?_) | (with_reducible refine s_methX ?_))
noncomputable def Kf:Sp:=fun vs H Q _=>∃ (i s t o:Addr) (is:List V) (rs:List RwT) (qs:List QsT) (os:List V) (N:Nd),vs=[.ref i,.ref s,.ref t,.ref o]∧HndL H i s t o is rs qs os∧DatT H is rs qs os N∧is.length≤100∧rs.length≤100∧qs.length≤100∧os.length≤100∧
 (dueF N=none→∀ H2,Same H H2→Q .non H2)∧(∀ f,dueF N=some f→∀ t H2,Same H H2→DueT H2 t f→Q (.ref t) H2)
theorem DS (T:Tx K mg a):FnOk P w K mg base CX0 3 a.dH a.p5 ["_law_ins","_law_sums","_law_stores","_law_outs"] Kf:=by
 have iG:=@jW P w K mg base a T
 have sT:=@pA P w K mg base a T
 have wm:=@rB P w K mg base a T
 refine T.kT.ok ff (fun vs H Q E h=>?_) (fun cdv A outer s H vs Q E hr h=>?_)
 ·obtain ⟨i,s,t,o,is,rs,qs,os,N,rfl,_⟩:=h;rfl
 ·obtain ⟨i,s,t,o,is,rs,qs,os,N,rfl,hn,da,li,ls,lt,lo,qN,qF⟩:=h
  have hu1:=jQ hr
  have em:=Oe da
  have hi:=hn.i
  have hs:=hn.s
  have ht:=hn.t
  have ho:=hn.o
  have many:∀ (t:Addr) (H2:Hp),iq N=true→Same H H2→H2 t=some (.tup [.str "TooMany",.non])→Q (.ref t) H2:=fun t H2 hm s2 e=>qF .many (zT hm) t H2 s2 ⟨.non,e,.non⟩
  refine ⟨_,((af (ci (PW.pt (rj (az nS (ay (aG (K:=K) rfl) (by rfl) T.di PySem.boot_len (aa (pv 0) ad)) ah (aR _)) (rj (az nS (ay (aG (K:=K) rfl) (by rfl) T.di PySem.boot_len (aa (pv 1) ad)) ah (aR _)) (rj (az nS (ay (aG (K:=K) rfl) (by rfl) T.di PySem.boot_len (aa (pv 2) ad)) ah (aR _)) (tV (az nS (ay (aG (K:=K) rfl) (by rfl) T.di PySem.boot_len (aa (pv 3) ad)) ah (aR _))))))) (ai (bi (bV (aa aM (aa iM ad))))) aK)
   (af (ci (az (im (K:=K) rfl hu1) (bj (osc:=ae c9) (ON:=["_law_ins","_law_sums","_law_stores","_law_outs","_law_known","_law_due_here","_law_wires_here","_law_row","_law_wire"]) (N:=["_law_row"]) (n:=1) (fx:=[]) rfl rfl rfl (by decide +kernel) (ba (K:=K) rfl (pv 1)) (aO (by decide)) (fun _ _ _ _ _=>⟨(av (i:=0) (show List.Nodup (["_law_row"]:List Str) from by decide +kernel) rfl (by walk_at "o")),(i8 (az nS (ay (aG (K:=K) rfl) (by rfl) T.di PySem.boot_len (aa (aH (bc (K:=K) rfl) (pv 0) ah (fun _ _=>rfl)) ad)) ah (aR _))),(pv 0)⟩)) (bW ad) (aR _)) (ai (bi (bV (aa aM (aa iM ad))))) aK)
   (af (aX (i:=4) ff.nd rfl (by walk_at "o") (bW ad))
   (af (aX (i:=5) ff.nd rfl (by walk_at "o") (aL sT (hr.mono (by decide)) (by rfl) T.sA T.sy T.gf .nil bD (aa (aB iP (aB iP (pv 0) (bj (osc:=ae c9) (ON:=["_law_ins","_law_sums","_law_stores","_law_outs","_law_known","_law_due_here","_law_wires_here","_law_row","_law_wire"]) (N:=["_law_row"]) (n:=1) (fx:=[]) rfl rfl rfl (by decide +kernel) (ba (K:=K) rfl (pv 1)) (aO (by decide)) (fun _ _ _ _ _=>⟨(av (i:=0) (show List.Nodup (["_law_row"]:List Str) from by decide +kernel) rfl (by walk_at "o")),bB,(aH (bc (K:=K) rfl) (pv 0) ah (fun _ _=>rfl))⟩))) (bj (osc:=ae c9) (ON:=["_law_ins","_law_sums","_law_stores","_law_outs","_law_known","_law_due_here","_law_wires_here","_law_row","_law_wire"]) (N:=["_law_row"]) (n:=1) (fx:=[]) rfl rfl rfl (by decide +kernel) (ba (K:=K) rfl (pv 2)) (aO (by decide)) (fun _ _ _ _ _=>⟨(av (i:=0) (show List.Nodup (["_law_row"]:List Str) from by decide +kernel) rfl (by walk_at "o")),bB,(aH (bc (K:=K) rfl) (pv 0) ah (fun _ _=>rfl))⟩))) (aa (pv 4) ad))))
   (af (ci (az KQ (pv 5) iM (aR _)) (ai (bi (pv 5))) aK)
   (af (aX (i:=6) ff.nd rfl (by walk_at "o") (bW ad))
   (af (gi PassesOwn.never rfl (ba (K:=K) rfl (pv 1)) (av (i:=7) ff.nd rfl (by walk_at "o")) (ai (aZ (cZ (K:=K) rfl PySem.F.plainAttrs_list PySem.F.slot_list_extend PySem.F.type_list_extend c7 (pv 6) (aa (aH (bc (K:=K) rfl) (pv 7) ah (fun _ _=>rfl)) ad)))))
   (af (gi PassesOwn.never rfl (ba (K:=K) rfl (aB iP (aB iP (pv 6) (bj (osc:=ae c9) (ON:=["_law_ins","_law_sums","_law_stores","_law_outs","_law_known","_law_due_here","_law_wires_here","_law_row","_law_wire"]) (N:=["_law_row"]) (n:=1) (fx:=[]) rfl rfl rfl (by decide +kernel) (ba (K:=K) rfl (pv 2)) (aO (by decide)) (fun _ _ _ _ _=>⟨(av (i:=0) (show List.Nodup (["_law_row"]:List Str) from by decide +kernel) rfl (by walk_at "o")),bB,(aH (bc (K:=K) rfl) (pv 0) ah (fun _ _=>rfl))⟩))) (pv 3))) (av (i:=8) ff.nd rfl (by walk_at "o")) (ai (ci (PW.pt (rj (lD (eE (aL iG (hr.mono (by decide)) (by rfl) T.lP T.lN T.fJ .nil bD (aa (pv 8) ad)))) (tV (az (ue (K:=K) rfl) (pv 8) (pv 4) (by rfl))))) (ai (bi (bV (aa aM (aa (pv 8) ad))))) aK)))
   (af (ci (eE (aL wm (hr.mono (by decide)) (by rfl) T.vn T.vi T.gT .nil bD (aa (pv 1) ad))) (ai (bi (bV (aa aM (aa iM ad))))) aK)
   (ai (bi iM)))))))))))),aT (σ':=[some _,some _,some _,some _,none,none,none,none,none]) rfl ?_⟩
  walk_at "l2"
  by_cases h1:(6:Int) < is.length
  ·rw [decide_eq_true h1]
   walk_at "l2"
   intro t' H1 f1 s1 e1
   exact many t' H1 (by rw [em,decide_eq_true (show 6 < is.length by omega)];simp) s1 e1
  rw [decide_eq_false h1]
  walk_at "l2"
  rw [List.length_map]
  by_cases h2:(40:Int) < rs.length
  ·rw [decide_eq_true h2]
   walk_at "l2"
   intro t' H1 f1 s1 e1
   exact many t' H1 (by rw [em,decide_eq_true (show 40 < rs.length by omega)];simp) s1 e1
  rw [decide_eq_false h2]
  walk_at "l2"
  rw [List.length_map]
  by_cases h3:(16:Int) < qs.length
  ·rw [decide_eq_true h3]
   walk_at "l2"
   intro t' H1 f1 s1 e1
   exact many t' H1 (by rw [em,decide_eq_true (show 16 < qs.length by omega)];simp) s1 e1
  rw [decide_eq_false h3]
  walk_at "l2"
  by_cases h4:(6:Int) < os.length
  ·rw [decide_eq_true h4]
   walk_at "l2"
   intro t' H1 f1 s1 e1
   exact many t' H1 (by rw [em,decide_eq_true (show 6 < os.length by omega)];simp) s1 e1
  rw [decide_eq_false h4]
  walk_at "l2"
  have em:iq N=rs.any fun r=>decide (24 < r.2.2.2.length):=by rw [em,decide_eq_false (show ¬ 6 < is.length by omega),decide_eq_false (show ¬ 40 < rs.length by omega),decide_eq_false (show ¬ 16 < qs.length by omega),decide_eq_false (show ¬ 6 < os.length by omega)];simp
  intro D1 hD1
  refine bg (xs:=rs.map fun r=>V.ref r.1) (fun i ys H'=>Cs (fun i ys=>ys=((rs.take i).filter fun r=>decide (24 < r.2.2.2.length)).map fun r=>V.ref r.1) H D1 i ys H') (Cs.zero hD1 rfl) (fun i ys H' _ c=>SqL.of (c.same.get hs)) (fun i x ys H' hx c=>?_) (fun ys H1 c=>?_)
  ·obtain ⟨r,hr',rfl⟩:=be hx
   have hlt:=(List.getElem?_eq_some_iff.mp hr').1
   have er:=c.same.get (hn.sr r (List.mem_of_getElem? hr')).1
   have ew:=c.same.get (hn.sr r (List.mem_of_getElem? hr')).2
   walk_at "l2"
   by_cases h5:(24:Int) < r.2.2.2.length
   ·rw [decide_eq_true h5]
    walk_at "l2"
    refine Cs.put hD1 c.same c.at' c.len (by omega) ?_
    rw [c.pv,take_succ hr',List.filter_append,List.map_append,List.filter_cons,if_pos (decide_eq_true (by omega))];rfl
   ·rw [decide_eq_false h5]
    walk_at "l2"
    refine Cs.skip c.same c.at' c.len ?_
    rw [c.pv,take_succ hr',List.filter_append,List.map_append,List.filter_cons,if_neg (by simp;omega)];simp
  ·have ec:=c.at'
   rw [c.pv,List.length_map,List.take_length] at ec
   have s1:=c.same
   clear c
   walk_at "l2"
   intro D2 H2 f2 s2 e2
   have s02:=s1.trans s2
   refine fS (neg:=true) (s2.get ec) (fun v hv=>?_) e2 ?_
   ·obtain ⟨r,hr,rfl⟩:=List.mem_map.mp hv
    have hm:=(List.mem_filter.mp hr).1
    obtain ⟨k,hk,ek⟩:=List.mem_iff_getElem.mp hm
    have lrs:rs.length=N.sums.length:=by have:=da.sn.1;rw [List.length_map,List.length_map] at this;exact this
    have g1:rs[k]? =some r:=by rw [List.getElem?_eq_getElem hk,ek]
    have g2:N.sums[k]? =some N.sums[k]:=List.getElem?_eq_getElem (by omega)
    have d2:=da.same s02
    exact tf (s02.get (hn.sr r hm).1) (d2.sn.2 k r.2.2.1 N.sums[k].1 (by rw [List.getElem?_map,g1];rfl) (by rw [List.getElem?_map,g2];rfl)).rep8 (Kt (s02.get (hn.sr r hm).2) (d2.sw k r _ g1 g2))
   ·by_cases h5:iq N=true
    ·have hne:((rs.filter fun r=>decide (24 < r.2.2.2.length)).map fun r=>V.ref r.1).isEmpty=false:=by
      rw [List.isEmpty_eq_false_iff]
      intro e
      rw [List.map_eq_nil_iff] at e
      rw [em] at h5
      obtain ⟨r0,hr0,h0⟩:=List.any_eq_true.mp h5
      have:r0∈rs.filter fun r=>decide (24 < r.2.2.2.length):=List.mem_filter.mpr ⟨hr0,h0⟩
      rw [e] at this
      simp at this
     rw [hne]
     walk_at "l2"
     intro t' H3 f3 s3 e3
     exact many t' H3 h5 (s02.trans s3) e3
    ·have h5:iq N=false:=by simpa using h5
     have hno:∀ r∈rs,r.2.2.2.length≤24:=fun r hr=>by
      rw [em] at h5
      have:=List.any_eq_false.mp h5 r hr
      simp at this
      omega
     have hne:((rs.filter fun r=>decide (24 < r.2.2.2.length)).map fun r=>V.ref r.1).isEmpty=true:=by
      rw [List.isEmpty_iff,List.map_eq_nil_iff,List.filter_eq_nil_iff]
      intro r hr
      have:=hno r hr
      simp;omega
     rw [hne]
     clear ec e2 many h1 h2 h3 h4
     walk_at "l2"
     intro D3 H3 f3 s3 e3
     have s03:=s02.trans s3
     have hi3:=s03.get hi
     have hs3:=s03.get hs
     have fD3:H D3=none:=s02.free f3
     walk_at "l2"
     intro D4 hD4
     refine bg (xs:=rs.map fun r=>V.ref r.1) (fun i ys H'=>Cs (fun i ys=>ys=(rs.take i).map (·.2.2.1)) H3 D4 i ys H') (Cs.zero hD4 rfl) (fun i ys H' _ c=>SqL.of (c.same.get hs3)) (fun i x ys H' hx c=>?_) (fun ys H4 c=>?_)
     ·obtain ⟨r,hr',rfl⟩:=be hx
      have hlt:=(List.getElem?_eq_some_iff.mp hr').1
      have er:=(s03.trans c.same).get (hn.sr r (List.mem_of_getElem? hr')).1
      walk_at "l2"
      refine Cs.put hD4 c.same c.at' c.len (by omega) ?_
      rw [c.pv,take_succ hr',List.map_append];rfl
     have e4:=c.at'
     rw [c.pv,List.length_map,List.take_length] at e4
     have s34:=c.same
     clear c
     refine pe (s34.get hi3) e4 (by rw [List.length_map,sizeLine_eq];omega) fun D5 H5 f5 s5 e5=>?_
     have s35:=s34.trans s5
     have ht5:=s35.get (s03.get ht)
     walk_at "l2"
     intro D6 hD6
     refine bg (xs:=qs.map fun r=>V.ref r.1) (fun i ys H'=>Cs (fun i ys=>ys=(qs.take i).map (·.2.1)) H5 D6 i ys H') (Cs.zero hD6 rfl) (fun i ys H' _ c=>SqL.of (c.same.get ht5)) (fun i x ys H' hx c=>?_) (fun ys H6 c=>?_)
     ·obtain ⟨r,hr',rfl⟩:=be hx
      have hlt:=(List.getElem?_eq_some_iff.mp hr').1
      have er:=((s03.trans s35).trans c.same).get (hn.tr r (List.mem_of_getElem? hr'))
      walk_at "l2"
      refine Cs.put hD6 c.same c.at' c.len (by omega) ?_
      rw [c.pv,take_succ hr',List.map_append];rfl
     have e6:=c.at'
     rw [c.pv,List.length_map,List.take_length] at e6
     have s56:=c.same
     clear c
     refine pe (s56.get e5) e6 (by rw [List.length_append,List.length_map,List.length_map,sizeLine_eq];omega) fun D7 H7 f7 s7 e7=>?_
     have s37:=s35.trans (s56.trans s7)
     have eD7:=s37.get e3
     have s0l:Same H (less H7 (fun b=>b=D3)):=fun b ob e=>by
      rw [bH (fun z=>by rw [z,fD3] at e;cases e)]
      exact (s03.trans s37).get e
     have d0:=da.same s0l
     have nD7:D7≠D3:=fun z=>by rw [z,(s35.trans s56).get e3] at f7;cases f7
     walk_at "l2"
     refine ⟨D7,D3,less H7 (fun b=>b=D3),_,N.nms,rfl,aS,zo rfl,eD7,by rw [bH (R:=fun b=>b=D3) nD7];exact e7,(d0.i.app d0.sn).app d0.tn,by rw [List.length_append,List.length_append,List.length_map,List.length_map];omega,fun hnm H8 s8 e8=>?_,fun f hf t' H8 s8 dt=>?_⟩
     rotate_left
     ·walk_at "l2"
      exact qF f (tz h5 hf) t' H8 (s0l.trans s8) dt
     have s08:=s0l.trans s8
     have hs8:=s08.get hs
     clear s8 s0l d0 nD7 eD7 e7 e6 e5 e4 e3 s7 s56 s5 s35 s34 s37 s3 f3 fD3 hi3 hs3 ht5 s03 s02 s1 s2
     walk_at "l2"
     intro D9 H9 f9 s9 e9
     have fD9:H D9=none:=s08.free f9
     have s09:=s08.trans s9
     have e89:=s9.get e8
     have nD9:D3≠D9:=fun z=>by rw [← z,e8] at f9;cases f9
     have hs9:=s9.get hs8
     walk_at "l2"
     refine oE (xs:=rs.map fun r=>V.ref r.1) (fun k σ H'=>∃ v7:Option V,σ=[some (.ref i),some (.ref s),some (.ref t),some (.ref o),some (.ref D3),some .non,some (.ref D9),v7,none]∧Same H H'∧H' D3=some (.lst ((N.nms.map dStr).map V.str))∧H' D9=some (.lst ((rs.take k).map (·.2.2.2)).flatten)) ⟨none,rfl,s09,e89,e9⟩ (fun k σ H' _ ⟨_,_,s',_⟩=>SqL.of (s'.get hs)) ?_ ?_
     ·rintro k y σ H' hy ⟨v7,rfl,s',eK,eW⟩
      obtain ⟨r,hr',rfl⟩:=be hy
      have hm:=List.mem_of_getElem? hr'
      have hlt:=(List.getElem?_eq_some_iff.mp hr').1
      have er:=s'.get (hn.sr r hm).1
      have ew:=s'.get (hn.sr r hm).2
      have hf:=zM (rs:=rs.take k) fun x hx=>hno x (List.mem_of_mem_take hx)
      rw [List.length_take] at hf
      have hw:=hno r hm
      walk_at "l2"
      refine dS eW ew (by rw [sizeLine_eq];omega) fun H2 u2=>?_
      walk_at "l2"
      refine ⟨fun b ob e=>u2.oth _ _ (al e fD9) (s'.get e),u2.oth _ _ nD9 eK,?_⟩
      rw [u2.at',take_succ hr',List.map_append,List.flatten_append];simp
     rintro σ H10 ⟨v7,rfl,s10,eK,eW⟩
     rw [List.length_map,List.take_length] at eW
     have ht10:=s10.get ht
     have hf:=zM hno
     walk_at "l2"
     intro D11 hD11
     refine bg (xs:=qs.map fun r=>V.ref r.1) (fun i ys H'=>Cs (fun i ys=>ys=(qs.take i).map (·.2.2)) H10 D11 i ys H') (Cs.zero hD11 rfl) (fun i ys H' _ c=>SqL.of (c.same.get ht10)) (fun i x ys H' hx c=>?_) (fun ys H11 c=>?_)
     ·obtain ⟨r,hr',rfl⟩:=be hx
      have hlt:=(List.getElem?_eq_some_iff.mp hr').1
      have er:=(s10.trans c.same).get (hn.tr r (List.mem_of_getElem? hr'))
      walk_at "l2"
      refine Cs.put hD11 c.same c.at' c.len (by omega) ?_
      rw [c.pv,take_succ hr',List.map_append];rfl
     have e11:=c.at'
     rw [c.pv,List.length_map,List.take_length] at e11
     have s11:=c.same
     clear c
     refine pe (s11.get eW) e11 (by rw [List.length_map,sizeLine_eq];omega) fun D12 H12 f12 s12 e12=>?_
     have s012:=s10.trans (s11.trans s12)
     have ho12:=s012.get ho
     walk_at "l2"
     refine pe e12 ho12 (by rw [List.length_append,List.length_map,sizeLine_eq];omega) fun D13 H13 f13 s13 e13=>?_
     have s013:=s012.trans s13
     have eK13:=s13.get (s12.get (s11.get eK))
     have lrs:rs.length=N.sums.length:=by have:=da.sn.1;rw [List.length_map,List.length_map] at this;exact this
     have tg:TgL H13 ((rs.map (·.2.2.2)).flatten++qs.map (·.2.2)++os) N.wrs:=(((TgL.flat lrs da.sw).app da.tw).app da.o).same s013
     have nmK:∀ z∈N.nms.map dStr,Nm z:=fun z hz=>by
      obtain ⟨zs,e,a2,_,_⟩:=uH hnm
      rw [e,kP] at hz
      exact a2 z hz
     walk_at "l2"
     refine oE (xs:=(rs.map (·.2.2.2)).flatten++qs.map (·.2.2)++os) (fun k σ H'=>∃ v8:Option V,σ=[some (.ref i),some (.ref s),some (.ref t),some (.ref o),some (.ref D3),some .non,some (.ref D9),v7,v8]∧Same H13 H'∧wrsF N.wrs (N.nms.map dStr)=wrsF (N.wrs.drop k) (N.nms.map dStr)) ⟨_,rfl,Same.refl _,rfl⟩ (fun k σ H' _ ⟨_,_,s',_⟩=>SqL.of (s'.get e13)) ?_ ?_
     ·rintro k y σ H' hy ⟨v8,rfl,s',ewr⟩
      have hk:=(List.getElem?_eq_some_iff.mp hy).1
      obtain ⟨d,hd⟩:∃ d,N.wrs[k]? =some d:=⟨_,List.getElem?_eq_getElem (by rw [← tg.1];exact hk)⟩
      have t0:=tg.2 k y d hy hd
      rw [gK hd] at ewr
      walk_at "l2"
      refine ⟨y,d,rfl,t0.same s',fun H2 s2=>?_⟩
      have s02:=s'.trans s2
      have bad:(∀ z∈N.nms.map dStr,d≠.str z)→∀ t' H3,Same H2 H3→H3 t'=some (.tup [.str "NoWire",y])→Q (.ref t') H3:=fun hb t' H3 s3 e3=>qF (.now d) (zS h5 hnm (ewr.trans (sV hb _))) t' H3 ((s013.trans s02).trans s3) ⟨y,e3,t0.same (s02.trans s3)⟩
      cases hn':HD d with
      | false=>
        walk_at "l2"
        intro t' H3 f3 s3 e3
        exact bad (fun z hz e=>by rw [e] at hn';rw [show HD (.str z)=true from nmK z hz] at hn';cases hn') t' H3 s3 e3
      | true=>
        obtain ⟨z,rfl,rfl,lz2⟩:∃ z,y= .str z∧d= .str z∧z.length≤1000:=by
         cases t0 with
         | str z l=>exact ⟨z,rfl,rfl,l⟩
         | nil=>cases hn'
         | one=>cases hn'
         | int=>cases hn'
         | bl=>cases hn'
         | non=>cases hn'
        have eK2:=s02.get eK13
        rw [nu] at ewr
        walk_at "l2"
        refine yy eK2 ?_
        by_cases hz:z∈N.nms.map dStr
        ·rw [if_pos hz] at ewr
         rw [decide_eq_true hz]
         walk_at "l2"
         exact ⟨s02,ewr⟩
        ·rw [decide_eq_false hz]
         walk_at "l2"
         intro t' H3 f3 s3 e3
         exact bad (fun z' hz' e=>hz (by cases e;exact hz')) t' H3 s3 e3
     rintro σ H14 ⟨v8,rfl,s14,ewr⟩
     rw [tg.1,List.drop_length] at ewr
     have s014:=s013.trans s14
     obtain ⟨rs2,qs2,er2,_,_,_,ero,_,ro,_⟩:=FU hn da h5 hnm ewr
     have hs14:=s014.get hs
     rw [er2,List.map_map] at hs14
     walk_at "l2"
     refine ⟨s,rs2,rfl,hs14,fun r hr=>?_,by rw [ero];exact ro,fun b H15 s15 hb=>?_⟩
     ·have:=hn.sr (r.1,r.2.1,V.str r.2.2.1,r.2.2.2.map V.str) (by rw [er2];exact List.mem_map.mpr ⟨r,hr,rfl⟩)
      exact ⟨s014.get this.1,s014.get this.2⟩
     ·rw [ero] at hb
      cases b with
      | true=>
        walk_at "l2"
        intro t' H16 f16 s16 e16
        exact qF .ring (Gi h5 hnm ewr (hb.mp rfl)) t' H16 ((s014.trans s15).trans s16) ⟨.non,e16,.non⟩
      | false=>
        walk_at "l2"
        exact qN (Gj h5 hnm ewr fun h=>by have:=hb.mpr h;cases this) H15 (s014.trans s15)
end
section
variable {P:Program} {w:World} {K:PySem.W.Frag} {mg:Str→Option Value} {base:Heap} {a:Ad}
local macro_rules | `(tactic| walk_at "l2step") =>`(tactic| first | ((with_reducible refine' c_whole ?e ?_);(case e=>walk_at "l2kind")) | ((with_reducible refine' c_mask ?e ?_);(case e=>walk_at "l2kind")) | (with_reducible refine cz ?_) | (with_reducible refine s_methX ?_))
noncomputable def Nq:Sp:=fun vs H Q _=>∃ (i s u o:Addr) (rs:List Rw) (qs:List Qs) (N:Nt),vs=[.ref i,.ref s,.ref u,.ref o]∧Hnd H i s u o rs qs N∧Gn N∧∀ (t D1 D2 D3 D4:Addr) (H2:Hp) (rs:List Rw) (qs:List Qs),Same H H2→TldA H2 t D1 D2 D3 D4 rs qs N→Q (.ref t) H2
theorem Bi (T:Tx K mg a):FnOk P w K mg base CX0 1 a.cT a.mV ["_law_ins","_law_sums","_law_stores","_law_outs"] Nq:=by
 refine T.jt.ok AT (fun vs H Q E h=>?_) (fun cdv A outer s H vs Q E hr h=>?_)
 ·obtain ⟨i,s,u,o,rs,qs,N,rfl,_⟩:=h;rfl
 ·obtain ⟨i,s,u,o,rs,qs,N,rfl,hn,g,q⟩:=h
  have li:=g.li
  have ls:=g.ls
  have lt:=g.lt
  have lo:=g.lo
  have hi:=hn.i
  have hs:=hn.s
  have hu:=hn.t
  have ho:=hn.o
  refine ⟨_,((ai (bi (bV (aa (aF (bM (K:=K) rfl) (by rfl) T.eu PyProof.Rows.boot_list (aa (pv 0) ad)) (aa (bj (osc:=ae dZ) (ON:=["_law_ins","_law_sums","_law_stores","_law_outs"]) (N:=["_law_name_here","_law_wires_here"]) (n:=2) (fx:=[]) rfl rfl rfl (by decide +kernel) (ba (K:=K) rfl (pv 1)) (Ge (g8 (aO (by decide)) (g8 (aO (by decide)) zG))) (fun _ _ _ _ _=>⟨(yH (K:=K) (n:=2) rfl rfl (b7 (av (i:=0) (show List.Nodup (["_law_name_here","_law_wires_here"]:List Str) from by decide +kernel) rfl (by walk_at "o")) (b7 (av (i:=1) (show List.Nodup (["_law_name_here","_law_wires_here"]:List Str) from by decide +kernel) rfl (by walk_at "o")) i9))),bB,(bV (aa (pv 0) (aa (aF (dw (K:=K) rfl) (by rfl) T.ip PyProof.Rows.boot_tuple (aa (pv 1) ad)) ad)))⟩)) (aa (aF (bM (K:=K) rfl) (by rfl) T.eu PyProof.Rows.boot_list (aa (pv 2) ad)) (aa (aF (bM (K:=K) rfl) (by rfl) T.eu PyProof.Rows.boot_list (aa (pv 3) ad)) ad)))))))),aT (σ':=[some _,some _,some _,some _]) rfl ?_⟩
  walk_at "l2"
  intro D1 H1 f1 s1 e1
  have hn1:=hn.same s1
  have hs1:=hn1.s
  walk_at "l2"
  intro D2 hD2
  refine bg (xs:=rs.map fun r=>V.ref r.1) (fun i ys H'=>∃ rs':List Rw,ys=rs'.map (fun r=>V.ref r.1)∧rs'.map (·.2.2)=(rs.take i).map (·.2.2)∧RwK H' rs'∧Same H1 H'∧H' D2=some (.lst ys)) ⟨[],rfl,rfl,fun _ h=>absurd h (by simp),bX hD2,aA⟩ (fun i ys H' _ ⟨_,_,_,_,s',_⟩=>SqL.of (s'.get hs1)) ?_ ?_
  ·rintro j y ys H' hy ⟨rs',rfl,hrs,hk,s',eD⟩
   obtain ⟨r,hr',rfl⟩:=be hy
   have hlt:=(List.getElem?_eq_some_iff.mp hr').1
   have hm:=List.mem_of_getElem? hr'
   have er:=s'.get (hn1.sr r hm).1
   have ew:=s'.get (hn1.sr r hm).2
   have hlen:rs'.length=j:=by have:=congrArg List.length hrs;rw [List.length_map,List.length_map,List.length_take] at this;omega
   walk_at "l2"
   intro tw H11 f11 s11 e11
   walk_at "l2"
   intro tr H12 f12 s12 e12
   have ntr:tr≠D2:=fun z=>(by rw [z,s11.get eD] at f12;cases f12)
   have ntw:tw≠D2:=fun z=>(by rw [z,eD] at f11;cases f11)
   have eD12:=s12.get (s11.get eD)
   refine ⟨eD12,by rw [List.length_map];exact cj (by have:=congrArg List.length hn.es;rw [List.length_map] at this;omega),rs'++[(tr,tw,r.2.2)],by rw [List.map_append];rfl,by rw [List.map_append,hrs,take_succ hr',List.map_append];rfl,fun r2 h2=>?_,fun b ob e=>?_,aA⟩
   ·rcases List.mem_append.mp h2 with h2 | h2
    ·exact ((hk.same s11).same s12).updL eD12 (fun b ob n e=>by rw [aw n];exact e) r2 h2
    ·rw [List.mem_singleton] at h2;subst h2
     exact ⟨by rw [aw ntr];exact e12,by rw [aw ntw];exact s12.get e11⟩
   ·rw [aw (al e hD2)]
    exact s12.get (s11.get (s'.get e))
  ·rintro ys H2 ⟨rs',rfl,hrs,hk,s2,eD2⟩
   rw [List.length_map,List.take_length,hn.es] at hrs
   have hu2:=s2.get hn1.t
   have ho2:=s2.get hn1.o
   walk_at "l2"
   intro D3 H3 f3 s3 e3
   have ho3:=s3.get ho2
   walk_at "l2"
   intro D4 H4 f4 s4 e4
   walk_at "l2"
   intro t5 H5 f5 s5 e5
   have s45:=s4.trans s5
   have s35:=s3.trans s45
   exact q t5 D1 D2 D3 D4 H5 rs' qs (s1.trans (s2.trans s35)) ⟨e5,s35.get (s2.get e1),s35.get eD2,hk.same s35,hrs,s45.get e3,fun q' m=>s35.get (s2.get (hn1.tr q' m)),hn.et,s5.get e4⟩
end
section
variable {P:Program} {w:World} {K:PySem.W.Frag} {mg:Str→Option Value} {base:Heap} {a:Ad}
local macro_rules | `(tactic| walk_at "l2step") =>`(tactic| first | ((with_reducible refine' Gw ?a ?b ?_);(case a=>walk_at "l2side");(case b=>walk_at "l2side")) | ((with_reducible refine' Ah ?e ?a ?_);(case e=>walk_at "l2hp");(case a=>walk_at "l2side")))
theorem yz {K:PySem.W.Frag} {H:Hp} {D:Addr} {ws:List Str} (h:H D=some (.lst (ws.map V.str))):Rep K H (.ref D) (.lst (ws.map Dt.str)):= .lst (SqL.of h) (by rw [List.length_map,List.length_map]) (tU V.str Dt.str (fun z=> .str z) ws)
theorem EZ:∀ ws:List Str,dN (ws.map Dt.str)=0
 | []=>rfl
 | w::ws=>by rw [List.map_cons,dN,EZ ws];rfl
theorem Gg (ws:List Str):eqD (.lst (ws.map Dt.str)) (.lst [])=decide (ws=[]):=by
 cases ws with
 | nil=>rfl
 | cons w l=>rw [decide_eq_false (by simp)];rfl
theorem yM (T:Tx K mg a):FnOk P w K mg base CX0 2 a.cH a.kl ["_law_cell_here","_law_start","_law_names","_law_digits"] Ka:=by
 have bC:=@jc P w K mg base a T
 refine T.hZ.ok dA (fun vs H Q E h=>?_) (fun cdv A outer s H vs Q E hr h=>?_)
 ·obtain ⟨c,st,l,zs,dg,rfl,_⟩:=h;rfl
 ·obtain ⟨c,st,l,zs,dg,rfl,st0,st1,hl,ll,q⟩:=h
  have hu1:=jQ hr
  have elen:(((zs.map V.str).length:Nat):Int)=(zs.length:Int):=by rw [List.length_map]
  refine ⟨_,((af (ci (eE (pv 3)) (af (aX (i:=4) dA.nd rfl (by walk_at "o") (aB ck (pv 0) (aB S9 (aB c6 (ay (aG (K:=K) rfl) (by rfl) T.di PySem.boot_len (aa (pv 2) ad)) ah) ah)))
   (af (aX (i:=5) dA.nd rfl (by walk_at "o") (bW ad))
   (af (gi PassesOwn.never rfl (cx (by rfl) T.d9 (aa ah ad)) (av (i:=6) dA.nd rfl (by walk_at "o")) (DI (ci (az nS (aB ck (pv 4) (aB c6 (ay (aG (K:=K) rfl) (by rfl) T.di PySem.boot_len (aa (pv 2) ad)) ah)) ah (aR _)) (ai (aZ (cZ (K:=K) rfl PySem.F.plainAttrs_list PySem.F.slot_list_append PySem.F.type_list_append dR (pv 5) (aa (aH (ar (K:=K) rfl) (pv 2) (aB ud (aB ck (pv 4) (aB c6 (ay (aG (K:=K) rfl) (by rfl) T.di PySem.boot_len (aa (pv 2) ad)) ah)) ah) (fun _ _=>rfl)) ad)))) aK)
   (ai (aX (i:=4) dA.nd rfl (by walk_at "o") (aB gI (pv 4) (aB c6 (ay (aG (K:=K) rfl) (by rfl) T.di PySem.boot_len (aa (pv 2) ad)) ah))))))
   (ai (bi (pv 5)))))) aK)
   (af (aX (i:=7) dA.nd rfl (by walk_at "o") (aB ck (aL bC (hr.mono (by decide)) (by rfl) T.cb T.ca T.bN .nil bD (aa (pv 0) (aa (pv 1) ad))) ah))
   (ai (bi (bj (osc:=ae dr) (ON:=["_law_cell_here","_law_start","_law_names","_law_digits","_law_left","_law_found","_law_k","_law_many_here"]) (N:=["_law_k","_law_names","_law_cell_here","_law_start"]) (n:=1) (fx:=[2,0,1]) rfl rfl rfl (by decide +kernel) (cx (by rfl) T.d9 (aa (pv 7) ad)) (aO (by decide)) (fun _ _ _ _ _=>⟨(av (i:=0) (show List.Nodup (["_law_k","_law_names","_law_cell_here","_law_start"]:List Str) from by decide +kernel) rfl (by walk_at "o")),(i8 (az (im (K:=K) rfl hu1) (pv 1) (bW ad) (aR _))),(aH (ar (K:=K) rfl) (pv 1) (aB ck (aL bC (hr.mono (by decide)) (by rfl) T.cb T.ca T.bN .nil bD (aa (pv 2) (aa (aB c6 (aB c6 (pv 3) ah) (pv 0)) ad))) (ay (aG (K:=K) rfl) (by rfl) T.di PySem.boot_len (aa (pv 1) ad))) (fun _ _=>rfl))⟩))))))),aT (σ':=[some _,some _,some _,some _,none,none,none,none]) rfl ?_⟩
  have hpow:(0:Int) < ((((zs.map V.str).length:Nat):Int) + 1) ^ (4:Int).toNat:=Int.pow_pos (by omega)
  have hn1:(0:Int) < (((zs.map V.str).length:Nat):Int) + 1:=by omega
  walk_at "l2"
  cases dg with
  | true=>
    walk_at "l2"
    generalize c % ((((zs.map V.str).length:Nat):Int) + 1) ^ (4:Int).toNat=left
    clear hpow
    intro D H1 f1 s1 e1
    have hl1:=s1.get hl
    walk_at "l2"
    refine iT (fun i σ H'=>∃ (v:Option V) (left:Int) (ws:List Str),σ=[some (V.int c),some (V.int st),some (V.ref l),some (V.bl true),some (V.int left),some (V.ref D),v,none]∧Same H H'∧H' D=some (.lst (ws.map V.str))∧ws.length≤i∧∀ w∈ws,w∈zs) ⟨none,left,[],rfl,s1,e1,Nat.le_refl _,fun _ h=>absurd h (by simp)⟩ ?_ ?_
    ·rintro i σ H' hi ⟨v,left,ws,rfl,s',eD,lw,hw⟩
     have hl':=s'.get hl
     have hi4:i < 4:=hi
     walk_at "l2"
     refine L2.s_cut (fun σ H2=>∃ ws':List Str,σ=[some (V.int c),some (V.int st),some (V.ref l),some (V.bl true),some (V.int left),some (V.ref D),some (V.int (0 + (i:Int))),none]∧Same H H2∧H2 D=some (.lst (ws'.map V.str))∧ws'.length≤i + 1∧∀ w∈ws',w∈zs) ?_ ?_
     ·have r0:=Int.emod_nonneg left (Int.ne_of_gt hn1)
      have r1:=Int.emod_lt_of_pos left hn1
      walk_at "l2"
      by_cases hr0:0 < left % ((((zs.map V.str).length:Nat):Int) + 1)
      ·refine i4 (decide_eq_true hr0) ?_
       obtain ⟨j,hj⟩:=Int.eq_ofNat_of_zero_le (show 0≤left % ((((zs.map V.str).length:Nat):Int) + 1) - 1 by omega)
       have hjl:j < zs.length:=by omega
       have hat:atI (zs.map V.str) (left % ((((zs.map V.str).length:Nat):Int) + 1) - 1)=some (.str zs[j]):=by
        rw [hj]
        exact bz (by rw [List.getElem?_map,List.getElem?_eq_getElem hjl];rfl)
       walk_at "l2"
       refine gm eD (by rw [List.length_map,sizeLine_eq];omega) fun H3 u3=>?_
       walk_at "l2"
       refine ⟨ws++[zs[j]],rfl,fun b o e=>u3.oth _ _ (al e f1) (s'.get e),by rw [u3.at',List.map_append];rfl,by rw [List.length_append];show _ + 1≤_;omega,fun w hw'=>?_⟩
       rcases List.mem_append.mp hw' with h | h
       ·exact hw w h
       ·rw [List.mem_singleton.mp h];exact List.getElem_mem hjl
      ·refine gl (decide_eq_false hr0) ?_
       walk_at "l2"
       exact ⟨ws,rfl,s',eD,by omega,hw⟩
     ·rintro σ H2 ⟨ws',rfl,s2,eD2,lw',hw'⟩
      have hl2:=s2.get hl
      walk_at "l2"
      exact ⟨_,_,ws',rfl,s2,eD2,lw',hw'⟩
    ·rintro σ H' ⟨v,left,ws,rfl,s',eD,lw,hw⟩
     walk_at "l2"
     exact q D H' ws f1 s' eD lw hw
  | false=>
    have m0:=Int.emod_nonneg (mixV c st) (show (5:Int)≠0 by decide)
    have m1:=Int.emod_lt_of_pos (mixV c st) (show (0:Int) < 5 by decide)
    walk_at "l2"
    intro D hD
    refine dh (fun i ys H'=>∃ ws:List Str,ys=ws.map V.str∧Same H H'∧H' D=some (.lst ys)∧ws.length≤i∧∀ w∈ws,w∈zs) ⟨[],rfl,bX hD,aA,Nat.le_refl _,fun _ h=>absurd h (by simp)⟩ ?_ ?_
    ·rintro i ys H' hi ⟨ws,rfl,s',eD,lw,hw⟩
     have hl':=s'.get hl
     walk_at "l2"
     intro L2 H2 f2 s2 e2
     have hl2:=s2.get hl'
     have eD2:=s2.get eD
     refine rh (yz hl2) (yz (ws:=[]) e2) (by rw [depD,EZ];decide) ?_
     rw [show (List.map Dt.str [])=[] from rfl,Gg]
     by_cases hz:zs=[]
     ·rw [decide_eq_true hz]
      walk_at "l2"
      exact ⟨s'.trans s2,eD2,by omega,hw⟩
     ·rw [decide_eq_false hz]
      have hzl:0 < zs.length:=List.length_pos_iff.mpr hz
      have hzp:(0:Int) < (((zs.map V.str).length:Nat):Int):=by omega
      walk_at "l2"
      obtain ⟨j,hj,hjl⟩:=cA (c:=mixV c (st + 1 + (0 + (i:Int)))) hzp
      have hjl:j < zs.length:=by omega
      have hat:atI (zs.map V.str) (mixV c (st + 1 + (0 + (i:Int))) % (((zs.map V.str).length:Nat):Int))=some (.str zs[j]):=by
       rw [hj]
       exact bz (by rw [List.getElem?_map,List.getElem?_eq_getElem hjl];rfl)
      walk_at "l2"
      refine ⟨eD2,by rw [List.length_map];exact cj (by omega),ws++[zs[j]],by rw [List.map_append];rfl,fun b o e=>?_,aA,by rw [List.length_append];show _ + 1≤_;omega,fun w hw'=>?_⟩
      ·rw [aw (al e hD)];exact s2.get (s'.get e)
      ·rcases List.mem_append.mp hw' with h | h
       ·exact hw w h
       ·rw [List.mem_singleton.mp h];exact List.getElem_mem hjl
    ·rintro ys H' ⟨ws,rfl,s',eD,lw,hw⟩
     exact q D H' ws hD s' eD (by omega) hw
end
section
variable {P:Program} {w:World} {K:PySem.W.Frag} {mg:Str→Option Value} {base:Heap} {a:Ad}
theorem Ac {H:Hp} {Q:VK} {E:XK} {c k:Int} (h0:0≤k) (h1:k < 40) (q:∀ H2,Same H H2→Q (.str (nmf c k)) H2):xV [.int c,.int k] H Q E:=⟨c,k,rfl,h0,h1,q⟩
local macro_rules | `(tactic| walk_at "l2step") =>`(tactic| first | (with_reducible refine cz ?_) | ((with_reducible refine' Gw ?a ?b ?_);(case a=>omega);(case b=>omega)) | ((with_reducible refine' Ah ?e ?a ?_);(case e=>walk_at "l2hp");(case a=>walk_at "l2side")))
theorem DR (T:Tx K mg a):FnOk P w K mg base CX0 3 a.dF a.p3 ["_law_script","_law_start","_law_most"] (Kd K):=by
 have gX:=@qI P w K mg base a T
 have bC:=@jc P w K mg base a T
 have jr:=@Bj P w K mg base a T
 have C7:=@yM P w K mg base a T
 refine T.kR.ok bb (fun vs H Q E h=>?_) (fun cdv A outer s H vs Q E hr h=>?_)
 ·obtain ⟨p,ns,st,mo,rfl,_⟩:=h;rfl
 ·obtain ⟨p,ns,st,mo,rfl,hS,hst,hmo,q⟩:=h
  have hu1:=jQ hr
  refine ⟨_,((af (aX (i:=3) bb.nd rfl (by walk_at "o") (aL gX (hr.mono (by decide)) (by rfl) T.ji T.jg T.fF .nil bD (aa (pv 0) (aa (pv 1) ad))))
   (af (aX (i:=4) bb.nd rfl (by walk_at "o") (bW (aa (aB ck (aL bC (hr.mono (by decide)) (by rfl) T.cb T.ca T.bN .nil bD (aa (pv 3) (aa ah ad))) ah) (aa (aB ck (aL bC (hr.mono (by decide)) (by rfl) T.cb T.ca T.bN .nil bD (aa (pv 3) (aa ah ad))) (aB c6 (pv 2) ah)) (aa (aB ck (aL bC (hr.mono (by decide)) (by rfl) T.cb T.ca T.bN .nil bD (aa (pv 3) (aa ah ad))) (aB c6 (pv 2) ah)) ad)))))
   (af (pf (osc:=ae dD) (ON:=["_law_script","_law_start","_law_most","_law_cell_here","_law_sizes","_law_ins","_law_stores","_law_known","_law_sums","_law_k","_law_wires_here","_law_at","_law_ends","_law_name_here","_law_outs"]) (N:=["_law_k","_law_cell_here"]) (n:=1) (fx:=[3]) (i:=5) bb.nd rfl rfl rfl rfl rfl rfl (by decide +kernel) (cx (by rfl) T.d9 (aa (aH (ar (K:=K) rfl) (pv 4) ah (fun _ _=>rfl)) ad)) (aO (by decide)) (fun _ _ _ _ _=>⟨(av (i:=0) (show List.Nodup (["_law_k","_law_cell_here"]:List Str) from by decide +kernel) rfl (by walk_at "o")),bB,(aL jr (hr.mono (by decide)) (by rfl) T.jh T.jf T.fE .nil bD (aa (pv 1) (aa (pv 0) ad)))⟩))
   (af (pf (osc:=ae dD) (ON:=["_law_script","_law_start","_law_most","_law_cell_here","_law_sizes","_law_ins","_law_stores","_law_known","_law_sums","_law_k","_law_wires_here","_law_at","_law_ends","_law_name_here","_law_outs"]) (N:=["_law_k","_law_cell_here"]) (n:=1) (fx:=[3]) (i:=6) bb.nd rfl rfl rfl rfl rfl rfl (by decide +kernel) (cx (by rfl) T.d9 (aa (aH (ar (K:=K) rfl) (pv 4) ah (fun _ _=>rfl)) ad)) (aO (by decide)) (fun _ _ _ _ _=>⟨(av (i:=0) (show List.Nodup (["_law_k","_law_cell_here"]:List Str) from by decide +kernel) rfl (by walk_at "o")),bB,(aL jr (hr.mono (by decide)) (by rfl) T.jh T.jf T.fE .nil bD (aa (pv 1) (aa (aB c6 ah (pv 0)) ad)))⟩))
   (af (aX (i:=7) bb.nd rfl (by walk_at "o") (aB iP (pv 5) (pv 6)))
   (af (aX (i:=8) bb.nd rfl (by walk_at "o") (bW ad))
   (af (gi PassesOwn.never rfl (cx (by rfl) T.d9 (aa (aH (ar (K:=K) rfl) (pv 4) ah (fun _ _=>rfl)) ad)) (av (i:=9) bb.nd rfl (by walk_at "o")) (af (aX (i:=10) bb.nd rfl (by walk_at "o") (aL C7 (hr.mono (by decide)) (by rfl) T.B5 T.BW T.kD .nil bD (aa (aL gX (hr.mono (by decide)) (by rfl) T.ji T.jg T.fF .nil bD (aa (pv 0) (aa (aB c6 (aB c6 (pv 1) ah) (pv 9)) ad))) (aa ah (aa (pv 7) (aa (jS io (aB ck (pv 3) ah) ah (aR _)) ad))))))
   (af (aZ (cZ (K:=K) rfl PySem.F.plainAttrs_list PySem.F.slot_list_append PySem.F.type_list_append dR (pv 8) (aa (bV (aa (aL jr (hr.mono (by decide)) (by rfl) T.jh T.jf T.fE .nil bD (aa (pv 3) (aa (aB c6 ah (pv 9)) ad))) (aa (pv 10) ad))) ad)))
   (ai (aX (i:=7) bb.nd rfl (by walk_at "o") (aB iP (pv 7) (bW (aa (aL jr (hr.mono (by decide)) (by rfl) T.jh T.jf T.fE .nil bD (aa (pv 3) (aa (aB c6 ah (pv 9)) ad))) ad))))))))
   (af (aX (i:=11) bb.nd rfl (by walk_at "o") (aB ck (aL bC (hr.mono (by decide)) (by rfl) T.cb T.ca T.bN .nil bD (aa (pv 3) (aa ah ad))) (aB c6 (ay (aG (K:=K) rfl) (by rfl) T.di PySem.boot_len (aa (pv 8) ad)) ah)))
   (af (aX (i:=8) bb.nd rfl (by walk_at "o") (aB iP (kM (kJ (K:=K) rfl) (pv 8) (pi (pv 11)) pj) (Hk (by rfl) (by rfl) T.eu T.HE rfl (kM (kJ (K:=K) rfl) (pv 8) pj (pi (pv 11))))))
   (af (aX (i:=12) bb.nd rfl (by walk_at "o") (bW ad))
   (af (gi PassesOwn.never rfl (yG (K:=K) rfl (by rfl) T.mO (pv 6)) (x6 rfl (b7 (av (i:=9) bb.nd rfl (by walk_at "o")) (b7 (av (i:=13) bb.nd rfl (by walk_at "o")) i9))) (ai (aZ (cZ (K:=K) rfl PySem.F.plainAttrs_list PySem.F.slot_list_append PySem.F.type_list_append dR (pv 12) (aa (bV (aa (pv 13) (aa (aH (ar (K:=K) rfl) (pv 7) (aB ck (aL bC (hr.mono (by decide)) (by rfl) T.cb T.ca T.bN .nil bD (aa (pv 3) (aa (aB c6 ah (pv 9)) ad))) (ay (aG (K:=K) rfl) (by rfl) T.di PySem.boot_len (aa (pv 7) ad))) (fun _ _=>rfl)) ad))) ad)))))
   (af (aX (i:=14) bb.nd rfl (by walk_at "o") (bW ad))
   (DI (ci (az (im (K:=K) rfl hu1) (pv 7) (bW ad) (aR _)) (ai (pf (osc:=ae dD) (ON:=["_law_script","_law_start","_law_most","_law_cell_here","_law_sizes","_law_ins","_law_stores","_law_known","_law_sums","_law_k","_law_wires_here","_law_at","_law_ends","_law_name_here","_law_outs"]) (N:=["_law_k","_law_known","_law_cell_here"]) (n:=1) (fx:=[7,3]) (i:=14) bb.nd rfl rfl rfl rfl rfl rfl (by decide +kernel) (cx (by rfl) T.d9 (aa (aB ck (aL bC (hr.mono (by decide)) (by rfl) T.cb T.ca T.bN .nil bD (aa (pv 3) (aa ah ad))) ah) ad)) (aO (by decide)) (fun _ _ _ _ _=>⟨(av (i:=0) (show List.Nodup (["_law_k","_law_known","_law_cell_here"]:List Str) from by decide +kernel) rfl (by walk_at "o")),bB,(aH (ar (K:=K) rfl) (pv 1) (aB ck (aL bC (hr.mono (by decide)) (by rfl) T.cb T.ca T.bN .nil bD (aa (pv 2) (aa (aB c6 ah (pv 0)) ad))) (ay (aG (K:=K) rfl) (by rfl) T.di PySem.boot_len (aa (pv 1) ad))) (fun _ _=>rfl))⟩))) aK)
   (ai (bi (bV (aa (pv 5) (aa (pv 8) (aa (pv 12) (aa (pv 14) ad))))))))))))))))))))),aT (σ':=[some _,some _,some _,none,none,none,none,none,none,none,none,none,none,none,none]) rfl ?_⟩
  walk_at "l2"
  generalize cell ns ((st:Nat):Int)=c
  intro Z H1 f1 s1 e1
  obtain ⟨ni,hni,lni⟩:=cA (c:=mixV c 1) (m:=4) (by decide)
  obtain ⟨nt,hnt,lnt⟩:=cA (c:=mixV c 2) (m:=(mo:Int) + 1) (by omega)
  obtain ⟨nz,hnz,lnz⟩:=cA (c:=mixV c 3) (m:=(mo:Int) + 1) (by omega)
  rw [hni,hnt,hnz] at e1
  have hni3:ni≤3:=by omega
  have hnt6:nt≤12:=by omega
  have hnz6:nz≤12:=by omega
  have hnzo:nz≤mo:=by omega
  have hS1:=Same.seq s1 hS
  clear hni hnt hnz lni lnt lnz
  walk_at "l2"
  intro D2 hD2
  refine dh (fun i ys H'=>Cs (fun i ys=>ys=(nms c 0 i).map V.str) H1 D2 i ys H') (Cs.zero hD2 rfl) (fun i ys H' hi cs=>?_) (fun ys H2 cs=>?_)
  ·have hi3:i < 3:=by omega
   walk_at "l2"
   refine Ac (by omega) (by omega) fun H3 s3=>?_
   refine Cs.put hD2 (cs.same.trans s3) (s3.get cs.at') cs.len (by omega) ?_
   rw [cs.pv,oh,List.map_append,show (0:Int) + (i:Int)=((0 + i:Nat):Int) by push_cast;rfl];rfl
  ·have e2:=cs.at'
   rw [cs.pv,Int.toNat_natCast] at e2
   have s12:=cs.same
   clear cs
   have e12:=s12.get e1
   walk_at "l2"
   intro D3 hD3
   refine dh (fun i ys H'=>Cs (fun i ys=>ys=(nms c 6 i).map V.str) H2 D3 i ys H') (Cs.zero hD3 rfl) (fun i ys H' hi cs=>?_) (fun ys H3 cs=>?_)
   ·have hi6:i < 12:=by omega
    walk_at "l2"
    refine Ac (by omega) (by omega) fun H4 s4=>?_
    refine Cs.put hD3 (cs.same.trans s4) (s4.get cs.at') cs.len (by omega) ?_
    rw [cs.pv,oh,List.map_append,show (6:Int) + (0 + (i:Int))=((6 + i:Nat):Int) by push_cast;omega];rfl
   ·have e3:=cs.at'
    rw [cs.pv,Int.toNat_natCast] at e3
    have s23:=cs.same
    clear cs
    walk_at "l2"
    refine pe (s23.get e2) e3 (by rw [List.length_map,List.length_map,du,du,sizeLine_eq];omega) fun D4 H4 f4 s4 e4=>?_
    rw [← List.map_append] at e4
    have s14:=s12.trans (s23.trans s4)
    have e14:=s14.get e1
    have e24:=s4.get (s23.get e2)
    have e34:=s4.get e3
    have hS4:=Same.seq s14 hS1
    have s04:=s1.trans s14
    clear e12 hD2 hD3 f1 f4 s12 s23 s4 s14 e1 e2 e3 hS1 s1
    walk_at "l2"
    intro D5 H5 f5 s5 e5
    have e15:=s5.get e14
    have s05:=s04.trans s5
    have f50:H D5=none:=s04.free f5
    walk_at "l2"
    refine iT (fun i σ H'=>∃ (v9 v10:Option V) (Dk:Addr) (rs:List Rw),σ=[some (V.ref p),some (nat st),some (nat mo),some (V.int c),some (V.ref Z),some (V.ref D2),some (V.ref D3),some (V.ref Dk),some (V.ref D5),v9,v10,none,none,none,none]∧Same H4 H'∧H' Dk=some (.lst ((nms c 0 ni++nms c 6 nt++nms c 22 i).map V.str))∧Dk≠D5∧H' D5=some (.lst (rs.map fun r=>V.ref r.1))∧RwL H' rs∧(∀ r∈rs,r.2.1≠D5)∧Mk c ni nt (rs.map (·.2.2))∧rs.length=i) ⟨none,none,D4,[],rfl,s5,by rw [show nms c 22 0=[] from rfl,List.append_nil];exact s5.get e4,al e4 f5,e5,fun _ h=>absurd h (by simp),fun _ h=>absurd h (by simp),Mk.nil ..,rfl⟩ ?_ ?_
    ·rintro i σ H' hi ⟨v9,v10,Dk,rs,rfl,s',ek,nk,eD,rl,nr,mk,lr⟩
     have hi6:i < 12:=by omega
     have hS':=Same.seq s' hS4
     walk_at "l2"
     refine ⟨_,10,Dk,_,_,rfl,by decide,by decide,ek,by rw [List.length_append,List.length_append,du,du,du];omega,fun Dw H6 ws f6 s6 e6 l4 hw=>?_⟩
     have eD6:=s6.get eD
     walk_at "l2"
     refine Ac (by omega) (by omega) fun H7 s7=>?_
     walk_at "l2"
     intro tr H8 f8 s8 e8
     have s78:=s7.trans s8
     have eD8:=s78.get eD6
     have ek8:=s78.get (s6.get ek)
     have ew8:=s78.get e6
     walk_at "l2"
     refine gm eD8 (by rw [List.length_map,sizeLine_eq];omega) fun H9 u9=>?_
     have nw:Dw≠D5:=(al eD f6).symm
     have s'9:Same H4 H9:=fun b o e=>u9.oth _ _ (al e f5) (s78.get (s6.get (s'.get e)))
     have ek9:=u9.oth _ _ nk ek8
     have et9:=u9.oth _ _ (iQ e8 eD8 fun z=>by cases z) e8
     have ew9:=u9.oth _ _ nw ew8
     have rl9:RwL H9 rs:=fun r hr=>⟨u9.oth _ _ (iQ ((rl.same s6).same s78 r hr).1 eD8 fun z=>by cases z) ((rl.same s6).same s78 r hr).1,u9.oth _ _ (nr r hr) ((rl.same s6).same s78 r hr).2⟩
     have eD9:=u9.at'
     clear u9 e8 ew8 ek8 eD8 s78 s7 s8 f8 eD6 e6 hS'
     walk_at "l2"
     refine Ac (by omega) (by omega) fun H10 s10=>?_
     walk_at "l2"
     intro D11 H11 f11 s11 e11
     have s911:=s10.trans s11
     refine pe (s911.get ek9) e11 (by rw [List.length_map,List.length_append,List.length_append,du,du,du,sizeLine_eq];show _ + 1≤_;omega) fun D12 H12 f12 s12 e12=>?_
     have s912:=s911.trans s12
     have ei:(22:Int) + (0 + (i:Int))=((22 + i:Nat):Int):=by push_cast;omega
     rw [ei] at e12 et9
     have ekn:(nms c 0 ni++nms c 6 nt++nms c 22 i).map V.str++[V.str (nmf c ((22 + i:Nat):Int))]=(nms c 0 ni++nms c 6 nt++nms c 22 (i + 1)).map V.str:=by
      rw [oh,← List.append_assoc,List.map_append (l₂:=[_])];rfl
     rw [ekn] at e12
     walk_at "l2"
     refine ⟨_,_,D12,rs++[(tr,Dw,nmf c ((22 + i:Nat):Int),ws)],rfl,s'9.trans s912,e12,(al (s911.get eD9) f12).symm,by rw [s912.get eD9,List.map_append];rfl,fun r hr=>?_,fun r hr=>?_,?_,by rw [List.length_append,lr];rfl⟩
     ·rcases List.mem_append.mp hr with h | h
      ·exact rl9.same s912 r h
      ·rw [List.mem_singleton] at h;subst h
       exact ⟨s912.get et9,s912.get ew9⟩
     ·rcases List.mem_append.mp hr with h | h
      ·exact nr r h
      ·rw [List.mem_singleton] at h;subst h;exact nw
     ·have lm:(rs.map (·.2.2)).length=i:=by rw [List.length_map,lr]
      have:=mk.put (ws:=ws) l4 (by rw [lm];exact hw)
      rw [lm] at this
      rw [List.map_append]
      exact this
    ·rintro σ H' ⟨v9,v10,Dk,rs,rfl,s',ek,nk,eD,rl,nr,mk,lr⟩
     rw [Int.toNat_natCast] at lr
     rw [Int.toNat_natCast] at ek
     have e2':=s'.get e24
     have e3':=s'.get e34
     have hS':=Same.seq s' hS4
     have s0':=s04.trans s'
     obtain ⟨j,hj,hjl⟩:=cA (c:=mixV c 4) (m:=(((rs.map fun r=>V.ref r.1).length:Nat):Int) + 1) (by omega)
     have lrm:(rs.map fun r=>V.ref r.1).length=rs.length:=List.length_map ..
     have hjr:j≤rs.length:=by omega
     clear e14 e24 e34 e4 e5 hS4 s04 s05 s5 f5 f50 e15
     walk_at "l2"
     rw [hj]
     intro D6 H6 f6 s6 e6
     rw [zZ _ j (by rw [lrm];exact hjr),← List.map_drop] at e6
     have eD6:=s6.get eD
     walk_at "l2"
     refine Sl ?_
     walk_at "l2"
     intro D7 H7 f7 s7 e7
     rw [Gp _ j (by rw [lrm];exact hjr),← List.map_take] at e7
     refine ⟨D7,_,rfl,SqL.of e7,fun D8 f8=>?_⟩
     rw [← List.map_reverse]
     have s8:=bX (o:=HO.lst ((rs.take j).reverse.map fun r=>V.ref r.1)) f8
     have e8:upd H7 D8 (HO.lst ((rs.take j).reverse.map fun r=>V.ref r.1)) D8=some (HO.lst ((rs.take j).reverse.map fun r=>V.ref r.1)):=aA
     generalize upd H7 D8 (HO.lst ((rs.take j).reverse.map fun r=>V.ref r.1))=H8 at s8 e8 ⊢
     refine pe (s8.get (s7.get e6)) e8 (by rw [List.length_map,List.length_map,List.length_reverse,List.length_drop,List.length_take,sizeLine_eq];omega) fun D9 H9 f9 s9 e9=>?_
     rw [← List.map_append] at e9
     have s'9:=s6.trans (s7.trans (s8.trans s9))
     have e29:=s'9.get e2'
     have e39:=s'9.get e3'
     have ek9:=s'9.get ek
     have rl9:=rl.same s'9
     have s09:=s0'.trans s'9
     have perm:(rs.drop j++(rs.take j).reverse).Perm rs:=by
      refine List.Perm.trans (List.Perm.append_left _ (List.reverse_perm _)) ?_
      refine List.Perm.trans List.perm_append_comm ?_
      rw [List.take_append_drop]
     generalize hrs':rs.drop j++(rs.take j).reverse=rs' at e9 perm
     have rl':RwL H9 rs':=fun r hr=>rl9 r (perm.mem_iff.mp hr)
     clear rl9 rl s8 e8 e7 f7 f8 s7 e6 f6 s6 s9 f9 s'9 e2' e3' eD eD6 nr nk s' s0' hS' ek hrs'
     walk_at "l2"
     intro D10 H10 f10 s10 e10
     have e310:=s10.get e39
     walk_at "l2"
     refine .inl ⟨⟨_,SqL.of e310⟩,?_⟩
     have lk:(nms c 0 ni++nms c 6 nt++nms c 22 nz).length=ni + nt + nz:=by rw [List.length_append,List.length_append,du,du,du]
     generalize hkn:nms c 0 ni++nms c 6 nt++nms c 22 nz=kn at ek9 lk
     refine Ou (xs:=(nms c 6 nt).map V.str) (fun i σ H'=>∃ (v9 v13:Option V) (qs:List Qs),σ=[some (V.ref p),some (nat st),some (nat mo),some (V.int c),some (V.ref Z),some (V.ref D2),some (V.ref D3),some (V.ref Dk),some (V.ref D9),v9,v10,some (V.int j),some (V.ref D10),v13,none]∧Same H9 H'∧H' D10=some (.lst (qs.map fun q=>V.ref q.1))∧QsK H' qs∧qs.map (·.2.1)=nms c 6 i∧∀ q∈qs,q.2.2∈kn) ⟨_,none,[],rfl,s10,e10,fun _ h=>absurd h (by simp),rfl,fun _ h=>absurd h (by simp)⟩ (fun i σ H' _ ⟨_,_,_,_,s',_⟩=>SqL.of (s'.get e39)) ?_ ?_
     ·rintro i y σ H' pz H7 hy ⟨v9,v13,qs,rfl,s',eq,qk,qn,qw⟩ fp s7 e7
      obtain ⟨z,hz,rfl⟩:=be hy
      have hlt:=(List.getElem?_eq_some_iff.mp hz).1
      rw [du] at hlt
      have ez:z=nmf c ((6 + i:Nat):Int):=by
       unfold nms at hz
       rw [List.getElem?_map,List.getElem?_range hlt] at hz
       exact (Option.some.inj hz).symm
      have lq:qs.length=i:=by have:=congrArg List.length qn;rw [List.length_map,du] at this;exact this
      have ek7:=s7.get (s'.get ek9)
      have elen:(kn.map V.str).length=ni + nt + nz:=by rw [List.length_map,lk]
      have eq7:=s7.get eq
      walk_at "l2"
      obtain ⟨m,hm,hml⟩:=cA (c:=mixV c (50 + (i:Int))) (m:=(((kn.map V.str).length:Nat):Int)) (by omega)
      have hml:m < kn.length:=by rw [List.length_map] at hml;omega
      have hat:atI (kn.map V.str) (mixV c (50 + (i:Int)) % (((kn.map V.str).length:Nat):Int))=some (.str kn[m]):=by
       rw [hm]
       exact bz (by rw [List.getElem?_map,List.getElem?_eq_getElem hml];rfl)
      walk_at "l2"
      intro tq H8 f8 s8 e8
      walk_at "l2"
      refine gm (s8.get eq7) (by rw [List.length_map,sizeLine_eq];omega) fun H9' u9=>?_
      walk_at "l2"
      refine ⟨_,_,qs++[(tq,z,kn[m])],rfl,fun b o e=>u9.oth _ _ (al e f10) (s8.get (s7.get (s'.get e))),by rw [u9.at',List.map_append];rfl,?_,?_,fun q' hq'=>?_⟩
      ·intro q' hq'
       rcases List.mem_append.mp hq' with h | h
       ·exact ((qk.same s7).same s8).updL (s8.get eq7) u9.oth q' h
       ·rw [List.mem_singleton] at h;subst h
        exact u9.oth _ _ (iQ e8 (s8.get eq7) fun z=>by cases z) e8
      ·rw [List.map_append,qn,oh,ez];rfl
      ·rcases List.mem_append.mp hq' with h | h
       ·exact qw q' h
       ·rw [List.mem_singleton] at h;subst h;exact List.getElem_mem hml
     ·rintro σ H' ⟨v9,v13,qs,rfl,s',eq,qk,qn,qw⟩
      rw [List.length_map,du] at qn
      have ek':=s'.get ek9
      have e2':=s'.get e29
      have e9':=s'.get e9
      have rl2:=rl'.same s'
      walk_at "l2"
      intro D11 H11 f11 s11 e11
      walk_at "l2"
      refine s_cut (fun σ H2=>∃ (Do:Addr) (outs:List Str),σ=[some (V.ref p),some (nat st),some (nat mo),some (V.int c),some (V.ref Z),some (V.ref D2),some (V.ref D3),some (V.ref Dk),some (V.ref D9),v9,v10,some (V.int j),some (V.ref D10),v13,some (V.ref Do)]∧Same H' H2∧H2 Do=some (.lst (outs.map V.str))∧outs.length≤3∧∀ z∈outs,z∈kn) ?_ ?_
      ·have ek11:=s11.get ek'
       walk_at "l2"
       intro L12 H12 f12 s12 e12
       have ek12:=s12.get ek11
       refine rh (yz ek12) (yz (ws:=[]) e12) (by rw [depD,EZ];decide) ?_
       rw [show (List.map Dt.str [])=[] from rfl,Gg]
       have s'12:=s11.trans s12
       have e1112:=s12.get e11
       by_cases hz:kn=[]
       ·rw [decide_eq_true hz]
        walk_at "l2"
        exact ⟨D11,[],rfl,s'12,e1112,Nat.zero_le _,fun _ h=>absurd h (by simp)⟩
       ·rw [decide_eq_false hz]
        have m0:=Int.emod_nonneg (mixV c 5) (show (4:Int)≠0 by decide)
        have m1:=Int.emod_lt_of_pos (mixV c 5) (show (0:Int) < 4 by decide)
        have hzl:1≤kn.length:=List.length_pos_iff.mpr hz
        have elen:(kn.map V.str).length=kn.length:=List.length_map ..
        walk_at "l2"
        intro D13 hD13
        refine dh (fun i ys H2=>∃ ws:List Str,ys=ws.map V.str∧Same H12 H2∧H2 D13=some (.lst ys)∧ws.length=i∧∀ w∈ws,w∈kn) ⟨[],rfl,bX hD13,aA,rfl,fun _ h=>absurd h (by simp)⟩ ?_ ?_
        ·rintro i ys H2 hi ⟨ws,rfl,s2,eD,lw,hw⟩
         have ek2:=s2.get ek12
         have hi4:i < 4:=by omega
         walk_at "l2"
         obtain ⟨m,hm,hml⟩:=cA (c:=mixV c (80 + (0 + (i:Int)))) (m:=(((kn.map V.str).length:Nat):Int)) (by omega)
         have hml:m < kn.length:=by omega
         have hat:atI (kn.map V.str) (mixV c (80 + (0 + (i:Int))) % (((kn.map V.str).length:Nat):Int))=some (.str kn[m]):=by
          rw [hm]
          exact bz (by rw [List.getElem?_map,List.getElem?_eq_getElem hml];rfl)
         walk_at "l2"
         refine ⟨eD,by rw [List.length_map];exact cj (by omega),ws++[kn[m]],by rw [List.map_append];rfl,fun b o e=>?_,aA,by rw [List.length_append,lw];rfl,fun w hw'=>?_⟩
         ·rw [aw (al e hD13)];exact s2.get e
         ·rcases List.mem_append.mp hw' with h | h
          ·exact hw w h
          ·rw [List.mem_singleton.mp h];exact List.getElem_mem hml
        ·rintro ys H2 ⟨ws,rfl,s2,eD,lw,hw⟩
         walk_at "l2"
         exact ⟨D13,ws,rfl,s'12.trans s2,eD,by omega,hw⟩
      ·rintro σ H12 ⟨Do,outs,rfl,s12,e12,lo,ho⟩
       have e212:=s12.get e2'
       walk_at "l2"
       intro tt H13 f13 s13 e13
       have s'13:=s12.trans s13
       have hzl:(rs.map (·.2.2)).length=nz:=by rw [List.length_map,lr]
       subst hkn
       refine q tt D2 D9 D10 Do H13 rs' qs ⟨nms c 0 ni,rs'.map (·.2.2),qs.map (·.2),outs⟩ (s09.trans (s'.trans s'13)) e13 ⟨s13.get e212,s'13.get e9',fun r hr=>rl2.same s'13 r hr,rfl,s'13.get eq,fun q' hq'=>qk.same s'13 q' hq',rfl,s13.get e12⟩ (K7 mk hni3 hnt6 (by rw [hzl];exact hnz6) (perm.map _) (by rw [List.map_map];exact qn) (by omega) (fun q' hq'=>?_) (by rw [hzl];exact ho)) (by show (nms c 0 ni).length≤3;rw [du];exact hni3) (by show (rs'.map (·.2.2)).length≤mo;rw [(perm.map _).length_eq,hzl];exact hnzo)
       obtain ⟨q'',hq'',rfl⟩:=List.mem_map.mp hq'
       rw [hzl]
       exact qw q'' hq''
end
section
variable {P:Program} {w:World} {K:PySem.W.Frag} {mg:Str→Option Value} {base:Heap} {a:Ad}
local macro_rules | `(tactic| walk_at "l2step") =>`(tactic| first | ((with_reducible refine' c_whole ?e ?_);(case e=>walk_at "l2kind")) | ((with_reducible refine' c_mask ?e ?_);(case e=>walk_at "l2kind")) | (with_reducible refine cz ?_) | (with_reducible refine s_methX ?_))
local macro_rules | `(tactic| walk_at "l2step") =>`(tactic| first | (with_reducible refine s_try ?_))
local macro_rules | `(tactic| walk_at "l2step") =>`(tactic| first | (with_reducible refine mf ?_))
local macro_rules | `(tactic| walk_at "l2step") =>`(tactic| first | (with_reducible refine i3 ?_) | (with_reducible refine s_tryH ?_) | (with_reducible refine tT ?_) | (with_reducible refine tS ?_))
local macro_rules | `(tactic| walk_at "l2step") =>`(tactic| first | (with_reducible refine Kn ?_) | ((with_reducible refine' Ah ?e ?a ?_);(case e=>walk_at "l2hp");(case a=>walk_at "l2side")))
noncomputable def dueD (f:Ft):Dt:= .tup [.str (ftS f),ftD f]
theorem Gh {H H2:Hp} {t:Addr} {f:Ft} (d:DueT H t f) (s:Same H H2):DueT H2 t f:=by
 obtain ⟨v,e,g⟩:=d
 exact ⟨v,s.get e,g.same s⟩
theorem vo {K:PySem.W.Frag} {H:Hp} {t:Addr} {f:Ft} (d:DueT H t f):Rep K H (.ref t) (dueD f)∧depD (dueD f)≤100:=by
 obtain ⟨v,e,g⟩:=d
 have hr:=g.rep (K:=K)
 refine ⟨.tup (SqT.of e) rfl fun i x y e1 e2=>?_,?_⟩
 ·match i,e1,e2 with
  | 0,e1,e2=>cases e1;cases e2;exact .str _
  | 1,e1,e2=>cases e1;cases e2;exact hr.1
  | i + 2,e1,_=>simp at e1
 ·have h2:=hr.2
  unfold dueD
  simp only [depD,dN]
  omega
theorem IM (f:Ft):eqD (dueD f) (.tup [.str "Ring",.non])=true→f= .ring:=by
 cases f with
 | ring=>exact fun _=>rfl
 | many=>intro h;exact absurd h (by decide +kernel)
 | bad d=>intro h;simp [dueD,ftS,eqD,eqDs] at h;exact absurd h.1 (by decide +kernel)
 | dbl d=>intro h;simp [dueD,ftS,eqD,eqDs] at h;exact absurd h.1 (by decide +kernel)
 | now d=>intro h;simp [dueD,ftS,eqD,eqDs] at h;exact absurd h.1 (by decide +kernel)
theorem Tc (T:Tx K mg a):FnOk P w K mg base CX0 13 a.Cf a.Rv ["_law_script"] (FR K):=by
 have gX:=@qI P w K mg base a T
 have Jo:=@DR P w K mg base a T
 have C8:=@yN P w K mg base a T
 have FJ:=@Bk P w K mg base a T
 have Jp:=@DS P w K mg base a T
 have xP:=@uh P w K mg base a T
 have xQ:=@ui P w K mg base a T
 have FI:=@Bi P w K mg base a T
 have iH:=@jY P w K mg base a T
 have Jq:=@DT P w K mg base a T
 refine T.OQ.ok jA (fun vs H Q E h=>?_) (fun cdv A outer s H vs Q E hr h=>?_)
 ·obtain ⟨p,ns,rfl,_⟩:=h;rfl
 ·obtain ⟨p0,ns,rfl,hS,hlen,q⟩:=h
  have hu1:=jQ hr
  refine ⟨_,((af (aX (i:=1) jA.nd rfl (by walk_at "o") (aL gX (hr.mono (by decide)) (by rfl) T.ji T.jg T.fF .nil bD (aa (pv 0) (aa ah ad))))
   (af (qz (aL Jo (hr.mono (by decide)) (by rfl) T.IE T.Ig T.qg .nil bD (aa (pv 0) (aa ah (aa ah ad)))) (x6 rfl (b7 (av (i:=2) jA.nd rfl (by walk_at "o")) (b7 (av (i:=3) jA.nd rfl (by walk_at "o")) (b7 (av (i:=4) jA.nd rfl (by walk_at "o")) (b7 (av (i:=5) jA.nd rfl (by walk_at "o")) i9))))))
   (af (aX (i:=6) jA.nd rfl (by walk_at "o") (bW (aa (aF (bM (K:=K) rfl) (by rfl) T.eu PyProof.Rows.boot_list (aa (pv 2) ad)) (aa (bj (osc:=ae DE) (ON:=["_law_script","_law_cell_here","_law_ins","_law_sums","_law_stores","_law_outs","_law_lists","_law_k","_law_due_here","_law_told_here","_law_ring"]) (N:=["_law_name_here","_law_wires_here"]) (n:=2) (fx:=[]) rfl rfl rfl (by decide +kernel) (ba (K:=K) rfl (pv 3)) (Ge (g8 (aO (by decide)) (g8 (aO (by decide)) zG))) (fun _ _ _ _ _=>⟨(yH (K:=K) (n:=2) rfl rfl (b7 (av (i:=0) (show List.Nodup (["_law_name_here","_law_wires_here"]:List Str) from by decide +kernel) rfl (by walk_at "o")) (b7 (av (i:=1) (show List.Nodup (["_law_name_here","_law_wires_here"]:List Str) from by decide +kernel) rfl (by walk_at "o")) i9))),bB,(bV (aa (pv 0) (aa (aF (bM (K:=K) rfl) (by rfl) T.eu PyProof.Rows.boot_list (aa (pv 1) ad)) ad)))⟩)) (aa (aF (bM (K:=K) rfl) (by rfl) T.eu PyProof.Rows.boot_list (aa (pv 4) ad)) (aa (aF (bM (K:=K) rfl) (by rfl) T.eu PyProof.Rows.boot_list (aa (pv 5) ad)) ad))))))
   (af (gi PassesOwn.never rfl (cx (by rfl) T.d9 (aa (aB ck (pv 1) ah) ad)) (av (i:=7) jA.nd rfl (by walk_at "o")) (ai (aZ (aL C8 (hr.mono (by decide)) (by rfl) T.B6 T.BX T.kE .nil bD (aa (pv 6) (aa (aL gX (hr.mono (by decide)) (by rfl) T.ji T.jg T.fF .nil bD (aa (pv 0) (aa (aB c6 ah (pv 7)) ad))) ad))))))
   (af (aZ (aL FJ (hr.mono (by decide)) (by rfl) T.ER T.EK T.m9 .nil bD (aa (pv 6) (aa (aB ck (aB gI (pv 1) ah) ah) ad))))
   (af (aX (i:=8) jA.nd rfl (by walk_at "o") (aL Jp (hr.mono (by decide)) (by rfl) T.IF T.Ih T.qh .nil bD (aa (aH (ar (K:=K) rfl) (pv 6) ah (fun _ _=>rfl)) (aa (aH (ar (K:=K) rfl) (pv 6) ah (fun _ _=>rfl)) (aa (aH (ar (K:=K) rfl) (pv 6) ah (fun _ _=>rfl)) (aa (aH (ar (K:=K) rfl) (pv 6) ah (fun _ _=>rfl)) ad))))))
   (af (gi PassesOwn.never rfl (cx (by rfl) T.d9 (aa ah ad)) (av (i:=7) jA.nd rfl (by walk_at "o")) (af (qz (aL xP (hr.mono (by decide)) (by rfl) T.xt T.xq T.iC .nil bD (aa (pv 6) ad)) (x6 rfl (b7 (av (i:=9) jA.nd rfl (by walk_at "o")) (b7 (av (i:=10) jA.nd rfl (by walk_at "o")) i9))))
   (ai (ci (PW.pt (rj (az (im (K:=K) rfl hu1) (pv 9) (pv 8) (aR _)) (tV (PW.pt (lC (az (my (K:=K) rfl hu1) (pv 8) (bV (aa aM (aa iM ad))) (aR _)) (i7 (lD (eE (aL xQ (hr.mono (by decide)) (by rfl) T.xu T.xr T.iD .nil bD (aa (pv 10) (aa (aH (ar (K:=K) rfl) (pv 6) ah (fun _ _=>rfl)) ad))))))))))) (ai (bi Ba)) aK))))
   (af (ci (az KQ (pv 8) iM (aR _)) (ai (bi Ba)) aK)
   (ai (bi (jS (my (K:=K) rfl hu1) (nO (FZ T.T4 iH (hr.mono (by decide)) (by rfl) T.Ty T.fK .nil thr0 (aa (aH (ar (K:=K) rfl) (pv 6) ah (fun _ _=>rfl)) (aa (aH (ar (K:=K) rfl) (pv 6) ah (fun _ _=>rfl)) (aa (aH (ar (K:=K) rfl) (pv 6) ah (fun _ _=>rfl)) (aa (aH (ar (K:=K) rfl) (pv 6) ah (fun _ _=>rfl)) ad))))) T.gY T.HN Jq (hr.mono (by decide)) T.qi .nil bD) (aL FI (hr.mono (by decide)) (by rfl) T.EQ T.EJ T.m8 .nil bD (aa (aH (ar (K:=K) rfl) (pv 6) ah (fun _ _=>rfl)) (aa (aH (ar (K:=K) rfl) (pv 6) ah (fun _ _=>rfl)) (aa (aH (ar (K:=K) rfl) (pv 6) ah (fun _ _=>rfl)) (aa (aH (ar (K:=K) rfl) (pv 6) ah (fun _ _=>rfl)) ad))))) (aR _))))))))))))),aT (σ':=[some _,none,none,none,none,none,none,none,none,none,none]) rfl ?_⟩
  walk_at "l2"
  refine ⟨p0,ns,4,6,rfl,hS,by decide,by decide,fun t0 i0 s0 u0 o0 H1 rs0 qs0 N0 s1 et0 hn0 g0 li0 ls0=>?_⟩
  have ei0:=hn0.i
  have es0:=hn0.s
  have eu0:=hn0.t
  have eo0:=hn0.o
  walk_at "l2"
  intro i H2 f2 s2 e2
  have es2:=s2.get es0
  have lrs0:rs0.length=N0.sums.length:=by rw [← hn0.es,List.length_map]
  walk_at "l2"
  intro D hD
  refine bg (xs:=rs0.map fun r=>V.ref r.1) (fun k ys H'=>Cz ((rs0.take k).map (·.2.2)) H2 D ys H') (Rx hD) (fun k ys H' _ c=>SqL.of (Same.get (by obtain ⟨_,_,_,s,_⟩:=c;exact s) es2)) (fun k x ys H' hx c=>?_) (fun ys H3 c=>?_)
  ·obtain ⟨r,hr',rfl⟩:=be hx
   have hlt:=(List.getElem?_eq_some_iff.mp hr').1
   obtain ⟨_,_,_,s3,_⟩:=id c
   have er:=s3.get (s2.get (hn0.sr r (List.mem_of_getElem? hr')).1)
   have ew:=s3.get (s2.get (hn0.sr r (List.mem_of_getElem? hr')).2)
   walk_at "l2"
   intro l5 H5 f5 s5 e5
   walk_at "l2"
   intro b6 H6 f6 s6 e6
   rw [take_succ hr',List.map_append]
   exact TL hD c f5 s5 e5 f6 s6 e6 (by rw [List.length_map,List.length_take];omega)
  rw [List.length_map,List.take_length,hn0.es] at c
  obtain ⟨_,_,_,s3,_⟩:=id c
  have s13:=s2.trans s3
  have eu3:=s13.get eu0
  walk_at "l2"
  intro t H4 f4 s4 e4
  have eo4:=s4.get (s13.get eo0)
  walk_at "l2"
  intro o H5 f5 s5 e5
  walk_at "l2"
  intro L H6 f6 s6 e6
  obtain ⟨rs,la,lrs,lwr⟩:=LsA.first (qs:=qs0) g0 hD e2 c f4 s4 e4 (fun q hq=>s13.get (hn0.tr q hq)) hn0.et f5 s5 e5 s6
  have s06:=(((s1.trans s13).trans s4).trans s5).trans s6
  have sl0:Same H (less H6 (R4 i D t o)):=fun b ob e=>by
   rw [bH]
   ·exact s06.get e
   ·rintro (z | z | z | z)
    ·rw [z,s1.free f2] at e;cases e
    ·rw [z,(s1.trans s2).free hD] at e;cases e
    ·rw [z,(s1.trans s13).free f4] at e;cases e
    ·rw [z,((s1.trans s13).trans s4).free f5] at e;cases e
  have eL:less H6 (R4 i D t o) L=some (.lst [.ref i,.ref D,.ref t,.ref o]):=by
   rw [bH]
   ·exact e6
   ·rintro (z | z | z | z)
    ·have:=s5.get (s4.get (s3.get e2));rw [← z,f6] at this;cases this
    ·obtain ⟨_,_,_,_,e3,_⟩:=id c;have:=s5.get (s4.get e3);rw [← z,f6] at this;cases this
    ·have:=s5.get e4;rw [← z,f6] at this;cases this
    ·rw [← z,f6] at e5;cases e5
  have lqs0:qs0.length≤16:=by have:=g0.lt;rw [← hn0.et,List.length_map] at this;exact this
  have lo0:=g0.lo
  obtain ⟨m,hm,lm⟩:=cA (c:=cell ns 0) (m:=4) (by decide)
  clear c e6 e5 e4 e2 eu3 eo4 es2 ei0 es0 eu0 eo0 f2 f4 f5 f6 hD
  walk_at "l2"
  rw [hm,Int.toNat_natCast]
  refine iT (n:=m) (fun k σ H'=>∃ (v7:Option V) (is:List V) (rs:List RwT) (qs:List QsT) (os:List V),σ=[some (.ref p0),some (.int (cell ns 0)),some (.ref i0),some (.ref s0),some (.ref u0),some (.ref o0),some (.ref L),v7,none,none,none]∧Same (less H6 (R4 i D t o)) (less H' (R4 i D t o))∧LsA H' i D t o is rs qs os∧is.length≤3∧rs.length≤6∧qs.length≤16∧os.length≤6∧∀ r∈rs,r.2.2.2.length≤24 + k) ⟨none,_,_,_,_,rfl,Same.refl _,la,by rw [List.length_map];omega,by omega,by rw [List.length_map];omega,by rw [List.length_map];omega,fun r hr=>lwr r hr⟩ ?_ ?_
  ·rintro k σ H7 hk ⟨v7,is,rs,qs,os,rfl,sl,la,li,ls,lt,lo,lw⟩
   have hS7:=Same.seq ((sl0.trans sl).trans aS) hS
   walk_at "l2"
   refine ⟨L,i,D,t,o,_,is,rs,qs,os,24 + k,rfl,sl.get eL,la,li,ls,lt,lo,by omega,lw,fun H8 is' rs' qs' os' s8 l8 h1 h2 h3 h4 h5=>?_⟩
   walk_at "l2"
   exact ⟨_,_,_,_,_,rfl,sl.trans s8,l8,by omega,by omega,by omega,by omega,h5⟩
  rintro σ H7 ⟨v7,is,rs,qs,os,rfl,sl,la,li,ls,lt,lo,lw⟩
  clear lwr lrs lqs0 lo0 lm hm
  walk_at "l2"
  obtain ⟨n,hn,ln⟩:=cA (c:=cell ns 0 / 4) (m:=24) (by decide)
  rw [hn]
  refine ⟨L,i,D,t,o,n,is,rs,qs,os,rfl,sl.get eL,la,li,ls,lt,lo,fun H8 is' rs' qs' os' s8 l8 h1 h2 h3 h4=>?_⟩
  have eL8:=aS.get (s8.get (sl.get eL))
  obtain ⟨N,da⟩:=l8.dat
  have hl:=l8.hndL
  clear la lw li ls lt lo hn
  walk_at "l2"
  refine ⟨i,D,t,o,is',rs',qs',os',N,rfl,hl,da,h1,h2,h3,h4,fun h0 H9 s9=>?_,fun f hf b9 H9 s9 dt=>?_⟩
  ·walk_at "l2"
   refine iT (n:=2) (fun k σ H'=>∃ (v7 v9 v10:Option V),σ=[some (.ref p0),some (.int (cell ns 0)),some (.ref i0),some (.ref s0),some (.ref u0),some (.ref o0),some (.ref L),v7,some .non,v9,v10]∧Same H8 H') ⟨_,_,_,rfl,s9⟩ ?_ ?_
   ·rintro k σ H10 hk ⟨v7,v9,v10,rfl,s10⟩
    walk_at "l2"
    refine ⟨L,i,D,t,o,is',rs',qs',os',N,rfl,s10.get eL8,hl.same s10,da.same s10,by omega,by omega,fun _ b11 H11 s11 e11=>?_,fun f hf=>by rw [h0] at hf;cases hf⟩
    walk_at "l2"
    refine rh .non .non (by decide) ?_
    walk_at "l2"
    intro b12 H12 f12 s12 e12
    refine rh .non (Rep.tup (ds:=[.str "Ring",.non]) (SqT.of e12) rfl fun i x y e1 e2=>?_) (by decide) ?_
    ·match i,e1,e2 with
     | 0,e1,e2=>cases e1;cases e2;exact .str _
     | 1,e1,e2=>cases e1;cases e2;exact .non
     | i + 2,e1,_=>simp at e1
    walk_at "l2"
    exact ⟨_,_,_,rfl,(s10.trans s11).trans s12⟩
   ·rintro σ H10 ⟨v7,v9,v10,rfl,s10⟩
    have eL10:=s10.get eL8
    walk_at "l2"
    refine AW fun x dx H11 f11 s11 e11=>?_
    refine ⟨x,dx,i,D,t,o,is',rs',qs',os',N,rfl,e11,((hl.same s10).same s11).toT,(da.same s10).same s11,by omega,by omega,fun _ H12 od k12 na=>?_,fun f hf=>by rw [h0] at hf;cases hf⟩
    have s12:Same H10 H12:=fun b ob e=>k12 b ob (al e f11) (s11.get e)
    obtain ⟨dx',i',s',t',o',d',tq',rs'',qs'',ws',hp',_⟩:=id na.ho
    have eL12:=s12.get eL10
    have hl12:=(hl.same s10).same s12
    obtain ⟨rs2,qs2,hnd,_⟩:=HndL.hnd hl12 ((da.same s10).same s12) (LT (.inl h0))
    have g:=na.g
    walk_at "l2"
    refine nH hp' rfl ?_
    walk_at "l2"
    refine ⟨x,N.nt,od,rfl,na,fun b13 D1 D2 D3 D4 H13 rs3 qs3 _ _ _ _ _ s13 tl=>?_⟩
    have eL13:=s13.get eL12
    walk_at "l2"
    refine ⟨i,D,t,o,rs2,qs2,N.nt,rfl,hnd.same s13,g,fun b14 E1 E2 E3 E4 H14 rs4 qs4 s14 tl2=>?_⟩
    refine rh (tl.same s14).rep tl2.rep (Rr _) ?_
    rw [zR]
    exact q _
  ·walk_at "l2"
   refine iT (n:=2) (fun k σ H'=>∃ (v7 v9 v10:Option V),σ=[some (.ref p0),some (.int (cell ns 0)),some (.ref i0),some (.ref s0),some (.ref u0),some (.ref o0),some (.ref L),v7,some (.ref b9),v9,v10]∧Same H9 H') ⟨_,_,_,rfl,Same.refl _⟩ ?_ ?_
   ·rintro k σ H10 hk ⟨v7,v9,v10,rfl,s10⟩
    have s810:=s9.trans s10
    walk_at "l2"
    refine ⟨L,i,D,t,o,is',rs',qs',os',N,rfl,s810.get eL8,hl.same s810,da.same s810,by omega,by omega,(fun h0=>by rw [h0] at hf;cases hf),fun f' hf' b11 H11 s11 rf=>?_⟩
    rw [hf] at hf'
    cases hf'
    obtain ⟨b12,v12,e12,dt12,rr⟩:=rf
    have s911:=s10.trans s11
    have dt11:=Gh dt s911
    have eL11:=(s810.trans s11).get eL8
    walk_at "l2"
    refine rh (vo dt12).1 (vo dt11).1 (vo (K:=K) dt12).2 ?_
    rw [zR]
    walk_at "l2"
    intro b13 H13 f13 s13 e13
    refine rh (vo (Gh dt11 s13)).1 (Rep.tup (ds:=[.str "Ring",.non]) (SqT.of e13) rfl fun i x y e1 e2=>?_) (vo (K:=K) dt11).2 ?_
    ·match i,e1,e2 with
     | 0,e1,e2=>cases e1;cases e2;exact .str _
     | 1,e1,e2=>cases e1;cases e2;exact .non
     | i + 2,e1,_=>simp at e1
    cases hq:eqD (dueD f) (.tup [.str "Ring",.non]) with
    | false=>
      walk_at "l2"
      exact ⟨_,_,_,rfl,s911.trans s13⟩
    | true=>
      have ef:=IM f hq
      subst ef
      obtain ⟨g,rg,rfl,eg,ir⟩:=rr rfl
      have s813:=(s810.trans s11).trans s13
      have hl13:=hl.same s813
      obtain ⟨rs2,qs2,hnd,ro⟩:=HndL.hnd hl13 (da.same s813) (LT (.inr hf))
      have eL13:=s13.get eL11
      walk_at "l2"
      refine ⟨g,D,rg,rs2,rfl,s13.get eg,hnd.s,hnd.sr,by rw [hnd.es];exact ro,by rw [hnd.es];exact ir,fun H14 s14=>?_⟩
      walk_at "l2"
      exact ⟨_,_,_,rfl,(s911.trans s13).trans s14⟩
   ·rintro σ H10 ⟨v7,v9,v10,rfl,s10⟩
    walk_at "l2"
    exact q _
end
open PySem.W in
theorem all_mk {l:OpenLaw} {w:World} {K:Frag} {h:Heap} {mg:Str→Option Value} {fa:Addr} (X:K.In h) (G:h.Ns mainGlobals mg) (hfa:mg "law"=some (.ref fa))
  {QG RC:Option Addr} {PY:Array (Option Value)} {QH Q0 Rt Qo L9 Ry:Value} {kg:Addr}
  {mF nh:Option Addr} {lZ:Array (Option Value)} {mI mR mU mt gR m5:Value} {aW:Addr}
  {mE ng:Option Addr} {lY:Array (Option Value)} {mH mQ mT mn gQ m4:Value} {aV:Addr}
  {nV oV:Option Addr} {nC:Array (Option Value)} {nX oB oG nM g9 oI:Value} {a9:Addr}
  {rH sQ:Option Addr} {qX:Array (Option Value)} {rN su sE rq jJ sJ:Value} {bu:Addr}
  {rG sP:Option Addr} {qW:Array (Option Value)} {rM so sD rp jI sI:Value} {bt:Addr}
  {nW oW:Option Addr} {nD:Array (Option Value)} {nY oC oH nN hG oJ:Value} {aU:Addr}
  {mD nc:Option Addr} {lX:Array (Option Value)} {mG mP mS mm gP mZ:Value} {aP:Addr}
  {jZ kF:Option Addr} {jO:Array (Option Value)} {j4 ka kh jR fU kq:Value} {aI:Addr}
  {Hr Jd:Option Addr} {G9:Array (Option Value)} {Ht HZ IQ Hj yl IS:Value} {eI:Addr}
  {wG xJ:Option Addr} {wv:Array (Option Value)} {wJ xo xx wA lR xA:Value} {cq:Addr}
  {wH xK:Option Addr} {ww:Array (Option Value)} {wK xp xy wB lS xB:Value} {cr:Addr}
  {yP Ak:Option Addr} {yt:Array (Option Value)} {yT zw zW yD oM z6:Value} {cG:Addr}
  {wF xI:Option Addr} {wu:Array (Option Value)} {wI xn xw wz lQ xz:Value} {cn:Addr}
  {rE sN:Option Addr} {qU:Array (Option Value)} {rK sj sB rm jG sG:Value} {bI:Addr}
  {NX OI:Option Addr} {Nw:Array (Option Value)} {NY Oh OA NQ Gu OB:Value} {jk:Addr}
  {yO Aj:Option Addr} {yr:Array (Option Value)} {yS zv zV yC oK z0:Value} {cF:Addr}
  {Hq Jc:Option Addr} {G8:Array (Option Value)} {Hs HY IP Hi yk IR:Value} {eG:Addr}
  {ut wa:Option Addr} {tL:Array (Option Value)} {uz vf vy t7 kB vH:Value} {bx:Addr}
  {ur v0:Option Addr} {tK:Array (Option Value)} {uy ve vx t6 kA vG:Value} {bw:Addr}
  {uq vZ:Option Addr} {tJ:Array (Option Value)} {ux vd vw tZ kz vF:Value} {bv:Addr}
  {pD ql:Option Addr} {pc:Array (Option Value)} {pF pS pX pq iW p8:Value} {a0:Addr}
  {rJ sR:Option Addr} {qY:Array (Option Value)} {rO sx sF rz jK sK:Value} {bf:Addr}
  {DY Fu:Option Addr} {DB:Array (Option Value)} {Ec EI E9 DN vM Ff:Value} {cP:Addr}
  {Bo CY:Option Addr} {AS:Array (Option Value)} {Bs BR Cn A8 qO Cu:Value} {cW:Addr}
  {DW Fr:Option Addr} {Dz:Array (Option Value)} {Ea EG E7 DL vK Fd:Value} {dG:Addr}
  {Bm CV:Option Addr} {AQ:Array (Option Value)} {Bq BP Cl A6 qL Cr:Value} {cU:Addr}
  {yQ Al:Option Addr} {yu:Array (Option Value)} {yU zy zX yE oN z7:Value} {cH:Addr}
  {DV Fq:Option Addr} {Dy:Array (Option Value)} {D0 EF E6 DK vJ Fc:Value} {dF:Addr}
  {Bl CU:Option Addr} {AO:Array (Option Value)} {Bp BO Ck A5 qK Cp:Value} {cT:Addr}
  {uo vY:Option Addr} {tI:Array (Option Value)} {uw vc vv tY ky vE:Value} {bS:Addr}
  {pC qj:Option Addr} {o9:Array (Option Value)} {pE pR pW pp iV p7:Value} {bA:Addr}
  {rF sO:Option Addr} {qV:Array (Option Value)} {rL sk sC rn jH sH:Value} {bJ:Addr}
  {DX Fs:Option Addr} {DA:Array (Option Value)} {Eb EH E8 DM vL Fe:Value} {dH:Addr}
  {um vX:Option Addr} {tH:Array (Option Value)} {uv vb vt tX ku vD:Value} {bR:Addr}
  {DU Fp:Option Addr} {Dx:Array (Option Value)} {DZ EE E5 DJ vI Fb:Value} {df:Addr}
  {yR Am:Option Addr} {yv:Array (Option Value)} {yV zz zY yF oO z8:Value} {cI:Addr}
  {Bn CW:Option Addr} {AR:Array (Option Value)} {Br BQ Cm A7 qM Ct:Value} {cV:Addr}
  {ul vW:Option Addr} {tG:Array (Option Value)} {uu va vq tW kr vC:Value} {bQ:Addr}
  {Td TR:Option Addr} {Sg:Array (Option Value)} {Te Tn TK SZ Pi TM:Value} {Cf:Addr}
  {bK:Addr} (TX:nsIn K mainGlobals "Wire"=some (some (.ref bK)))
  {aC:Addr} (OK:nsIn K mainGlobals "InWire"=some (some (.ref aC)))
  {au:Addr} (Mo:nsIn K mainGlobals "SumWire"=some (some (.ref au)))
  {ao:Addr} (FA:nsIn K mainGlobals "StoreWire"=some (some (.ref ao)))
  {bO:Addr} (UQ:nsIn K mainGlobals "Net"=some (some (.ref bO)))
  {bh:Addr} (Fz:nsIn K mainGlobals "WireError"=some (some (.ref bh)))
  {ax:Addr} (Mn:nsIn K mainGlobals "TooMany"=some (some (.ref ax)))
  {ak:Addr} (Mr:nsIn K mainGlobals "BadName"=some (some (.ref ak)))
  {aj:Addr} (Mq:nsIn K mainGlobals "Doubled"=some (some (.ref aj)))
  {am:Addr} (OJ:nsIn K mainGlobals "NoWire"=some (some (.ref am)))
  {aE:Addr} (TY:nsIn K mainGlobals "Ring"=some (some (.ref aE)))
  (TW:nsIn K mainGlobals "kept"=some (some (.ref kg)))
  (Tm:K.lookup kg=some ⟨QH,QG,.func (fnOf "kept" "kept" (aN qp) (aJ qp) (ae qp) .none Q0 Rt Qo RC L9 Ry),PY⟩)
  (TN:codeIn K L9 "kept"=true)
  (O6:keepIn K (.ref kg)=true)
  (nq:findIn K (.ref ak) "__init__"=some (some (.ref aW)))
  (oA:K.lookup aW=some ⟨mI,mF,.func (fnOf "__init__" "BadName.__init__" (aN b0) (aJ b0) (ae b0) .none mR mU mt nh gR m5),lZ⟩)
  (oR:codeIn K gR "BadName.__init__"=true)
  (g7:keepIn K (.ref aW)=true)
  (nn:findIn K (.ref aj) "__init__"=some (some (.ref aV)))
  (oz:K.lookup aV=some ⟨mH,mE,.func (fnOf "__init__" "Doubled.__init__" (aN bZ) (aJ bZ) (ae bZ) .none mQ mT mn ng gQ m4),lY⟩)
  (oQ:codeIn K gQ "Doubled.__init__"=true)
  (g6:keepIn K (.ref aV)=true)
  (o6:findIn K (.ref am) "__init__"=some (some (.ref a9)))
  (pP:K.lookup a9=some ⟨nX,nV,.func (fnOf "__init__" "NoWire.__init__" (aN cv) (aJ cv) (ae cv) .none oB oG nM oV g9 oI),nC⟩)
  (qd:codeIn K g9 "NoWire.__init__"=true)
  (iN:keepIn K (.ref a9)=true)
  (tE:findIn K (.ref aE) "__init__"=some (some (.ref bu)))
  (uZ:K.lookup bu=some ⟨rN,rH,.func (fnOf "__init__" "Ring.__init__" (aN cN) (aJ cN) (ae cN) .none su sE rq sQ jJ sJ),qX⟩)
  (vR:codeIn K jJ "Ring.__init__"=true)
  (jV:keepIn K (.ref bu)=true)
  (JL:findIn K (.ref bK) "__init__"=some (some (.ref bt)))
  (uY:K.lookup bt=some ⟨rM,rG,.func (fnOf "__init__" "Wire.__init__" (aN cM) (aJ cM) (ae cM) .none so sD rp sP jI sI),qW⟩)
  (vQ:codeIn K jI "Wire.__init__"=true)
  (gG:keepIn K (.ref bt)=true)
  (GP:findIn K (.ref aC) "__init__"=some (some (.ref aU)))
  (pQ:K.lookup aU=some ⟨nY,nW,.func (fnOf "__init__" "InWire.__init__" (aN cw) (aJ cw) (ae cw) .none oC oH nN oW hG oJ),nD⟩)
  (qe:codeIn K hG "InWire.__init__"=true)
  (iO:keepIn K (.ref aU)=true)
  (FK:findIn K (.ref au) "__init__"=some (some (.ref aP)))
  (oy:K.lookup aP=some ⟨mG,mD,.func (fnOf "__init__" "SumWire.__init__" (aN bY) (aJ bY) (ae bY) .none mP mS mm nc gP mZ),lX⟩)
  (oP:codeIn K gP "SumWire.__init__"=true)
  (g5:keepIn K (.ref aP)=true)
  (C9:findIn K (.ref ao) "__init__"=some (some (.ref aI)))
  (k6:K.lookup aI=some ⟨j4,jZ,.func (fnOf "__init__" "StoreWire.__init__" (aN bL) (aJ bL) (ae bL) .none ka kh jR kF fU kq),jO⟩)
  (lg:codeIn K fU "StoreWire.__init__"=true)
  (gj:keepIn K (.ref aI)=true)
  (Mm:nsIn K mainGlobals "is_name"=some (some (.ref eI)))
  (Ld:K.lookup eI=some ⟨Ht,Hr,.func (fnOf "is_name" "is_name" (aN gB) (aJ gB) (ae gB) .none HZ IQ Hj Jd yl IS),G9⟩)
  (Me:codeIn K yl "is_name"=true)
  (Bf:keepIn K (.ref eI)=true)
  (Ao:nsIn K mainGlobals "check_sizes"=some (some (.ref cq)))
  (zr:K.lookup cq=some ⟨wJ,wG,.func (fnOf "check_sizes" "check_sizes" (aN cR) (aJ cR) (ae cR) .none xo xx wA xJ lR xA),wv⟩)
  (Af:codeIn K lR "check_sizes"=true)
  (nQ:keepIn K (.ref cq)=true)
  (Ap:nsIn K mainGlobals "check_names"=some (some (.ref cr)))
  (zu:K.lookup cr=some ⟨wK,wH,.func (fnOf "check_names" "check_names" (aN dC) (aJ dC) (ae dC) .none xp xy wB xK lS xB),ww⟩)
  (Ag:codeIn K lS "check_names"=true)
  (nR:keepIn K (.ref cr)=true)
  (C0:nsIn K mainGlobals "check_wire"=some (some (.ref cG)))
  (BL:K.lookup cG=some ⟨yT,yP,.func (fnOf "check_wire" "check_wire" (aN ee) (aJ ee) (ae ee) .none zw zW yD Ak oM z6),yt⟩)
  (CG:codeIn K oM "check_wire"=true)
  (qC:keepIn K (.ref cG)=true)
  (An:nsIn K mainGlobals "check_wires"=some (some (.ref cn)))
  (zq:K.lookup cn=some ⟨wI,wF,.func (fnOf "check_wires" "check_wires" (aN dB) (aJ dB) (ae dB) .none xn xw wz xI lQ xz),wu⟩)
  (Ae:codeIn K lQ "check_wires"=true)
  (nP:keepIn K (.ref cn)=true)
  (wc:nsIn K mainGlobals "wires_by_name"=some (some (.ref bI)))
  (uW:K.lookup bI=some ⟨rK,rE,.func (fnOf "wires_by_name" "wires_by_name" (aN bq) (aJ bq) (ae bq) .none sj sB rm sN jG sG),qU⟩)
  (vO:codeIn K jG "wires_by_name"=true)
  (jT:keepIn K (.ref bI)=true)
  (RF:nsIn K mainGlobals "waits"=some (some (.ref jk)))
  (QZ:K.lookup jk=some ⟨NY,NX,.func (fnOf "waits" "waits" (aN mh) (aJ mh) (ae mh) .none Oh OA NQ OI Gu OB),Nw⟩)
  (RA:codeIn K Gu "waits"=true)
  (KO:keepIn K (.ref jk)=true)
  (CZ:nsIn K mainGlobals "ring_among"=some (some (.ref cF)))
  (BK:K.lookup cF=some ⟨yS,yO,.func (fnOf "ring_among" "ring_among" (aN dq) (aJ dq) (ae dq) .none zv zV yC Aj oK z0),yr⟩)
  (CC:codeIn K oK "ring_among"=true)
  (qA:keepIn K (.ref cF)=true)
  (Ml:nsIn K mainGlobals "ordered"=some (some (.ref eG)))
  (Lc:K.lookup eG=some ⟨Hs,Hq,.func (fnOf "ordered" "ordered" (aN fR) (aJ fR) (ae fR) .none HY IP Hi Jc yk IR),G8⟩)
  (Md:codeIn K yk "ordered"=true)
  (Be:keepIn K (.ref eG)=true)
  (MI:findIn K (.ref bO) "__init__"=some (some (.ref bx)))
  (xm:K.lookup bx=some ⟨uz,ut,.func (fnOf "__init__" "Net.__init__" (aN bF) (aJ bF) (ae bF) .none vf vy t7 wa kB vH),tL⟩)
  (xH:codeIn K kB "Net.__init__"=true)
  (lH:keepIn K (.ref bx)=true)
  (MH:findIn K (.ref bO) "in_names"=some (some (.ref bw)))
  (xl:K.lookup bw=some ⟨uy,ur,.func (fnOf "in_names" "Net.in_names" (aN de) (aJ de) (ae de) .none ve vx t6 v0 kA vG),tK⟩)
  (xG:codeIn K kA "Net.in_names"=true)
  (il:keepIn K (.ref bw)=true)
  (MG:findIn K (.ref bO) "sum_rows"=some (some (.ref bv)))
  (xk:K.lookup bv=some ⟨ux,uq,.func (fnOf "sum_rows" "Net.sum_rows" (aN dc) (aJ dc) (ae dc) .none vd vw tZ vZ kz vF),tJ⟩)
  (xF:codeIn K kz "Net.sum_rows"=true)
  (ij:keepIn K (.ref bv)=true)
  (Jt:findIn K (.ref bO) "store_rows"=some (some (.ref a0)))
  (si:K.lookup a0=some ⟨pF,pD,.func (fnOf "store_rows" "Net.store_rows" (aN cC) (aJ cC) (ae cC) .none pS pX pq ql iW p8),pc⟩)
  (sM:codeIn K iW "Net.store_rows"=true)
  (fZ:keepIn K (.ref a0)=true)
  (JM:findIn K (.ref bO) "out_wires"=some (some (.ref bf)))
  (u1:K.lookup bf=some ⟨rO,rJ,.func (fnOf "out_wires" "Net.out_wires" (aN cO) (aJ cO) (ae cO) .none sx sF rz sR jK sK),qY⟩)
  (vS:codeIn K jK "Net.out_wires"=true)
  (gH:keepIn K (.ref bf)=true)
  (RL:findIn K (.ref bO) "told"=some (some (.ref cP)))
  (HX:K.lookup cP=some ⟨Ec,DY,.func (fnOf "told" "Net.told" (aN gx) (aJ gx) (ae gx) .none EI E9 DN Fu vM Ff),DB⟩)
  (I0:codeIn K vM "Net.told"=true)
  (py:keepIn K (.ref cP)=true)
  (Fy:nsIn K mainGlobals "_law_cell"=some (some (.ref cW)))
  (ED:K.lookup cW=some ⟨Bs,Bo,.func (fnOf "_law_cell" "_law_cell" (aN fh) (aJ fh) (ae fh) .none BR Cn A8 CY qO Cu),AS⟩)
  (Fl:codeIn K qO "_law_cell"=true)
  (uc:keepIn K (.ref cW)=true)
  (Ji:nsIn K mainGlobals "_law_mix"=some (some (.ref dG)))
  (HV:K.lookup dG=some ⟨Ea,DW,.func (fnOf "_law_mix" "_law_mix" (aN gw) (aJ gw) (ae gw) .none EG E7 DL Fr vK Fd),Dz⟩)
  (IY:codeIn K vK "_law_mix"=true)
  (yb:keepIn K (.ref dG)=true)
  (Fw:nsIn K mainGlobals "_law_name"=some (some (.ref cU)))
  (EB:K.lookup cU=some ⟨Bq,Bm,.func (fnOf "_law_name" "_law_name" (aN fg) (aJ fg) (ae fg) .none BP Cl A6 CV qL Cr),AQ⟩)
  (Fj:codeIn K qL "_law_name"=true)
  (ua:keepIn K (.ref cU)=true)
  (C1:nsIn K mainGlobals "_law_wires"=some (some (.ref cH)))
  (BM:K.lookup cH=some ⟨yU,yQ,.func (fnOf "_law_wires" "_law_wires" (aN dr) (aJ dr) (ae dr) .none zy zX yE Al oN z7),yu⟩)
  (CH:codeIn K oN "_law_wires"=true)
  (qG:keepIn K (.ref cH)=true)
  (Jh:nsIn K mainGlobals "_law_net"=some (some (.ref dF)))
  (HU:K.lookup dF=some ⟨D0,DV,.func (fnOf "_law_net" "_law_net" (aN dD) (aJ dD) (ae dD) .none EF E6 DK Fq vJ Fc),Dy⟩)
  (IX:codeIn K vJ "_law_net"=true)
  (ya:keepIn K (.ref dF)=true)
  (Fv:nsIn K mainGlobals "_law_told"=some (some (.ref cT)))
  (EA:K.lookup cT=some ⟨Bp,Bl,.func (fnOf "_law_told" "_law_told" (aN dZ) (aJ dZ) (ae dZ) .none BO Ck A5 CU qK Cp),AO⟩)
  (Fi:codeIn K qK "_law_told"=true)
  (t9:keepIn K (.ref cT)=true)
  (xN:nsIn K mainGlobals "_law_is_name"=some (some (.ref bS)))
  (xj:K.lookup bS=some ⟨uw,uo,.func (fnOf "_law_is_name" "_law_is_name" (aN cK) (aJ cK) (ae cK) .none vc vv tY vY ky vE),tI⟩)
  (xE:codeIn K ky "_law_is_name"=true)
  (lG:keepIn K (.ref bS)=true)
  (sS:nsIn K mainGlobals "_law_names_due"=some (some (.ref bA)))
  (sh:K.lookup bA=some ⟨pE,pC,.func (fnOf "_law_names_due" "_law_names_due" (aN cB) (aJ cB) (ae cB) .none pR pW pp qj iV p7),o9⟩)
  (sL:codeIn K iV "_law_names_due"=true)
  (jE:keepIn K (.ref bA)=true)
  (we:nsIn K mainGlobals "_law_has_ring"=some (some (.ref bJ)))
  (uX:K.lookup bJ=some ⟨rL,rF,.func (fnOf "_law_has_ring" "_law_has_ring" (aN bU) (aJ bU) (ae bU) .none sk sC rn sO jH sH),qV⟩)
  (vP:codeIn K jH "_law_has_ring"=true)
  (jU:keepIn K (.ref bJ)=true)
  (Jj:nsIn K mainGlobals "_law_due"=some (some (.ref dH)))
  (HW:K.lookup dH=some ⟨Eb,DX,.func (fnOf "_law_due" "_law_due" (aN c9) (aJ c9) (ae c9) .none EH E8 DM Fs vL Fe),DA⟩)
  (IZ:codeIn K vL "_law_due"=true)
  (yc:keepIn K (.ref dH)=true)
  (xM:nsIn K mainGlobals "_law_is_ring"=some (some (.ref bR)))
  (xi:K.lookup bR=some ⟨uv,um,.func (fnOf "_law_is_ring" "_law_is_ring" (aN bP) (aJ bP) (ae bP) .none vb vt tX vX ku vD),tH⟩)
  (xD:codeIn K ku "_law_is_ring"=true)
  (lF:keepIn K (.ref bR)=true)
  (Jg:nsIn K mainGlobals "_law_odd"=some (some (.ref df)))
  (HS:K.lookup df=some ⟨DZ,DU,.func (fnOf "_law_odd" "_law_odd" (aN eh) (aJ eh) (ae eh) .none EE E5 DJ Fp vI Fb),Dx⟩)
  (IW:codeIn K vI "_law_odd"=true)
  (x9:keepIn K (.ref df)=true)
  (C2:nsIn K mainGlobals "_law_spoil"=some (some (.ref cI)))
  (BN:K.lookup cI=some ⟨yV,yR,.func (fnOf "_law_spoil" "_law_spoil" (aN cQ) (aJ cQ) (ae cQ) .none zz zY yF Am oO z8),yv⟩)
  (CJ:codeIn K oO "_law_spoil"=true)
  (qH:keepIn K (.ref cI)=true)
  (Fx:nsIn K mainGlobals "_law_many"=some (some (.ref cV)))
  (EC:K.lookup cV=some ⟨Br,Bn,.func (fnOf "_law_many" "_law_many" (aN cf) (aJ cf) (ae cf) .none BQ Cm A7 CW qM Ct),AR⟩)
  (Fk:codeIn K qM "_law_many"=true)
  (ub:keepIn K (.ref cV)=true)
  (xL:nsIn K mainGlobals "_law_refused"=some (some (.ref bQ)))
  (xh:K.lookup bQ=some ⟨uu,ul,.func (fnOf "_law_refused" "_law_refused" (aN c8) (aJ c8) (ae c8) .none va vq tW vW kr vC),tG⟩)
  (xC:codeIn K kr "_law_refused"=true)
  (lE:keepIn K (.ref bQ)=true)
  (TV:nsIn K mainGlobals "law"=some (some (.ref Cf)))
  (UK:K.lookup Cf=some ⟨Te,Td,.func (fnOf "law" "law" (aN DE) (aJ DE) (ae DE) .none Tn TK SZ TR Pi TM),Sg⟩)
  (UP:codeIn K Pi "law"=true)
  (S8:keepIn K (.ref Cf)=true)
  (KH:plainGet K bK Str.empty=true)
  (KG:hasDictIn K bK=true)
  (KF:plainOver K bK=true)
  (KD:findIn K (.ref bK) "__setattr__"=some (some (.builtin "object.__setattr__")))
  (Ql:findIn K (.ref bK) "__class__"=some (some (.builtin "object.__class__")))
  (Qk:mroIn K bK (.type "object")=some true)
  (wL:findIn K (.ref bK) "by_name"=some none)
  (Hu:findIn K (.ref bK) "ins"=some none)
  (nZ:findIn K (.ref bK) "kept_stores"=some none)
  (Eh:findIn K (.ref bK) "name"=some none)
  (yW:findIn K (.ref bK) "number"=some none)
  (Eg:findIn K (.ref bK) "outs"=some none)
  (Ef:findIn K (.ref bK) "ring"=some none)
  (rP:findIn K (.ref bK) "sum_order"=some none)
  (Ee:findIn K (.ref bK) "sums"=some none)
  (Ed:findIn K (.ref bK) "wire"=some none)
  (Bu:findIn K (.ref bK) "wires"=some none)
  (A4:plainGet K aC Str.empty=true)
  (A3:hasDictIn K aC=true)
  (A2:plainOver K aC=true)
  (A1:findIn K (.ref aC) "__setattr__"=some (some (.builtin "object.__setattr__")))
  (KC:findIn K (.ref aC) "__class__"=some (some (.builtin "object.__class__")))
  (KB:mroIn K aC (.type "object")=some true)
  (LS:makesIn K aC=true)
  (LR:findIn K (.ref aC) "__init__"=some (some (.ref aU)))
  (LQ:isFn K (.ref aU)=true)
  (LP:keepIn K (.ref aC)=true)
  (rY:findIn K (.ref aC) "by_name"=some none)
  (By:findIn K (.ref aC) "ins"=some none)
  (kX:findIn K (.ref aC) "kept_stores"=some none)
  (ze:findIn K (.ref aC) "name"=some none)
  (uE:findIn K (.ref aC) "number"=some none)
  (zd:findIn K (.ref aC) "outs"=some none)
  (zc:findIn K (.ref aC) "ring"=some none)
  (og:findIn K (.ref aC) "sum_order"=some none)
  (zb:findIn K (.ref aC) "sums"=some none)
  (za:findIn K (.ref aC) "wire"=some none)
  (wT:findIn K (.ref aC) "wires"=some none)
  (x5:plainGet K au Str.empty=true)
  (x4:hasDictIn K au=true)
  (xZ:plainOver K au=true)
  (xX:findIn K (.ref au) "__setattr__"=some (some (.builtin "object.__setattr__")))
  (Hh:findIn K (.ref au) "__class__"=some (some (.builtin "object.__class__")))
  (Hg:mroIn K au (.type "object")=some true)
  (IL:makesIn K au=true)
  (IK:findIn K (.ref au) "__init__"=some (some (.ref aP)))
  (IJ:isFn K (.ref aP)=true)
  (II:keepIn K (.ref au)=true)
  (pG:findIn K (.ref au) "by_name"=some none)
  (yX:findIn K (.ref au) "ins"=some none)
  (j5:findIn K (.ref au) "kept_stores"=some none)
  (wQ:findIn K (.ref au) "name"=some none)
  (rQ:findIn K (.ref au) "number"=some none)
  (wP:findIn K (.ref au) "outs"=some none)
  (wO:findIn K (.ref au) "ring"=some none)
  (mJ:findIn K (.ref au) "sum_order"=some none)
  (wN:findIn K (.ref au) "sums"=some none)
  (wM:findIn K (.ref au) "wire"=some none)
  (uA:findIn K (.ref au) "wires"=some none)
  (qy:plainGet K ao Str.empty=true)
  (qx:hasDictIn K ao=true)
  (qt:plainOver K ao=true)
  (qr:findIn K (.ref ao) "__setattr__"=some (some (.builtin "object.__setattr__")))
  (AZ:findIn K (.ref ao) "__class__"=some (some (.builtin "object.__class__")))
  (AY:mroIn K ao (.type "object")=some true)
  (Cj:makesIn K ao=true)
  (Ci:findIn K (.ref ao) "__init__"=some (some (.ref aI)))
  (Ch:isFn K (.ref aI)=true)
  (Cg:keepIn K (.ref ao)=true)
  (mK:findIn K (.ref ao) "by_name"=some none)
  (uB:findIn K (.ref ao) "ins"=some none)
  (jd:findIn K (.ref ao) "kept_stores"=some none)
  (rV:findIn K (.ref ao) "name"=some none)
  (n8:findIn K (.ref ao) "number"=some none)
  (rU:findIn K (.ref ao) "outs"=some none)
  (rT:findIn K (.ref ao) "ring"=some none)
  (j6:findIn K (.ref ao) "sum_order"=some none)
  (rS:findIn K (.ref ao) "sums"=some none)
  (rR:findIn K (.ref ao) "wire"=some none)
  (pH:findIn K (.ref ao) "wires"=some none)
  (O4:plainGet K bO Str.empty=true)
  (O3:hasDictIn K bO=true)
  (O2:plainOver K bO=true)
  (O1:findIn K (.ref bO) "__setattr__"=some (some (.builtin "object.__setattr__")))
  (SX:findIn K (.ref bO) "__class__"=some (some (.builtin "object.__class__")))
  (SW:mroIn K bO (.type "object")=some true)
  (TH:makesIn K bO=true)
  (TF:findIn K (.ref bO) "__init__"=some (some (.ref bx)))
  (TD:isFn K (.ref bx)=true)
  (TC:keepIn K (.ref bO)=true)
  (uS:findIn K (.ref bO) "in_names"=some (some (.ref bw)))
  (uQ:isFn K (.ref bw)=true)
  (uR:findIn K (.ref bO) "sum_rows"=some (some (.ref bv)))
  (uP:isFn K (.ref bv)=true)
  (pO:findIn K (.ref bO) "store_rows"=some (some (.ref a0)))
  (pN:isFn K (.ref a0)=true)
  (sg:findIn K (.ref bO) "out_wires"=some (some (.ref bf)))
  (sf:isFn K (.ref bf)=true)
  (Ez:findIn K (.ref bO) "told"=some (some (.ref cP)))
  (Ey:isFn K (.ref cP)=true)
  (y9:findIn K (.ref bO) "by_name"=some none)
  (KW:findIn K (.ref bO) "ins"=some none)
  (pI:findIn K (.ref bO) "kept_stores"=some none)
  (HA:findIn K (.ref bO) "name"=some none)
  (Bx:findIn K (.ref bO) "number"=some none)
  (Hz:findIn K (.ref bO) "outs"=some none)
  (Hy:findIn K (.ref bO) "ring"=some none)
  (uD:findIn K (.ref bO) "sum_order"=some none)
  (Hx:findIn K (.ref bO) "sums"=some none)
  (Hw:findIn K (.ref bO) "wire"=some none)
  (Eo:findIn K (.ref bO) "wires"=some none)
  (w1:specialIn K (.builtin "object.__class__") "__get__"=some (some (.builtin "getset_descriptor.__get__")))
  (w2:takesIn K (.builtin "object.__class__")=some true)
  (fc:excIn K bh [.type "ValueError",.type "Exception",.type "BaseException",.type "object"] "ValueError.__new__"=true)
  (GX:isClsIn K ax=true)
  (GU:typeIn K (.ref ax)=some (.type "type"))
  (RM:mroIn K ax (.ref ax)=some true)
  (GZ:isClsIn K ak=true)
  (GW:typeIn K (.ref ak)=some (.type "type"))
  (RO:mroIn K ak (.ref ak)=some true)
  (GY:isClsIn K aj=true)
  (GV:typeIn K (.ref aj)=some (.type "type"))
  (RN:mroIn K aj (.ref aj)=some true)
  (JY:isClsIn K am=true)
  (JX:typeIn K (.ref am)=some (.type "type"))
  (Sf:mroIn K am (.ref am)=some true)
  (PN:isClsIn K aE=true)
  (PM:typeIn K (.ref aE)=some (.type "type"))
  (Um:mroIn K aE (.ref aE)=some true)
  (AH:specialIn K (.ref bh) "__getattribute__"=some (some (.builtin "type.__getattribute__")))
  (AG:readsIn K bh (.type "type")=true)
  (AF:findCls K (.ref bh) (.type "type") "__init__"=some (.val (.builtin "ValueError.__init__")))
  (eB:excIn K ax [.type "ValueError",.type "Exception",.type "BaseException",.type "object"] "ValueError.__new__"=true)
  (GM:isClsIn K ax=true)
  (GJ:findIn K (.ref ax) "__getattribute__"=some (some (.builtin "BaseException.__getattribute__")))
  (GG:findIn K (.ref ax) "__getattr__"=some none)
  (GD:findIn K (.ref ax) "__class__"=some (some (.builtin "object.__class__")))
  (GC:mroIn K ax (.type "object")=some true)
  (Gz:mroIn K ax (.type "BaseException")=some true)
  (Ia:keepIn K (.ref ax)=true)
  (fi:mroIn K ax (.ref ax)=some true)
  (iK:mroIn K ax (.ref ak)=some false)
  (iJ:mroIn K ax (.ref aj)=some false)
  (jB:mroIn K ax (.ref am)=some false)
  (lu:mroIn K ax (.ref aE)=some false)
  (Iy:mroIn K ax (.type "BaseException")=some true)
  (IA:mroIn K ak (.type "BaseException")=some true)
  {HC Hf:Str} {Mw:Addr} {Jb:List Value} {G7:List Str} {Di:List Value} {Jf:Bool} {Fh:Option Bool} {IO:Option Addr} {Iw Iu Ir Ip Im:Option Value}
  (HQ:K.lookup ak=some (PySem.excClassObj HC Hf ak Mw Jb (.ref bh::xBM) true G7 Di Jf Fh IO Iw Iu Ir Ip Im "ValueError.__new__"))
  (Ho:isFn K (.ref aW)=true)
  (Ic:keepIn K (.ref ak)=true)
  (Hd:findIn K (.ref ak) "__setattr__"=some (some (.builtin "object.__setattr__")))
  (xU:mroIn K ak (.type "object")=some true)
  (yf:mroIn K ak (.type "ValueError")=some true)
  (GO:isClsIn K ak=true)
  (GL:findIn K (.ref ak) "__getattribute__"=some (some (.builtin "BaseException.__getattribute__")))
  (GI:findIn K (.ref ak) "__getattr__"=some none)
  (GF:findIn K (.ref ak) "__class__"=some (some (.builtin "object.__class__")))
  (GB:mroIn K ak (.type "BaseException")=some true)
  (pV:hasDictIn K ak=true)
  (fu:mroIn K ak (.ref ax)=some false)
  (fw:mroIn K ak (.ref ak)=some true)
  (iL:mroIn K ak (.ref aj)=some false)
  (jD:mroIn K ak (.ref am)=some false)
  (lB:mroIn K ak (.ref aE)=some false)
  (pK:findIn K (.ref ak) "by_name"=some none)
  (zg:findIn K (.ref ak) "ins"=some none)
  (j8:findIn K (.ref ak) "kept_stores"=some none)
  (xa:findIn K (.ref ak) "name"=some none)
  (r6:findIn K (.ref ak) "number"=some none)
  (w9:findIn K (.ref ak) "outs"=some none)
  (w8:findIn K (.ref ak) "ring"=some none)
  (mM:findIn K (.ref ak) "sum_order"=some none)
  (w6:findIn K (.ref ak) "sums"=some none)
  (w4:findIn K (.ref ak) "wire"=some none)
  (uG:findIn K (.ref ak) "wires"=some none)
  (Iz:mroIn K aj (.type "BaseException")=some true)
  {HB He:Str} {Mu:Addr} {Ja:List Value} {G6:List Str} {Dh:List Value} {Je:Bool} {Fg:Option Bool} {IN:Option Addr} {Iv Is Iq Io Il:Option Value}
  (HP:K.lookup aj=some (PySem.excClassObj HB He aj Mu Ja (.ref bh::xBM) true G6 Dh Je Fg IN Iv Is Iq Io Il "ValueError.__new__"))
  (Hn:isFn K (.ref aV)=true)
  (Ib:keepIn K (.ref aj)=true)
  (Hc:findIn K (.ref aj) "__setattr__"=some (some (.builtin "object.__setattr__")))
  (xT:mroIn K aj (.type "object")=some true)
  (ye:mroIn K aj (.type "ValueError")=some true)
  (GN:isClsIn K aj=true)
  (GK:findIn K (.ref aj) "__getattribute__"=some (some (.builtin "BaseException.__getattribute__")))
  (GH:findIn K (.ref aj) "__getattr__"=some none)
  (GE:findIn K (.ref aj) "__class__"=some (some (.builtin "object.__class__")))
  (GA:mroIn K aj (.type "BaseException")=some true)
  (pU:hasDictIn K aj=true)
  (fj:mroIn K aj (.ref ax)=some false)
  (fq:mroIn K aj (.ref ak)=some false)
  (fk:mroIn K aj (.ref aj)=some true)
  (jC:mroIn K aj (.ref am)=some false)
  (lA:mroIn K aj (.ref aE)=some false)
  (pJ:findIn K (.ref aj) "by_name"=some none)
  (zf:findIn K (.ref aj) "ins"=some none)
  (j7:findIn K (.ref aj) "kept_stores"=some none)
  (wZ:findIn K (.ref aj) "name"=some none)
  (rZ:findIn K (.ref aj) "number"=some none)
  (wX:findIn K (.ref aj) "outs"=some none)
  (wW:findIn K (.ref aj) "ring"=some none)
  (mL:findIn K (.ref aj) "sum_order"=some none)
  (wV:findIn K (.ref aj) "sums"=some none)
  (wU:findIn K (.ref aj) "wire"=some none)
  (uF:findIn K (.ref aj) "wires"=some none)
  (Ly:mroIn K am (.type "BaseException")=some true)
  {KZ KA:Str} {OM:Addr} {Mf:List Value} {Kj:List Str} {G0:List Value} {Mj:Bool} {IV:Option Bool} {L4:Option Addr} {Lq Lp Lo Ln Lm:Option Value}
  (La:K.lookup am=some (PySem.excClassObj KZ KA am OM Mf (.ref bh::xBM) true Kj G0 Mj IV L4 Lq Lp Lo Ln Lm "ValueError.__new__"))
  (KU:isFn K (.ref a9)=true)
  (Le:keepIn K (.ref am)=true)
  (Kl:findIn K (.ref am) "__setattr__"=some (some (.builtin "object.__setattr__")))
  (AA:mroIn K am (.type "object")=some true)
  (BY:mroIn K am (.type "ValueError")=some true)
  (JK:isClsIn K am=true)
  (JJ:findIn K (.ref am) "__getattribute__"=some (some (.builtin "BaseException.__getattribute__")))
  (JI:findIn K (.ref am) "__getattr__"=some none)
  (JH:findIn K (.ref am) "__class__"=some (some (.builtin "object.__class__")))
  (JF:mroIn K am (.type "BaseException")=some true)
  (vk:hasDictIn K am=true)
  (fW:mroIn K am (.ref ax)=some false)
  (fY:mroIn K am (.ref ak)=some false)
  (fX:mroIn K am (.ref aj)=some false)
  (gD:mroIn K am (.ref am)=some true)
  (nJ:mroIn K am (.ref aE)=some false)
  (rX:findIn K (.ref am) "by_name"=some none)
  (Bw:findIn K (.ref am) "ins"=some none)
  (kW:findIn K (.ref am) "kept_stores"=some none)
  (y8:findIn K (.ref am) "name"=some none)
  (uC:findIn K (.ref am) "number"=some none)
  (y6:findIn K (.ref am) "outs"=some none)
  (y4:findIn K (.ref am) "ring"=some none)
  (oa:findIn K (.ref am) "sum_order"=some none)
  (y3:findIn K (.ref am) "sums"=some none)
  (yZ:findIn K (.ref am) "wire"=some none)
  (wS:findIn K (.ref am) "wires"=some none)
  (Q9:mroIn K aE (.type "BaseException")=some true)
  {QJ Qj:Str} {T3:Addr} {RB:List Value} {PV:List Str} {Nk:List Value} {RE:Bool} {OD:Option Bool} {Rs:Option Addr} {Q6 Q5 Q4 Q3 Q2:Option Value}
  (QX:K.lookup aE=some (PySem.excClassObj QJ Qj aE T3 RB (.ref bh::xBM) true PV Nk RE OD Rs Q6 Q5 Q4 Q3 Q2 "ValueError.__new__"))
  (QF:isFn K (.ref bu)=true)
  (Q1:keepIn K (.ref aE)=true)
  (P2:findIn K (.ref aE) "__setattr__"=some (some (.builtin "object.__setattr__")))
  (JG:mroIn K aE (.type "object")=some true)
  (Lu:mroIn K aE (.type "ValueError")=some true)
  (Pz:isClsIn K aE=true)
  (Py:findIn K (.ref aE) "__getattribute__"=some (some (.builtin "BaseException.__getattribute__")))
  (Px:findIn K (.ref aE) "__getattr__"=some none)
  (Pw:findIn K (.ref aE) "__class__"=some (some (.builtin "object.__class__")))
  (Pu:mroIn K aE (.type "BaseException")=some true)
  (EO:hasDictIn K aE=true)
  (ie:mroIn K aE (.ref ax)=some false)
  (ii:mroIn K aE (.ref ak)=some false)
  (ig:mroIn K aE (.ref aj)=some false)
  (i6:mroIn K aE (.ref am)=some false)
  (ml:mroIn K aE (.ref aE)=some true)
  (wR:findIn K (.ref aE) "by_name"=some none)
  (Hv:findIn K (.ref aE) "ins"=some none)
  (n9:findIn K (.ref aE) "kept_stores"=some none)
  (Em:findIn K (.ref aE) "name"=some none)
  (yY:findIn K (.ref aE) "number"=some none)
  (El:findIn K (.ref aE) "outs"=some none)
  (Ek:findIn K (.ref aE) "ring"=some none)
  (rW:findIn K (.ref aE) "sum_order"=some none)
  (Ej:findIn K (.ref aE) "sums"=some none)
  (Ei:findIn K (.ref aE) "wire"=some none)
  (Bv:findIn K (.ref aE) "wires"=some none)
  (qT:specialIn K (.ref bK) "__getattribute__"=some (some (.builtin "type.__getattribute__")))
  (qS:readsIn K bK (.type "type")=true)
  (qR:findCls K (.ref bK) (.type "type") "__init__"=some (.val (.ref bt)))
  {jN:Tok} (C5:nsIn K mainGlobals "KEPT_DEPTH"=some (some (.int 12 jN)))
  {tF:Tok} (Mp:nsIn K mainGlobals "LETTERS"=some (some (.str "abcdefghijklmnopqrstuvwxyz" tF)))
  {ia:Tok} (xO:nsIn K mainGlobals "LONGEST_NAME"=some (some (.int 6 ia)))
  {o8:Tok} (Jk:nsIn K mainGlobals "MOST_INS"=some (some (.int 6 o8)))
  {lU:Tok} (FD:nsIn K mainGlobals "MOST_OUTS"=some (some (.int 6 lU)))
  {iZ:Tok} (Aq:nsIn K mainGlobals "MOST_STORES"=some (some (.int 16 iZ)))
  {lT:Tok} (FC:nsIn K mainGlobals "MOST_SUMS"=some (some (.int 40 lT)))
  {jM:Tok} (C4:nsIn K mainGlobals "MOST_WIRES"=some (some (.int 24 jM)))
  {jL:Tok} (C3:nsIn K mainGlobals "NAME_SIGNS"=some (some (.str "abcdefghijklmnopqrstuvwxyz0123456789" jL)))
  (Uh:nsIn K mainGlobals "all"=some none)
  (Ug:nsIn K mainGlobals "any"=some none)
  (RY:nsIn K mainGlobals "dict"=some none)
  (Df:nsIn K mainGlobals "enumerate"=some none)
  (Az:nsIn K mainGlobals "isinstance"=some none)
  (Uf:nsIn K mainGlobals "len"=some none)
  (RX:nsIn K mainGlobals "list"=some none)
  (Ue:nsIn K mainGlobals "max"=some none)
  (Pt:nsIn K mainGlobals "range"=some none)
  (Gy:nsIn K mainGlobals "reversed"=some none)
  (Ud:nsIn K mainGlobals "set"=some none)
  (Uc:nsIn K mainGlobals "str"=some none)
  (Ps:nsIn K mainGlobals "tuple"=some none)
  (Ub:nsIn K mainGlobals "zip"=some none):
  ∃ fd:FuncData,(∀ (s:Shared) (v:Value),BindsTo s fd ⟨[v],[]⟩ [("_law_script",v)])∧∀ base:Heap,K.In base→base.Ns mainGlobals mg→FnOk l.prog w K mg base CX0 13 fa fd ["_law_script"] (FR K):=by
 have e:=hfa.symm.trans (mg_of X G TV)
 cases e
 have ym:=bE (st:=qp) Tm TN O6
 have vU:=ym.binds (ps:=["thing","depth"]) fun _ _ _ _ _ _ us hl=>match us,hl with | [_,_],_=>rfl
 have dn:=bE (st:=b0) oA oR g7
 have eR:=dn.binds (ps:=["self","name"]) fun _ _ _ _ _ _ us hl=>match us,hl with | [_,_],_=>rfl
 have dk:=bE (st:=bZ) oz oQ g6
 have eQ:=dk.binds (ps:=["self","name"]) fun _ _ _ _ _ _ us hl=>match us,hl with | [_,_],_=>rfl
 have dI:=bE (st:=cv) pP qd iN
 have fG:=dI.binds (ps:=["self","name"]) fun _ _ _ _ _ _ us hl=>match us,hl with | [_,_],_=>rfl
 have eX:=bE (st:=cN) uZ vR jV
 have gU:=eX.binds (ps:=["self","ring"]) fun _ _ _ _ _ _ us hl=>match us,hl with | [_,_],_=>rfl
 have eU:=bE (st:=cM) uY vQ gG
 have dy:=eU.binds (ps:=["self","name"]) fun _ _ _ _ _ _ us hl=>match us,hl with | [_,_],_=>rfl
 have dJ:=bE (st:=cw) pQ qe iO
 have fH:=dJ.binds (ps:=["self","name","number"]) fun _ _ _ _ _ _ us hl=>match us,hl with | [_,_,_],_=>rfl
 have dj:=bE (st:=bY) oy oP g5
 have eP:=dj.binds (ps:=["self","name","wires"]) fun _ _ _ _ _ _ us hl=>match us,hl with | [_,_,_],_=>rfl
 have cL:=bE (st:=bL) k6 lg gj
 have dP:=cL.binds (ps:=["self","name","wire","number"]) fun _ _ _ _ _ _ us hl=>match us,hl with | [_,_,_,_],_=>rfl
 have o5:=bE (st:=gB) Ld Me Bf
 have oU:=o5.binds (ps:=["thing"]) fun _ _ _ _ _ _ us hl=>match us,hl with | [_],_=>rfl
 have gt:=bE (st:=cR) zr Af nQ
 have jp:=gt.binds (ps:=["ins","sums","stores","outs"]) fun _ _ _ _ _ _ us hl=>match us,hl with | [_,_,_,_],_=>rfl
 have gu:=bE (st:=dC) zu Ag nR
 have jq:=gu.binds (ps:=["names"]) fun _ _ _ _ _ _ us hl=>match us,hl with | [_],_=>rfl
 have hX:=bE (st:=ee) BL CG qC
 have fV:=hX.binds (ps:=["wire","known"]) fun _ _ _ _ _ _ us hl=>match us,hl with | [_,_],_=>rfl
 have gq:=bE (st:=dB) zq Ae nP
 have jo:=gq.binds (ps:=["sums","stores","outs","known"]) fun _ _ _ _ _ _ us hl=>match us,hl with | [_,_,_,_],_=>rfl
 have eS:=bE (st:=bq) uW vO jT
 have gS:=eS.binds (ps:=["ins","sums","stores"]) fun _ _ _ _ _ _ us hl=>match us,hl with | [_,_,_],_=>rfl
 have Ax:=bE (st:=mh) QZ RA KO
 have Ai:=Ax.binds (ps:=["row","waiting"]) fun _ _ _ _ _ _ us hl=>match us,hl with | [_,_],_=>rfl
 have hU:=bE (st:=dq) BK CC qA
 have kC:=hU.binds (ps:=["rows"]) fun _ _ _ _ _ _ us hl=>match us,hl with | [_],_=>rfl
 have o4:=bE (st:=fR) Lc Md Be
 have vT:=o4.binds (ps:=["sums"]) fun _ _ _ _ _ _ us hl=>match us,hl with | [_],_=>rfl
 have fQ:=bE (st:=bF) xm xH lH
 have fK:=fQ.binds (ps:=["self","ins","sums","stores","outs"]) fun _ _ _ _ _ _ us hl=>match us,hl with | [_,_,_,_,_],_=>rfl
 have fP:=bE (st:=de) xl xG il
 have iF:=fP.binds (ps:=["self"]) fun _ _ _ _ _ _ us hl=>match us,hl with | [_],_=>rfl
 have fO:=bE (st:=dc) xk xF ij
 have iE:=fO.binds (ps:=["self"]) fun _ _ _ _ _ _ us hl=>match us,hl with | [_],_=>rfl
 have dW:=bE (st:=cC) si sM fZ
 have gh:=dW.binds (ps:=["self"]) fun _ _ _ _ _ _ us hl=>match us,hl with | [_],_=>rfl
 have eZ:=bE (st:=cO) u1 vS gH
 have gW:=eZ.binds (ps:=["self"]) fun _ _ _ _ _ _ us hl=>match us,hl with | [_],_=>rfl
 have kU:=bE (st:=gx) HX I0 py
 have qi:=kU.binds (ps:=["self"]) fun _ _ _ _ _ _ us hl=>match us,hl with | [_],_=>rfl
 have jw:=bE (st:=fh) ED Fl uc
 have fF:=jw.binds (ps:=["_law_script","_law_k"]) fun _ _ _ _ _ _ us hl=>match us,hl with | [_,_],_=>rfl
 have kS:=bE (st:=gw) HV IY yb
 have bN:=kS.binds (ps:=["_law_cell_here","_law_k"]) fun _ _ _ _ _ _ us hl=>match us,hl with | [_,_],_=>rfl
 have ju:=bE (st:=fg) EB Fj ua
 have fE:=ju.binds (ps:=["_law_cell_here","_law_k"]) fun _ _ _ _ _ _ us hl=>match us,hl with | [_,_],_=>rfl
 have hZ:=bE (st:=dr) BM CH qG
 have kD:=hZ.binds (ps:=["_law_cell_here","_law_start","_law_names","_law_digits"]) fun _ _ _ _ _ _ us hl=>match us,hl with | [_,_,_,_],_=>rfl
 have kR:=bE (st:=dD) HU IX ya
 have qg:=kR.binds (ps:=["_law_script","_law_start","_law_most"]) fun _ _ _ _ _ _ us hl=>match us,hl with | [_,_,_],_=>rfl
 have jt:=bE (st:=dZ) EA Fi t9
 have m8:=jt.binds (ps:=["_law_ins","_law_sums","_law_stores","_law_outs"]) fun _ _ _ _ _ _ us hl=>match us,hl with | [_,_,_,_],_=>rfl
 have fN:=bE (st:=cK) xj xE lG
 have fJ:=fN.binds (ps:=["_law_thing"]) fun _ _ _ _ _ _ us hl=>match us,hl with | [_],_=>rfl
 have dU:=bE (st:=cB) sh sL jE
 have gf:=dU.binds (ps:=["_law_names","_law_known"]) fun _ _ _ _ _ _ us hl=>match us,hl with | [_,_],_=>rfl
 have eT:=bE (st:=bU) uX vP jU
 have gT:=eT.binds (ps:=["_law_sums"]) fun _ _ _ _ _ _ us hl=>match us,hl with | [_],_=>rfl
 have kT:=bE (st:=c9) HW IZ yc
 have qh:=kT.binds (ps:=["_law_ins","_law_sums","_law_stores","_law_outs"]) fun _ _ _ _ _ _ us hl=>match us,hl with | [_,_,_,_],_=>rfl
 have fM:=bE (st:=bP) xi xD lF
 have iD:=fM.binds (ps:=["_law_ring","_law_sums"]) fun _ _ _ _ _ _ us hl=>match us,hl with | [_,_],_=>rfl
 have kQ:=bE (st:=eh) HS IW x9
 have qf:=kQ.binds (ps:=["_law_number"]) fun _ _ _ _ _ _ us hl=>match us,hl with | [_],_=>rfl
 have h9:=bE (st:=cQ) BN CJ qH
 have kE:=h9.binds (ps:=["_law_lists","_law_cell_here"]) fun _ _ _ _ _ _ us hl=>match us,hl with | [_,_],_=>rfl
 have jv:=bE (st:=cf) EC Fk ub
 have m9:=jv.binds (ps:=["_law_lists","_law_number"]) fun _ _ _ _ _ _ us hl=>match us,hl with | [_,_],_=>rfl
 have fL:=bE (st:=c8) xh xC lE
 have iC:=fL.binds (ps:=["_law_lists"]) fun _ _ _ _ _ _ us hl=>match us,hl with | [_],_=>rfl
 have OQ:=bE (st:=DE) UK UP S8
 have TQ:=OQ.binds (ps:=["_law_script"]) fun _ _ _ _ _ _ us hl=>match us,hl with | [_],_=>rfl
 have T:Tx K mg ⟨kg,_,aW,_,aV,_,a9,_,bu,_,bt,_,aU,_,aP,_,aI,_,eI,_,cq,_,cr,_,cG,_,cn,_,bI,_,jk,_,cF,_,eG,_,bx,_,bw,_,bv,_,a0,_,bf,_,cP,_,cW,_,dG,_,cU,_,cH,_,dF,_,cT,_,bS,_,bA,_,bJ,_,dH,_,bR,_,df,_,cI,_,cV,_,bQ,_,fa,_,bK,aC,au,ao,bO,bh,ax,ak,aj,am,aE,_,_,_,_,_,_,_,_,_⟩:=⟨ym,O6,vU,mg_of X G TW,dn,g7,eR,dk,g6,eQ,dI,iN,fG,eX,jV,gU,eU,gG,dy,dJ,iO,fH,dj,g5,eP,cL,gj,dP,o5,Bf,oU,mg_of X G Mm,gt,nQ,jp,mg_of X G Ao,gu,nR,jq,mg_of X G Ap,hX,qC,fV,mg_of X G C0,gq,nP,jo,mg_of X G An,eS,jT,gS,mg_of X G wc,Ax,KO,Ai,mg_of X G RF,hU,qA,kC,mg_of X G CZ,o4,Be,vT,mg_of X G Ml,fQ,lH,fK,fP,il,iF,fO,ij,iE,dW,fZ,gh,eZ,gH,gW,kU,py,qi,jw,uc,fF,mg_of X G Fy,kS,yb,bN,mg_of X G Ji,ju,ua,fE,mg_of X G Fw,hZ,qG,kD,mg_of X G C1,kR,ya,qg,mg_of X G Jh,jt,t9,m8,mg_of X G Fv,fN,lG,fJ,mg_of X G xN,dU,jE,gf,mg_of X G sS,eT,jU,gT,mg_of X G we,kT,yc,qh,mg_of X G Jj,fM,lF,iD,mg_of X G xM,kQ,x9,qf,mg_of X G Jg,h9,qH,kE,mg_of X G C2,jv,ub,m9,mg_of X G Fx,fL,lE,iC,mg_of X G xL,OQ,S8,TQ,mg_of X G TV,mg_of X G TX,⟨KH,KG,KF,KD⟩,⟨⟨KH,KG,KF,KD⟩,Ql,w1,w2,Qk⟩,wL,Hu,nZ,Eh,yW,Eg,Ef,rP,Ee,Ed,Bu,mg_of X G OK,⟨A4,A3,A2,A1⟩,⟨⟨A4,A3,A2,A1⟩,KC,w1,w2,KB⟩,⟨LS,LR,LQ,LP⟩,rY,By,kX,ze,uE,zd,zc,og,zb,za,wT,mg_of X G Mo,⟨x5,x4,xZ,xX⟩,⟨⟨x5,x4,xZ,xX⟩,Hh,w1,w2,Hg⟩,⟨IL,IK,IJ,II⟩,pG,yX,j5,wQ,rQ,wP,wO,mJ,wN,wM,uA,mg_of X G FA,⟨qy,qx,qt,qr⟩,⟨⟨qy,qx,qt,qr⟩,AZ,w1,w2,AY⟩,⟨Cj,Ci,Ch,Cg⟩,mK,uB,jd,rV,n8,rU,rT,j6,rS,rR,pH,mg_of X G UQ,⟨O4,O3,O2,O1⟩,⟨⟨O4,O3,O2,O1⟩,SX,w1,w2,SW⟩,⟨TH,TF,TD,TC⟩,⟨uS,uQ,il⟩,⟨uR,uP,ij⟩,⟨pO,pN,fZ⟩,⟨sg,sf,gH⟩,⟨Ez,Ey,py⟩,y9,KW,pI,HA,Bx,Hz,Hy,uD,Hx,Hw,Eo,⟨qT,qS,qR,(by rfl),gG⟩,mg_of X G Fz,⟨AH,AG,AF⟩,mg_of X G Mn,eB,⟨GM,GJ,GG,GD,w1,w2,GC,Gz⟩,Ia,fi,iK,iJ,jB,lu,⟨GU,GX,Iy⟩,mg_of X G Mr,⟨GW,GZ,IA⟩,⟨⟨_,_,_,_,_,_,_,_,_,_,_,_,_,_,HQ⟩,fc,nq,Ho,Ic,Hd,xU,yf⟩,⟨GO,GL,GI,GF,w1,w2,xU,GB⟩,pV,fu,fw,iL,jD,lB,pK,zg,j8,xa,r6,w9,w8,mM,w6,w4,uG,zA yf,mg_of X G Mq,⟨GV,GY,Iz⟩,⟨⟨_,_,_,_,_,_,_,_,_,_,_,_,_,_,HP⟩,fc,nn,Hn,Ib,Hc,xT,ye⟩,⟨GN,GK,GH,GE,w1,w2,xT,GA⟩,pU,fj,fq,fk,jC,lA,pJ,zf,j7,wZ,rZ,wX,wW,mL,wV,wU,uF,zA ye,mg_of X G OJ,⟨JX,JY,Ly⟩,⟨⟨_,_,_,_,_,_,_,_,_,_,_,_,_,_,La⟩,fc,o6,KU,Le,Kl,AA,BY⟩,⟨JK,JJ,JI,JH,w1,w2,AA,JF⟩,vk,fW,fY,fX,gD,nJ,rX,Bw,kW,y8,uC,y6,y4,oa,y3,yZ,wS,zA BY,mg_of X G TY,⟨PM,PN,Q9⟩,⟨⟨_,_,_,_,_,_,_,_,_,_,_,_,_,_,QX⟩,fc,tE,QF,Q1,P2,JG,Lu⟩,⟨Pz,Py,Px,Pw,w1,w2,JG,Pu⟩,EO,ie,ii,ig,i6,ml,wR,Hv,n9,Em,yY,El,Ek,rW,Ej,Ei,Bv,zA Lu,mg_of X G C5,mg_of X G Mp,mg_of X G xO,mg_of X G Jk,mg_of X G FD,mg_of X G Aq,mg_of X G FC,mg_of X G C4,mg_of X G C3,mg_none_of X G Uh,mg_none_of X G Ug,mg_none_of X G RY,mg_none_of X G Df,mg_none_of X G Az,mg_none_of X G Uf,mg_none_of X G RX,mg_none_of X G Ue,mg_none_of X G Pt,mg_none_of X G Gy,mg_none_of X G Ud,mg_none_of X G Uc,mg_none_of X G Ps,mg_none_of X G Ub⟩
 exact ⟨_,fun s v=> .of_eq rfl,fun base _ _=>Tc T⟩
open PySem.W in
theorem walk {l:OpenLaw} {q:Program} {loose:List Str} {XP:(Str→Option Value)→Heap→Prop} {YP:World→Heap→Prop} {d:DefRec} {K:Params→Frag} (hn:l.most=some 63) (hdf:d.params.defaults=[])
  (hY:∀ (w:World) (h:Heap),YP w h→(K w.params).In h)
  (F:∀ (w:World) (mg:Str→Option Value) (fa:Addr) (h:Heap),(K w.params).In h→h.Ns mainGlobals mg→mg d.name=some (.ref fa)→
   ∃ fd:FuncData,(∀ (s:Shared) (u:Value),BindsTo s fd ⟨[u],[]⟩ [("_law_script",u)])∧∀ base:Heap,(K w.params).In base→base.Ns mainGlobals mg→FnOk l.prog w (K w.params) mg base CX0 13 fa fd ["_law_script"] (FR (K w.params))):
  WalkO q loose XP YP l.row.toRowW d [] (fun f vs=>PySem.call f vs):=
 L2.walk_of (n:=63) (k:=13) (x:="_law_script") (CX:=fun _=>CX0) (sp:=fun w=>FR (K w.params)) hn (by decide) hdf ⟨rfl,by decide,by decide⟩ hY F (fun _ _ a ns hl _ hS=>⟨a,ns,rfl,hS,hl,fun _=>rfl⟩) fun _ _ _ _ _ z=>z
end My
def PySem.W.Fast.tw9264539056495734836:Unit:=()
def PySem.W.Fast.tw5066913422810569220:Unit:=()
def PySem.W.Fast.tw15771677713547816919:Unit:=()
def PySem.W.Fast.tw5448383233551016130:Unit:=()
def PySem.W.Fast.tw1030696026967632772:Unit:=()
def PySem.W.Fast.tw8100859459089986327:Unit:=()
def PySem.W.Fast.tw17157287083855824975:Unit:=()
def PySem.W.Fast.tw14496589710048364520:Unit:=()
def PySem.W.Fast.tw14282938345818158889:Unit:=()
def PySem.W.Fast.tw16479685503024228607:Unit:=()
def PySem.W.Fast.tw10285954674401271128:Unit:=()
def PySem.W.Fast.tw10786918355821951308:Unit:=()
def PySem.W.Fast.tw16959052443037295521:Unit:=()
def PySem.W.Fast.tw16227427734593299130:Unit:=()
def PySem.W.Fast.tw8646558965712983605:Unit:=()
def PySem.W.Fast.tw17395765131871924733:Unit:=()
def PySem.W.Fast.tw13675656841910441610:Unit:=()
def PySem.W.Fast.tw6050462878478179038:Unit:=()
def PySem.W.Fast.tw14187477052372286685:Unit:=()
def PySem.W.Fast.tw5869419651036023603:Unit:=()
def PySem.W.Fast.tw149476647485464603:Unit:=()
def PySem.W.Fast.tw5566748632517442086:Unit:=()
def PySem.W.Fast.tw15911043951453085688:Unit:=()
def PySem.W.Fast.tw6105914780820850287:Unit:=()
def PySem.W.Fast.tw17540116821495402088:Unit:=()
def PySem.W.Fast.tw998110544109393347:Unit:=()
def PySem.W.Fast.tw10481780093688122384:Unit:=()
def PySem.W.Fast.tw8846725530868506418:Unit:=()
def PySem.W.Fast.tw13017463622898771932:Unit:=()
def PySem.W.Fast.tw5329360742269568940:Unit:=()
def PySem.W.Fast.tw13317350988521857798:Unit:=()
def PySem.W.Fast.tw16046172098761442301:Unit:=()
def PySem.W.Fast.tw6435125328943563596:Unit:=()
def PySem.W.Fast.tw9884775195753495281:Unit:=()
def PySem.W.Fast.tw4459366679241823641:Unit:=()
def PySem.W.Fast.tw16627338292792304619:Unit:=()
def PySem.W.Fast.tw15380765818547717318:Unit:=()
def PySem.W.Fast.tw14391788420005499100:Unit:=()
def PySem.W.Fast.tw10135988192586937867:Unit:=()
def PySem.W.Fast.tw15952707056835731308:Unit:=()
def PySem.W.Fast.tw15939536483271272493:Unit:=()
def PySem.W.Fast.tw13245456884855208803:Unit:=()
def PySem.W.Fast.tw7444013064430965416:Unit:=()
def PySem.W.Fast.tw10008055269394139139:Unit:=()
def PySem.W.Fast.tw13883872171221772827:Unit:=()
def PySem.W.Fast.tw5875589400497265527:Unit:=()
def PySem.W.Fast.tw7585680823473768001:Unit:=()
def PySem.W.Fast.tw13025765428405757205:Unit:=()
def PySem.W.Fast.tw1221890710646164377:Unit:=()
def PySem.W.Fast.tw11811825303988885813:Unit:=()
def PySem.W.Fast.tw2271029029302825316:Unit:=()
def PySem.W.Fast.tw2510844183993193826:Unit:=()
def PySem.W.Fast.tw10021590882289244758:Unit:=()
def PySem.W.Fast.tw3133864788675567448:Unit:=()
def PySem.W.Fast.tw14512965090014361412:Unit:=()
def PySem.W.Fast.tw18412295487518214857:Unit:=()
def PySem.W.Fast.tw7615935957370639665:Unit:=()
open PySem PySem.W PyProof.Rows
set_option maxRecDepth 100000 in
set_option maxHeartbeats 0 in
theorem PySem.Challenge.cw_sumwires_k13_nets_refused_holds : PySem.Challenge.rw_sumwires_k13_nets_refused.Holds := by
 w_on;o_law;k_head;(case hw=>w_witness2)
 k_fill
 refine My.walk (l:=PySem.Challenge.rw_sumwires_k13_nets_refused) rfl rfl (fun w h Y=>PySem.W.kIn_of Y) ?F
 case F=>
  intro w mg fa h KX G hmg
  refine' My.all_mk KX G hmg _ _ _ _ _ _ _ _ _ _ _ _ _ _ _ _ _ _ _ _ _ _ _ _ _ _ _ _ _ _ _ _ _ _ _ _ _ _ _ _ _ _ _ _ _ _ _ _ _ _ _ _ _ _ _ _ _ _ _ _ _ _ _ _ _ _ _ _ _ _ _ _ _ _ _ _ _ _ _ _ _ _ _ _ _ _ _ _ _ _ _ _ _ _ _ _ _ _ _ _ _ _ _ _ _ _ _ _ _ _ _ _ _ _ _ _ _ _ _ _ _ _ _ _ _ _ _ _ _ _ _ _ _ _ _ _ _ _ _ _ _ _ _ _ _ _ _ _ _ _ _ _ _ _ _ _ _ _ _ _ _ _ _ _ _ _ _ _ _ _ _ _ _ _ _ _ _ _ _ _ _ _ _ _ _ _ _ _ _ _ _ _ _ _ _ _ _ _ _ _ _ _ _ _ _ _ _ _ _ _ _ _ _ _ _ _ _ _ _ _ _ _ _ _ _ _ _ _ _ _ _ _ _ _ _ _ _ _ _ _ _ _ _ _ _ _ _ _ _ _ _ _ _ _ _ _ _ _ _ _ _ _ _ _ _ _ _ _ _ _ _ _ _ _ _ _ _ _ _ _ _ _ _ _ ?fc _ _ _ _ _ _ _ _ _ _ _ _ _ _ _ _ _ _ ?eB _ _ _ _ _ _ _ _ _ _ _ _ _ _ _ _ _ _ _ _ _ _ _ _ _ _ _ _ _ _ _ _ _ _ _ _ _ _ _ _ _ _ _ _ _ _ _ _ _ _ _ _ _ _ _ _ _ _ _ _ _ _ _ _ _ _ _ _ _ _ _ _ _ _ _ _ _ _ _ _ _ _ _ _ _ _ _ _ _ _ _ _ _ _ _ _ _ _ _ _ _ _ _ _ _ _ _ _ _ _ _ _ _ _ _ _ _ _ _ _ _ _ _ _ _ _ _ _ _ _ _ _ _ _ _ _ _ _ _ _ _ _ _ _ _ _ _ _ _ _ _ _ _ _ _
  any_goals ((with_reducible show _=_);k_is)
  (case fc=>k_exc)
  (case eB=>k_exc)
